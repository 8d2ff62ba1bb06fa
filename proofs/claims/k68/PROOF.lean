import PyProof.Rows.All
import Wide.All
import OpenK.AllK
import Wide.FinOn
import Lean
import PyProof.EqAt
import PyProof.EqKinds
import PyProof.TupleCall
import PySem.Challenge.RW_fewspeak_k68_pots_poured
open PySem.W(CodeHd FnAt Frag InstAt any_some callWith_K callWith_K0 cellsFrom_some clsIn codeHdIn codeHd_of_K codeIn codeRec_of emptyDict findIn fnOf handedIn hasDictIn instObj isFn keepIn kitOne kitx_dict kitx_list kitx_tuple kla_fn kla_obj lookIn looks_clsIn looks_findIn looks_mroIn looks_typeIn makesIn methodCall_KW methodObj mg_none_of mg_of mroIn nsIn nsOkIn osa_eq plainGet plainGet_of plainOver specialIn tabObj tailIn takerIn takesIn typeIn)
open List(all_eq_true all_map all_toArray append_assoc append_nil cons_append filter_append filter_cons flatten_cons foldl_cons forIn_cons length_append length_cons length_drop length_eq_one_iff length_filter_le length_map length_pos_of_mem length_range length_set length_singleton length_take lookup_cons mapM_toArray map_append map_congr_left map_cons map_id map_map map_nil mem_append mem_append_left mem_append_right mem_cons mem_cons_of_mem mem_cons_self mem_filter mem_map mem_range mem_singleton nil_append nodup_append nodup_cons nodup_nil nodup_range not_mem_nil of_mem_zip pairwise_cons pairwise_iff_getElem pairwise_map range_succ replicate_succ size_toArray sum_cons sum_nil take_add_one take_length take_of_length_le take_zero)
noncomputable section
set_option Elab.async false
set_option linter.all false
set_option maxRecDepth 100000
namespace L2
open PySem PySem.Spec PyProof.Rows
abbrev Key:=Sum Int Str
def j8:Key->Value->Bool
 | .inl k,v=>Value.isInt k v
 | .inr x,v=>Value.isStrOf x v
def AR(w:World):Key->Int
 | .inl k=>hashInt k
 | .inr x=>hashStr w x
theorem bQ:∀{k:Key}{v:Value},j8 k v=true->(∃ i t,k=Sum.inl i/\v=Value.int i t)\/(∃ x t,k=Sum.inr x/\v=Value.str x t)
 | .inl i,v,h=>by
  obtain⟨t,e⟩:=Value.isInt_shape (k:=i) (v:=v) h;exact .inl ⟨i,t,rfl,e⟩
 | .inr x,v,h=>by
  obtain⟨t,e⟩:=Value.isStrOf_shape (x:=x) (v:=v) h;exact .inr ⟨x,t,rfl,e⟩
theorem sv(i:Int)(t:Tok):j8 (.inl i) (.int i t)=true:=by simp[j8,Value.isInt]
theorem sk(x:Str)(t:Tok):j8 (.inr x) (.str x t)=true:=by simp[j8,Value.isStrOf]
theorem yE(a b:Int):decide ((Sum.inl a:Key)=Sum.inl b)=(a == b):=by
 by_cases e:a=b
 .subst e;simp
 .have h:¬(Sum.inl a:Key)=Sum.inl b:=λq=>e (Sum.inl.inj q)
  rw[decide_eq_false h];exact(beq_eq_false_iff_ne.mpr e).symm
theorem y7(a b:Str):decide ((Sum.inr a:Key)=Sum.inr b)=decide (a=b):=by
 by_cases e:a=b
 .subst e;simp
 .have h:¬(Sum.inr a:Key)=Sum.inr b:=λq=>e (Sum.inr.inj q)
  rw[decide_eq_false h,decide_eq_false e]
theorem yJ(a:Int)(b:Str):decide ((Sum.inl a:Key)=Sum.inr b)=false:=decide_eq_false (λq=>nomatch q)
theorem yZ(a:Str)(b:Int):decide ((Sum.inr a:Key)=Sum.inl b)=false:=decide_eq_false (λq=>nomatch q)
def bZ(prog:Program)(w:World):PySem.KeyKind prog w Key where
 is:=j8
 hash:=AR w
 inj:=λv a b ha hb=>by
  rcases bQ ha with⟨i,t,rfl,rfl⟩ | ⟨x,t,rfl,rfl⟩
  .rcases bQ hb with⟨j,u,rfl,e⟩ | ⟨y,u,rfl,e⟩
   .injection e with e1 _;rw[e1]
   .exact nomatch e
  .rcases bQ hb with⟨j,u,rfl,e⟩ | ⟨y,u,rfl,e⟩
   .exact nomatch e
   .injection e with e1 _;rw[e1]
 byValue:=λk v h=>by
  rcases bQ h with⟨i,t,rfl,rfl⟩ | ⟨x,t,rfl,rfl⟩ <;> rfl
 pyHash:=λhv h=>by
  rcases bQ hv with⟨i,t,rfl,rfl⟩ | ⟨x,t,rfl,rfl⟩
  .exact wpAny_pyHash_int h
  .exact wpAny_pyHash_str h
 eqBool:=λhu hv h=>by
  rcases bQ hu with⟨i,t,rfl,rfl⟩ | ⟨x,t,rfl,rfl⟩
  .rcases bQ hv with⟨j,u,rfl,rfl⟩ | ⟨y,u,rfl,rfl⟩
   .rw[yE]at h;exact wpAny_eqBool_int h
   .rw[yJ]at h;exact SeqAt.EqAt.int_str i t y u _ _ _ _ h
  .rcases bQ hv with⟨j,u,rfl,rfl⟩ | ⟨y,u,rfl,rfl⟩
   .rw[yZ]at h;exact SeqAt.EqAt.str_int x t j u _ _ _ _ h
   .rw[y7]at h;exact wpAny_eqBool_str h
 «strs»:=λk x t v h=>by
  rcases bQ h with⟨i,u,rfl,e⟩ | ⟨y,u,rfl,e⟩
  .exact nomatch e
  .injection e with e1 _
   subst e1
   cases v <;> rfl
theorem m9(prog:Program)(w:World)(i:Int)(t:Tok):(bZ prog w).is (.inl i) (.int i t)=true:=sv i t
theorem nG(prog:Program)(w:World)(x:Str)(t:Tok):(bZ prog w).is (.inr x) (.str x t)=true:=sk x t
inductive V where
 | non | bl (b:Bool) | int (i:Int) | str (x:Str) | byt (b:Array UInt8) | flt (b:UInt64) | ref (a:Addr) | ty (n:String)
 deriving DecidableEq
def RelV:V->Value->Prop
 | .non,u=>u=Value.none
 | .bl b,u=>u=Value.bool b
 | .int i,u=>∃ t,u=Value.int i t
 | .str x,u=>∃ t,u=Value.str x t
 | .byt b,u=>∃ t,u=Value.bytes b t
 | .flt b,u=>∃ t,u=Value.float b t
 | .ref a,u=>u=Value.ref a
 | .ty n,u=>u=Value.type n
abbrev Vals:List V->List Value->Prop:=Paired RelV
theorem Vals.length{xs:List V}{us:List Value}(r:Vals xs us):xs.length=us.length:=Paired.length r
theorem Vals.get:∀{xs:List V}{us:List Value}{i:Nat}{x:V},Vals xs us->xs[i]? = some x->∃ u,us[i]? = some u/\RelV x u
 | _,_,_,_,.nil,e=>by simp at e
 | _,_,0,_,.cons r _,e=>by simp at e;subst e;exact⟨_,rfl,r⟩
 | _,_,i+1,x,.cons _ t,e=>by
  obtain⟨u,b,a⟩:=Vals.get (i:=i) (x:=x) t (by simpa using e);exact⟨u,by simpa using b,a⟩
theorem Vals.set{x:V}{u:Value}(r:RelV x u):∀{xs:List V}{us:List Value}(i:Nat),Vals xs us->Vals (xs.set i x) (us.set i u)
 | _,_,_,.nil=>.nil
 | _,_,0,.cons _ t=>.cons r t
 | _,_,i+1,.cons q t=>.cons q (Vals.set r i t)
theorem Vals.append:∀{xs ys:List V}{us ws:List Value},Vals xs us->Vals ys ws->Vals (xs++ys) (us++ws)
 | _,_,_,_,.nil,s=>s
 | _,_,_,_,.cons r t,s=>.cons r (Vals.append t s)
theorem Vals.take:∀{xs:List V}{us:List Value}(n:Nat),Vals xs us->Vals (xs.take n) (us.take n)
 | _,_,0,_=>.nil
 | _,_,_+1,.nil=>.nil
 | _,_,n+1,.cons r t=>.cons r (Vals.take n t)
theorem Vals.drop:∀{xs:List V}{us:List Value}(n:Nat),Vals xs us->Vals (xs.drop n) (us.drop n)
 | _,_,0,r=>r
 | _,_,_+1,.nil=>.nil
 | _,_,n+1,.cons _ t=>Vals.drop n t
def RelO:Option V->Option Value->Prop
 | some v,some u=>RelV v u
 | none,none=>True
 | _,_=>False
def KV{κ:Type}:List (κ×V)->List (κ×Value)->Prop:=Paired λ(p:κ×V) (q:κ×Value)=>p.1=q.1/\RelV p.2 q.2
def kV:Key->V
 | .inl i=>.int i
 | .inr x=>.str x
inductive HO where
 | lst (xs:List V)
 | tup (xs:List V)
 | dK (kvs:List (Key×V)) | dT (kvs:List (List Key×V))
 | set (S:Int->Bool) (n:Nat)
 | ins (C dx:Addr) (fs:List (Str×V))
 | own (x:Addr)
 | xd (fs:List (Str×V))
 | met (f x:Addr)
 | rng (lo hi:Int)
 | frz (o:Obj) (u:HO)
 | tbl (ps:Array Value)
 | ext (φ:Heap->Prop)
abbrev Hp:=Addr->Option HO
def upd(H:Hp)(a:Addr)(o:HO):Hp:=λb=>if b=a then some o else H b
theorem ad{H:Hp}{a:Addr}{o:HO}:upd H a o a=some o:=by unfold upd;rw[if_pos rfl]
theorem ag{H:Hp}{a b:Addr}{o:HO}(h:b≠a):upd H a o b=H b:=by unfold upd;rw[if_neg h]
theorem vz{H:Hp}{a:Addr}{o u:HO}:upd (upd H a o) a u=upd H a u:=by
 funext b;unfold upd;split <;> rfl
theorem gG{H:Hp}{a b:Addr}{o u:HO}(h:H a=some o)(h':H b=some u)(d:o≠u):a≠b:=by
 intro e;subst e;rw[h]at h';exact d (Option.some.inj h')
theorem aF{H:Hp}{a b:Addr}{o:HO}(h:H a=some o)(h':H b=none):a≠b:=by
 intro e;subst e;rw[h]at h';cases h'
section
variable (P:Program) (w:World)
def ObjOk(H:Hp)(h:Heap)(a:Addr):HO->Prop
 | .lst xs=>xs.length<=sizeLine/\∃(its:List Value) (n:Nat),Vals xs its/\h.get? a=some { cls:=.type "list",data:=.seq its.toArray n }
 | .tup xs=>xs.length<=sizeLine/\∃ its:List Value,Vals xs its/\IsTup h a its.toArray
 | .dK kvs=>kvs.length<=sizeLine/\(a == sysModules)=false/\∃ vs,KV kvs vs/\h.DictOf (bZ P w) a vs
 | .dT kvs=>kvs.length<=sizeLine/\(a == sysModules)=false/\∃ xs:List (List Key×Addr×Value),
   Paired (λ(p:List Key×V) (q:List Key×Addr×Value)=>p.1=q.1/\H q.2.1=some (.tup (p.1.map kV))/\RelV p.2 q.2.2) kvs xs /\
   ∃ o es ep,h.get? a=some o/\o.ExactDict/\o.data=.dict es ep/\es.toList=xs.map (entryOfKey (tupleKind (bZ P w)))/\(xs.map (·.1)).Nodup
 | .set S n=>h.SetOf (intKind P w) a S n
 | .ins C dx fs=>H dx=some (.own a)/\fs.length<=1000/\dx≠a/\h.get? a=some (instObj C dx) /\
   ∃ mA,h.Ns1 dx mA/\(∀ f,RelO (fs.lookup f) (mA f))/\PySem.Within mA (fs.map (·.1))
 | .own _=>∃ o,h.get? a=some o
 | .xd fs=>∃ mA,h.Ns1 a mA/\∀ f,RelO (fs.lookup f) (mA f)
 | .rng lo hi=>∃ t u v,h.get? a=some { cls:=.type "range",data:=.fields #[.int lo t,.int hi u,.int 1 v] }
 | .frz o u=>h.get? a=some o/\ObjOk H h a u
 | .tbl ps=>h.get? a=some { cls:=.none,data:=.fields ps }
 | .met f x=>h.get? a=some (methodObj (.ref f) (.ref x))
 | .ext φ=>φ h/\(∃ o,h.get? a=some o)/\∀ h1 h2:Heap,φ h1->(∀ o,h1.get? a=some o->h2.get? a=some o)->φ h2
def HOk(H:Hp)(h:Heap):Prop:=∀ a o,H a=some o->ObjOk P w H h a o
end
section
variable {P:Program}{w:World}{H H':Hp}{h h':Heap}{a:Addr}{o:HO}
theorem ObjOk.lt(x:ObjOk P w H h a o):a<h.objs.size:=by
 cases o with
 | lst xs=>obtain⟨_,_,_,_,e⟩:=x;exact Heap.lt_size e
 | tup xs=>obtain⟨_,_,_,p⟩:=x;exact p.lt
 | dK kvs=>obtain⟨_,_,_,_,o,_,_,e,_⟩:=x;exact Heap.lt_size e
 | dT kvs=>obtain⟨_,_,_,_,o,_,_,e,_⟩:=x;exact Heap.lt_size e
 | set S n=>obtain⟨o,_,_,_,e,_⟩:=x;exact Heap.lt_size e
 | ins C dx fs=>obtain⟨_,_,_,e,_⟩:=x;exact Heap.lt_size e
 | own y=>obtain⟨_,e⟩:=x;exact Heap.lt_size e
 | xd fs=>obtain⟨_,⟨_,_,_,e,_⟩,_⟩:=x;exact Heap.lt_size e
 | rng lo hi=>obtain⟨_,_,_,e⟩:=x;exact Heap.lt_size e
 | frz ob u=>obtain⟨e,_⟩:=x;exact Heap.lt_size e
 | tbl ps=>exact Heap.lt_size (show h.get? a=some _ from x)
 | met f y=>exact Heap.lt_size (show h.get? a=some _ from x)
 | ext φ=>obtain⟨_,⟨_,e⟩,_⟩:=x;exact Heap.lt_size e
theorem Paired.mapP{c d:Type}{F G:c->d->Prop}:∀{l₁:List c}{l₂:List d},Paired F l₁ l₂->(∀ a b,F a b->G a b)->Paired G l₁ l₂
 | _,_,.nil,_=>.nil
 | _,_,.cons r t,f=>.cons (f _ _ r) (Paired.mapP t f)
theorem ObjOk.stay(x:ObjOk P w H h a o)(k:∀ b u,(b=a\/H b=some (.own a))->h.get? b=some u->h'.get? b=some u)
  (I:∀ b,H b=some (.own a)->H' b=some (.own a)) (F:∀ b xs,H b=some (.tup xs)->H' b=some (.tup xs)):ObjOk P w H' h' a o:=by
 induction o with
 | lst xs=>obtain⟨z,l,n,r,e⟩:=x;exact⟨z,l,n,r,k _ _ (.inl rfl) e⟩
 | tup xs=>obtain⟨z,l,r,g,e,c⟩:=x;exact⟨z,l,r,g,k _ _ (.inl rfl) e,c⟩
 | dK kvs=>obtain⟨z,y,E,r,g,j,i,e,c⟩:=x;exact⟨z,y,E,r,g,j,i,k _ _ (.inl rfl) e,c⟩
 | dT kvs =>
  obtain⟨z,y,xs,r,g,j,i,e,c⟩:=x;exact⟨z,y,xs,Paired.mapP r λp q z=>⟨z.1,F _ _ z.2.1,z.2.2⟩,g,j,i,k _ _ (.inl rfl) e,c⟩
 | set S n=>obtain⟨g,j,i,t,e,c⟩:=x;exact⟨g,j,i,t,k _ _ (.inl rfl) e,c⟩
 | ins C dx fs =>
  obtain⟨d,z,G,e,s,⟨A,j,i,D,c⟩,r⟩:=x;exact⟨I _ d,z,G,k _ _ (.inl rfl) e,s,⟨A,j,i,k _ _ (.inr d) D,c⟩,r⟩
 | own y=>obtain⟨g,e⟩:=x;exact⟨g,k _ _ (.inl rfl) e⟩
 | xd fs=>obtain⟨s,⟨A,j,i,e,c⟩,r⟩:=x;exact⟨s,⟨A,j,i,k _ _ (.inl rfl) e,c⟩,r⟩
 | rng lo hi=>obtain⟨t,u,v,e⟩:=x;exact⟨t,u,v,k _ _ (.inl rfl) e⟩
 | frz g u ih=>obtain⟨e,q⟩:=x;exact⟨k _ _ (.inl rfl) e,ih q⟩
 | tbl ps =>
  have e:h.get? a=some { cls:=.none,data:=.fields ps }:=x;show h'.get? a=some { cls:=.none,data:=.fields ps };exact k a _ (.inl rfl) e
 | met f y =>
  have e:h.get? a=some (methodObj (.ref f) (.ref y)):=x;show h'.get? a=some (methodObj (.ref f) (.ref y));exact k a _ (.inl rfl) e
 | ext φ=>obtain⟨p,⟨o,e⟩,B⟩:=x;exact⟨B _ _ p λo q=>k _ _ (.inl rfl) q,⟨o,k _ _ (.inl rfl) e⟩,B⟩
theorem HOk.lt(x:HOk P w H h)(e:H a=some o):a<h.objs.size:=(x a o e).lt
theorem HOk.fresh(x:HOk P w H h)(e:h.objs.size<=a):H a=none:=by
 cases q:H a with
 | none=>rfl
 | some u=>exact absurd (Nat.lt_of_lt_of_le (x.lt q) e) (Nat.lt_irrefl _)
theorem HOk.kept(x:HOk P w H h)(k:∀ b u,h.get? b=some u->h'.get? b=some u):HOk P w H h':=λa o e =>
 (x a o e).stay (λb u _ q=>k b u q) (λ_ q=>q) λ_ _ q=>q
theorem HOk.laid(x:HOk P w H h)(k:∀ b u,h.get? b=some u->h'.get? b=some u)(g:h.objs.size<=a)(d:ObjOk P w (upd H a o) h' a o):HOk P w (upd H a o) h':=λb u e=>by
 have f:=x.fresh g
 by_cases hb:b=a
 .subst hb;rw[ad]at e;cases e;exact d
 .rw[ag hb]at e
  exact(x b u e).stay (λc v _ q=>k c v q) (λc q=>by rw[ag (aF q f)];exact q) λc xs q=>by rw[ag (aF q f)];exact q
end
def Rd(H:Hp)(a:Addr)(u:HO):Prop:=H a=some u\/∃ o,H a=some (.frz o u)
theorem Rd.ok{P:Program}{w:World}{H:Hp}{h:Heap}{a:Addr}{u:HO}(r:Rd H a u)(x:HOk P w H h):ObjOk P w H h a u:=by
 rcases r with r | ⟨o,r⟩
 .exact x a u r
 .obtain⟨_,q⟩:=x a _ r
  exact q
def Mut:Option HO->Prop
 | some (.lst _)=>True
 | some (.dK _)=>True
 | some (.dT _)=>True
 | some (.set _ _)=>True
 | some (.ins _ _ _)=>True
 | some (.ext _)=>True
 | _=>False
section
variable {P:Program}{w:World}{H:Hp}{h h':Heap}{x e:Addr}{o':HO}
theorem HOk.write(o:HOk P w H h)(f:Mut (H x))(l:e=x\/H e=some (.own x))(k:∀ b u,b≠e->h.get? b=some u->h'.get? b=some u)(j:∃ u,h'.get? e=some u)
  (i:ObjOk P w (upd H x o') h' x o'):HOk P w (upd H x o') h':=λb u q=>by
 have a:∀ c y,H c=some (.own y)->c≠x:=λc y r z=>by subst z;rw[r]at f;exact f
 have d:∀ c g,H c=some (.tup g)->c≠x:=λc g r z=>by subst z;rw[r]at f;exact f
 by_cases hb:b=x
 .subst hb;rw[ad]at q;cases q;exact i
 .rw[ag hb]at q
  by_cases hbe:b=e
  .have n:H b=some (.own x):=by
    rcases l with z | z
    .exact absurd (hbe.trans z) hb
    .rw[hbe];exact z
   rw[q]at n;cases n;obtain⟨v,p⟩:=j;exact⟨v,by rw[hbe];exact p⟩
  .refine(o b u q).stay (λc v hc r=>k c v ?_ r) (λc r=>by rw[ag (a c b r)];exact r) λc g r=>by rw[ag (d c g r)];exact r
   rcases hc with rfl | hc
   .exact hbe
   .rintro rfl
    rcases l with z | z
    .exact a c b hc z
    .rw[hc]at z;cases z;exact hb rfl
end
structure Un(fs ex:List Addr)(H H':Hp)(h h':Heap):Prop where
 keep:∀ b o,h.get? b=some o->H b=none->b ∉ fs->b ∉ ex->h'.get? b=some o
 slot:∀ b o,h.get? b=some o->H b=none->b∈fs->b ∉ ex->∃ sl,h'.get? b=some { o with slots:=sl }
 free:∀ b o,h.get? b=some o->H b=none->b ∉ ex->H' b=none
 there:∀ b o,h.get? b=some o->b ∉ ex->∃ o',h'.get? b=some o'
 tups:∀ b xs,H b=some (.tup xs)->H' b=some (.tup xs)
 frzs:∀ b o u,H b=some (.frz o u)->H' b=some (.frz o u)
 tbls:∀ b ps,H b=some (.tbl ps)->∃ more,H' b=some (.tbl (ps++more))
section
variable {fs fs' ex ex':List Addr}{H H1 H2:Hp}{h h1 h2 h':Heap}{a x e:Addr}{o:HO}
theorem Un.any(u:Un fs ex H H1 h h1){b:Addr}{ob:Obj}(q:h.get? b=some ob)(n:H b=none)(a:b ∉ ex):∃ sl,h1.get? b=some { ob with slots:=sl }:=by
 by_cases hb:b∈fs
 .exact u.slot b ob q n hb a
 .exact⟨ob.slots,u.keep b ob q n hb a⟩
theorem Un.kept(k:∀ b u,h.get? b=some u->h'.get? b=some u):Un fs ex H H h h' :=
 ⟨λb a q _ _ _=>k b a q,λb a q _ _ _=>⟨a.slots,k b a q⟩,λ_ _ _ n _=>n,λb a q _=>⟨a,k b a q⟩,λ_ _ q=>q,λ_ _ _ q=>q,λ_ ps q=>⟨#[],by rw[q];simp⟩⟩
theorem Un.refl:Un fs ex H H h h:=Un.kept λ_ _ q=>q
theorem Un.laid(k:∀ b u,h.get? b=some u->h'.get? b=some u)(f:h.objs.size<=a)(c:H a=none):Un fs ex H (upd H a o) h h' where
 keep:=λb u q _ _ _=>k b u q
 slot:=λb u q _ _ _=>⟨u.slots,k b u q⟩
 free:=λb u q n _=>by rw[ag (Nat.ne_of_lt (Nat.lt_of_lt_of_le (Heap.lt_size q) f))];exact n
 there:=λb u q _=>⟨u,k b u q⟩
 tups:=λb d q=>by rw[ag (aF q c)];exact q
 frzs:=λb u d q=>by rw[ag (aF q c)];exact q
 tbls:=λb g q=>⟨#[],by rw[ag (aF q c),q];simp⟩
theorem Un.write(a:Mut (H x))(i:e=x\/H e=some (.own x))(k:∀ b u,b≠e->h.get? b=some u->h'.get? b=some u)(d:∃ u,h'.get? e=some u):Un fs ex H (upd H x o) h h':=by
 have g:∀ b,H b=none->b≠x:=λb n z=>by subst z;rw[n]at a;exact a
 have f:∀ b,H b=none->b≠e:=λb n z=>by
  subst z
  rcases i with r | r
  .exact g b n r
  .rw[n]at r;cases r
 have c:∀ b u,H b=some u->¬Mut (some u)->b≠x:=λb u q l z=>by subst z;rw[q]at a;exact l a
 refine⟨λb u q n _ _=>k b u (f b n) q,λb u q n _ _=>⟨u.slots,k b u (f b n) q⟩,λb u q n _=>by rw[ag (g b n)];exact n,λb u q _=>?_,
  λb j q=>by rw[ag (c b _ q λz=>z)];exact q,λb u j q=>by rw[ag (c b _ q λz=>z)];exact q,λb ps q=>⟨#[],by rw[ag (c b _ q λz=>z),q];simp⟩⟩
 by_cases hbe:b=e
 .subst hbe;exact d
 .exact⟨u,k b u hbe q⟩
end
def trk(h:Heap)(H:Hp):List Addr:=(List.range h.objs.size).filter λa=>(H a).isSome
def j5(h:Heap)(H:Hp):Heap:=PySem.W.hideAll h (trk h H)
theorem rG(h:Heap)(H:Hp):(j5 h H).objs.size=h.objs.size:=PySem.W.hideAll_size _ _
theorem uQ{h:Heap}{H:Hp}{b:Addr}{o:Obj}(e:h.get? b=some o)(n:H b=none):(j5 h H).get? b=some o :=
 PySem.W.hideAll_get _ e λa=>by
  have q:(H b).isSome=true:=(mem_filter.mp a).2;rw[n]at q;simp at q
theorem wz{h:Heap}{H:Hp}{b:Addr}{o:Obj}(e:(j5 h H).get? b=some o):h.get? b=some o/\H b=none:=by
 have a:h.get? b=some o:=PySem.W.of_hideAll (trk h H) e;refine⟨a,?_⟩;cases q:H b with
 | none=>rfl
 | some x =>
  have c:b∈trk h H:=mem_filter.mpr ⟨mem_range.mpr (Heap.lt_size a),by simp[q]⟩;have z:(j5 h H).get? b=none:=PySem.W.hideAll_none (trk h H) c;rw[z]at e;cases e
def wL(g h:Heap)(L:Addr):List (Addr×Obj):=(List.range h.objs.size).filterMap λa=>if a=L\/(g.get? a).isSome=true then none else (h.get? a).map λo=>(a,o)
def rest(g h:Heap)(L d:Addr):List (Addr×Obj):=(wL g h L).filter λp=>decide (p.1≠d)
structure Mod(K:Frag)(mg:Str->Option Value)(base:Heap):Prop where
 kin:K.In base
 glob:base.Ns mainGlobals mg
 blt:∃ mb,base.Ns builtinsNs mb/\∀ x:Str,x ≠ "__name__" -> mb x=bootBuiltins x
 nolimit:base.NoLimit
structure Cx where
 prog:Program
 w:World
 K:Frag
 mg:Str->Option Value
 base:Heap
 A:Around
 N:List Str
 s₀:Shared
 H₀:Hp
 env:Env
 outer:List Env
 stack:List Env
 ex:List Addr
 fn:Str->Bool
 calm:Bool
 pn:List (Addr×Obj)
 xe:Value->Shared->Prop
def frs(l:List Env):List Addr:=l.filterMap (·.frame)
abbrev Cx.fs(X:Cx):List Addr:=frs X.outer
def Vis(sc:Scope)(x:Str):Prop:=sc.names.lookup x = some .local\/sc.names.lookup x = some .cell\/sc.names.lookup x = some .free
def Loc(sc:Scope)(x:Str):Prop:=sc.names.lookup x = some .local\/sc.names.lookup x = some .cell
def AD(env:Env)(h:Heap)(m:Str->Option Value)(x:Str)(u:Value):Prop :=
 (env.kindOf x = some .local/\m x = some u)\/((env.kindOf x = some .cell\/env.kindOf x = some .free)/\∃ c,env.cells.lookup x = some c/\h.IsCell c (some u))
structure Cx.Ok(X:Cx):Prop where
 mod:Mod X.K X.mg X.base
 kind:X.env.scope.kind=.function
 glob:X.env.globals=mainGlobals
 blt:X.env.builtins=builtinsNs
 above:X.s₀.heap.objs.size<=X.env.locals
 inj:∀ x y c,X.env.cells.lookup x=some c->X.env.cells.lookup y=some c->x=y
 has:∀ x,(X.env.kindOf x=some .cell\/X.env.kindOf x=some .free)->∃ c,X.env.cells.lookup x=some c
 cab:∀ x c,X.fn x=true->X.env.cells.lookup x=some c->X.s₀.heap.objs.size<=c
 hd:X.calm=true->X.A.handled=none
 frames:X.A.frames=some X.stack
 stk:X.stack = X.outer\/(X.stack = X.env :: X.outer/\X.env.frame = some X.env.locals)
 exf:∀ b ∈ X.ex,b≠X.env.locals/\∀ x c,X.env.cells.lookup x = some c->c≠b
 bs:∀ b o,X.base.get? b=some o->X.s₀.heap.get? b=some o/\X.H₀ b=none
 bsz:X.base.objs.size<=X.s₀.heap.objs.size
 noex:∀ b o,X.base.get? b=some o->b ∉ X.ex
 exfs:∀ b∈X.ex,b ∉ X.fs
 funs:X.s₀.heap.FunFrames X.base X.outer
 frf:∀ b∈X.fs,X.H₀ b=none
structure Inv(X:Cx)(pins:List (Addr×Obj))(σ:List (Option V))(H:Hp)(s:Shared):Prop where
 ok:X.Ok
 os:s.os=X.s₀.os
 bare:AllBare s.gens
 base:Un X.fs X.ex X.H₀ H X.s₀.heap s.heap
 loc:∃ m,s.heap.Ns X.env.locals m/\∀(i:Nat) (x:Str) (v:V),X.N[i]? = some x->σ[i]? = some (some v)->Vis X.env.scope x->∃ u,RelV v u/\AD X.env s.heap m x u
 cell:∀ x c,X.env.cells.lookup x=some c->∃ v,s.heap.IsCell c v
 free:H X.env.locals = none
 freeC:∀ x c,X.env.cells.lookup x=some c->H c=none
 pin:∀ p ∈ X.pn ++ pins,s.heap.get? p.1 = some p.2/\H p.1 = none/\p.1≠X.env.locals/\p.1 ∉ X.fs/\∀ v,p.2.data≠.cell v
 hok:HOk X.prog X.w H s.heap
 len:σ.length=X.N.length
section
variable {X:Cx}{pins:List (Addr×Obj)}{σ:List (Option V)}{H H':Hp}{s:Shared}{h':Heap}
theorem Cx.Ok.nofr(a:X.Ok){b:Addr}{o:Obj}(e:X.base.get? b=some o):b ∉ X.fs:=λc=>by
 have:=(a.funs.mem c).1;rw[e]at this;cases this
theorem Inv.bs(I:Inv X pins σ H s):∀ b o,X.base.get? b=some o->s.heap.get? b=some o/\H b=none:=λb o e =>
 ⟨I.base.keep b o (I.ok.bs b o e).1 (I.ok.bs b o e).2 (I.ok.nofr e) (I.ok.noex b o e),I.base.free b o (I.ok.bs b o e).1 (I.ok.bs b o e).2 (I.ok.noex b o e)⟩
theorem Inv.bk(I:Inv X pins σ H s):∀ b o,X.base.get? b=some o->s.heap.get? b=some o:=λb o e=>(I.bs b o e).1
theorem Inv.mod(I:Inv X pins σ H s):Mod X.K X.mg X.base:=I.ok.mod
theorem Inv.kIn(I:Inv X pins σ H s):X.K.In s.heap:=I.ok.mod.kin.keeps I.bk
theorem Inv.lt(I:Inv X pins σ H s):X.env.locals < s.heap.objs.size:=let ⟨_,hn,_⟩:=I.loc;hn.lt
theorem Inv.sz(I:Inv X pins σ H s):X.s₀.heap.objs.size<=s.heap.objs.size:=Nat.le_trans I.ok.above (Nat.le_of_lt I.lt)
theorem Inv.nofs(I:Inv X pins σ H s){a:Addr}(h:s.heap.objs.size<=a):a ∉ X.fs:=λb=>by
 obtain⟨_,o,c,_⟩:=I.ok.funs.mem b;exact absurd (Nat.lt_of_lt_of_le (Heap.lt_size c) (Nat.le_trans I.sz h)) (Nat.lt_irrefl _)
theorem Inv.cne(I:Inv X pins σ H s):∀ x c,X.env.cells.lookup x = some c->c≠X.env.locals:=λx c e z=>by
 obtain⟨v,o,f,d⟩:=I.cell x c e;obtain⟨m,⟨i,h,g,a,b,_⟩,_⟩:=I.loc;rw[z,a]at f;cases f;rw[b]at d;cases d
theorem Inv.funs(I:Inv X pins σ H s):s.heap.FunFrames X.base X.outer:=by
 have c:∀(l:List Env),(∀ b∈frs l,b∈X.fs)->X.s₀.heap.FunFrames X.base l->s.heap.FunFrames X.base l:=by
  intro l
  induction l with
  | nil=>intro _ _;trivial
  | cons env r ih =>
   intro g k;obtain⟨n,⟨L,o,d,h,p,i⟩,j⟩:=k;have f:L∈X.fs:=g L (by unfold frs;rw[List.filterMap_cons,d];exact mem_cons_self);obtain⟨q,e⟩:=I.base.slot L o p (I.ok.frf L f) f λz=>I.ok.exfs L z f
   exact⟨n,⟨L,_,d,h,e,i⟩,ih (λb a=>g b (by unfold frs;rw[List.filterMap_cons,d];exact mem_cons_of_mem _ a)) j⟩
 exact c X.outer (λ_ a=>a) I.ok.funs
theorem Inv.stack(I:Inv X pins σ H s):s.heap.FunFrames X.base X.stack:=by
 rcases I.ok.stk with e | ⟨e,b⟩
 .rw[e];exact I.funs
 .rw[e]
  obtain⟨m,a,_⟩:=I.loc;refine .cons (by rw[I.ok.kind];decide) b a ?_ I.funs;exact Heap.get?_none_of_le (Nat.le_trans I.ok.bsz I.ok.above)
theorem Inv.stkSub(I:Inv X pins σ H s):∀ b ∈ frs X.stack,b ∈ X.env.locals :: X.fs:=λb a=>by
 rcases I.ok.stk with e | ⟨e,c⟩
 .rw[e]at a;exact mem_cons_of_mem _ a
 .rw[e]at a
  unfold frs at a;rw[List.filterMap_cons,c]at a;exact a
theorem Inv.stkFree(I:Inv X pins σ H s):∀ b∈frs X.stack,H b=none:=λb hb=>by
 rcases mem_cons.mp (I.stkSub b hb) with e | hb
 .rw[e];exact I.free
 .obtain⟨_,o,a,_⟩:=I.ok.funs.mem hb
  exact I.base.free b o a (I.ok.frf b hb) λz=>I.ok.exfs b z hb
theorem Inv.step{g':Array GenState}{t':Nat}{d':Drawn}{ch:List Addr}(I:Inv X pins σ H s)
  (h:∀ b ∈ ch,(b ∈ X.ex\/X.s₀.heap.objs.size<=b)/\b≠X.env.locals/\(∀ x c,X.env.cells.lookup x = some c->c≠b)/\∀ p ∈ X.pn ++ pins,p.1≠b)
  (w:∀ b o,b≠X.env.locals->b ∉ X.fs->b ∉ ch->s.heap.get? b = some o->H b = none->h'.get? b = some o)
  (B:∀ b o,b≠X.env.locals->b ∈ X.fs->b ∉ ch->s.heap.get? b = some o->H b = none->∃ sl,h'.get? b = some { o with slots:=sl }) (f:∀ b o,b ∉ ch->s.heap.get? b = some o->H b = none->H' b = none)
  (D:∀ b o,b ∉ ch->s.heap.get? b=some o->∃ o',h'.get? b=some o')
  (L:∀ b xs,H b=some (.tup xs)->H' b=some (.tup xs)) (M:∀ b o u,H b=some (.frz o u)->H' b=some (.frz o u)) (F:∀ b ps,H b=some (.tbl ps)->∃ more,H' b=some (.tbl (ps++more)))
  (Z:∀ m,s.heap.Ns X.env.locals m->h'.Ns X.env.locals m) (P:HOk X.prog X.w H' h') (W:AllBare g') :
  Inv X pins σ H' { s with heap:=h',gens:=g',drawn:=d',toks:=t' }:=by
 have K:∀ b o,X.s₀.heap.get? b = some o->b≠X.env.locals:=λb o e=>Nat.ne_of_lt (Nat.lt_of_lt_of_le (Heap.lt_size e) I.ok.above)
 have A:∀ b o,X.s₀.heap.get? b=some o->b ∉ X.ex->b ∉ ch:=λb o e a C=>by
  rcases(h b C).1 with z | z
  .exact a z
  .exact absurd (Nat.lt_of_lt_of_le (Heap.lt_size e) z) (Nat.lt_irrefl _)
 have j:∀ x c,X.env.cells.lookup x=some c->∀ v,s.heap.IsCell c v->h'.IsCell c v:=λx c e v ⟨o,E,N⟩=>by
  have g:c ∉ ch:=λz=>(h c z).2.2.1 x c e rfl
  by_cases hc:c∈X.fs
  .obtain⟨sl,q⟩:=B c o (I.cne x c e) hc g E (I.freeC x c e)
   exact⟨_,q,N⟩
  .exact⟨o,w c o (I.cne x c e) hc g E (I.freeC x c e),N⟩
 refine⟨I.ok,I.os,W,⟨λb o e n C a=>?_,λb o e n C a=>?_,λb o e n a=>?_,λb o e a=>?_,λb xs e=>L b xs (I.base.tups b xs e),λb o xs e=>M b o xs (I.base.frzs b o xs e),λb ps e=>?_⟩,?_,λx c e=>?_,?_,λx c e=>?_,λp hp=>?_,P,I.len⟩
 .exact w b o (K b o e) C (A b o e a) (I.base.keep b o e n C a) (I.base.free b o e n a)
 .obtain⟨sl,y⟩:=I.base.slot b o e n C a
  obtain⟨O,G⟩:=B b _ (K b o e) C (A b o e a) y (I.base.free b o e n a);exact⟨O,G⟩
 .obtain⟨o',y⟩:=I.base.there b o e a
  exact f b o' (A b o e a) y (I.base.free b o e n a)
 .obtain⟨o',y⟩:=I.base.there b o e a
  exact D b o' (A b o e a) y
 .obtain⟨T,y⟩:=I.base.tbls b ps e
  obtain⟨Y,G⟩:=F b _ y;exact⟨T++Y,by rw[G,Array.append_assoc]⟩
 .obtain⟨m,S,hl⟩:=I.loc
  refine⟨m,Z m S,λi x v y G e3=>?_⟩;obtain⟨u,r,l⟩:=hl i x v y G e3;refine⟨u,r,?_⟩
  rcases l with l | ⟨k,c,e,z⟩
  .exact .inl l
  .exact .inr ⟨k,c,e,j x c e _ z⟩
 .obtain⟨v,z⟩:=I.cell x c e
  exact⟨v,j x c e v z⟩
 .obtain⟨m,⟨o,_,_,E,_⟩,_⟩:=I.loc
  exact f _ o (λz=>(h _ z).2.1 rfl) E I.free
 .obtain⟨v,o,E,N⟩:=I.cell x c e
  exact f c o (λz=>(h c z).2.2.1 x c e rfl) E (I.freeC x c e)
 .obtain⟨e,n,R,Q,d⟩:=I.pin p hp
  have g:p.1 ∉ ch:=λz=>(h p.1 z).2.2.2 p hp rfl
  exact⟨w p.1 p.2 R Q g e n,f p.1 p.2 g e n,R,Q,d⟩
theorem Inv.un{t':Nat}(I:Inv X pins σ H s)(u:Un X.fs [] H H' s.heap h')(f:HOk X.prog X.w H' h'):Inv X pins σ H' { s with heap:=h',toks:=t' }:=by
 obtain⟨m,⟨o,l,k,g,r⟩,_⟩:=id I.loc;obtain⟨j,h⟩:=u.any g I.free (by simp)
 exact I.step (g':=s.gens) (d':=s.drawn) (ch:=[]) (λ_ z=>nomatch z) (λb o _ hb _ e n=>u.keep b o e n hb (by simp)) (λb o _ hb _ e n=>u.slot b o e n hb (by simp)) (λb o _ e n=>u.free b o e n (by simp)) (λb o _ e=>u.there b o e (by simp)) u.tups u.frzs u.tbls (λm' hm=>by
  obtain⟨p,c,d,a,i⟩:=hm;rw[g]at a;cases a
  exact⟨_,c,d,h,i⟩) f I.bare
theorem Inv.call{g':Array GenState}{t':Nat}{d':Drawn}{ch:List Addr}(I:Inv X pins σ H s)(u:Un (frs X.stack) ch H H' s.heap h')(j:HOk X.prog X.w H' h')(v:AllBare g')
  (d:∀ b ∈ ch,(b ∈ X.ex\/X.s₀.heap.objs.size<=b)/\b≠X.env.locals/\(∀ x c,X.env.cells.lookup x = some c->c≠b)/\∀ p ∈ X.pn ++ pins,p.1≠b) :
  Inv X pins σ H' { s with heap:=h',gens:=g',drawn:=d',toks:=t' }:=by
 obtain⟨m,⟨o,A,y,k,r⟩,_⟩:=id I.loc;obtain⟨w,g⟩:=u.any k I.free λz=>(d _ z).2.1 rfl
 exact I.step (ch:=ch) d (λb o g l a e n=>u.keep b o e n (λz=>(mem_cons.mp (I.stkSub b z)).elim g l) a) (λb o _ _ a e n=>u.any e n a) (λb o a e n=>u.free b o e n a) (λb o a e=>u.there b o e a) u.tups u.frzs u.tbls (λm' hm=>by
  obtain⟨B,i,h,f,q⟩:=hm;rw[k]at f;cases f
  exact⟨_,i,h,g,q⟩) j v
theorem Inv.turned{t':Nat}{a:Addr}(I:Inv X pins σ H s)(k:∀ b o,b≠a->s.heap.get? b = some o->h'.get? b = some o)(i:H a = none)(g:a≠X.env.locals)
  (w:a∈X.ex\/X.s₀.heap.objs.size<=a) (h2:∀ x c,X.env.cells.lookup x=some c->c≠a) (h:∀ p∈X.pn++pins,p.1≠a):Inv X pins σ H { s with heap:=h',toks:=t' }:=by
 have f:∀ b u,H b=some u->b≠a:=λb u e z=>by rw[z,i]at e;cases e
 refine I.step (g':=s.gens) (d':=s.drawn) (ch:=[a]) (λb j=>?_) (λb o _ _ d e _=>k b o (λz=>d (by simp[z])) e) (λb o _ _ d e _=>⟨o.slots,k b o (λz=>d (by simp[z])) e⟩) (λ_ _ _ _ n=>n)
  (λb o d e=>⟨o,k b o (λz=>d (by simp[z])) e⟩) (λ_ _ e=>e) (λ_ _ _ e=>e) (λb ps e=>⟨#[],by rw[e];simp⟩) (λm hm=>?_) (λb u e=>?_) I.bare
 .have e:b=a:=by simpa using j
  subst e;exact⟨w,g,h2,h⟩
 .obtain⟨o,y,l,A,r⟩:=hm
  exact⟨o,y,l,k _ o (Ne.symm g) A,r⟩
 .refine(I.hok b u e).stay (λc v d q=>k c v ?_ q) (λ_ q=>q) λ_ _ q=>q
  rcases d with z | z
  .rw[z];exact f b u e
  .exact f c _ z
theorem Inv.tok(I:Inv X pins σ H s)(t:Nat):Inv X pins σ H { s with toks:=t }:=I.un (h':=s.heap) (t':=t) Un.refl I.hok
theorem Inv.kept{t':Nat}(I:Inv X pins σ H s)(k:∀ b u,s.heap.get? b=some u->h'.get? b=some u):Inv X pins σ H { s with heap:=h',toks:=t' }:=I.un (Un.kept k) (I.hok.kept k)
theorem Inv.laid{a:Addr}{o:HO}{t':Nat}(I:Inv X pins σ H s)(k:∀ b u,s.heap.get? b=some u->h'.get? b=some u)(d:s.heap.objs.size<=a)(c:ObjOk X.prog X.w (upd H a o) h' a o) :
  Inv X pins σ (upd H a o) { s with heap:=h',toks:=t' }:=I.un (Un.laid k d (I.hok.fresh d)) (I.hok.laid k d c)
theorem Inv.write{x e:Addr}{o:HO}{t':Nat}(I:Inv X pins σ H s)(f:Mut (H x))(d:e=x\/H e=some (.own x))(k:∀ b u,b≠e->s.heap.get? b=some u->h'.get? b=some u)(a:∃ u,h'.get? e=some u)
  (c:ObjOk X.prog X.w (upd H x o) h' x o):Inv X pins σ (upd H x o) { s with heap:=h',toks:=t' }:=I.un (Un.write f d k a) (I.hok.write f d k a c)
theorem Inv.weak{σ':List (Option V)}(I:Inv X pins σ H s)(b:σ'.length=σ.length)(w:∀(i:Nat) v,σ'[i]? = some (some v)->σ[i]? = some (some v)):Inv X pins σ' H s :=
 ⟨I.ok,I.os,I.bare,I.base,let ⟨m,hn,hl'⟩:=I.loc;⟨m,hn,λi x v a d c=>hl' i x v a (w i v d) c⟩,I.cell,I.free,I.freeC,I.pin,I.hok,b.trans I.len⟩
theorem Inv.pins_of{a:List (Addr×Obj)}(I:Inv X pins σ H s)(h:∀ p ∈ a,s.heap.get? p.1 = some p.2/\H p.1 = none/\p.1≠X.env.locals/\p.1 ∉ X.fs/\∀ v,p.2.data≠.cell v):Inv X a σ H s :=
 ⟨I.ok,I.os,I.bare,I.base,I.loc,I.cell,I.free,I.freeC,λp b=>(mem_append.mp b).elim (λz=>I.pin p (mem_append_left _ z)) (h p),I.hok,I.len⟩
theorem jI{N:List Str}(f:N.Nodup){i j:Nat}{x:Str}(a:N[i]? = some x)(b:N[j]? = some x):i=j:=by
 obtain⟨h,d⟩:=List.getElem?_eq_some_iff.mp a;obtain⟨g,c⟩:=List.getElem?_eq_some_iff.mp b;exact(List.getElem_inj f).mp (d.trans c.symm)
theorem kG{M:Model}{A:Around}{E:Value->Shared->Prop}{i:Nat}{x:Str}{v:V}{u:Value}{Q:Unit->Shared->Prop}(I:Inv X pins σ H s)(hN:X.N.Nodup)(R:X.N[i]? = some x)(w:Loc X.env.scope x)(r:RelV v u)
  (h:∀ s',Inv X pins (σ.set i (some v)) H s'->(∃ a,Heap.SameBut a s.heap s'.heap/\(a = X.env.locals\/X.env.cells.lookup x = some a))->Q () s') (hf:X.fn x = true\/X.env.scope.names.lookup x = some .local:=by first | exact .inl rfl | exact .inr rfl | assumption):wpAny M A (storeName X.env x u) Q E s:=by
 obtain⟨m,hn,hl⟩:=id I.loc;have N:(X.env.scope.kind == .class || (X.env.scope.kind == .module && X.env.locals != X.env.globals)) = false:=by rw[I.ok.kind];rfl
 have C:i<σ.length:=by rw[I.len];exact(List.getElem?_eq_some_iff.mp R).1
 have G:=I.cne
 have l:∀{a:Addr}{K:Heap},(∃ o,s.heap.get? a=some o/\H a=none)->Heap.SameBut a s.heap K->HOk X.prog X.w H K:=λ{a K} ha f b ob e=>by
  obtain⟨_,_,B⟩:=ha;refine(I.hok b ob e).stay (λc T hc q=>(f.2 c ?_).trans q) (λ_ q=>q) λ_ _ q=>q
  rintro rfl
  rcases hc with rfl | hc
  .rw[B]at e;cases e
  .rw[B]at hc;cases hc
 rcases w with hk | hk
 .refine wpAny_storeName_local hk hn (λK al f=>?_) N
  obtain⟨oL,_,_,ab,_⟩:=id hn;refine h _ ⟨I.ok,I.os,I.bare,⟨λb o e n D w=>?_,λb o e n D w=>?_,I.base.free,λb o e w=>?_,I.base.tups,I.base.frzs,I.base.tbls⟩,⟨_,al,λj y v' g e2 e3=>?_⟩,λy c e=>?_,I.free,I.freeC,λp hp=>?_,l ⟨oL,ab,I.free⟩ f,by simpa using I.len⟩ ⟨_,f,.inl rfl⟩
  .exact(f.2 b (Nat.ne_of_lt (Nat.lt_of_lt_of_le (Heap.lt_size e) I.ok.above))).trans (I.base.keep b o e n D w)
  .obtain⟨sl,g⟩:=I.base.slot b o e n D w
   exact⟨sl,(f.2 b (Nat.ne_of_lt (Nat.lt_of_lt_of_le (Heap.lt_size e) I.ok.above))).trans g⟩
  .obtain⟨Y,g⟩:=I.base.there b o e w
   exact⟨Y,(f.2 b (Nat.ne_of_lt (Nat.lt_of_lt_of_le (Heap.lt_size e) I.ok.above))).trans g⟩
  .by_cases hj:j=i
   .subst hj
    rw[R]at g;cases g;rw[List.getElem?_set_self C]at e2;cases e2;exact⟨u,r,.inl ⟨hk,by simp⟩⟩
   .rw[List.getElem?_set_ne (Ne.symm hj)]at e2
    obtain⟨u',r',q⟩:=hl j y v' g e2 e3;refine⟨u',r',?_⟩
    rcases q with⟨k,e⟩ | ⟨k,c,e,z⟩
    .refine .inl ⟨k,?_⟩
     have:y≠x:=λe=>hj (jI hN g (e ▸ R))
     simp[this,e]
    .exact .inr ⟨k,c,e,z.sameBut f (G y c e)⟩
  .obtain⟨T,z⟩:=I.cell y c e
   exact⟨T,z.sameBut f (G y c e)⟩
  .obtain⟨e,n,W,Z,d⟩:=I.pin p hp
   exact⟨(f.2 p.1 W).trans e,n,W,Z,d⟩
 .have F:X.fn x=true:=by
   rcases hf with z | z
   .exact z
   .rw[z]at hk;cases hk
  obtain⟨c,hc⟩:=I.ok.has x (.inl hk);obtain⟨T,z⟩:=I.cell x c hc;refine wpAny_storeName_cell I.ok.kind hk hc z (λK O f=>?_);obtain⟨oc,L,P⟩:=id z;refine h { s with heap:=K } ⟨I.ok,I.os,I.bare,⟨λb o e n D w=>?_,λb o e n D w=>?_,I.base.free,λb o e w=>?_,I.base.tups,I.base.frzs,I.base.tbls⟩,⟨m,hn.sameBut f (Ne.symm (G x c hc)),λj y v' g e2 e3=>?_⟩,λy S e=>?_,I.free,I.freeC,λp hp=>?_,l ⟨oc,L,I.freeC x c hc⟩ f,by simpa using I.len⟩ ⟨c,f,.inr hc⟩
  .exact(f.2 b (Nat.ne_of_lt (Nat.lt_of_lt_of_le (Heap.lt_size e) (I.ok.cab x c F hc)))).trans (I.base.keep b o e n D w)
  .obtain⟨sl,g⟩:=I.base.slot b o e n D w
   exact⟨sl,(f.2 b (Nat.ne_of_lt (Nat.lt_of_lt_of_le (Heap.lt_size e) (I.ok.cab x c F hc)))).trans g⟩
  .obtain⟨Y,g⟩:=I.base.there b o e w
   exact⟨Y,(f.2 b (Nat.ne_of_lt (Nat.lt_of_lt_of_le (Heap.lt_size e) (I.ok.cab x c F hc)))).trans g⟩
  .by_cases hj:j=i
   .subst hj
    rw[R]at g;cases g;rw[List.getElem?_set_self C]at e2;cases e2;exact⟨u,r,.inr ⟨.inl hk,c,hc,O⟩⟩
   .rw[List.getElem?_set_ne (Ne.symm hj)]at e2
    obtain⟨u',r',q⟩:=hl j y v' g e2 e3;refine⟨u',r',?_⟩
    rcases q with q | ⟨k,S,e,z'⟩
    .exact .inl q
    .refine .inr ⟨k,S,e,z'.sameBut f ?_⟩
     rintro rfl;exact hj (jI hN g (I.ok.inj _ _ _ e hc ▸ R))
  .by_cases hcc:S=c
   .subst hcc;exact⟨_,O⟩
   .obtain⟨w2,z2⟩:=I.cell y S e
    exact⟨w2,z2.sameBut f hcc⟩
  .obtain⟨e,n,W,Z,d⟩:=I.pin p hp
   refine⟨(f.2 p.1 ?_).trans e,n,W,Z,d⟩;intro q;rw[q,L]at e;have q':oc=p.2:=Option.some.inj e;exact d T (by rw[<- q'];exact P)
theorem fw{M:Model}{A:Around}{E:Value->Shared->Prop}{i:Nat}{x:Str}{v:V}{u:Value}{Q:Unit->Shared->Prop}(I:Inv X pins σ H s)(f:X.N.Nodup)(b:X.N[i]? = some x)(a:Loc X.env.scope x)(r:RelV v u)
  (h:∀ s',Inv X pins (σ.set i (some v)) H s'->Q () s') (c:X.fn x = true\/X.env.scope.names.lookup x = some .local:=by first | exact .inl rfl | exact .inr rfl | assumption):wpAny M A (storeName X.env x u) Q E s :=
 kG I f b a r (λs' d _=>h s' d) c
theorem Inv.call'{s':Shared}{ch:List Addr}(I:Inv X pins σ H s)(h:s'.os=s.os)(u:Un (frs X.stack) ch H H' s.heap s'.heap)(d:HOk X.prog X.w H' s'.heap)(g:AllBare s'.gens)
  (a:∀ b ∈ ch,(b ∈ X.ex\/X.s₀.heap.objs.size<=b)/\b≠X.env.locals/\(∀ x c,X.env.cells.lookup x = some c->c≠b)/\∀ p ∈ X.pn ++ pins,p.1≠b):Inv X pins σ H' s':=by
 obtain⟨i,g',d',t',f⟩:=s';have e:f=s.os:=h;subst e;exact I.call (g':=g') (t':=t') (d':=d') u d g a
end
abbrev XK:=Value->Option Addr->Hp->Prop
abbrev St:=List (Option V)
abbrev VK:=V->Hp->Prop
abbrev TE:=St->Hp->VK->Prop
abbrev TT:=St->Hp->(Bool->Hp->Prop)->Prop
abbrev TA:=St->Hp->(List V->Hp->Prop)->Prop
structure Ends where
 nx:St->Hp->Prop
 rt:VK
 bk:St->Hp->Prop:=λ_ _=>False
 ct:St->Hp->Prop:=λ_ _=>False
abbrev TS:=Ends->St->Hp->Prop
def EP(X:Cx)(pins:List (Addr×Obj))(σ:St)(Q:VK)(u:Value)(s':Shared):Prop:=∃ v H',Inv X pins σ H' s'/\RelV v u/\Q v H'
def TP(X:Cx)(pins:List (Addr×Obj))(σ:St)(Q:Bool->Hp->Prop)(b:Bool)(s':Shared):Prop:=∃ H',Inv X pins σ H' s'/\Q b H'
def AP(X:Cx)(pins:List (Addr×Obj))(σ:St)(Q:List V->Hp->Prop)(us:List Value)(s':Shared):Prop:=∃ vs H',Inv X pins σ H' s'/\Vals vs us/\Q vs H'
def SP(X:Cx)(pins:List (Addr×Obj))(D:Ends)(f:Flow)(s':Shared):Prop :=
 match f with
 | .next=>∃ σ' H',Inv X pins σ' H' s'/\D.nx σ' H'
 | .brk=>∃ σ' H',Inv X pins σ' H' s'/\D.bk σ' H'
 | .cont=>∃ σ' H',Inv X pins σ' H' s'/\D.ct σ' H'
 | .ret u=>∃ v σ' H',Inv X pins σ' H' s'/\RelV v u/\D.rt v H'
def PE(X:Cx)(e:Expr)(t:TE):Prop :=
 ∀(pins:List (Addr×Obj)) (s:Shared) (σ:St) (H:Hp) (Q:VK),Inv X pins σ H s->t σ H Q->wpAny (model X.prog X.w) X.A (eval e X.env) (EP X pins σ Q) X.xe s
def PT(X:Cx)(e:Expr)(t:TT):Prop :=
 ∀(pins:List (Addr×Obj)) (s:Shared) (σ:St) (H:Hp) (Q:Bool->Hp->Prop),Inv X pins σ H s->t σ H Q->wpAny (model X.prog X.w) X.A (isTrue e X.env (eval e X.env)) (TP X pins σ Q) X.xe s
def PW(X:Cx)(e:Expr)(t:TT):Prop :=
 ∀(whole:Sem Value) (pins:List (Addr×Obj)) (s:Shared) (σ:St) (H:Hp) (Q:Bool->Hp->Prop),Inv X pins σ H s->t σ H Q->wpAny (model X.prog X.w) X.A (isTrue e X.env whole) (TP X pins σ Q) X.xe s
theorem PW.pt{X:Cx}{e:Expr}{t:TT}(h:PW X e t):PT X e t:=h _
def PA(X:Cx)(es:List Expr)(t:TA):Prop :=
 ∀(pos:Pos) (pins:List (Addr×Obj)) (s:Shared) (σ:St) (H:Hp) (Q:List V->Hp->Prop),Inv X pins σ H s->t σ H Q->wpAny (model X.prog X.w) X.A (spliced (backTo pos (starEach es X.env))) (AP X pins σ Q) X.xe s
def PS(X:Cx)(st:Stmt)(t:TS):Prop :=
 ∀(pins:List (Addr×Obj)) (s:Shared) (σ:St) (H:Hp) (D:Ends),Inv X pins σ H s->t D σ H->wpAny (model X.prog X.w) X.A (exec st X.env) (SP X pins D) X.xe s
def PSs(X:Cx)(st:List Stmt)(t:TS):Prop :=
 ∀(pins:List (Addr×Obj)) (s:Shared) (σ:St) (H:Hp) (D:Ends),Inv X pins σ H s->t D σ H->wpAny (model X.prog X.w) X.A (execs st X.env) (SP X pins D) X.xe s
theorem thn{c:Type}{t:Sem c}{Q b:c->Shared->Prop}{M:Model}{A:Around}{E:Value->Shared->Prop}{s:Shared}(h:wpAny M A t Q E s)(d:∀ a s,Q a s->b a s):wpAny M A t b E s:=wpAny_mono h d λ_ _ x=>x
section
variable {X:Cx}
def AX(i:Nat):TE:=λσ H Q=>∃ v,σ[i]? = some (some v)/\Q v H
def tC(v:V):TE:=λ_ H Q=>Q v H
theorem yq{i:Nat}{x:Str}{g:Pos}(y:X.N[i]? = some x)(q:Vis X.env.scope x)(f:(x == ("__debug__" : Str))=false:=by decide)(j:(x == ("__classdict__" : Str))=false:=by decide):PE X (.Name x g) (AX i):=by
 intro d s w H Q I h;obtain⟨v,e,h⟩:=h;obtain⟨m,n,p⟩:=I.loc;obtain⟨u,r,l⟩:=p i x v y e q
 have b:EP X d w Q u s:=⟨v,H,I,r,h⟩
 rcases l with⟨hk,o⟩ | ⟨hk,c,k,a⟩
 .exact wpAny_Name (wpAny_loadName_local I.ok.kind hk n o b) f
 .rcases hk with hk | hk
  .exact wpAny_Name (wpAny_loadName_cell I.ok.kind hk k a b) f
  .exact wpAny_Name (wpAny_loadName_free I.ok.kind hk k a b j) f
theorem ah{i j pos}:PE X (.Constant (.int i) j pos) (tC (.int i)):=λ_ _ _ H _ I h=>wpAny_Constant_int ⟨.int i,H,I.tok _,⟨_,rfl⟩,h⟩
theorem dG{b j pos}:PE X (.Constant (.bool b) j pos) (tC (.bl b)):=λ_ _ _ H _ I h=>Constant_bool ⟨.bl b,H,I,rfl,h⟩
theorem xZ{j pos}:PE X (.Constant .none j pos) (tC .non):=λ_ _ _ H _ I h=>Constant_none ⟨.non,H,I,rfl,h⟩
theorem dN{x j pos}:PE X (.Constant (.str x) j pos) (tC (.str x)):=λ_ _ _ H _ I h=>Calls.Constant_str ⟨.str x,H,I.tok _,⟨_,rfl⟩,h⟩
def Gl(X:Cx)(x:Str):Prop:=X.env.kindOf x=some .globalImplicit
theorem dW{E:Value->Shared->Prop}{a:List (Addr×Obj)}{s:Shared}{σ:St}{H:Hp}{x:Str}{u:Value}{b:Pos}{Q:Value->Shared->Prop}(I:Inv X a σ H s)(f:Gl X x)(c:X.mg x=some u)(h:Q u s)
  (d:(x == ("__debug__" : Str))=false:=by decide):wpAny (model X.prog X.w) X.A (eval (.Name x b) X.env) Q E s :=
 Calls.Name_function_global I.ok.kind f (Calls.loadGlobal_global (by rw[I.ok.glob];exact I.mod.glob.keeps I.bk) c h) d
theorem jd{E:Value->Shared->Prop}{a:List (Addr×Obj)}{s:Shared}{σ:St}{H:Hp}{x:Str}{u:Value}{b:Pos}{Q:Value->Shared->Prop}(I:Inv X a σ H s)(k:Gl X x)(d:X.mg x=none)(i:bootBuiltins x=some u)(h:Q u s)
  (c:x ≠ "__name__" := by decide) (j:(x == ("__debug__" : Str))=false:=by decide):wpAny (model X.prog X.w) X.A (eval (.Name x b) X.env) Q E s:=by
 obtain⟨l,g,f⟩:=I.mod.blt;exact Calls.Name_function_global I.ok.kind k (Calls.loadGlobal_builtin (by rw[I.ok.glob];exact I.mod.glob.keeps I.bk) d (by rw[I.ok.blt];exact g.keeps I.bk) ((f x c).trans i) h) j
theorem v5{x:Str}{v:V}{u:Value}{a:Pos}(c:Gl X x)(d:X.mg x=some u)(r:RelV v u)(b:(x == ("__debug__" : Str))=false:=by decide):PE X (.Name x a) (tC v) :=
 λ_ _ _ H _ I h=>dW I c d ⟨v,H,I,r,h⟩ b
theorem lV{x:Str}{v:V}{u:Value}{a:Pos}(g:Gl X x)(c:X.mg x=none)(d:bootBuiltins x=some u)(r:RelV v u)(b:x ≠ "__name__" := by decide)(f:(x == ("__debug__" : Str))=false:=by decide):PE X (.Name x a) (tC v) :=
 λ_ _ _ H _ I h=>jd I g c d ⟨v,H,I,r,h⟩ b f
variable {a b:Expr}{ta tb:TE}{pos:Pos}
def tB(t:TE):TT:=λσ H Q=>t σ H λx H1=>∃ c,x=.bl c/\Q c H1
variable {tA tB':TT}{rest:List Expr}
def AE(t u:TT):TT:=λσ H Q=>t σ H λc H1=>if c=true then u σ H1 Q else Q false H1
def tOr(t u:TT):TT:=λσ H Q=>t σ H λc H1=>if c=true then Q true H1 else u σ H1 Q
def Bo(t:TT):TT:=λσ H Q=>t σ H λc H1=>Q (!c) H1
theorem dS(d:PT X a tA):PW X (.BoolOp .And [a] pos) tA:=by
 intro i b s f H Q I h;refine isTrue_and (thn (d b s f H Q I h) λc g e=>?_);cases c with
 | true=>exact isTrue_and_nil e
 | false=>exact e
theorem io(d:PT X a tA):PW X (.BoolOp .Or [a] pos) tA:=by
 intro i b s f H Q I h;refine isTrue_or (thn (d b s f H Q I h) λc g e=>?_);cases c with
 | false=>exact isTrue_or_nil e
 | true=>exact e
theorem d3(k:PT X a tA)(l:PW X (.BoolOp .And (b::rest) pos) tB'):PW X (.BoolOp .And (a::b::rest) pos) (AE tA tB'):=by
 intro o d s i H Q I h;refine isTrue_and (thn (k d s i H _ I h) λc n ⟨f,j,g⟩=>?_);cases c with
 | true=>exact l o d n i f Q j g
 | false=>exact⟨f,j,g⟩
theorem jC(k:PT X a tA)(l:PW X (.BoolOp .Or (b::rest) pos) tB'):PW X (.BoolOp .Or (a::b::rest) pos) (tOr tA tB'):=by
 intro o d s i H Q I h;refine isTrue_or (thn (k d s i H _ I h) λc n ⟨f,j,g⟩=>?_);cases c with
 | true=>exact⟨f,j,g⟩
 | false=>exact l o d n i f Q j g
theorem dF(f:PT X a tA):PT X (.UnaryOp .Not a pos) (Bo tA):=by
 intro b s g H Q I h;exact isTrue_not (f b s g H (λc d=>Q (!c) d) I h)
theorem gB{op}{t:TE}(h:PE X a t):PE X (.BoolOp op [a] pos) t:=λb s d H Q I c=>BoolOp_one (h b s d H Q I c)
def tIf(t:TT)(ta tb:TE):TE:=λσ H Q=>t σ H λc H1=>if c=true then ta σ H1 Q else tb σ H1 Q
theorem u9{c:Expr}(p:PT X c tA)(n:PE X a ta)(o:PE X b tb):PE X (.IfExp c a b pos) (tIf tA ta tb):=by
 intro f s g H Q I h;refine wpAny_IfExp (thn (p f s g H _ I h) λd k ⟨i,l,j⟩=>?_);cases d with
 | true=>exact n f k g i Q l j
 | false=>exact o f k g i Q l j
end
def SqL(K:Frag)(H:Hp)(a:Addr)(xs:List V):Prop :=
 Rd H a (.lst xs) \/
  ∃(o:Obj) (its:Array Value) (n:Nat),K.lookup a=some o/\o.cls=.type "list" /\ o.dict=none/\o.data=.seq its n/\its.size<=sizeLine/\Vals xs its.toList
def SqT(K:Frag)(H:Hp)(a:Addr)(xs:List V):Prop :=
 Rd H a (.tup xs) \/
  ∃(o:Obj) (its:Array Value) (n:Nat),K.lookup a=some o/\o.cls=.type "tuple" /\ o.data=.seq its n/\its.size<=sizeLine/\Vals xs its.toList
def A0:Value->Option V
 | .none=>some .non
 | .bool b=>some (.bl b)
 | .int i _=>some (.int i)
 | .str x _=>some (.str x)
 | .bytes b _=>some (.byt b)
 | .float b _=>some (.flt b)
 | .ref a=>some (.ref a)
 | .type n=>some (.ty n)
 | _=>none
theorem RelV.abs{x:V}{u:Value}(r:RelV x u):A0 u=some x:=by
 cases x with
 | non=>cases r;rfl
 | bl _=>cases r;rfl
 | int _=>obtain⟨t,rfl⟩:=r;rfl
 | str _=>obtain⟨t,rfl⟩:=r;rfl
 | byt _=>obtain⟨t,rfl⟩:=r;rfl
 | flt _=>obtain⟨t,rfl⟩:=r;rfl
 | ref _=>cases r;rfl
 | ty _=>cases r;rfl
theorem RelV.inj{x y:V}{u:Value}(r:RelV x u)(q:RelV y u):x=y:=Option.some.inj (r.abs.symm.trans q.abs)
theorem Vals.inj:∀{xs ys:List V}{us:List Value},Vals xs us->Vals ys us->xs=ys
 | _,_,_,.nil,.nil=>rfl
 | _,_,_,.cons r t,.cons r' t'=>by rw[r.inj r',Vals.inj t t']
section
variable {X:Cx}{pins:List (Addr×Obj)}{σ:St}{H:Hp}{s:Shared}{a:Addr}{xs ys:List V}
theorem SqL.of{K:Frag}(h:H a=some (.lst xs)):SqL K H a xs:=.inl (.inl h)
theorem SqT.of{K:Frag}(h:H a=some (.tup xs)):SqT K H a xs:=.inl (.inl h)
theorem Inv.list(I:Inv X pins σ H s)(h:SqL X.K H a xs):∃ its:List Value,Vals xs its/\PlainL s.heap a its.toArray/\xs.length<=sizeLine:=by
 rcases h with h | ⟨o,its,n,d,f,c,b,g,r⟩
 .obtain⟨z,its,n,r,e⟩:=h.ok I.hok
  exact⟨its,r,⟨_,n,e,rfl,rfl,rfl⟩,z⟩
 .refine⟨its.toList,r,⟨o,n,I.kIn a o d,f,c,by simpa using b⟩,?_⟩
  have e:=r.length;simp only[Array.length_toList]at e;lia
theorem Inv.tuple(I:Inv X pins σ H s)(h:SqT X.K H a xs):∃ its:List Value,Vals xs its/\IsTup s.heap a its.toArray/\xs.length<=sizeLine:=by
 rcases h with h | ⟨o,its,n,b,d,c,f,r⟩
 .obtain⟨z,its,r,p⟩:=h.ok I.hok
  exact⟨its,r,p,z⟩
 .refine⟨its.toList,r,⟨o,I.kIn a o b,d,n,by simpa using c⟩,?_⟩
  have e:=r.length;simp only[Array.length_toList]at e;lia
theorem Inv.list_inj(I:Inv X pins σ H s)(h:SqL X.K H a xs)(h':SqL X.K H a ys):xs=ys:=by
 obtain⟨c,r,⟨o,n,e,_,_,d⟩,_⟩:=I.list h;obtain⟨b,i,⟨k,j,f,_,_,g⟩,_⟩:=I.list h';rw[e]at f;cases f;rw[d]at g;injection g with d1 _
 have:c=b:=by simpa using congrArg Array.toList d1
 subst this;exact r.inj i
theorem Inv.tuple_inj(I:Inv X pins σ H s)(h:SqT X.K H a xs)(h':SqT X.K H a ys):xs=ys:=by
 obtain⟨c,r,⟨o,e,_,n,d⟩,_⟩:=I.tuple h;obtain⟨b,i,⟨k,f,_,j,g⟩,_⟩:=I.tuple h';rw[e]at f;cases f;rw[d]at g;injection g with d1 _
 have:c=b:=by simpa using congrArg Array.toList d1
 subst this;exact r.inj i
end
abbrev Cx.wish(X:Cx)(E:Value->Shared->Prop):Cx:={ X with xe:=E }
abbrev Cx.nox(X:Cx):Cx:=X.wish λ_ _=>False
theorem Cx.Ok.wish{X:Cx}(a:X.Ok)(E:Value->Shared->Prop):(X.wish E).Ok :=
 ⟨a.mod,a.kind,a.glob,a.blt,a.above,a.inj,a.has,a.cab,a.hd,a.frames,a.stk,a.exf,a.bs,a.bsz,a.noex,a.exfs,a.funs,a.frf⟩
theorem Cx.Ok.unwish{X:Cx}{E:Value->Shared->Prop}(a:(X.wish E).Ok):X.Ok :=
 ⟨a.mod,a.kind,a.glob,a.blt,a.above,a.inj,a.has,a.cab,a.hd,a.frames,a.stk,a.exf,a.bs,a.bsz,a.noex,a.exfs,a.funs,a.frf⟩
section
variable {X:Cx}{pins:List (Addr×Obj)}{σ:St}{H:Hp}{s:Shared}{E:Value->Shared->Prop}
theorem Inv.wish(I:Inv X pins σ H s)(E:Value->Shared->Prop):Inv (X.wish E) pins σ H s:=⟨I.ok.wish E,I.os,I.bare,I.base,I.loc,I.cell,I.free,I.freeC,I.pin,I.hok,I.len⟩
theorem Inv.unwish(I:Inv (X.wish E) pins σ H s):Inv X pins σ H s:=⟨I.ok.unwish,I.os,I.bare,I.base,I.loc,I.cell,I.free,I.freeC,I.pin,I.hok,I.len⟩
theorem SP.unwish{D:Ends}{f:Flow}{s':Shared}(h:SP (X.wish E) pins D f s'):SP X pins D f s':=by
 cases f with
 | next=>obtain⟨a,b,I,q⟩:=h;exact⟨a,b,I.unwish,q⟩
 | brk=>obtain⟨a,b,I,q⟩:=h;exact⟨a,b,I.unwish,q⟩
 | cont=>obtain⟨a,b,I,q⟩:=h;exact⟨a,b,I.unwish,q⟩
 | ret u=>obtain⟨v,a,b,I,r,q⟩:=h;exact⟨v,a,b,I.unwish,r,q⟩
theorem PSs.nox{b:List Stmt}{t:TS}(h:PSs X.nox b t):PSs X b t:=λa s d H D I c =>
 wpAny_mono (h a s d H D (I.wish _) c) (λ_ _ q=>q.unwish) λ_ _ z=>False.elim z
end
section
variable {X:Cx}{st:Stmt}{rest:List Stmt}{t u:TS}{e:Expr}{te:TE}{pos:Pos}
def Ak:TS:=λD σ H=>D.nx σ H
def aW(t u:TS):TS:=λD σ H=>t { D with nx:=u D } σ H
theorem aD:PSs X [] Ak:=λ_ _ a H _ I h=>wpAny_execs_nil ⟨a,H,I,h⟩
theorem af(c:PS X st t)(h2:PSs X rest u):PSs X (st::rest) (aW t u):=by
 intro a s i H D I h;refine wpAny_execs_cons (thn (c a s i H { D with nx:=u D } I h) λf d q=>?_);cases f with
 | next =>
  obtain⟨b,g,j,q⟩:=q;exact h2 a d b g D j q
 | ret v=>exact q
 | brk=>exact q
 | cont=>exact q
theorem ak(c:PS X st t):PSs X [st] t:=by
 intro a s b H D I h;refine wpAny_execs_cons (thn (c a s b H D I h) λf d q=>?_);cases f with
 | next=>exact wpAny_execs_nil q
 | ret v=>exact q
 | brk=>exact q
 | cont=>exact q
theorem Inv.quiet{a:List (Addr×Obj)}{σ:St}{H:Hp}{s:Shared}(I:Inv X a σ H s):interactive X.env=false:=by simp[interactive,I.ok.kind]
def Aw(te:TE):TS:=λD σ H=>te σ H λ_ H1=>D.nx σ H1
theorem bA(f:PE X e te)(c:swapsWith e none pos.line X.env=pure false:=by rfl):PS X (.Expr e pos) (Aw te):=by
 intro a s b H D I h;exact wpAny_Expr_any (thn (f a s b H _ I h) λv k ⟨x,d,i,j,g⟩=>⟨b,d,i,g⟩) I.quiet c
def AG(te:TE):TS:=λD σ H=>te σ H D.rt
theorem ax(d:PE X e te):PS X (.Return (some e) pos) (AG te):=by
 intro a s b H D I h;exact wpAny_Return_some (thn (d a s b H _ I h) λv j ⟨x,c,i,f,g⟩=>⟨x,b,c,i,f,g⟩)
def Bn(c:TT)(t u:TS):TS:=λD σ H=>c σ H λb H1=>if b=true then t D σ H1 else u D σ H1
theorem ba{c:Expr}{a b:List Stmt}{l:TT}(q:PT X c l)(o:PSs X a t)(p:PSs X b u):PS X (.If c a b pos) (Bn l t u):=by
 intro f s g H D I h;refine wpAny_If (thn (q f s g H _ I h) λd k ⟨i,n,j⟩=>?_);cases d with
 | true=>exact o f k g i D n j
 | false=>exact p f k g i D n j
def yB:TS:=λ_ _ _=>False
theorem uB:PS X st yB:=λ_ _ _ _ _ _ h=>h.elim
end
abbrev TG:=V->St->Hp->(St->Hp->Prop)->Prop
abbrev TGs:=List V->St->Hp->(St->Hp->Prop)->Prop
def PG(X:Cx)(target:Expr)(t:TG):Prop :=
 ∀(pins:List (Addr×Obj)) (s:Shared) (σ:St) (H:Hp) (v:V) (u:Value) (Q:St->Hp->Prop),Inv X pins σ H s->RelV v u->t v σ H Q ->
  wpAny (model X.prog X.w) X.A (assign target X.env u) (λ_ s'=>∃ σ' H',Inv X pins σ' H' s'/\Q σ' H') X.xe s
def PGs(X:Cx)(ts:List Expr)(t:TGs):Prop :=
 ∀(pins:List (Addr×Obj)) (s:Shared) (σ:St) (H:Hp) (vs:List V) (us:List Value) (Q:St->Hp->Prop),Inv X pins σ H s->Vals vs us->t vs σ H Q ->
  wpAny (model X.prog X.w) X.A (assignInOrder ((assignEach ts X.env).map (·.2)) us) (λ_ s'=>∃ σ' H',Inv X pins σ' H' s'/\Q σ' H') X.xe s
abbrev yu:=V->V->V->Hp->(Hp->Prop)->Prop
def Ay(X:Cx)(t:yu):Prop :=
 ∀(pins:List (Addr×Obj)) (s:Shared) (σ:St) (H:Hp) (o i v:V) (ov iv u:Value) (Q:Hp->Prop),Inv X pins σ H s->RelV o ov->RelV i iv->RelV v u->t o i v H Q ->
  wpAny (model X.prog X.w) X.A (setItem ov iv u) (λ_ s'=>∃ H',Inv X pins σ H' s'/\Q H') X.xe s
abbrev TIp:=V->V->Hp->VK->Prop
def PIp(X:Cx)(op:Operator)(t:TIp):Prop :=
 ∀(pins:List (Addr×Obj)) (s:Shared) (σ:St) (H:Hp) (x y:V) (v u:Value) (Q:VK),Inv X pins σ H s->RelV x v->RelV y u->t x y H Q ->
  wpAny (model X.prog X.w) X.A (inplaceOp op v u) (EP X pins σ Q) X.xe s
section
variable {X:Cx}{pos:Pos}
def kx(i:Nat):TG:=λv σ H Q=>Q (σ.set i (some v)) H
theorem ay{i:Nat}{x:Str}(g:X.N.Nodup)(c:X.N[i]? = some x)(b:Loc X.env.scope x)(d:X.fn x = true\/X.env.scope.names.lookup x = some .local:=by first | exact .inl rfl | exact .inr rfl | assumption):PG X (.Name x pos) (kx i):=by
 intro a s j H v u Q I r h;exact wpAny_assign_Name (fw I g c b r (λk f=>⟨_,H,f,h⟩) d)
def AQ:TGs:=λvs σ H Q=>vs=[]/\Q σ H
inductive gCons(t:TG)(u:TGs)(vs:List V)(σ:St)(H:Hp)(Q:St->Hp->Prop):Prop
 | mk(v:V)(r:List V)(h0:vs=v::r)(h1:t v σ H λσ' H'=>u r σ' H' Q):gCons t u vs σ H Q
theorem cJ:PGs X [] AQ:=by
 intro a s b H d c Q I r h;obtain⟨e,h⟩:=h;subst e;cases r;exact assignInOrder_nil ⟨b,H,I,h⟩
theorem aE{e:Expr}{b:List Expr}{t:TG}{u:TGs}(i:PG X e t)(h2:PGs X b u)
  (d:(assignEach (e::b) X.env).map (·.2)=assign e X.env::(assignEach b X.env).map (·.2):=by rfl):PGs X (e::b) (gCons t u):=by
 intro a s l H p o Q I r h;obtain⟨v,q,f,h⟩:=h;subst f;cases r with
 | cons r rr =>
  rw[d];refine assignInOrder_cons (thn (i a s l H _ _ _ I r h) λ_ k ⟨c,g,n,j⟩=>?_);exact h2 a k c g _ _ Q n rr j
inductive gTup(K:Frag)(n:Nat)(t:TGs)(v:V)(σ:St)(H:Hp)(Q:St->Hp->Prop):Prop
 | mk(a:Addr)(xs:List V)(h0:v=.ref a)(h1:SqT K H a xs)(h2:xs.length=n)(h3:t xs σ H Q):gTup K n t v σ H Q
theorem gA{d:List Expr}{k:Nat}{t:TGs}{n:Nat}(A:X.calm=true)(h:PGs X d t)
  (l:(assignEach d X.env).length=n:=by rfl) (f:(assignEach d X.env).findIdx? (·.1)=none:=by rfl):PG X (.Tuple d k pos) (gTup X.K n t):=by
 intro c s j H v u Q I r g;obtain⟨a,x,p,q,z,g⟩:=g;subst p;cases r;obtain⟨C,i,y,E⟩:=I.tuple q;refine assign_Tuple_tuple (I.ok.hd A) y (by simp[l,<- z,i.length]) f λB w=>?_
 have D:Inv X c j H { s with heap:=B }:=I.kept (t':=s.toks) λb o e=>w b o (Nat.ne_of_lt (Heap.lt_size e)) e
 exact h c _ j H x _ Q D (by simpa using i) g
def AW(to ti:TE)(t:yu):TG:=λv σ H Q=>to σ H λo H1=>ti σ H1 λi H2=>t o i v H2 λH3=>Q σ H3
theorem ye{o i:Expr}{d c:TE}{t:yu}(n:PE X o d)(D:PE X i c)(A:Ay X t)
  (k:∀ v,assign (.Subscript o i pos) X.env v=(do
   let ov <- holding [v] (eval o X.env)
   let iv <- holding [v,ov] (eval i X.env)
   standAt pos
   holding [v,ov,iv] (setItem ov iv v)
   release [v,ov,iv] []):=by intro _;rfl):PG X (.Subscript o i pos) (AW d c t):=by
 intro a s b H v u Q I r h;rw[k];refine wpAny_bind (wpAny_holding (thn (n a s b H _ I h) λov w ⟨x,B,j,q,l⟩=>?_));refine wpAny_bind (wpAny_holding (thn (D a w b B _ j l) λiv F ⟨y,C,p,G,g⟩=>?_));refine wpAny_bind (wpAny_standAt (wpAny_bind (wpAny_holding (thn (A a F b C x y v ov iv u _ p q G r g) λ_ K ⟨E,z,f⟩=>?_))));exact wpAny_release ⟨b,E,z,f⟩
def yH(te:TE)(g:TG):TS:=λD σ H=>te σ H λx H1=>g x σ H1 D.nx
theorem jN{tg e:Expr}{b:TE}{g:TG}(f:PE X e b)(o:PG X tg g)(d:swapsWithSole [tg] e pos.line X.env=pure false:=by rfl)(p:swappedStores [tg] e X.env=pure none:=by rfl)
  (k:(assignEach [tg] X.env).map (·.2)=[assign tg X.env]:=by rfl):PS X (.Assign [tg] e pos) (yH b g):=by
 intro a s c H D I h;refine wpAny_Assign_stores (thn (f a s c H _ I h) λv n ⟨x,i,r,j,l⟩=>?_) d p;rw[k];exact thn (o a n c i x v _ r j l) λ_ u q=>q
theorem aw{i:Nat}{x:Str}{e:Expr}{c:TE}{a:Pos}(r:X.N.Nodup)(p:X.N[i]? = some x)(l:Loc X.env.scope x)(g:PE X e c)(d:swapsWith e (some (.Name x a)) pos.line X.env = pure false:=by rfl)(o:X.fn x = true\/X.env.scope.names.lookup x = some .local:=by first | exact .inl rfl | exact .inr rfl | assumption) :
  PS X (.Assign [.Name x a] e pos) (yH c (kx i)):=by
 intro b s q H D I h;refine wpAny_Assign_Name (thn (g b s q H _ I h) λv w ⟨y,j,u,k,n⟩=>?_) d;exact fw u r p l k (λz f=>⟨_,j,f,n⟩) o
def AI(i j:Nat)(ta:TA):TS:=λD σ H=>ta σ H λvs H1=>∃ v w,vs=[v,w]/\D.nx ((σ.set i (some v)).set j (some w)) H1
theorem xR{i j:Nat}{x y:Str}{a b:Expr}{u:TA}{r k n:Pos}{kt k2 pt2}(W:X.calm=true)(z:X.N.Nodup)(T:X.N[i]? = some x)(Y:X.N[j]? = some y)(f:i≠j)
  (C:X.env.scope.names.lookup x = some .local) (A:X.env.scope.names.lookup y = some .local) (M:PA X [a,b] u)
  (Q:swappedStores [.Tuple [.Name x r,.Name y k] kt n] (.Tuple [a,b] k2 pt2) X.env=pure (some [x,y]))
  (S:swapsWithSole [.Tuple [.Name x r,.Name y k] kt n] (.Tuple [a,b] k2 pt2) pos.line X.env=pure false:=by rfl) :
  PS X (.Assign [.Tuple [.Name x r,.Name y k] kt n] (.Tuple [a,b] k2 pt2) pos) (AI i j u):=by
 intro c s E H D I h;rw[exec_Assign_arm];refine wpAny_bind (wpAny_standAt ?_);rw[S];refine wpAny_bind (wpAny_pure ?_);rw[if_neg (by decide)];refine wpAny_bind (Tuple_ (thn (M _ c s E H _ I h) λO d ⟨Z,F,K,P,l⟩=>?_));obtain⟨v,w,L,l⟩:=l;subst L
 obtain⟨u1,u2,rfl,rv,rw'⟩:∃ u1 u2,O=[u1,u2]/\RelV v u1/\RelV w u2:=by
  cases P with
  | cons p q =>
   cases q with
   | cons p' q' =>
    cases q';exact⟨_,_,rfl,p,p'⟩
 refine wpAny_newObj_type ?_ (by show 2<=sizeLine;decide);have N:Inv X c E F { d with heap:=d.heap.push { cls:=.type "tuple",data:=.seq [u1,u2].toArray } }:=K.kept (t':=d.toks) λb o e=>Heap.get?_push_of_some _ e
 rw[Q];refine wpAny_bind (wpAny_pure ?_);show wpAny (model X.prog X.w) X.A (do rule "assign.swapped-stores";let items <- unpackItems (.ref d.heap.objs.size) 2 none;assignInOrder [λv=>bindName X.env y v,λv=>bindName X.env x v] items.reverse;pure Flow.next) _ _ _;refine wpAny_bind (wpAny_rule (wpAny_bind (unpackItems_tuple (items:=#[u1,u2]) (I.ok.hd W) (IsTup.new d.heap _) λh' g=>?_)));have R:=N.kept (h':=h') (t':=d.toks) λb o e=>g b o (Nat.ne_of_lt (Heap.lt_size e)) e
 show wpAny _ _ (assignInOrder [λv=>bindName X.env y v,λv=>bindName X.env x v] [u2,u1] >>= λ_=>pure Flow.next) _ _ _;refine wpAny_bind (assignInOrder_cons (wpAny_bindName (fw R z Y (.inl A) rw' (λs2 G=>?_) (.inr A))));refine assignInOrder_cons (wpAny_bindName (fw G z T (.inl C) rv (λs3 B=>assignInOrder_nil (wpAny_pure ?_)) (.inr C)));rw[List.set_comm _ _ (Ne.symm f)]at B;exact⟨_,F,B,l⟩
def Be(i:Nat)(te:TE)(ti:TIp):TS:=λD σ H=>∃ x,σ[i]? = some (some x)/\te σ H λy H1=>ti x y H1 λz H2=>D.nx (σ.set i (some z)) H2
theorem uU{i:Nat}{x:Str}{e:Expr}{n:TE}{op:Operator}{p:TIp}{d:Pos}(M:X.N.Nodup)(A:X.N[i]? = some x)(j:Loc X.env.scope x)(P:PE X e n)(N:PIp X op p)(L:X.fn x = true\/X.env.scope.names.lookup x = some .local:=by first | exact .inl rfl | exact .inr rfl | assumption) :
  PS X (.AugAssign (.Name x d) op e pos) (Be i n p):=by
 intro a s q H D I h;obtain⟨v,G,h⟩:=h;obtain⟨m,E,Y⟩:=I.loc;have g:Vis X.env.scope x:=by rcases j with k | k;exact .inl k;exact .inr (.inl k)
 obtain⟨u,r,l⟩:=Y i x v A G g;refine wpAny_AugAssign_Name ?_
 have o:wpAny (model X.prog X.w) X.A (eval e X.env) (λw f=>wpAny (model X.prog X.w) X.A (inplaceOp op u w) (λr s₃=>wpAny (model X.prog X.w) X.A (storeName X.env x r) (λ_=>SP X a D .next) X.xe s₃) X.xe f) X.xe s:=by
  refine thn (P a s q H _ I h) λw R ⟨y,T,C,Q,K⟩=>?_
  refine thn (N a R q T v y u w _ C r Q K) λz s2 ⟨zv,W,O,r2,B⟩=>?_
  exact fw O M A j r2 (λs3 S=>⟨_,W,S,B⟩) L
 rcases l with⟨hk,F⟩ | ⟨hk,c,Z,b⟩
 .exact wpAny_loadName_local I.ok.kind hk E F o
 .rcases hk with hk | hk
  .exact wpAny_loadName_cell I.ok.kind hk Z b o
  .rcases j with k | k
   .have:X.env.scope.names.lookup x=some .free:=hk
    rw[k]at this;cases this
   .have:X.env.scope.names.lookup x=some .free:=hk
    rw[k]at this;cases this
def ipI(f:Int->Int->Int):TIp:=λx y H Q=>∃ i j,x=.int i/\y=.int j/\Q (.int (f i j)) H
theorem uX:PIp X .Add (ipI λi j=>i+j):=by
 intro a s g H x y v u Q I d f h;obtain⟨i,j,c,b,q⟩:=h;subst c;subst b;obtain⟨t,rfl⟩:=d;obtain⟨k,rfl⟩:=f;exact iadd_int ⟨.int _,H,I.tok _,⟨_,rfl⟩,q⟩
end
section
variable {X:Cx}{pos:Pos}
def yM(c:TT)(tb:TS):TS:=λD σ H=>∃ W:Nat->St->Hp->Prop,(∃ m,W m σ H)/\∀ m σ H,W m σ H ->
 c σ H λb H1=>if b=true then ∃ N:St->Hp->Prop,(∀ σ' H',N σ' H'->∃ m',m'<m/\W m' σ' H')/\tb { D with nx:=N,ct:=N,bk:=D.nx } σ H1 else D.nx σ H1
theorem gY{c:Expr}{body:List Stmt}{z:TT}{w:TS}(C:PassesOwn (model X.prog X.w) X.A X.env X.xe)(Q:PT X c z)(E:PSs X body w):PS X (.While c body [] pos) (yM z w):=by
 intro a s M H D I h;obtain⟨W,⟨O,K⟩,i⟩:=h;refine wpAny_While (codeAny_whileLoop (λn F=>∃ σ' H',Inv X a σ' H' F/\W n σ' H') ?_ O ⟨M,H,I,K⟩);rintro n L ⟨g,A,G,P⟩;refine wpAny_passesOwn C (thn (Q a L g A _ G (i n g A P)) λb R ⟨B,y,l⟩=>?_);cases b with
 | true =>
  obtain⟨N,x,l⟩:=l;rw[if_pos rfl];refine wpAny_passesOwn C (thn (E a R g B _ y l) λf S k=>?_);cases f with
  | next =>
   obtain⟨d,j,u,q⟩:=k;obtain⟨o,p,r⟩:=x d j q;exact⟨o,p,d,j,u,r⟩
  | cont =>
   obtain⟨d,j,u,q⟩:=k;obtain⟨o,p,r⟩:=x d j q;exact⟨o,p,d,j,u,r⟩
  | brk=>exact k
  | ret v=>exact k
 | false =>
  rw[if_neg Bool.false_ne_true];exact wpAny_execs_nil ⟨g,B,y,l⟩
end
structure It where
 go:Nat->Hp->Prop
 yld:Nat->Hp->V->Hp->Prop
 stop:Nat->Hp->Prop
def gF(X:Cx)(pins:List (Addr×Obj))(H:Hp)(b:Addr):Prop :=
 H b = none/\b≠X.env.locals/\b ∉ X.fs/\(b ∈ X.ex\/X.s₀.heap.objs.size<=b)/\(∀ x c,X.env.cells.lookup x = some c->c≠b)/\∀ p ∈ X.pn ++ pins,p.1≠b
theorem Inv.fpOk{X:Cx}{a:List (Addr×Obj)}{σ:St}{H f:Hp}{s:Shared}{b:Addr}(I:Inv X a σ H s)(d:s.heap.objs.size<=b)(g:f b=none):gF X a f b:=by
 refine⟨g,Nat.ne_of_gt (Nat.lt_of_lt_of_le I.lt d),I.nofs d,.inr (Nat.le_trans I.sz d),λx c e z=>?_,λp hp z=>?_⟩
 .obtain⟨v,q⟩:=I.cell x c e
  exact absurd (Nat.lt_of_lt_of_le q.lt (by rw[z];exact d)) (Nat.lt_irrefl _)
 .exact absurd (Nat.lt_of_lt_of_le (Heap.lt_size (I.pin p hp).1) (by rw[z];exact d)) (Nat.lt_irrefl _)
structure Turn(P:Program)(w:World)(K:Frag)(tg:Expr)(J:It)(fp:List Addr)(it:Addr)(tn:Nat->Heap->Prop):Prop where
 mem:it∈fp
 obj:∀ i h,tn i h->∀ b∈fp,∃ o,h.get? b=some o/\∀ v,o.data≠.cell v
 keep:∀ i h h',tn i h->(∀ b∈fp,∀ o,h.get? b=some o->h'.get? b=some o)->tn i h'
 item:∀(X:Cx),X.prog=P->X.w=w->X.K=K->X.calm=true->∀(i:Nat) (pins:List (Addr×Obj)) (s:Shared) (σ:St) (H:Hp) (E:Value->Shared->Prop),Inv X pins σ H s->(∀ b∈fp,gF X pins H b)->tn i s.heap->J.go i H ->
  wpAny (model P w) X.A (pyNext (.ref it)) (λr s1=>∃ u,r=some u /\
   wpAny (model P w) X.A (letOwnedTupleGo tg (.ref it) u) (λ_ s2=>∃ x H',Inv X pins σ H' s2/\RelV x u/\J.yld i H x H'/\tn (i+1) s2.heap/\∀ b∈fp,H' b=none) E s1) E s
 done:∀(X:Cx),X.prog=P->X.w=w->X.K=K->X.calm=true->∀(i:Nat) (pins:List (Addr×Obj)) (s:Shared) (σ:St) (H:Hp) (E:Value->Shared->Prop),Inv X pins σ H s->(∀ b∈fp,gF X pins H b)->tn i s.heap->J.stop i H ->
  wpAny (model P w) X.A (pyNext (.ref it)) (λr s1=>r=none/\Inv X pins σ H s1) E s
 self:∀(A:Around) (i:Nat) (s:Shared) (Q:Value->Shared->Prop) (E:Value->Shared->Prop),tn i s.heap->Q (.ref it) s->wpAny (model P w) A (pyIter (.ref it)) Q E s
abbrev TI:=St->Hp->(It->Hp->Prop)->Prop
def PIE(X:Cx)(pins:List (Addr×Obj))(σ:St)(tg:Expr)(R:It->Hp->Prop)(itv:Value)(s2:Shared):Prop :=
 ∃(it:Addr) (fp:List Addr) (tn:Nat->Heap->Prop) (J:It) (H':Hp),itv=.ref it/\Inv X pins σ H' s2/\Turn X.prog X.w X.K tg J fp it tn/\tn 0 s2.heap/\(∀ b∈fp,gF X pins H' b)/\R J H'
def PI(X:Cx)(tg iter:Expr)(wi:TI):Prop :=
 ∀(pins:List (Addr×Obj)) (s:Shared) (σ:St) (H:Hp) (R:It->Hp->Prop),Inv X pins σ H s->wi σ H R ->
  wpAny (model X.prog X.w) X.A (eval iter X.env) (λv s1=>wpAny (model X.prog X.w) X.A (pyIter v) (PIE X pins σ tg R) X.xe s1) X.xe s
theorem mG{M:Model}{A:Around}{E:Value->Shared->Prop}{s:Shared}{tg:Expr}{b:Addr}{u:Value}{o:Obj}{n:String}{vs:Array Value}{Q:Unit->Shared->Prop}(g:s.heap.get? b=some o)(f:o.cls=.type n)(d:o.data=.fields vs)
  (c:["enumerate","zip","dict_itemiterator","dict_reverseitemiterator","odict_iterator","itertools.zip_longest","itertools.pairwise"].contains n=false) (a:Q () s):wpAny M A (letOwnedTupleGo tg (.ref b) u) Q E s:=by
 unfold letOwnedTupleGo
 cases tg <;> first
  | exact wpAny_pure a
  | (cases u <;> first
    | exact wpAny_pure a
    | (refine wpAny_bind (wpAny_load g ?_)
       rw[f,d];show wpAny M A (if (["enumerate","zip","dict_itemiterator","dict_reverseitemiterator","odict_iterator","itertools.zip_longest","itertools.pairwise"].contains n && vs[0]? == some (rawInt _))=true then _ else _) Q E s;rw[if_neg (by intro h;rw[c,Bool.false_and]at h;cases h)]
       exact wpAny_pure a))
def Itl(K:Frag)(a:Addr):It :=
 ⟨λi H=>∃ xs x,SqL K H a xs/\xs[i]? = some x,λi H x H'=>H'=H/\∀ xs,SqL K H a xs->xs[i]? = some x,λi H=>∃ xs,SqL K H a xs/\xs.length<=i⟩
def Itt(K:Frag)(a:Addr):It :=
 ⟨λi H=>∃ xs x,SqT K H a xs/\xs[i]? = some x,λi H x H'=>H'=H/\∀ xs,SqT K H a xs->xs[i]? = some x,λi H=>∃ xs,SqT K H a xs/\xs.length<=i⟩
def Itr(lo:Int)(n:Nat):It:=⟨λi _=>i<n,λi H x H'=>H'=H/\x=.int (lo+i),λi _=>n<=i⟩
theorem rq{P:Program}{w:World}{K:Frag}{tg:Expr}(a l:Addr):Turn P w K tg (Itl K a) [l] l (λi h=>h.IsListIter l a i) where
 mem:=by simp
 obj:=λi h f b j=>by
  have e:b=l:=by simpa using j
  subst e;obtain⟨o,e,c,d⟩:=f;exact⟨o,e,λv z=>by rw[d]at z;cases z⟩
 keep:=λi h r f k=>f.at λo e=>k l (by simp) o e
 item:=by
  intro X A M D T i g s S H E I q f L;subst A M D;obtain⟨xs,x,y,G⟩:=L;obtain⟨Q,F,p,W⟩:=I.list y;obtain⟨u,hu,Z⟩:=F.get G;obtain⟨R,O,f2,C,B,N⟩:=q l (by simp);refine wpAny_pyNext_list_item f p.isList (x:=u) (by simpa using hu) λr n sb=>?_
  have Y:Inv X g S H { s with heap:=r }:=I.turned (t':=s.toks) (λb o j e=>(sb.2 b j).trans e) R O C B N;obtain⟨o,e,c,d⟩:=id n;exact⟨u,rfl,mG (s:={ s with heap:=r }) e c d (by decide) ⟨x,H,Y,Z,⟨rfl,λys hy=>by rw[I.list_inj hy y];exact G⟩,n,λb j=>(q b j).1⟩⟩
 done:=by
  intro X A M D T i g s S H E I q f L;subst A M D;obtain⟨xs,y,G⟩:=L;obtain⟨Q,F,p,W⟩:=I.list y;obtain⟨R,O,f2,C,B,N⟩:=q l (by simp);have hl:=F.length
  exact wpAny_pyNext_list_end (I.ok.hd T) f p.isList (by simp;lia) λr eb=>⟨rfl,I.turned (t':=s.toks) (λb o j e=>eb b o j e) R O C B N⟩
 self:=λ_ _ _ _ _ f h=>wpAny_pyIter_listiter f h
theorem oO{P:Program}{w:World}{K:Frag}{tg:Expr}(a l:Addr):Turn P w K tg (Itt K a) [l] l (λi h=>h.IsTupleIter l a i) where
 mem:=by simp
 obj:=λi h f b j=>by
  have e:b=l:=by simpa using j
  subst e;obtain⟨o,e,c,d⟩:=f;exact⟨o,e,λv z=>by rw[d]at z;cases z⟩
 keep:=λi h y f k=>f.at λo e=>k l (by simp) o e
 item:=by
  intro X B N F T i g s S H E I r f M;subst B N F;obtain⟨xs,x,A,L⟩:=M;obtain⟨n,G,p,W⟩:=I.tuple A;obtain⟨u,hu,Z⟩:=G.get L;obtain⟨R,Q,f2,D,C,O⟩:=r l (by simp);refine wpAny_pyNext_tuple_item f (show s.heap.IsTuple a n.toArray from p) (x:=u) (by simpa using hu) λy q sb=>?_
  have Y:Inv X g S H { s with heap:=y }:=I.turned (t':=s.toks) (λb o j e=>(sb.2 b j).trans e) R Q D C O;obtain⟨o,e,c,d⟩:=id q;exact⟨u,rfl,mG (s:={ s with heap:=y }) e c d (by decide) ⟨x,H,Y,Z,⟨rfl,λys hy=>by rw[I.tuple_inj hy A];exact L⟩,q,λb j=>(r b j).1⟩⟩
 done:=by
  intro X B N F T i g s S H E I r f M;subst B N F;obtain⟨xs,A,L⟩:=M;obtain⟨n,G,p,W⟩:=I.tuple A;obtain⟨R,Q,f2,D,C,O⟩:=r l (by simp);have hl:=G.length
  exact wpAny_pyNext_tuple_end (I.ok.hd T) f (show s.heap.IsTuple a n.toArray from p) (by simp;lia) λy eb=>⟨rfl,I.turned (t':=s.toks) (λb o j e=>eb b o j e) R Q D C O⟩
 self:=λ_ _ _ _ _ f h=>wpAny_pyIter_tupleiter f h
theorem oH{P:Program}{w:World}{K:Frag}{tg:Expr}(d:Addr)(lo:Int)(n:Nat):Turn P w K tg (Itr lo n) [d] d (λi h=>IsRangeIter h d (lo+(i:Nat)*1) ((n:Int) - (i:Nat)) 1) where
 mem:=by simp
 obj:=λi h a b f=>by
  have e:b=d:=by simpa using f
  subst e
  exact⟨_,a,λv z=>by
   have O:Data.fields _=Data.cell v:=z
   cases O⟩
 keep:=λi h l a k=>k d (by simp) _ a
 item:=by
  intro X p y u C i c s F H E I j a x;subst p y u;obtain⟨D,B,N,r,q,A⟩:=j d (by simp);have W:=Walks.range (prog:=X.prog) (w:=X.w) (I.ok.hd C) d lo 1 n;refine W.item i s _ _ x a λv l G R g M=>?_
  obtain⟨t,rfl⟩:=R;have L:Inv X c F H { s with heap:=l,toks:=G }:=I.turned (λb o f e=>M b o (by simpa using f) e) D B r q A;refine⟨_,rfl,mG (s:={ s with heap:=l,toks:=G }) (n := "range_iterator") g rfl rfl (by decide) ⟨.int (lo+i),H,L,⟨t,?_⟩,⟨rfl,rfl⟩,g,λb f=>(j b f).1⟩⟩;rw[Int.mul_one]
 done:=by
  intro X p y u C i c s F H E I j a x;subst p y u;obtain⟨D,B,N,r,q,A⟩:=j d (by simp)
  exact wpAny_pyNext_range_end (I.ok.hd C) a (by have:n<=i:=x;lia) λl Q=>⟨rfl,I.turned (t':=s.toks) (λb o f e=>Q b o f e) D B r q A⟩
 self:=λ_ _ _ _ _ a h=>wpAny_pyIter_rangeiter a h
section
variable {X:Cx}{tg:Expr}
theorem uM{c:List (Addr×Obj)}{σ:St}{H:Hp}{s:Shared}{R:It->Hp->Prop}{E:Value->Shared->Prop}{lo a:Int}{t u v:Tok}{tk:Nat}(I:Inv X c σ H s)(i:-(2 ^ 62)<=lo)(h2:lo<2 ^ 62)(f:-(2 ^ 62)<=a)(j:a<2 ^ 62)
  (q:R (Itr lo (a - lo).toNat) H):wpAny (model X.prog X.w) X.A (pyIter (.ref s.heap.objs.size)) (PIE X c σ tg R) E { s with heap:=s.heap.push { cls:=.type "range",data:=.fields #[.int lo t,.int a u,.int 1 v] },toks:=tk }:=by
 refine wpAny_pyIter_range (IsRange.new ..) (small_one i h2 f j) ?_;have d:Inv X c σ H { s with heap:=s.heap.push { cls:=.type "range",data:=.fields #[.int lo t,.int a u,.int 1 v] },toks:=tk }:=I.kept λb o e=>Heap.get?_push_of_some _ e
 refine⟨(s.heap.push { cls:=.type "range",data:=.fields #[.int lo t,.int a u,.int 1 v] }).objs.size,[(s.heap.push { cls:=.type "range",data:=.fields #[.int lo t,.int a u,.int 1 v] }).objs.size],_,_,H,rfl,
  d.kept (t':=tk) λb o e=>Heap.get?_push_of_some _ e,oH _ lo (a - lo).toNat,?_,λb hb=>?_,q⟩
 .have h:lo+((0:Nat):Int)*1=lo:=by simp
  have g:(((a - lo).toNat:Nat):Int) - ((0:Nat):Int)=Builtin.Range.rangeSize lo a 1:=by rw[rangeSize_one];split <;> lia
  show IsRangeIter _ _ (lo+((0:Nat):Int)*1) ((((a - lo).toNat:Nat):Int) - ((0:Nat):Int)) 1;rw[h,g];exact Heap.get?_push_size _ rfl
 .have e:b=(s.heap.push { cls:=.type "range",data:=.fields #[.int lo t,.int a u,.int 1 v] }).objs.size:=by simpa using hb
  subst e;exact d.fpOk (Nat.le_refl _) (d.hok.fresh (Nat.le_refl _))
def zU(ta:TA):TI:=λσ H R=>ta σ H λvs H1=>∃ j:Int,vs=[.int j]/\-(2 ^ 62)<=j/\j<2 ^ 62/\R (Itr 0 j.toNat) H1
theorem eF{a:Expr}{f:TA}{p c:Pos}(n:Gl X "range")(i:X.mg "range" = none)(k:PA X [a] f)(g:starEach [a] X.env=[(false,eval a X.env)]:=by rfl):PI X tg (.Call (.Name "range" p) [a] [] c) (zU f):=by
 intro b s u H R I h;refine Call_ (jd I n i boot_range (PyProof.Rows.callWith_type1 (thn (k c b s u H _ I h) λx z ⟨y,w,v,l,d⟩=>?_) g rfl));obtain⟨j,e,d,o,q⟩:=d;subst e;cases l with
 | cons r rr =>
  cases rr;obtain⟨t,rfl⟩:=r;exact call_range_1 (uM v (by lia) (by lia) d o (by simpa using q))
def AB(wi:TI)(g:TG)(tb:TS):TS:=λD σ H=>wi σ H λJ H1=>∃ W:Nat->Nat->St->Hp->Prop,(∃ m,W 0 m σ H1)/\∀ i m σ H,W i m σ H ->
 (J.stop i H/\D.nx σ H)\/(J.go i H/\∃ N:St->Hp->Prop,(∀ σ' H',N σ' H'->∃ m',m'<m/\W (i+1) m' σ' H')/\∀ x H',J.yld i H x H'->g x σ H' λσ2 H2=>tb { D with nx:=N,ct:=N,bk:=D.nx } σ2 H2)
def jn(fp:List Addr)(h:Heap):List (Addr×Obj):=fp.filterMap λb=>(h.get? b).map λo=>(b,o)
theorem eQ{a:List Addr}{h:Heap}{b:Addr}{o:Obj}(c:b∈a)(e:h.get? b=some o):(b,o)∈jn a h:=List.mem_filterMap.mpr ⟨b,c,by rw[e];rfl⟩
theorem ss{a:List Addr}{h:Heap}{p:Addr×Obj}(c:p∈jn a h):p.1∈a/\h.get? p.1=some p.2:=by
 obtain⟨b,d,e⟩:=List.mem_filterMap.mp c;cases q:h.get? b with
 | none=>rw[q]at e;cases e
 | some o =>
  rw[q]at e;have f:(b,o)=p:=Option.some.inj e;subst f;exact⟨d,q⟩
theorem Inv.pinned{a:List (Addr×Obj)}{σ:St}{H:Hp}{s:Shared}{c:List Addr}(I:Inv X a σ H s)(i:∀ b∈c,gF X a H b)(l:∀ b∈c,∃ o,s.heap.get? b=some o/\∀ v,o.data≠.cell v):Inv X (a++jn c s.heap) σ H s :=
 I.pins_of λp n=>(mem_append.mp n).elim (λz=>I.pin p (mem_append_right _ z)) λz=>by
  obtain⟨g,e⟩:=ss z;obtain⟨k,h,j,_⟩:=i p.1 g;obtain⟨o,f,d⟩:=l p.1 g;rw[e]at f;cases f;exact⟨e,k,h,j,d⟩
theorem Inv.unpinned{a pl:List (Addr×Obj)}{σ:St}{H:Hp}{s:Shared}(I:Inv X (a++pl) σ H s):Inv X a σ H s:=I.pins_of λp b=>I.pin p (mem_append_right _ (mem_append_left _ b))
theorem fK{q:Expr}{body:List Stmt}{wi:TI}{g:TG}{tb:TS}{Z:Pos}(M:PassesOwn (model X.prog X.w) X.A X.env X.xe)(hc:X.calm=true)(hi:PI X tg q wi)(hg:PG X tg g)(j:PSs X body tb)
  (hs:∀ x,foldedSetIterable q X.env x=pure x:=by intro _;rfl):PS X (.For tg q body [] Z) (AB wi g tb):=by
 intro c s σ H D I h;refine wpAny_For (thn (hi c s σ H _ I h) λv s1 h1=>thn h1 λitv s2 h2=>?_) hs;obtain⟨it,B,tn,J,H2,e,I2,T,Q,f2,W,⟨m0,w0⟩,F⟩:=h2;subst e
 have l:∀{H':Hp},(∀ b∈B,H' b=none)->∀ b∈B,gF X c H' b:=λhn b j=>⟨hn b j,(f2 b j).2⟩
 refine codeAny_forLoop_any (λn s'=>∃ i σ' H',Inv X c σ' H' s'/\tn i s'.heap/\(∀ b∈B,H' b=none)/\W i n σ' H') ?_ m0 ⟨0,σ,H2,I2,Q,λb j=>(f2 b j).1,w0⟩;rintro n s3 ⟨i,w,O,I3,L,C,w3⟩
 rcases F i n w O w3 with⟨E,qn⟩ | ⟨go,N,hN,K⟩
 .refine wpAny_passesOwn M (thn (T.done X rfl rfl rfl hc i c s3 w O X.xe I3 (l C) L E) λr s4 ⟨R,I4⟩=>?_)
  subst R;exact wpAny_execs_nil ⟨w,O,I4,qn⟩
 .refine wpAny_passesOwn M (thn (T.item X rfl rfl rfl hc i c s3 w O X.xe I3 (l C) L go) λr s4 ⟨u,R,h4⟩=>?_)
  subst R;refine wpAny_passesOwn M (thn h4 λ_ s5 ⟨x,H5,I5,r5,y5,A,ab⟩=>?_);have S:=I5.pinned (l ab) (T.obj _ _ A);refine wpAny_passesOwn M (thn (hg _ s5 w H5 x u _ S r5 (K x H5 y5)) λ_ s6 ⟨Y,H6,I6,q6⟩=>?_);refine wpAny_passesOwn M (thn (j _ s6 Y H6 _ I6 q6) λf P z=>?_)
  have y:∀{a:St}{p:Hp},Inv X (c++jn B s5.heap) a p P->N a p->∃ m,m<n/\∃ i σ' H',Inv X c σ' H' P/\tn i P.heap/\(∀ b∈B,H' b=none)/\W i m σ' H':=λ{a p} k G=>by
   obtain⟨m',hm,w7⟩:=hN a p G;refine⟨m',hm,i+1,a,p,k.unpinned,T.keep _ _ _ A λb j o e=>(k.pin (b,o) (mem_append_right _ (mem_append_right _ (eQ j e)))).1,λb j=>?_,w7⟩;obtain⟨o,e,d⟩:=T.obj _ _ A b j;exact(k.pin (b,o) (mem_append_right _ (mem_append_right _ (eQ j e)))).2.1
  cases f with
  | next=>obtain⟨a,p,k,G⟩:=z;exact y k G
  | cont=>obtain⟨a,p,k,G⟩:=z;exact y k G
  | brk=>obtain⟨a,p,k,z⟩:=z;exact⟨a,p,k.unpinned,z⟩
  | ret v=>obtain⟨x7,a,p,k,r7,z⟩:=z;exact⟨x7,a,p,k.unpinned,r7,z⟩
end
theorem jh{K:Frag}{a:Addr}{xs:List V}{g:TG}{c:TS}{D:Ends}{σ:St}{H:Hp}(b:Nat->St->Hp->Prop)(d:b 0 σ H)(l:∀ i σ H,i<=xs.length->b i σ H->SqL K H a xs)
  (f:∀ i x σ H,xs[i]? = some x->b i σ H->g x σ H λσ2 H2=>c { D with nx:=b (i+1),ct:=b (i+1),bk:=D.nx } σ2 H2) (k:∀ σ H,b xs.length σ H->D.nx σ H) :
  ∃ W:Nat->Nat->St->Hp->Prop,(∃ m,W 0 m σ H)/\∀ i m σ H,W i m σ H ->
   ((Itl K a).stop i H/\D.nx σ H)\/((Itl K a).go i H/\∃ N:St->Hp->Prop,(∀ σ' H',N σ' H'->∃ m',m'<m/\W (i+1) m' σ' H')/\∀ x H',(Itl K a).yld i H x H'->g x σ H' λσ2 H2=>c { D with nx:=N,ct:=N,bk:=D.nx } σ2 H2):=by
 refine⟨λi m σ H=>m=xs.length - i/\i<=xs.length/\b i σ H,⟨xs.length,by simp,Nat.zero_le _,d⟩,?_⟩;rintro i m σ H ⟨rfl,j,p⟩;have q:=l i σ H j p
 by_cases hlt:i<xs.length
 .refine .inr ⟨⟨xs,xs[i],q,by simp[hlt]⟩,b (i+1),λσ' H' h=>⟨xs.length - (i+1),by lia,rfl,hlt,h⟩,λx H' y=>?_⟩
  obtain⟨e,y⟩:=y;subst e;exact f i x σ _ (y xs q) p
 .have e:i=xs.length:=by lia
  subst e;exact .inl ⟨⟨xs,q,Nat.le_refl _⟩,k σ H p⟩
theorem iw{lo:Int}{n:Nat}{g:TG}{b:TS}{D:Ends}{σ:St}{H:Hp}(a:Nat->St->Hp->Prop)(c:a 0 σ H)
  (d:∀ i σ H,i<n->a i σ H->g (.int (lo+i)) σ H λσ2 H2=>b { D with nx:=a (i+1),ct:=a (i+1),bk:=D.nx } σ2 H2) (h:∀ σ H,a n σ H->D.nx σ H) :
  ∃ W:Nat->Nat->St->Hp->Prop,(∃ m,W 0 m σ H)/\∀ i m σ H,W i m σ H ->
   ((Itr lo n).stop i H/\D.nx σ H)\/((Itr lo n).go i H/\∃ N:St->Hp->Prop,(∀ σ' H',N σ' H'->∃ m',m'<m/\W (i+1) m' σ' H')/\∀ x H',(Itr lo n).yld i H x H'->g x σ H' λσ2 H2=>b { D with nx:=N,ct:=N,bk:=D.nx } σ2 H2):=by
 refine⟨λi m σ H=>m=n - i/\i<=n/\a i σ H,⟨n,by simp,Nat.zero_le _,c⟩,?_⟩;rintro i m σ H ⟨rfl,j,p⟩
 by_cases hlt:i<n
 .refine .inr ⟨hlt,a (i+1),λσ' H' f=>⟨n - (i+1),by lia,rfl,hlt,f⟩,λx H' y=>?_⟩
  obtain⟨e,y⟩:=y;subst e y;exact d i σ _ hlt p
 .have e:i=n:=by lia
  subst e;exact .inl ⟨Nat.le_refl _,h σ H p⟩
abbrev R2:=V->V->Hp->VK->Prop
def OpR(X:Cx)(f:Value->Value->Sem Value)(r:R2):Prop :=
 ∀(pins:List (Addr×Obj)) (s:Shared) (σ:St) (H:Hp) (x y:V) (v u:Value) (Q:VK),Inv X pins σ H s->RelV x v->RelV y u->r x y H Q ->
  wpAny (model X.prog X.w) X.A (f v u) (EP X pins σ Q) X.xe s
def UnR(X:Cx)(f:Value->Sem Value)(r:V->Hp->VK->Prop):Prop :=
 ∀(pins:List (Addr×Obj)) (s:Shared) (σ:St) (H:Hp) (x:V) (v:Value) (Q:VK),Inv X pins σ H s->RelV x v->r x H Q ->
  wpAny (model X.prog X.w) X.A (f v) (EP X pins σ Q) X.xe s
def CallR(X:Cx)(f:Value)(r:List V->Hp->VK->Prop):Prop :=
 ∀(pins:List (Addr×Obj)) (s:Shared) (σ:St) (H:Hp) (xs:List V) (us:List Value) (Q:VK),Inv X pins σ H s->Vals xs us->r xs H Q ->
  wpAny (model X.prog X.w) X.A (call f us) (EP X pins σ Q) X.xe s
def AO(X:Cx)(r:V->Hp->(Bool->Hp->Prop)->Prop):Prop :=
 ∀(pins:List (Addr×Obj)) (s:Shared) (σ:St) (H:Hp) (x:V) (v:Value) (Q:Bool->Hp->Prop),Inv X pins σ H s->RelV x v->r x H Q ->
  wpAny (model X.prog X.w) X.A (truthy v) (TP X pins σ Q) X.xe s
def tOp(r:R2)(ta tb:TE):TE:=λσ H Q=>ta σ H λx H1=>tb σ H1 λy H2=>r x y H2 Q
def tUn(r:V->Hp->VK->Prop)(ta:TE):TE:=λσ H Q=>ta σ H λx H1=>r x H1 Q
def rI(C:Int->Int->Prop)(g:Int->Int->V):R2:=λx y H Q=>∃ i j,x=.int i/\y=.int j/\C i j/\Q (g i j) H
def rI0(g:Int->Int->V):R2:=λx y H Q=>∃ i j,x=.int i/\y=.int j/\Q (g i j) H
def rU(g:Int->V):V->Hp->VK->Prop:=λx H Q=>∃ i,x=.int i/\Q (g i) H
section
variable {X:Cx}{a b c:Expr}{ta tb tc:TE}{pos:Pos}
theorem xU(d:PE X a ta)(i:PE X b tb){c:List (Addr×Obj)}{s:Shared}{σ:St}{H:Hp}{R:V->V->Hp->Prop}(I:Inv X c σ H s)
  (h:ta σ H λx H1=>tb σ H1 λy H2=>R x y H2){Q:Value->Shared->Prop}{f:Value->Value->Sem Value}
  (l:∀ v u s2 x y H2,Inv X c σ H2 s2->RelV x v->RelV y u->R x y H2->wpAny (model X.prog X.w) X.A (f v u) Q X.xe s2) :
  wpAny (model X.prog X.w) X.A (eval a X.env) (λv s₁=>wpAny (model X.prog X.w) X.A (eval b X.env) (λu s₂=>wpAny (model X.prog X.w) X.A (f v u) Q X.xe s₂) X.xe s₁) X.xe s:=by
 refine thn (d c s σ H _ I h) λv n ⟨x,H1,q,j,k⟩=>?_
 refine thn (i c n σ H1 _ q k) λu s2 ⟨y,H2,g,p,o⟩=>?_
 exact l v u s2 x y H2 g j p o
theorem ar{op:Operator}{r:R2}(o:OpR X (binaryOp op) r)(d:PE X a ta)(g:PE X b tb):PE X (.BinOp a op b pos) (tOp r ta tb):=by
 intro c s l H Q I h;exact wpAny_BinOp (xU d g I h λv u n x y j f k i q=>o c n l j x y v u Q f k i q)
theorem qN{op:UnaryOp}{r:V->Hp->VK->Prop}(l:UnR X (unaryOp op) r)(f:PE X a ta):PE X (.UnaryOp op a pos) (tUn r ta):=by
 intro b s c H Q I h;exact UnaryOp_ (thn (f b s c H _ I h) λv j ⟨x,d,k,g,i⟩=>l b j c d x v Q k g i)
theorem opI{f:Value->Value->Sem Value}{C:Int->Int->Prop}{g:Int->Int->Int}
  (a:∀(i j:Int) (t u:Tok) (s:Shared) (Q:Value->Shared->Prop) (E:Value->Shared->Prop),C i j->Q (.int (g i j) s.toks) { s with toks:=s.toks+1 }->wpAny (model X.prog X.w) X.A (f (.int i t) (.int j u)) Q E s) :
  OpR X f (rI C λi j=>.int (g i j)):=by
 intro b s n H x y v u Q I l c h;obtain⟨i,j,rfl,rfl,d,q⟩:=h;obtain⟨t,rfl⟩:=l;obtain⟨k,rfl⟩:=c;exact a i j t k s _ _ d ⟨.int (g i j),H,I.tok _,⟨_,rfl⟩,q⟩
theorem yb{f:Value->Value->Sem Value}{g:Int->Int->Int}
  (a:∀(i j:Int) (t u:Tok) (s:Shared) (Q:Value->Shared->Prop) (E:Value->Shared->Prop),Q (.int (g i j) s.toks) { s with toks:=s.toks+1 }->wpAny (model X.prog X.w) X.A (f (.int i t) (.int j u)) Q E s) :
  OpR X f (rI0 λi j=>.int (g i j)):=by
 intro b s l H x y v u Q I k c h;obtain⟨i,j,rfl,rfl,q⟩:=h;obtain⟨t,rfl⟩:=k;obtain⟨d,rfl⟩:=c;exact a i j t d s _ _ ⟨.int (g i j),H,I.tok _,⟨_,rfl⟩,q⟩
theorem vW{f:Value->Value->Sem Value}{g:Int->Int->Bool}
  (a:∀(i j:Int) (t u:Tok) (s:Shared) (Q:Value->Shared->Prop) (E:Value->Shared->Prop),Q (.bool (g i j)) s->wpAny (model X.prog X.w) X.A (f (.int i t) (.int j u)) Q E s) :
  OpR X f (rI0 λi j=>.bl (g i j)):=by
 intro b s l H x y v u Q I k c h;obtain⟨i,j,rfl,rfl,q⟩:=h;obtain⟨t,rfl⟩:=k;obtain⟨d,rfl⟩:=c;exact a i j t d s _ _ ⟨.bl (g i j),H,I,rfl,q⟩
def AV(i j:Int):Prop:=0<j/\j<1073741824
def zj(i j:Int):Prop:=0<=j/\j<=1000000/\i.natAbs<2 ^ 64
def CMul(i j:Int):Prop:=(-(2 ^ 64)<i/\i<2 ^ 64)\/(-(2 ^ 64)<j/\j<2 ^ 64)
theorem CMul.ok{i j:Int}(h:CMul i j):IntMulOk i j:=by
 rcases h with⟨b,a⟩ | ⟨b,a⟩
 .exact .of_left (intBits_le_64 b a)
 .exact .of_right (intBits_le_64 b a)
theorem pC(k:Nat):(0:Int)<=2 ^ k:=by
 rw[two_pow_cast];exact Int.natCast_nonneg _
theorem op_add:OpR X (binaryOp .Add) (rI0 λi j=>.int (i+j)):=yb λ_ _ _ _ _ _ _ q=>add_int q
theorem op_sub:OpR X (binaryOp .Sub) (rI0 λi j=>.int (i - j)):=yb λ_ _ _ _ _ _ _ q=>sub_int q
theorem op_mod:OpR X (binaryOp .Mod) (rI (λ_ j=>0<j) λi j=>.int (i % j)):=opI λi j _ _ _ _ _ a q=>by
 have b:(0:Int)<j:=a;exact mod_int' (by lia) (by rw[Int.fmod_eq_emod_of_nonneg i (by lia)];exact q)
theorem op_shl:OpR X (binaryOp .LShift) (rI zj λi j=>.int (i*2 ^ j.toNat)):=opI λ_ _ _ _ _ _ _ a q=>lshift_int_small a.1 a.2.1 a.2.2 q
theorem op_shr:OpR X (binaryOp .RShift) (rI (λ_ j=>0<=j) λi j=>.int (i/2 ^ j.toNat)):=opI λi j _ _ _ _ _ a q =>
 rshift_int a (by rw[Int.fdiv_eq_ediv_of_nonneg i (pC _)];exact q)
theorem op_and:OpR X (binaryOp .BitAnd) (rI0 λi j=>.int (Builtin.bitAnd i j)):=yb λ_ _ _ _ _ _ _ q=>and_int q
theorem unI{f:Value->Sem Value}{g:Int->Int}
  (a:∀(i:Int) (t:Tok) (s:Shared) (Q:Value->Shared->Prop) (E:Value->Shared->Prop),Q (.int (g i) s.toks) { s with toks:=s.toks+1 }->wpAny (model X.prog X.w) X.A (f (.int i t)) Q E s) :
  UnR X f (rU λi=>.int (g i)):=by
 intro b s d H x v Q I c h;obtain⟨i,rfl,q⟩:=h;obtain⟨t,rfl⟩:=c;exact a i t s _ _ ⟨.int (g i),H,I.tok _,⟨_,rfl⟩,q⟩
theorem xK:UnR X (unaryOp .USub) (rU λi=>.int (-i)):=unI λ_ _ _ _ _ q=>neg_int q
end
def zi:V->V->Bool
 | .non,.non=>true | .non,.int _=>true | .int _,.non=>true | .non,.bl _=>true | .bl _,.non=>true | .non,.str _=>true | .str _,.non=>true
 | .int _,.int _=>true | .bl _,.bl _=>true | .str _,.str _=>true | .byt _,.byt _=>true
 | .int _,.str _=>true | .str _,.int _=>true | .bl _,.str _=>true | .str _,.bl _=>true
 | _,_=>false
def rEq:R2:=λx y H Q=>zi x y=true/\Q (.bl (decide (x=y))) H
def rNe:R2:=λx y H Q=>zi x y=true/\Q (.bl (!decide (x=y))) H
theorem i4{i j:Int}:decide (V.int i=V.int j)=(i == j):=by
 rw[Bool.eq_iff_iff];simp
theorem lN{i j:Bool}:decide (V.bl i=V.bl j)=(i == j):=by
 rw[Bool.eq_iff_iff];simp
theorem iW{i j:Str}:decide (V.str i=V.str j)=(i == j):=by
 rw[Bool.eq_iff_iff];simp
theorem qF{i j:Array UInt8}:decide (V.byt i=V.byt j)=(i.toList == j.toList):=by
 rw[Bool.eq_iff_iff];cases i;cases j;simp
section
variable {X:Cx}{a b c:Expr}{ta tb tc:TE}{pos:Pos}
theorem aS{a:List (Addr×Obj)}{σ:St}{H:Hp}{s:Shared}{Q:VK}{k b:Bool}(I:Inv X a σ H s)(q:Q (.bl k) H)(e:k=b):EP X a σ Q (.bool b) s:=by
 subst e;exact⟨.bl k,H,I,rfl,q⟩
theorem op_eq:OpR X (compareOp .Eq) rEq:=by
 intro f s g H x y v u Q I d a h;obtain⟨c,q⟩:=h;cases x with
 | non =>
  cases d;cases y with
  | non=>cases a;exact PySem.EqNone.eq_none_none (aS I q (by simp))
  | bl j=>cases a;exact PySem.EqNone.eq_none_bool (aS I q (by simp))
  | int j=>obtain⟨b,rfl⟩:=a;exact PySem.EqNone.eq_none_int (aS I q (by simp))
  | str j=>obtain⟨b,rfl⟩:=a;exact PySem.EqNone.eq_none_str (aS I q (by simp))
  | _=>exact absurd (show false=true from c) Bool.false_ne_true
 | bl i =>
  cases d;cases y with
  | non=>cases a;exact PySem.EqNone.eq_bool_none (aS I q (by simp))
  | bl j=>cases a;exact eq_bool (aS I q lN)
  | str j=>obtain⟨b,rfl⟩:=a;exact PySem.EqMixed.eq_bool_str (aS I q (by simp))
  | _=>exact absurd (show false=true from c) Bool.false_ne_true
 | int i =>
  obtain⟨t,rfl⟩:=d;cases y with
  | non=>cases a;exact PySem.EqNone.eq_int_none (aS I q (by simp))
  | int j=>obtain⟨b,rfl⟩:=a;exact eq_int (aS I q i4)
  | str j=>obtain⟨b,rfl⟩:=a;exact PySem.EqMixed.eq_int_str (aS I q (by simp))
  | _=>exact absurd (show false=true from c) Bool.false_ne_true
 | str i =>
  obtain⟨t,rfl⟩:=d;cases y with
  | non=>cases a;exact PySem.EqNone.eq_str_none (aS I q (by simp))
  | bl j=>cases a;exact PySem.EqMixed.eq_str_bool (aS I q (by simp))
  | int j=>obtain⟨b,rfl⟩:=a;exact PySem.EqMixed.eq_str_int (aS I q (by simp))
  | str j=>obtain⟨b,rfl⟩:=a;exact eq_str (aS I q iW)
  | _=>exact absurd (show false=true from c) Bool.false_ne_true
 | byt i =>
  obtain⟨t,rfl⟩:=d;cases y with
  | byt j=>obtain⟨b,rfl⟩:=a;exact PySem.W.eq_bytes (aS I q qF)
  | _=>exact absurd (show false=true from c) Bool.false_ne_true
 | _=>cases y <;> exact absurd (show false=true from c) Bool.false_ne_true
theorem op_ne:OpR X (compareOp .NotEq) rNe:=by
 intro f s g H x y v u Q I d a h;obtain⟨c,q⟩:=h;cases x with
 | non =>
  cases d;cases y with
  | non=>cases a;exact PySem.EqNone.ne_none_none (aS I q (by simp))
  | bl j=>cases a;exact PySem.EqNone.ne_none_bool (aS I q (by simp))
  | int j=>obtain⟨b,rfl⟩:=a;exact PySem.EqNone.ne_none_int (aS I q (by simp))
  | str j=>obtain⟨b,rfl⟩:=a;exact PySem.EqNone.ne_none_str (aS I q (by simp))
  | _=>exact absurd (show false=true from c) Bool.false_ne_true
 | bl i =>
  cases d;cases y with
  | non=>cases a;exact PySem.EqNone.ne_bool_none (aS I q (by simp))
  | bl j=>cases a;exact ne_bool (aS I q (congrArg not lN))
  | str j=>obtain⟨b,rfl⟩:=a;exact PySem.EqMixed.ne_bool_str (aS I q (by simp))
  | _=>exact absurd (show false=true from c) Bool.false_ne_true
 | int i =>
  obtain⟨t,rfl⟩:=d;cases y with
  | non=>cases a;exact PySem.EqNone.ne_int_none (aS I q (by simp))
  | int j=>obtain⟨b,rfl⟩:=a;exact ne_int (aS I q (congrArg not i4))
  | str j=>obtain⟨b,rfl⟩:=a;exact PySem.EqMixed.ne_int_str (aS I q (by simp))
  | _=>exact absurd (show false=true from c) Bool.false_ne_true
 | str i =>
  obtain⟨t,rfl⟩:=d;cases y with
  | non=>cases a;exact PySem.EqNone.ne_str_none (aS I q (by simp))
  | bl j=>cases a;exact PySem.EqMixed.ne_str_bool (aS I q (by simp))
  | int j=>obtain⟨b,rfl⟩:=a;exact PySem.EqMixed.ne_str_int (aS I q (by simp))
  | str j=>obtain⟨b,rfl⟩:=a;exact ne_str (aS I q (congrArg not iW))
  | _=>exact absurd (show false=true from c) Bool.false_ne_true
 | byt i =>
  obtain⟨t,rfl⟩:=d;cases y with
  | byt j=>obtain⟨b,rfl⟩:=a;exact PySem.W.ne_bytes (aS I q (congrArg not qF))
  | _=>exact absurd (show false=true from c) Bool.false_ne_true
 | _=>cases y <;> exact absurd (show false=true from c) Bool.false_ne_true
theorem op_lt:OpR X (compareOp .Lt) (rI0 λi j=>.bl (decide (i<j))):=vW λ_ _ _ _ _ _ _ q=>lt_int q
theorem op_le:OpR X (compareOp .LtE) (rI0 λi j=>.bl (decide (i<=j))):=vW λ_ _ _ _ _ _ _ q=>le_int q
theorem op_gt:OpR X (compareOp .Gt) (rI0 λi j=>.bl (decide (j<i))):=vW λ_ _ _ _ _ _ _ q=>gt_int q
theorem op_ge:OpR X (compareOp .GtE) (rI0 λi j=>.bl (decide (j<=i))):=vW λ_ _ _ _ _ _ _ q=>ge_int q
theorem rR:OpR X (compareOp .Lt) (λx y H Q=>∃ i j,x=.str i/\y=.str j/\Q (.bl (decide (i.cps.toList<j.cps.toList))) H):=by
 intro a s d H x y v u Q I c b h;obtain⟨i,j,rfl,rfl,q⟩:=h;obtain⟨t,rfl⟩:=c;obtain⟨f,rfl⟩:=b;exact lt_str (aS I q rfl)
theorem op_in_str:OpR X (compareOp .In) (λx y H Q=>∃ i j,x=.str i/\y=.str j/\Q (.bl (!(Builtin.Str.occurrences j i 0 j.length 1).isEmpty)) H):=by
 intro a s d H x y v u Q I c b h;obtain⟨i,j,rfl,rfl,q⟩:=h;obtain⟨t,rfl⟩:=c;obtain⟨f,rfl⟩:=b;exact in_str (aS I q rfl)
theorem OpR.or{f:Value->Value->Sem Value}{r c:R2}(h:OpR X f r)(h':OpR X f c):OpR X f (λx y H Q=>r x y H Q\/c x y H Q):=by
 intro a s d H x y v u Q I g b q
 rcases q with q | q
 .exact h a s d H x y v u Q I g b q
 .exact h' a s d H x y v u Q I g b q
theorem au(b:Expr){op:CmpOp}(h:op≠.In:=by decide)(h2:op≠.NotIn:=by decide):behindInMarks op b=false:=by
 have a:(op == CmpOp.In)=false:=by cases op <;> first | rfl | exact absurd rfl h
 have c:(op == CmpOp.NotIn)=false:=by cases op <;> first | rfl | exact absurd rfl h2
 cases b <;> simp[behindInMarks,a,c]
theorem bz{op:CmpOp}{r:R2}(p:OpR X (compareOp op) r)(f:PE X a ta)(i:PE X b tb)(d:behindInMarks op b=false):PE X (.Compare a [op] [b] pos) (tOp r ta tb):=by
 intro c s n H Q I h;exact wpAny_Compare1 (xU f i I h λv u o x y k g l j q=>p c o n k x y v u Q g l j q) d
def As(K:Frag)(x:V)(H:Hp)(k:Bool):Prop :=
 match x with
 | .non=>k=false
 | .bl b=>k=b
 | .int i=>k=(i != 0)
 | .str y=>y.length<=sizeLine/\k=((y.length:Int) != 0)
 | .byt y=>y.size<=sizeLine/\k=((y.size:Int) != 0)
 | .ref p=>(∃ xs,SqL K H p xs/\k = !xs.isEmpty)\/(∃ xs,SqT K H p xs/\k = !xs.isEmpty)\/∃ kvs,H p=some (.dK kvs)/\k = !kvs.isEmpty
 | _=>False
theorem pd{κ:Type}{a:List (κ×V)}{vs:List (κ×Value)}(r:KV a vs):(!vs.isEmpty) = !a.isEmpty:=by
 cases r <;> rfl
theorem jD{xs:List V}{its:List Value}(r:Vals xs its):(!its.toArray.isEmpty) = !xs.isEmpty:=by
 cases r <;> simp
theorem gD:(sizeLine:Nat)<2 ^ 63:=by rw[sizeLine_eq];decide
theorem yP:AO X (λx H Q=>∃ k,As X.K x H k/\Q k H):=by
 intro o s A H x v Q I g h;obtain⟨k,e,q⟩:=h;have z:=gD;have w:sizeLine=16777216:=sizeLine_eq;cases x with
 | non =>
  cases g;have a:k=false:=e;subst a;exact truthy_none ⟨H,I,q⟩
 | bl b =>
  cases g;have a:k=b:=e;subst a;exact wpAny_truthy_bool ⟨H,I,q⟩
 | int i =>
  obtain⟨t,rfl⟩:=g;have a:k=(i != 0):=e;subst a;exact PySem.P.truthy_int ⟨H,I,q⟩
 | str y =>
  obtain⟨t,rfl⟩:=g;obtain⟨hy,a⟩:y.length<=sizeLine/\k=((y.length:Int) != 0):=e;subst a;exact PySem.P.truthy_str (by lia) ⟨H,I.tok _,q⟩
 | byt y =>
  obtain⟨t,rfl⟩:=g;obtain⟨hy,a⟩:y.size<=sizeLine/\k=((y.size:Int) != 0):=e;subst a;exact PySem.W.truthy_bytes (by lia) ⟨H,I.tok _,q⟩
 | ref p =>
  cases g;have a:(∃ f,SqL X.K H p f/\k = !f.isEmpty)\/(∃ f,SqT X.K H p f/\k = !f.isEmpty)\/∃ c,H p=some (.dK c)/\k = !c.isEmpty:=e
  rcases a with⟨f,j,a⟩ | ⟨f,j,a⟩ | ⟨c,j,a⟩
  .subst a
   obtain⟨n,r,l,u⟩:=I.list j;have d:=r.length;exact wpAny_truthy_list l.isList (by simp only[size_toArray];lia) ⟨H,I.tok _,by rw[jD r];exact q⟩
  .subst a
   obtain⟨n,r,l,u⟩:=I.tuple j;have d:=r.length;exact truthy_tuple l (by simp only[size_toArray];lia) ⟨H,I.tok _,by rw[jD r];exact q⟩
  .subst a
   obtain⟨u,hS,vs,r,m⟩:c.length<=sizeLine/\(p == sysModules)=false/\∃ vs,KV c vs/\s.heap.DictOf (bZ X.prog X.w) p vs:=I.hok p _ j;have d:c.length=vs.length:=Paired.length r;exact wpAny_truthy_dict hS m (by lia) ⟨H,I.tok _,by rw[pd r];exact q⟩
 | _=>exact(show False from e).elim
theorem nU(f:PE X a ta)(c:∀ whole,isTrue a X.env whole=(do let v <- whole;standAt a.pos;holding [v] (truthy v))) :
  PT X a (λσ H Q=>ta σ H λx H'=>∃ k,As X.K x H' k/\Q k H'):=by
 intro b s σ H Q I h;exact isTrue_plain (thn (f b s σ H _ I h) λv j ⟨x,d,l,g,i⟩=>yP b j σ d x v Q l g i) (c _)
theorem oY:OpR X (binaryOp .Add) (λx y H Q=>∃ i j,x=.str i/\y=.str j/\i.length+j.length<=sizeLine/\Q (.str (i++j)) H):=by
 intro a s g H x y v u Q I f b h;obtain⟨i,j,rfl,rfl,c,q⟩:=h;obtain⟨t,rfl⟩:=f;obtain⟨d,rfl⟩:=b;exact add_str (λd k=>⟨.str (i++j),H,I.tok _,⟨_,rfl⟩,q⟩) c
theorem cV{x:V}{us:List Value}(r:Vals [x] us):∃ u,us=[u]/\RelV x u:=by
 cases r with
 | cons r1 r2=>cases r2;exact⟨_,rfl,r1⟩
theorem uj{x y:V}{us:List Value}(r:Vals [x,y] us):∃ u w',us=[u,w']/\RelV x u/\RelV y w':=by
 cases r with
 | cons r1 r2 =>
  cases r2 with
  | cons r3 r4=>cases r4;exact⟨_,_,rfl,r1,r3⟩
theorem uC:CallR X (.builtin "abs") (λxs H Q=>∃ i,xs=[.int i]/\Q (.int (if i<0 then -i else i)) H):=by
 intro a s c H xs b Q I r h;obtain⟨i,rfl,q⟩:=h;obtain⟨u,rfl,t,rfl⟩:=cV r
 exact call_abs_int λu d=>⟨.int (if i<0 then -i else i),H,I.tok _,⟨_,rfl⟩,q⟩
inductive rTwo(f:Int->Int->Int)(xs:List V)(H:Hp)(Q:VK):Prop
 | mk(i j:Int)(h0:xs=[.int i,.int j])(h1:Q (.int (f i j)) H):rTwo f xs H Q
theorem eK(b:X.calm=true):CallR X (.builtin "min") (rTwo λi j=>if j<i then j else i):=by
 intro a s l H f d Q I r h;obtain⟨i,j,rfl,q⟩:=h;obtain⟨u,g,rfl,⟨t,rfl⟩,⟨n,rfl⟩⟩:=uj r
 refine min_two_ints (I.ok.hd b) λc o k=>⟨_,H,I.kept k,?_,q⟩
 by_cases hj:j<i
 .rw[if_pos hj,if_pos hj];exact⟨_,rfl⟩
 .rw[if_neg hj,if_neg hj];exact⟨_,rfl⟩
theorem dI:CallR X (.type "int") (λxs H Q=>(∃ i,xs=[.int i]/\Q (.int i) H)\/∃ k,xs=[.bl k]/\Q (.int (if k then 1 else 0)) H):=by
 intro a s d H xs c Q I r h
 rcases h with⟨i,rfl,q⟩ | ⟨k,rfl,q⟩
 .obtain⟨u,rfl,t,rfl⟩:=cV r
  exact call_int_int ⟨.int i,H,I,⟨_,rfl⟩,q⟩
 .obtain⟨u,rfl,b⟩:=cV r
  cases b;exact call_int_bool ⟨.int (if k then 1 else 0),H,I.tok _,⟨_,rfl⟩,q⟩
end
structure ObjM(h:Heap)(x dx C:Addr)(mA:Str->Option Value):Prop where
 obj:h.get? x=some (instObj C dx)
 ns:h.Ns1 dx mA
 ne:dx≠x
theorem q5{h:Heap}{dx:Addr}{c:Str->Option Value}(n:h.Ns1 dx c):∃ od,h.get? dx=some od/\∀ name,lookIn name od=some (c name):=by
 obtain⟨o,d,p,l,i,j,_,f⟩:=n;refine⟨o,l,λname=>?_⟩;have e:=f name;unfold nsFind findBy at e;rw[<- Array.find?_toList]at e;unfold lookIn;rw[i];dsimp only
 split
 .rename_i y q
  rw[q]at e;exact congrArg some e
 .rename_i q
  rw[q]at e
  have a:d.toList.any (·.refKey)=false:=by
   rw[List.any_eq_false];intro y g;obtain⟨z,t,b⟩:=j y (Array.mem_toList_iff.mp g);simp[DictEntry.refKey,b]
  have k:¬d.toList.any (·.refKey)=true:=by rw[a];exact Bool.false_ne_true
  rw[if_neg k];exact congrArg some e
theorem ObjM.look{h:Heap}{x dx C:Addr}{a:Str->Option Value}(I:ObjM h x dx C a):∃ od,InstAt h x (instObj C dx) C (some od)/\∀ name,lookIn name od=some (a name) :=
 let ⟨od,ho,hl⟩:=q5 I.ns
 ⟨od,⟨I.obj,rfl,rfl,ho⟩,hl⟩
section
variable {prog:Program}{w:World}{A:Around}{E:Value->Shared->Prop}{s:Shared}{K:Frag}{x dx C f:Addr}{mA:Str->Option Value}{name:Str}{v:Value}
theorem wP{a:Bool}{Q:Value->Shared->Prop}(X:K.In s.heap)(I:ObjM s.heap x dx C mA)(i:plainGet K C name=true)(c:hasDictIn K C=true)
  (d:findIn K (.ref C) name=some none) (g:mA name=some v) (b:handedIn v=true) (h:Q v { s with toks:=s.toks+1 }) :
  wpAny (model prog w) A (getAttr (.ref x) name a) Q E s:=by
 obtain⟨j,J,f⟩:=I.look;exact PySem.W.get_value X J (plainGet_of i).1 (PySem.W.findObj_own c d rfl (by rw[f,g])) b h
theorem sU{pl:Sem Bool}{Q:Value×List Value->Shared->Prop}(X:K.In s.heap)(I:ObjM s.heap x dx C mA)(a:plainGet K C name=true)
  (c:findIn K (.ref C) name=some (some (.ref f))) (d:isFn K (.ref f)=true) (i:mA name=none) (h:Q (.ref f,[.ref x]) s) :
  wpAny (model prog w) A (getMethod (.ref x) name pl) Q E s:=by
 obtain⟨b,J,g⟩:=I.look;exact PySem.W.method_fn X J (plainGet_of a).1 (plainGet_of a).2 c (beq_iff_eq.mp d) (by show(lookIn name b).map (·.isSome)=some false;rw[g,i];rfl) h
theorem wn{k:List Str}{Q:Unit->Shared->Prop}(X:K.In s.heap)(I:ObjM s.heap x dx C mA)
  (B:findIn K (.ref C) "__setattr__" = some (some (.builtin "object.__setattr__"))) (F:plainOver K C=true) (l:takerIn K C name=some none) (p:hasDictIn K C=true)
  (u:PySem.Within mA k) (n:k.length<=sizeLine)
  (h:∀ h',ObjM h' x dx C (λy=>if y=name then some v else mA y)->Heap.SameBut dx s.heap h'->Q () { s with heap:=h',toks:=s.toks+2 }) :
  wpAny (model prog w) A (setAttr (.ref x) name v) Q E s:=by
 obtain⟨H,J,M⟩:=I.look;refine PySem.W.set_plain X J B (PySem.W.osa_open (s:={ s with toks:=s.toks+1 }) (r:=none) X J F l λb=>?_);obtain⟨L,D,j⟩:=any_some p;have q:s.heap.get? x=some ⟨.ref C,some dx,.plain,#[]⟩:=I.obj;refine wpAny_bind (wpAny_pure (wpAny_bind (wpAny_bind (wpAny_loadPart q (wpAny_bind (PySem.W.Looks.here (s:={ s with toks:=s.toks+1 }) (looks_clsIn X D) ?_))))));rw[j];refine wpAny_pure (a:=some dx) (wpAny_bind (wpAny_pure (wpAny_bind ?_)));refine wpAny_nsSet1 (s:={ s with toks:=s.toks+1 }) I.ns λh' c d=>?_
 obtain⟨G,z,o,i,g,f⟩:=c.count (PySem.Within.cons name v u);refine wpAny_bind (wpAny_lookBehind i (by rw[g];exact pastItsLine_dict (Nat.le_trans f (by rw[length_cons];lia))) ?_);exact wpAny_pure (h _ ⟨(d.2 _ (Ne.symm I.ne)).trans I.obj,c,I.ne⟩ d)
theorem sL{R:Result->Shared->Prop}{vs:List Value}{b:List (Str×Value)}(X:K.In s.heap)(c:makesIn K C=true)
  (i:findIn K (.ref C) "__init__" = some (some (.ref f))) (j:typeIn K (.ref f)=some (.type "function"))
  (h:codeAny (model prog w) (A.under (.builtin "type.__call__" ⟨.ref C::vs,b⟩)) (.call (.ref f) ⟨.ref (s.heap.objs.size+1)::vs,b⟩) (PySem.W.InitBack (s.heap.objs.size+1) R)
   { s with heap:=(s.heap.push emptyDict).push (instObj C s.heap.objs.size) }) :
  codeAny (model prog w) A (.call (.ref C) ⟨vs,b⟩) R s:=by
 obtain⟨k,g,d,t,l⟩:=s;exact PySem.W.make_core (PySem.W.makes_of X c) (looks_findIn X i) (λa=>PySem.W.bind_fn X a j) (.inl rfl) h
end
def d6(f:Str)(v:V):List (Str×V)->List (Str×V)
 | []=>[(f,v)]
 | (g,x)::r=>if g=f then (g,v)::r else (g,x)::d6 f v r
theorem iL(f g:Str)(v:V):∀ fs:List (Str×V),(d6 f v fs).lookup g=if g=f then some v else fs.lookup g
 | []=>by
  show List.lookup g [(f,v)]=_
  by_cases h:g=f
  .have a:(g == f)=true:=beq_iff_eq.mpr h
   simp only[List.lookup,a,if_pos h]
  .have a:(g == f)=false:=beq_eq_false_iff_ne.mpr h
   simp only[List.lookup,a,if_neg h]
 | (k,x)::r=>by
  have b:=iL f g v r;rw[show d6 f v ((k,x)::r)=(if k=f then (k,v)::r else (k,x)::d6 f v r) from rfl]
  by_cases hk:k=f
  .rw[if_pos hk]
   by_cases h:g=k
   .have a:(g == k)=true:=beq_iff_eq.mpr h
    simp only[List.lookup,a,if_pos (h.trans hk)]
   .have a:(g == k)=false:=beq_eq_false_iff_ne.mpr h
    simp only[List.lookup,a,if_neg (λe:g=f=>h (e.trans hk.symm))]
  .rw[if_neg hk]
   by_cases h:g=k
   .have a:(g == k)=true:=beq_iff_eq.mpr h
    simp only[List.lookup,a,if_neg (λe:g=f=>hk (h.symm.trans e))]
   .have a:(g == k)=false:=beq_eq_false_iff_ne.mpr h
    simp only[List.lookup,a];exact b
theorem ij(f:Str)(v:V):∀ fs:List (Str×V),f∈(d6 f v fs).map (·.1)/\∀ g,g∈fs.map (·.1)->g∈(d6 f v fs).map (·.1)
 | []=>⟨by simp[d6],λg h=>by simp at h⟩
 | (k,x)::r=>by
  obtain⟨b,a⟩:=ij f v r;rw[show d6 f v ((k,x)::r)=(if k=f then (k,v)::r else (k,x)::d6 f v r) from rfl]
  by_cases hk:k=f
  .rw[if_pos hk]
   subst hk;exact⟨by simp,λg h=>by simpa using h⟩
  .rw[if_neg hk]
   refine⟨?_,λg h=>?_⟩
   .rw[map_cons]
    exact mem_cons_of_mem _ b
   .rw[map_cons]at h ⊢
    rcases mem_cons.mp h with e | e
    .exact mem_cons.mpr (.inl e)
    .exact mem_cons_of_mem _ (a g e)
theorem iF(f:Str)(v:V):∀ fs:List (Str×V),(d6 f v fs).length<=fs.length+1
 | []=>by simp[d6]
 | (k,x)::r=>by
  have a:=iF f v r;rw[show d6 f v ((k,x)::r)=(if k=f then (k,v)::r else (k,x)::d6 f v r) from rfl]
  by_cases hk:k=f
  .rw[if_pos hk,length_cons,length_cons];lia
  .rw[if_neg hk,length_cons,length_cons];lia
theorem RelO.some_of{v:V}{o:Option Value}(r:RelO (some v) o):∃ u,o=some u/\RelV v u:=by
 cases o with
 | none=>exact(show False from r).elim
 | some u=>exact⟨u,rfl,r⟩
theorem RelO.none_of{o:Option Value}(r:RelO none o):o=none:=by
 cases o with
 | none=>rfl
 | some u=>exact(show False from r).elim
theorem rL{v:V}{u:Value}(r:RelV v u):handedIn u=true:=by
 cases v with
 | non=>cases(show u=Value.none from r);rfl
 | bl b=>cases(show u=Value.bool b from r);rfl
 | int i=>obtain⟨t,e⟩:=(show ∃ t,u=Value.int i t from r);cases e;rfl
 | str x=>obtain⟨t,e⟩:=(show ∃ t,u=Value.str x t from r);cases e;rfl
 | byt b=>obtain⟨t,e⟩:=(show ∃ t,u=Value.bytes b t from r);cases e;rfl
 | flt b=>obtain⟨t,e⟩:=(show ∃ t,u=Value.float b t from r);cases e;rfl
 | ref a=>cases(show u=Value.ref a from r);rfl
 | ty n=>cases(show u=Value.type n from r);rfl
section
variable {P:Program}{w:World}{H H':Hp}{h h':Heap}{a C dx:Addr}{fs fs':List (Str×V)}
theorem i5(b:HOk P w H h)(e:H a=some (.ins C dx fs)):∃ mA,ObjM h a dx C mA/\(∀ f,RelO (fs.lookup f) (mA f))/\PySem.Within mA (fs.map (·.1))/\fs.length<=1000/\H dx=some (.own a):=by
 obtain⟨d,z,c,g,mA,n,r,q⟩:=(show ObjOk P w H h a (.ins C dx fs) from b a _ e)
 exact⟨mA,⟨g,n,c⟩,r,q,z,d⟩
end
structure Cls(K:Frag)(C:Addr):Prop where
 pg:plainGet K C Str.empty=true
 hd:hasDictIn K C=true
 po:plainOver K C=true
 sa:findIn K (.ref C) "__setattr__" = some (some (.builtin "object.__setattr__"))
theorem Cls.get{K:Frag}{C:Addr}(c:Cls K C)(f:Str):plainGet K C f=true:=c.pg
def NoAttr(K:Frag)(C:Addr)(f:Str):Prop:=findIn K (.ref C) f=some none
theorem NoAttr.taker{K:Frag}{C:Addr}{f:Str}(n:NoAttr K C f):takerIn K C f=some none:=by
 unfold takerIn;rw[show findIn K (.ref C) f=some none from n];rfl
structure Meth(K:Frag)(C:Addr)(m:Str)(f:Addr):Prop where
 at_:findIn K (.ref C) m=some (some (.ref f))
 fn:isFn K (.ref f)=true
 kp:keepIn K (.ref f)=true
section
variable {X:Cx}{pins:List (Addr×Obj)}{σ:St}{H:Hp}{s:Shared}{a C dx:Addr}{fs:List (Str×V)}{f:Str}{v:V}{A:Around}{E:Value->Shared->Prop}
theorem jQ{b:Bool}{Q:Value->Shared->Prop}(I:Inv X pins σ H s)(e:H a=some (.ins C dx fs))(c:Cls X.K C)(n:NoAttr X.K C f)(l:fs.lookup f=some v)
  (h:∀ u s',Inv X pins σ H s'->RelV v u->Q u s'):wpAny (model X.prog X.w) A (getAttr (.ref a) f b) Q E s:=by
 obtain⟨g,O,r,_,_,_⟩:=i5 I.hok e;obtain⟨u,i,d⟩:=RelO.some_of (v:=v) (o:=g f) (by rw[<- l];exact r f);exact wP I.kIn O (c.get f) c.hd n i (rL d) (h u _ (I.tok _) d)
theorem jp{m:Str}{g:Addr}{pl:Sem Bool}{Q:Value×List Value->Shared->Prop}(I:Inv X pins σ H s)(e:H a=some (.ins C dx fs))(c:Cls X.K C)(k:Meth X.K C m g)(l:fs.lookup m=none)
  (h:Q (.ref g,[.ref a]) s):wpAny (model X.prog X.w) A (getMethod (.ref a) m pl) Q E s:=by
 obtain⟨b,O,r,_,_,_⟩:=i5 I.hok e;have d:b m=none:=RelO.none_of (by rw[<- l];exact r m);exact sU I.kIn O (c.get m) k.at_ k.fn d h
theorem jE{y:V}{u:Value}{Q:Unit->Shared->Prop}(I:Inv X pins σ H s)(e:H a=some (.ins C dx fs))(c:Cls X.K C)(n:NoAttr X.K C f)(D:fs.length<1000)(p:RelV y u)
  (h:∀ s',Inv X pins σ (upd H a (.ins C dx (d6 f y fs))) s'->Q () s'):wpAny (model X.prog X.w) A (setAttr (.ref a) f u) Q E s:=by
 obtain⟨i,O,r,j,_,k⟩:=i5 I.hok e;have v:(fs.map (·.1)).length<=sizeLine:=by rw[length_map,sizeLine_eq];lia
 refine wn I.kIn O c.sa c.po n.taker c.hd j v λl d B=>h _ ?_
 have w:∃ o,l.get? dx=some o:=let ⟨o,_,_,e',_⟩:=d.ns;⟨o,e'⟩;refine I.write (x:=a) (e:=dx) (by rw[e];exact True.intro) (.inr k) (λb q hb z=>(B.2 b hb).trans z) w ?_;refine⟨by rw[ag O.ne];exact k,?_,O.ne,d.obj,_,d.ns,λg=>?_,λg hg=>?_⟩
 .have:=iF f y fs;lia
 .show RelO ((d6 f y fs).lookup g) (if g=f then some u else i g)
  rw[iL]
  by_cases q:g=f
  .rw[if_pos q,if_pos q];exact p
  .rw[if_neg q,if_neg q];exact r g
 .by_cases q:g=f
  .rw[q];exact(ij f y fs).1
  .refine(ij f y fs).2 g (j g λz=>hg ?_)
   show(if g=f then some u else i g)=none;rw[if_neg q];exact z
theorem Inv.made(I:Inv X pins σ H s):Inv X pins σ (upd (upd H s.heap.objs.size (.own (s.heap.objs.size+1))) (s.heap.objs.size+1) (.ins C s.heap.objs.size []))
  { s with heap:=(s.heap.push emptyDict).push (instObj C s.heap.objs.size) }:=by
 have c:(s.heap.push emptyDict).get? s.heap.objs.size=some emptyDict:=Heap.get?_push_size s.heap rfl
 have f:((s.heap.push emptyDict).push (instObj C s.heap.objs.size)).get? (s.heap.objs.size+1)=some (instObj C s.heap.objs.size):=by
  have:=Heap.get?_push_size (s.heap.push emptyDict) (o:=instObj C s.heap.objs.size) rfl;rwa [Heap.size_push]at this
 have g:(s.heap.push emptyDict).Ns s.heap.objs.size (λ_=>none):=⟨emptyDict,#[],_,c,rfl,(λe he=>absurd he (by simp)),λ_=>rfl⟩
 have h:=I.laid (a:=s.heap.objs.size) (o:=.own (s.heap.objs.size+1)) (h':=s.heap.push emptyDict) (t':=s.toks) (λb u q=>Heap.get?_push_of_some _ q) (Nat.le_refl _) ⟨_,c⟩;refine h.laid (a:=s.heap.objs.size+1) (o:=.ins C s.heap.objs.size []) (t':=s.toks) (λb u q=>Heap.get?_push_of_some _ q) (Nat.le_of_eq (Heap.size_push _ _)) ?_;have d:s.heap.objs.size≠s.heap.objs.size+1:=Nat.ne_of_lt (Nat.lt_succ_self _);refine⟨by rw[ag d,ad],Nat.zero_le _,d,f,λ_=>none,(Heap.Ns1.of_empty g).at λo q=>Heap.get?_push_of_some _ q,λ_=>True.intro,λy hy=>absurd rfl hy⟩
theorem wA{prog:Program}{w:World}{env:Env}{e:Expr}{f:Str}{a:Pos}{s:Shared}{Q:Value->Shared->Prop}(b:attributeBase e f env (eval e env)=eval e env)
  (h:wpAny (model prog w) A (eval e env) (λo s₁=>wpAny (model prog w) A (getAttr o f true) Q E s₁) E s):wpAny (model prog w) A (eval (.Attribute e f a) env) Q E s :=
 Attribute_any_ h (by rw[arm_eval_Attribute,b])
end
def Bq(K:Frag)(ta:TE)(f:Str):TE:=λσ H Q=>ta σ H λx H1=>∃ a C dx fs v,x=.ref a/\H1 a=some (.ins C dx fs)/\Cls K C/\NoAttr K C f/\fs.lookup f=some v/\Q v H1
def AN(K:Frag)(ta tv:TE)(f:Str):TS:=λD σ H=>tv σ H λy H1=>ta σ H1 λx H2=>∃ a C dx fs,x=.ref a/\H2 a=some (.ins C dx fs)/\Cls K C/\NoAttr K C f/\fs.length<1000 /\
 D.nx σ (upd H2 a (.ins C dx (d6 f y fs)))
def zn(X:Cx)(op:Operator)(rd:V->V->Hp->VK->Prop):Prop :=
 ∀(pins:List (Addr×Obj)) (s:Shared) (σ:St) (H:Hp) (x y:V) (u v:Value) (Q:VK),Inv X pins σ H s->RelV x u->RelV y v->rd x y H Q->wpAny (model X.prog X.w) X.A (inplaceOp op u v) (EP X pins σ Q) X.xe s
def we(K:Frag)(ta tv:TE)(rd:V->V->Hp->VK->Prop)(f:Str):TS:=λD σ H=>ta σ H λx H1=>∃ a C dx fs v,x=.ref a/\H1 a=some (.ins C dx fs)/\Cls K C/\NoAttr K C f/\fs.lookup f=some v /\
 tv σ H1 λy H2=>rd v y H2 λz H3=>∃ dx' fs',H3 a=some (.ins C dx' fs')/\fs'.length<1000/\D.nx σ (upd H3 a (.ins C dx' (d6 f z fs')))
section
variable {X:Cx}{o e value:Expr}{f:Str}{pos pos' tpos:Pos}{ta tv:TE}
theorem bN(o:PE X e ta)(k:attributeBase e f X.env (eval e X.env)=eval e X.env):PE X (.Attribute e f pos) (Bq X.K ta f):=by
 intro b s r H Q I h;refine wA k (thn (o b s r H _ I h) λu D ⟨x,p,w,y,a,C,B,z,v,d,g,c,n,l,q⟩=>?_);subst d;obtain rfl:u=Value.ref a:=y
 exact jQ w g c n l λA E j i=>⟨v,p,j,i,q⟩
theorem fj(i:PE X o ta)(p:PE X value tv)(g:swapsWith value (some (.Attribute o f pos')) pos.line X.env=pure false):PS X (.Assign [.Attribute o f pos'] value pos) (AN X.K ta tv f):=by
 intro b s d H D I h;refine plainObj_wpAny_Assign_Attribute (thn (p b s d H _ I h) λu r ⟨y,j,w,k,q⟩=>thn (i b r d j _ w q) λov s2 ⟨x,H2,I2,rx,a,C,dx,fs,ex,ea,c,n,l,q2⟩=>?_) g;subst ex;obtain rfl:ov=Value.ref a:=rx
 exact jE I2 ea c n l k λz v=>⟨d,_,v,q2⟩
theorem rH{op:Operator}{i:V->V->Hp->VK->Prop}(w:PE X o ta)(G:PE X value tv)(g:zn X op i):PS X (.AugAssign (.Attribute o f tpos) op value pos) (we X.K ta tv i f):=by
 intro b s d H D I h;refine wpAny_AugAssign_AttributeAny (thn (w b s d H _ I h) λA O ⟨x,F,j,L,a,C,N,M,v,k,p,c,n,l,q⟩=>?_);subst k;obtain rfl:A=Value.ref a:=L;refine jQ j p c n l λu K B r=>thn (G b K d F _ B q) λw3 s3 ⟨y,H2,I3,ry,q3⟩=>thn (g b s3 d H2 v y u w3 _ I3 r ry q3) λw4 s4 ⟨z,H3,I4,rz,dx',fs',ea',l',q4⟩=>?_
 exact jE I4 ea' c n l' rz λP E=>⟨d,_,E,q4⟩
def AU:V->V->Hp->VK->Prop:=λx y H Q=>∃ i j,x=.int i/\y=.int j/\Q (.int (i+j)) H
theorem yX:zn X .Add AU:=by
 rintro a s f H x y u v Q I d c ⟨i,j,rfl,rfl,q⟩
 obtain⟨t,rfl⟩:=(show ∃ t,u=Value.int i t from d)
 obtain⟨b,rfl⟩:=(show ∃ b,v=Value.int j b from c)
 exact PyProof.Rows.iadd_int ⟨.int (i+j),H,I.tok _,⟨_,rfl⟩,q⟩
end
section
variable {X:Cx}{pins:List (Addr×Obj)}{σ:St}{H:Hp}{s:Shared}{A:Around}{E:Value->Shared->Prop}{Q:Value->Shared->Prop}{c:Value}{b:Bool}
inductive TyOf(K:Frag)(H:Hp):V->Value->Prop where
 | non:TyOf K H .non (.type "NoneType")
 | bl (x:Bool):TyOf K H (.bl x) (.type "bool")
 | int (i:Int):TyOf K H (.int i) (.type "int")
 | str (x:Str):TyOf K H (.str x) (.type "str")
 | flt (x:UInt64):TyOf K H (.flt x) (.type "float")
 | lst {a:Addr}{xs:List V}(e:H a=some (.lst xs)):TyOf K H (.ref a) (.type "list")
 | frz {a:Addr}{o:Obj}{xs:List V}(e:H a=some (.frz o (.lst xs))):TyOf K H (.ref a) (.type "list")
 | tup {a:Addr}{xs:List V}(e:H a=some (.tup xs)):TyOf K H (.ref a) (.type "tuple")
 | dK {a:Addr}{kvs:List (Key×V)}(e:H a=some (.dK kvs)):TyOf K H (.ref a) (.type "dict")
 | dT {a:Addr}{kvs:List (List Key×V)}(e:H a=some (.dT kvs)):TyOf K H (.ref a) (.type "dict")
 | ins {a C dx:Addr}{fs:List (Str×V)}(e:H a=some (.ins C dx fs)) (cl:Cls K C) (ha:findIn K (.ref C) "__class__" = some (some (.builtin "object.__class__")))
   (hn:specialIn K (.builtin "object.__class__") "__get__" = some (some (.builtin "getset_descriptor.__get__"))) (htk:takesIn K (.builtin "object.__class__")=some true)
   (hm:mroIn K C (.type "object")=some true):TyOf K H (.ref a) (.ref C)
end
structure Room(k:Nat)(A:Around):Prop where
 hd:A.handled=none
 dp:A.depth+3*k+5<recursionLimit
 un:A.units+16*k+200<cLine
theorem Room.mono{j k:Nat}{A:Around}(r:Room k A)(h:j<=k):Room j A:=⟨r.hd,by have:=r.dp;lia,by have:=r.un;lia⟩
theorem Room.deeper{k:Nat}{A:Around}(r:Room (k+1) A)(env:Env):Room k (A.deeper env) :=
 ⟨r.hd,by have:=r.dp;show A.depth+1+3*k+5<_;lia,by have:=r.un;show A.units+3+16*k+200<_;lia⟩
theorem pD{A:Around}{C:Addr}{us:List Value}{a:List (Str×Value)}:(A.under (.builtin "type.__call__" ⟨.ref C::us,a⟩)).depth=A.depth+1:=by
 first | rfl | simp[Around.under,Code.weight,Code.isCreation,Code.isGuard,Code.isCaller,Code.frames,Code.isFrame,guardIds]
theorem oF{A:Around}{C:Addr}{us:List Value}{a:List (Str×Value)}:(A.under (.builtin "type.__call__" ⟨.ref C::us,a⟩)).units=A.units+1:=by
 first | rfl | simp[Around.under,Code.cUnits,Code.frames,Code.isFrame]
theorem Room.make{k:Nat}{A:Around}(r:Room (k+1) A)(C:Addr)(us:List Value)(a:List (Str×Value)):Room k (A.under (.builtin "type.__call__" ⟨.ref C::us,a⟩)) :=
 ⟨r.hd,by have:=r.dp;rw[pD];lia,by have:=r.un;rw[oF];lia⟩
theorem Room.depth{k:Nat}{A:Around}(r:Room k A):A.depth<recursionLimit:=by have:=r.dp;lia
theorem Room.units{k:Nat}{A:Around}(r:Room k A):A.units+64<cLine:=by have:=r.un;lia
def zW:TA:=λ_ H Q=>Q [] H
def w6(ta:TE)(tr:TA):TA:=λσ H Q=>ta σ H λx H1=>tr σ H1 λxs H2=>Q (x::xs) H2
section
variable {X:Cx}{e:Expr}{es:List Expr}{te:TE}{t:TA}{pos:Pos}
theorem ae:PA X [] zW:=λ_ _ _ _ H Q I h=>Calls.spliced_nil ⟨[],H,I,.nil,h⟩
theorem aa(f:PE X e te)(o:PA X es t)(d:starEach (e::es) X.env=(false,eval e X.env)::starEach es X.env:=by rfl):PA X (e::es) (w6 te t):=by
 intro b a s c H Q I h;rw[d];show wpAny _ _ (spliced ((false,eval e X.env)::backTo b (starEach es X.env))) _ _ s;refine Calls.spliced_cons (thn (f a s c H _ I h) λu p ⟨x,j,v,i,k⟩=>?_)
 exact thn (o b a p c j _ v k) λw y ⟨n,l,g,r,q⟩=>⟨x::n,l,g,.cons i r,q⟩
def AL(t:TA):TE:=λσ H Q=>t σ H λxs H1=>xs.length<=sizeLine/\∀ p,H1 p=none->Q (.ref p) (upd H1 p (.tup xs))
def AJ(t:TA):TE:=λσ H Q=>t σ H λxs H1=>xs.length<=sizeLine/\∀ p,H1 p=none->Q (.ref p) (upd H1 p (.lst xs))
theorem cK{x1}(h:PA X es t):PE X (.Tuple es x1 pos) (AL t):=by
 intro a s l H Q I i;refine wpAny_Tuple_spliced (thn (h pos a s l H _ I i) λg c ⟨j,d,f,r,z,q⟩=>⟨by rw[<- r.length];exact z,?_⟩);have k:d c.heap.objs.size=none:=f.hok.fresh (Nat.le_refl _);refine⟨.ref c.heap.objs.size,upd d c.heap.objs.size (.tup j),f.laid (t':=c.toks) (λb u e=>Heap.get?_push_of_some _ e) (Nat.le_refl _) ?_,rfl,q _ k⟩;exact⟨z,g,r,⟨_,Heap.get?_push_size _ rfl,rfl,_,rfl⟩⟩
theorem aR(h:PA X es t):PE X (.List es pos) (AJ t):=by
 intro a s l H Q I i;refine wpAny_List_spliced (thn (h pos a s l H _ I i) λg c ⟨j,d,f,r,z,q⟩=>⟨by rw[<- r.length];exact z,?_⟩);have k:d c.heap.objs.size=none:=f.hok.fresh (Nat.le_refl _);refine⟨.ref c.heap.objs.size,upd d c.heap.objs.size (.lst j),f.laid (t':=c.toks) (λb u e=>Heap.get?_push_of_some _ e) (Nat.le_refl _) ?_,rfl,q _ k⟩;exact⟨z,g,0,r,Heap.get?_push_size _ rfl⟩
end
abbrev Sp:=List V->Hp->VK->XK->Prop
abbrev CXT:=List Env->Hp->Shared->XK->Value->Shared->Prop
structure Env0(P:Program)(w:World)(K:Frag)(mg:Str->Option Value)(base:Heap)(A:Around)(outer:List Env)(s:Shared)(H:Hp):Prop where
 frames:A.frames=some outer
 mod:Mod K mg base
 bs:∀ b o,base.get? b=some o->s.heap.get? b=some o/\H b=none
 bsz:base.objs.size<=s.heap.objs.size
 funs:s.heap.FunFrames base outer
 frf:∀ b∈frs outer,H b=none
 hok:HOk P w H s.heap
 bare:AllBare s.gens
def CE(outer:List Env)(P:Program)(w:World)(H:Hp)(s:Shared)(Q:VK)(u:Value)(s':Shared):Prop :=
 ∃ v H',s'.os=s.os/\AllBare s'.gens/\Un (frs outer) [] H H' s.heap s'.heap/\HOk P w H' s'.heap/\RelV v u/\Q v H'
def CR(CX:CXT)(outer:List Env)(P:Program)(w:World)(H:Hp)(s:Shared)(Q:VK)(E:XK)(r:Result)(s':Shared):Prop :=
 match r with
 | .ok (.ret u)=>CE outer P w H s Q u s'
 | .ok _=>False
 | .error e=>CX outer H s E e s'
structure FnOk(P:Program)(w:World)(K:Frag)(mg:Str->Option Value)(base:Heap)(CX:CXT)(k:Nat)(f:Addr)(fd:FuncData)(ps:List Str)(sp:Sp):Prop where
 len:∀ vs H Q E,sp vs H Q E->vs.length=ps.length
 run:∀(A:Around) (outer:List Env) (s:Shared) (H:Hp) (args:Args) (us:List Value) (vs:List V) (Q:VK) (E:XK),Room k A->Env0 P w K mg base A outer s H->BindsTo s fd args (ps.zip us)->Vals vs us->sp vs H Q E ->
  codeAny (model P w) A (.call (.ref f) args) (CR CX outer P w H s Q E) s
theorem FnOk.mono{P:Program}{w:World}{K:Frag}{mg:Str->Option Value}{a:Heap}{CX:CXT}{j k:Nat}{f:Addr}{d:FuncData}{ps:List Str}{sp:Sp}(F:FnOk P w K mg a CX j f d ps sp)(h:j<=k) :
  FnOk P w K mg a CX k f d ps sp:=⟨F.len,λA b s H c g i Q E l=>F.run A b s H c g i Q E (l.mono h)⟩
theorem Env0.make{P:Program}{w:World}{K:Frag}{mg:Str->Option Value}{b:Heap}{A:Around}{a:List Env}{s:Shared}{H:Hp}(e:Env0 P w K mg b A a s H)(C:Addr)(us:List Value)(c:List (Str×Value)) :
  Env0 P w K mg b (A.under (.builtin "type.__call__" ⟨.ref C::us,c⟩)) a s H:=⟨by first | exact e.frames | (simpa[Around.under,Code.envs,Code.isFrame,pushEnvs] using e.frames),e.mod,e.bs,e.bsz,e.funs,e.frf,e.hok,e.bare⟩
section
variable {X:Cx}{pins:List (Addr×Obj)}{σ:St}{H:Hp}{s s':Shared}
theorem Inv.env0(I:Inv X pins σ H s):Env0 X.prog X.w X.K X.mg X.base X.A X.stack s H :=
 ⟨I.ok.frames,I.ok.mod,I.bs,Nat.le_trans I.ok.bsz I.sz,I.stack,I.stkFree,I.hok,I.bare⟩
theorem Inv.after{Q:VK}{u:Value}(I:Inv X pins σ H s)(h:CE X.stack X.prog X.w H s Q u s'):EP X pins σ Q u s':=by
 obtain⟨v,l,k,a,i,f,r,q⟩:=h;obtain⟨j,g,d,t,c⟩:=s';obtain rfl:c=s.os:=k;exact⟨v,l,I.call (h':=j) (g':=g) (d':=d) (t':=t) (ch:=[]) i f a (λb z=>absurd z (by simp)),r,q⟩
end
def zC(sp:Sp)(dvs:List V)(E:XK)(t:TA):TE:=λσ H Q=>t σ H λvs H1=>sp (vs++dvs) H1 Q E
def xG(C:Addr)(m:Str)(sp:Sp)(dvs:List V)(E:XK)(ta:TE)(t:TA):TE:=λσ H Q=>ta σ H λx H1=>∃ a dx fs,x=.ref a/\H1 a=some (.ins C dx fs)/\fs.lookup m=none /\
 t σ H1 λvs H2=>sp (x::(vs++dvs)) H2 Q E
def Ac(C:Addr)(sp:Sp)(dvs:List V)(E:XK)(t:TA):TE:=λσ H Q=>t σ H λvs H1=>∀ x dx,H1 x=none->H1 dx=none->dx≠x ->
 sp (.ref x::(vs++dvs)) (upd (upd H1 dx (.own x)) x (.ins C dx [])) (λv H2=>v=.non/\Q (.ref x) H2) E
def Binds(K:Frag)(fd:FuncData)(ps:List Str)(ds:List Value):Prop :=
 ∀(s:Shared) (us:List Value),K.In s.heap->(us++ds).length=ps.length->BindsTo s fd ⟨us,[]⟩ (ps.zip (us++ds))
theorem Binds.all{K:Frag}{b:FuncData}{ps:List Str}(h:∀ us:List Value,us.length=ps.length->bindArgs b ⟨us,[]⟩=pure (ps.zip us)):Binds K b ps []:=λs us _ a=>by
 rw[append_nil]at a ⊢;exact .of_eq (h us a)
def fE(CX:CXT)(X:Cx)(E:XK):Prop:=∀(pins:List (Addr×Obj)) (σ:St) (H:Hp) (s:Shared) (e:Value) (s':Shared),Inv X pins σ H s->CX X.stack H s E e s'->X.xe e s'
section
variable {X:Cx}{CX:CXT}{k:Nat}{f C:Addr}{fd:FuncData}{ps:List Str}{sp:Sp}{dvs:List V}{ds:List Value}{E:XK}{x m:Str}{p pos apos:Pos}{e o:Expr}{es:List Expr}{ta:TE}{t:TA}
theorem oV{a:List (Addr×Obj)}{σ:St}{H:Hp}{s:Shared}{Q:VK}{us:List Value}{vs:List V}(F:FnOk X.prog X.w X.K X.mg X.base CX k f fd ps sp)(j:Room k X.A)(d:Binds X.K fd ps ds)(l:Vals dvs ds)(g:fE CX X E)
  (I:Inv X a σ H s) (r:Vals vs us) (h:sp (vs++dvs) H Q E):wpAny (model X.prog X.w) X.A (call (.ref f) us) (EP X a σ Q) X.xe s:=by
 have c:Vals (vs++dvs) (us++ds):=r.append l;have i:(us++ds).length=ps.length:=by rw[<- c.length];exact F.len _ _ _ _ h
 refine wpAny_call (codeAny_mono (F.run X.A X.stack s H ⟨us,[]⟩ (us++ds) (vs++dvs) Q E j I.env0 (d s us I.kIn i) c h) λr n b=>?_);cases r with
 | error e=>exact g a σ H s e n I b
 | ok fl =>
  cases fl with
  | ret u=>exact I.after b
  | next=>exact False.elim b
  | brk=>exact False.elim b
  | cont=>exact False.elim b
theorem aq(F:FnOk X.prog X.w X.K X.mg X.base CX k f fd ps sp)(u:Room k X.A)(v:Gl X x)(g:X.mg x=some (.ref f))(w:keepIn X.K (.ref f)=true)(l:Binds X.K fd ps ds)(o:Vals dvs ds)(n:fE CX X E)
  (i:PA X (e::es) t) (c:(x == ("__debug__" : Str))=false:=by decide) (j:starEach (e::es) X.env=(false,eval e X.env)::starEach es X.env:=by rfl) (b:(backTo pos (starEach es X.env)).any (·.1)=false:=by rfl) :
  PE X (.Call (.Name x p) (e::es) [] pos) (zC sp dvs E t):=by
 intro a s y H Q I h;refine wpAny_Call_Name_kw (dW I v g ?_ c);refine callWith_K (h₀:=X.base) I.ok.mod.kin w (thn (i pos a s y H _ I h) λz C ⟨B,A,d,r,q⟩=>⟨d.kIn,?_⟩) j b;exact oV F u l o n d r q
theorem eL{pl:Sem Bool}(K:PE X o ta)(c:Cls X.K C)(j:Meth X.K C m f)(F:FnOk X.prog X.w X.K X.mg X.base CX k f fd ps sp)(G:Room k X.A)(v:Binds X.K fd ps ds)(y:Vals dvs ds)(L:fE CX X E)(D:PA X (e::es) t)
  (g:starEach (e::es) X.env=(false,eval e X.env)::starEach es X.env:=by rfl) (d:(backTo pos (starEach es X.env)).any (·.1)=false:=by rfl)
  (w:eval (.Call (.Attribute o m apos) (e::es) [] pos) X.env=(do
   let ov <- eval o X.env
   standAt apos.atName
   let (f,first) <- holding [ov] (getMethod ov m pl)
   callWith pos f first (backTo pos (starEach (e::es) X.env)) (backToKw pos (keywordEach [] X.env))):=by rfl) :
  PE X (.Call (.Attribute o m apos) (e::es) [] pos) (xG C m sp dvs E ta t):=by
 intro b s p H Q I h;refine methodCall_KW (pl:=pl) (thn (K b s p H _ I h) λu M ⟨x,N,i,O,a,R,P,A,B,l,q⟩=>?_) w;subst A;obtain rfl:u=Value.ref a:=O;refine jp i B c j l ?_;refine callWith_K (first:=[.ref a]) (h₀:=X.base) I.ok.mod.kin j.kp (thn (D pos b M p N _ i q) λus T ⟨vs,S,n,r,z⟩=>⟨n.kIn,?_⟩) g d;exact oV (us:=.ref a::us) (vs:=.ref a::vs) F G v y L n (.cons rfl r) z
theorem ap{pl:Sem Bool}(n:PE X o ta)(c:Cls X.K C)(g:Meth X.K C m f)(F:FnOk X.prog X.w X.K X.mg X.base CX k f fd ps sp)(y:Room k X.A)(p:Binds X.K fd ps ds)(w:Vals dvs ds)(r:fE CX X E)
  (v:eval (.Call (.Attribute o m apos) [] [] pos) X.env=(do
   let ov <- eval o X.env
   standAt apos.atName
   let (f,first) <- holding [ov] (getMethod ov m pl)
   callWith pos f first (backTo pos (starEach [] X.env)) (backToKw pos (keywordEach [] X.env))):=by rfl) :
  PE X (.Call (.Attribute o m apos) [] [] pos) (xG C m sp dvs E ta zW):=by
 intro b s z H Q I h;refine methodCall_KW (pl:=pl) (thn (n b s z H _ I h) λu K ⟨x,D,d,A,a,G,B,i,j,l,q⟩=>?_) v;subst i;obtain rfl:u=Value.ref a:=A;refine jp d j c g l ?_;exact callWith_K0 (first:=[.ref a]) d.kIn g.kp (oV (us:=[.ref a]) (vs:=[.ref a]) F y p w r d (.cons rfl .nil) q)
structure Mk(K:Frag)(C f:Addr):Prop where
 makes:makesIn K C=true
 init:findIn K (.ref C) "__init__" = some (some (.ref f))
 fn:isFn K (.ref f)=true
 kp:keepIn K (.ref C)=true
theorem uG{a:List (Addr×Obj)}{σ:St}{H:Hp}{s:Shared}{Q:VK}{us:List Value}{vs:List V}(M:Mk X.K C f)(F:FnOk X.prog X.w X.K X.mg X.base CX k f fd ps sp)(o:Room (k+1) X.A)(j:Binds X.K fd ps ds)(n:Vals dvs ds)
  (l:fE CX X E) (I:Inv X a σ H s) (r:Vals vs us)
  (h:∀ x dx,H x=none->H dx=none->dx≠x->sp (.ref x::(vs++dvs)) (upd (upd H dx (.own x)) x (.ins C dx [])) (λv H2=>v=.non/\Q (.ref x) H2) E) :
  wpAny (model X.prog X.w) X.A (call (.ref C) us) (EP X a σ Q) X.xe s:=by
 have d:=h (s.heap.objs.size+1) s.heap.objs.size (I.hok.fresh (Nat.le_succ _)) (I.hok.fresh (Nat.le_refl _)) (Nat.ne_of_lt (Nat.lt_succ_self _));have c:=Inv.made (C:=C) I;have g:Vals (V.ref (s.heap.objs.size+1)::(vs++dvs)) (Value.ref (s.heap.objs.size+1)::(us++ds)):=.cons rfl (r.append n)
 have p:(Value.ref (s.heap.objs.size+1)::us++ds).length=ps.length:=by
  have e:=g.length;rw[F.len _ _ _ _ d]at e;exact e.symm
 refine wpAny_call (sL (f:=f) I.kIn M.makes M.init (beq_iff_eq.mp M.fn) (codeAny_mono (F.run _ X.stack _ _ ⟨Value.ref (s.heap.objs.size+1)::us,[]⟩ (Value.ref (s.heap.objs.size+1)::(us++ds)) _ _ E (o.make C us [])
  (c.env0.make C us []) (j _ (Value.ref (s.heap.objs.size+1)::us) c.kIn p) g d) λr y b=>?_))
 cases r with
 | error e=>exact l a σ _ _ e y c b
 | ok fl =>
  cases fl with
  | ret u =>
   obtain⟨v,q,w,z,A,i⟩:=c.after b;subst A;exact⟨z,⟨V.ref (s.heap.objs.size+1),q,w,rfl,i⟩⟩
  | next=>exact False.elim b
  | brk=>exact False.elim b
  | cont=>exact False.elim b
theorem eN(M:Mk X.K C f)(F:FnOk X.prog X.w X.K X.mg X.base CX k f fd ps sp)(u:Room (k+1) X.A)(v:Gl X x)(g:X.mg x=some (.ref C))(l:Binds X.K fd ps ds)(o:Vals dvs ds)(n:fE CX X E)
  (i:PA X (e::es) t) (c:(x == ("__debug__" : Str))=false:=by decide) (j:starEach (e::es) X.env=(false,eval e X.env)::starEach es X.env:=by rfl) (b:(backTo pos (starEach es X.env)).any (·.1)=false:=by rfl) :
  PE X (.Call (.Name x p) (e::es) [] pos) (Ac C sp dvs E t):=by
 intro a s w H Q I h;refine wpAny_Call_Name_kw (dW I v g ?_ c);refine callWith_K (h₀:=X.base) I.ok.mod.kin M.kp (thn (i pos a s w H _ I h) λy B ⟨A,z,d,r,q⟩=>⟨d.kIn,?_⟩) j b;exact uG M F u l o n d r q
end
section
variable {X:Cx}{CX:CXT}{k:Nat}{f C:Addr}{fd:FuncData}{ps ks:List Str}{sp:Sp}{E:XK}{x m:Str}{p pos apos kpos:Pos}{e o:Expr}{es:List Expr}{kws:List Keyword}{te ta:TE}{t tk:TA}{nm:Option Str}
variable {g:List Value->List Value->List Value}{gV:List V->List V->List V}
end
structure FnScope(N P:List Str)(sc:Scope):Prop where
 kind:sc.kind=.function
 co:sc.isCoroutine=false
 gen:sc.isGenerator=false
 nd:N.Nodup
 pre:N.take P.length=P
 par:∀ x ∈ P,sc.names.lookup x = some .local\/sc.names.lookup x = some .cell
 nofree:∀ y∈sc.names,y.2≠.free
theorem kf{a:Str->Option NameKind}{x:Str}:∀{binds:List (Str×Value)}{m:Str->Option Value},(∀ v,(x,v) ∉ binds)->bindL a binds m x=m x
 | [],_,_=>rfl
 | (n,v)::r,m,h=>by
  unfold bindL;rw[kf λw b=>h w (mem_cons_of_mem _ b)]
  split
  .have:x≠n:=by rintro rfl;exact h v mem_cons_self
   simp[this]
  .rfl
theorem kD{a:Str->Option NameKind}{x:Str}:∀{binds:List (Str×Value)}{m:Str->Option Value},(∀ v,(x,v) ∉ binds)->bindC a binds m x=m x
 | [],_,_=>rfl
 | (n,v)::r,m,h=>by
  unfold bindC;rw[kD λw b=>h w (mem_cons_of_mem _ b)]
  split
  .rfl
  .have:x≠n:=by rintro rfl;exact h v mem_cons_self
   simp[this]
theorem ky{a:Str->Option NameKind}{x:Str}{v:Value}:∀{P:List Str}{vs:List Value}{i:Nat}{m:Str->Option Value},P.Nodup->P[i]? = some x->vs[i]? = some v->a x = some .local ->
  bindL a (P.zip vs) m x=some v
 | [],_,_,_,_,h,_,_=>by simp at h
 | _::_,[],_,_,_,_,h,_=>by simp at h
 | p::P,w::vs,0,m,nd,h1,h2,hk=>by
  simp at h1 h2;subst h1;subst h2;show bindL a ((p,w)::P.zip vs) m p=_;unfold bindL;rw[kf λv b=>(nodup_cons.mp nd).1 (of_mem_zip b).1,if_pos hk];simp
 | p::P,w::vs,i+1,m,nd,h1,h2,hk=>by
  show bindL a ((p,w)::P.zip vs) m x=_;unfold bindL;exact ky (i:=i) (nodup_cons.mp nd).2 (by simpa using h1) (by simpa using h2) hk
theorem ko{a:Str->Option NameKind}{x:Str}{v:Value}:∀{P:List Str}{vs:List Value}{i:Nat}{m:Str->Option Value},P.Nodup->P[i]? = some x->vs[i]? = some v->a x≠some .local ->
  bindC a (P.zip vs) m x=some v
 | [],_,_,_,_,h,_,_=>by simp at h
 | _::_,[],_,_,_,_,h,_=>by simp at h
 | p::P,w::vs,0,m,nd,h1,h2,hk=>by
  simp at h1 h2;subst h1;subst h2;show bindC a ((p,w)::P.zip vs) m p=_;unfold bindC;rw[kD λv b=>(nodup_cons.mp nd).1 (of_mem_zip b).1,if_neg hk];simp
 | p::P,w::vs,i+1,m,nd,h1,h2,hk=>by
  show bindC a ((p,w)::P.zip vs) m x=_;unfold bindC;exact ko (i:=i) (nodup_cons.mp nd).2 (by simpa using h1) (by simpa using h2) hk
def start(N:List Str)(vs:List V):St:=vs.map some++List.replicate (N.length - vs.length) none
def dM(CX:CXT)(P:Program)(w:World)(K:Frag)(mg:Str->Option Value)(base:Heap)(N:List Str)(qual:Str)(scope:Scope)(f:Addr)(cd:Value)(A:Around)(outer:List Env)(s:Shared)(H:Hp)(E:XK):Cx where
 prog:=P
 w:=w
 K:=K
 mg:=mg
 base:=base
 A:=A.deeper (envOfC qual scope s.heap.objs.size f cd)
 N:=N
 s₀:=s
 H₀:=H
 env:=envOfC qual scope s.heap.objs.size f cd
 outer:=outer
 stack:=envOfC qual scope s.heap.objs.size f cd::outer
 ex:=[]
 calm:=true
 fn:=λ_=>true
 pn:=[]
 xe:=λe s'=>wpAny (model P w) (A.deeper (envOfC qual scope s.heap.objs.size f cd)) (leaving (envOfC qual scope s.heap.objs.size f cd) e) (λ_ s''=>CX outer H s E e s'') (λe' s''=>CX outer H s E e' s'') s'
theorem nO{a:Scope}{n:Nat}{x:Str}(h:a.names.lookup x=some .cell):∃ c,(cellsFrom n a.names []).lookup x=some c:=by
 have q:=cellsFrom_some a.names n [] (.inl h);exact Option.isSome_iff_exists.mp q
theorem hX{CX:CXT}{P:Program}{w:World}{K:Frag}{mg:Str->Option Value}{l:Heap}{N ps:List Str}{g:Str}{scope:Scope}{f:Addr}{G:Value}{A:Around}{d:List Env}{s L:Shared}{H:Hp}{E:XK}{us:List Value}{vs:List V}
  (S:FnScope N ps scope) (Q:A.handled=none) (o:Env0 P w K mg l A d s H) (Z:vs.length=ps.length) (r:Vals vs us)
  (x:InCallC s s.heap.objs.size (bindL (envOfC g scope s.heap.objs.size f G).kindOf (ps.zip us) λ_=>none) (cellsFrom (s.heap.objs.size+1) scope.names []) (bindC (envOfC g scope s.heap.objs.size f G).kindOf (ps.zip us) λ_=>none) L) :
  Inv (dM CX P w K mg l N g scope f G A d s H E) [] (start N vs) H L:=by
 have R:ps.length<=N.length:=by have:=congrArg List.length S.pre;rw[length_take]at this;lia
 obtain⟨F,Y,rfl,O⟩:=x.done;have B:∀ b:Addr,b ∉ (dM CX P w K mg l N g scope f G A d s H E).ex:=λb z=>absurd (show b∈([]:List Addr) from z) (by simp)
 refine⟨⟨o.mod,S.kind,rfl,rfl,Nat.le_refl _,λy z c F j=>?_,λy hy=>?_,λy c _ h=>?_,λ_=>Q,Around.frames_deeper o.frames,.inr ⟨rfl,rfl⟩,λb z=>absurd z (B b),o.bs,o.bsz,λb _ _=>B b,λb z=>absurd z (B b),o.funs,o.frf⟩,
  rfl,o.bare,Un.kept O,⟨_,x.toInCall.ns,λi y v F j X=>?_⟩,λy c h=>⟨_,x.cell y c h⟩,o.hok.fresh (Nat.le_refl _),λy c h=>?_,λp D=>absurd (show p∈([]:List (Addr×Obj)) from D) (by simp),o.hok.kept O,?_⟩
 .exact name_of_addr x.apart (PySem.mem_of_lookup F) (PySem.mem_of_lookup j)
 .have hy:scope.names.lookup y=some .cell\/scope.names.lookup y=some .free:=hy
  rcases hy with hy | hy
  .exact nO hy
  .exact absurd rfl (S.nofree _ (PySem.mem_of_lookup hy))
 .exact Nat.le_of_lt (x.above y c (PySem.mem_of_lookup h))
 .have I:i<vs.length:=by
   unfold start at j
   by_cases I:i<vs.length
   .exact I
   .rw[List.getElem?_append_right (by simpa using I)]at j
    rw[List.getElem?_replicate]at j
    split at j <;> cases j
  have T:vs[i]? = some v:=by
   unfold start at j;rw[List.getElem?_append_left (by simpa using I),List.getElem?_map]at j;cases e:vs[i]? with
   | none=>rw[e]at j;cases j
   | some a=>rw[e]at j;cases j;rfl
  obtain⟨u,M,W⟩:=r.get T
  have D:ps[i]? = some y:=by
   rw[<- S.pre,List.getElem?_take_of_lt (by lia)];exact F
  have C:ps.Nodup:=by rw[<- S.pre];exact S.nd.sublist (List.take_sublist _ _)
  refine⟨u,W,?_⟩
  rcases S.par y (List.mem_of_getElem? D) with k | k
  .exact .inl ⟨k,ky C D M k⟩
  .obtain⟨c,e⟩:=nO (n:=s.heap.objs.size+1) k
   refine .inr ⟨.inl k,c,e,?_⟩;have q:=x.cell y c e;rw[ko C D M (by show scope.names.lookup y≠_;rw[k];decide)]at q;exact q
 .exact o.hok.fresh (Nat.le_of_lt (x.above y c (PySem.mem_of_lookup h)))
 .unfold start
  show _=N.length;rw[length_append,length_map,List.length_replicate];lia
theorem uY{CX:CXT}{P:Program}{w:World}{K:Frag}{mg:Str->Option Value}{d:Heap}{k:Nat}{f:Addr}{name a:Str}{g:Arguments}{body:List Stmt}{scope:Scope}{dV kV D pm c Y oc:Value}{W od:Option Addr}
  {M:Array (Option Value)}{N ps:List Str}{sp:Sp}(lk:K.lookup f=some ⟨oc,od,.func (fnOf name a g body scope dV kV D pm W c Y),M⟩) (R:codeIn K c a=true) (S:FnScope N ps scope)
  (C:∀ vs H Q E,sp vs H Q E->vs.length=ps.length)
  (i:∀(A:Around) (outer:List Env) (s:Shared) (H:Hp) (vs:List V) (Q:VK) (E:XK),Room k (A.deeper (envOfC a scope s.heap.objs.size f c))->sp vs H Q E ->
   ∃ t,PSs (dM CX P w K mg d N a scope f c A outer s H E) body t/\t { nx:=λ_ H'=>Q .non H',rt:=Q } (start N vs) H) :
  FnOk P w K mg d CX (k+1) f (fnOf name a g body scope dV kV D pm W c Y) ps sp:=by
 refine⟨C,λA outer s H T us vs Q E G B hb r p=>?_⟩;have hl:=C _ _ _ _ p;have X:K.In s.heap:=B.mod.kin.keeps λb o e=>(B.bs b o e).1
 have O:s.heap.NoLimit:=B.mod.nolimit.keeps λb o e=>(B.bs b o e).1
 have j:∀ y ∈ ps.zip us,scope.names.lookup y.1 = some .local\/(scope.names.lookup y.1 = some .cell/\((cellsFrom (s.heap.objs.size + 1) scope.names []).lookup y.1).isSome = true):=λ⟨n,v⟩ hy=>by
  rcases S.par n (of_mem_zip hy).1 with q | q
  .exact .inl q
  .exact .inr ⟨q,cellsFrom_some _ _ _ (.inl q)⟩
 refine codeAny_call_function G.depth (X _ _ lk) rfl S.co S.gen rfl (codeRec_of X R) (hb _ _ _ _ ?_);refine wpAny_newFunctionEnv_cells S.kind j λab he Z x=>?_
 subst he;refine⟨O.keeps x.toInCall.keep,codeAny_func ?_⟩;obtain⟨t,ht,hq⟩:=i A outer s H vs Q E (G.deeper _) p;have I:Inv (dM CX P w K mg d N a scope f c A outer s H E) [] (start N vs) H Z:=hX S G.hd B hl r x;refine wpAny_mono (ht [] Z (start N vs) H _ I hq) (λfl F l=>?_) λe F l=>l
 have z:∀{h:St}{H':Hp}{v:V}{u:Value},Inv (dM CX P w K mg d N a scope f c A outer s H E) [] h H' F->RelV v u->Q v H'->CE outer P w H s Q u F :=
  λ{h H' v u} J L q=>⟨v,H',J.os,J.bare,J.base,J.hok,L,q⟩
 cases fl with
 | ret u =>
  obtain⟨v,h,H',J,L,q⟩:=l;exact z J L q
 | next =>
  obtain⟨h,H',J,q⟩:=l;exact z (v:=V.non) (u:=Value.none) J rfl q
 | brk =>
  obtain⟨_,_,_,q⟩:=l;exact False.elim q
 | cont =>
  obtain⟨_,_,_,q⟩:=l;exact False.elim q
section
variable {X:Cx}{x:Str}{p pos:Pos}{e:Expr}{es:List Expr}{t:TA}{id T:String}{r:List V->Hp->VK->Prop}
def tCB(r:List V->Hp->VK->Prop)(t:TA):TE:=λσ H Q=>t σ H λvs H1=>r vs H1 Q
theorem av(y:CallR X (.builtin id) r)(w:Gl X x)(g:X.mg x=none)(u:bootBuiltins x=some (.builtin id))(i:PA X (e::es) t)(f:x ≠ "__name__" := by decide)(c:(x == ("__debug__" : Str))=false:=by decide)
  (j:starEach (e::es) X.env=(false,eval e X.env)::starEach es X.env:=by rfl) (b:(backTo pos (starEach es X.env)).any (·.1)=false:=by rfl):PE X (.Call (.Name x p) (e::es) [] pos) (tCB r t):=by
 intro a s d H Q I h;refine wpAny_Call_Name_kw (jd I w g u ?_ f c);exact PyProof.Rows.callWith_builtin1 (thn (i pos a s d H _ I h) λk v ⟨q,n,z,l,o⟩=>y a v d n q k Q z l o) j b
theorem aN(y:CallR X (.type T) r)(w:Gl X x)(g:X.mg x=none)(u:bootBuiltins x=some (.type T))(i:PA X (e::es) t)(f:x ≠ "__name__" := by decide)(c:(x == ("__debug__" : Str))=false:=by decide)
  (j:starEach (e::es) X.env=(false,eval e X.env)::starEach es X.env:=by rfl) (b:(backTo pos (starEach es X.env)).any (·.1)=false:=by rfl):PE X (.Call (.Name x p) (e::es) [] pos) (tCB r t):=by
 intro a s d H Q I h;refine wpAny_Call_Name_kw (jd I w g u ?_ f c);exact PyProof.Rows.callWith_type1 (thn (i pos a s d H _ I h) λk v ⟨q,n,z,l,o⟩=>y a v d n q k Q z l o) j b
end
end L2
namespace HT
open PySem PyProof.Rows
section
open PySem.SeqAt
open PySem.AutoSeq1 (wpAny_loadPart')
open PySem.MeetsSeq PySem.MeetsSeq2 PySem.MeetsSeq3
end
section
variable {prog:Program}{w:World}{A:Around}{E:Value->Shared->Prop}{s:Shared}
def sIx(n d:Nat):Option Int->Nat
 | none=>d
 | some v=>if v<0 then (v+(n:Int)).toNat else min v.toNat n
theorem sIx_none(n d:Nat):sIx n d none=d:=rfl
theorem sIx_nat(n d k:Nat):sIx n d (some (k:Int))=min k n:=by
 show(if (k:Int)<0 then ((k:Int)+(n:Int)).toNat else min (k:Int).toNat n)=min k n;rw[if_neg (by lia),Int.toNat_natCast]
end
end HT
namespace L2
open PySem PySem.Spec PyProof.Rows
abbrev TO:=St->Hp->(Option Int->Hp->Prop)->Prop
def PO(X:Cx)(e:Option Expr)(t:TO):Prop :=
 ∀(pins:List (Addr×Obj)) (s:Shared) (σ:St) (H:Hp) (Q:Option Int->Hp->Prop),Inv X pins σ H s->t σ H Q ->
  wpAny (model X.prog X.w) X.A (evalPart e X.env) (λu s'=>∃ o H',Inv X pins σ H' s'/\IsPart u o/\Q o H') X.xe s
def vV:TO:=λ_ H Q=>Q none H
def Ah(t:TE):TO:=λσ H Q=>t σ H λx H1=>∃ i,x=.int i/\Q (some i) H1
section
variable {X:Cx}{e:Expr}{te:TE}{lo hi:Option Expr}{tl th:TO}{pos p2:Pos}
theorem lT:PO X none vV:=by
 intro a s b H Q I h;rw[evalPart_none];exact wpAny_pure ⟨none,H,I,.none,h⟩
theorem gO(h:PE X e te):PO X (some e) (Ah te):=by
 intro a s f H Q I g;rw[evalPart_some];refine thn (h a s f H _ I g) λu k ⟨x,b,j,c,d⟩=>?_
 obtain⟨i,rfl,q⟩:=d;obtain⟨t,rfl⟩:=c;exact⟨some i,b,j,.int i t,q⟩
def SlR(X:Cx)(r:V->Option Int->Option Int->Hp->VK->Prop):Prop :=
 ∀(pins:List (Addr×Obj)) (s:Shared) (σ:St) (H:Hp) (x:V) (v vl vu:Value) (lo hi:Option Int) (sl:Addr) (Q:VK),Inv X pins σ H s->RelV x v->s.heap.IsSliceOf sl vl vu .none->IsPart vl lo->IsPart vu hi->r x lo hi H Q ->
  ∃ T id,typeLookup (.type T) "__getitem__" = pure (some (.builtin id))/\s.TypeIs v T/\wpAny (model X.prog X.w) X.A (getItem v (.ref sl)) (EP X pins σ Q) X.xe s
def tSl(r:V->Option Int->Option Int->Hp->VK->Prop)(te:TE)(tl th:TO):TE:=λσ H Q=>te σ H λx H1=>tl σ H1 λl H2=>th σ H2 λu H3=>r x l u H3 Q
theorem gH{r:V->Option Int->Option Int->Hp->VK->Prop}(o:SlR X r)(w:PE X e te)(F:PO X lo tl)(B:PO X hi th):PE X (.Subscript e (.Slice lo hi none p2) pos) (tSl r te tl th):=by
 intro a s c H Q I h;refine Subscript_ (thn (w a s c H _ I h) λv z ⟨x,C,k,y,n⟩=>?_);refine wpAny_Slice (thn (F a z c C _ k n) λd G ⟨l,E,p,g,j⟩=>thn (B a G c E _ p j) λvu s3 ⟨u,H3,I3,pu,q3⟩=>?_);rw[evalPart_none];refine wpAny_pure ?_;have f:Inv X a c H3 { s3 with heap:=s3.heap.push { cls:=.type "slice",data:=.fields #[d,vu,.none] } }:=I3.kept (t':=s3.toks) λb L q=>Heap.get?_push_of_some _ q
 obtain⟨T,K,D,i,A⟩:=o a { s3 with heap:=s3.heap.push { cls:=.type "slice",data:=.fields #[d,vu,.none] } } c H3 x v d vu l u s3.heap.objs.size Q f y (Heap.IsSliceOf.new ..) g pu q3;show wpAny (model X.prog X.w) X.A (subscriptTail e (.Slice lo hi none p2) v (.ref s3.heap.objs.size)) (EP X a c Q) X.xe { s3 with heap:=s3.heap.push { cls:=.type "slice",data:=.fields #[d,vu,.none] } };exact tail_any (ops:=[.ref s3.heap.objs.size,v]) i D A (by with_unfolding_all rfl)
def dY(xs:List V)(lo hi:Option Int):List V:=(xs.drop (HT.sIx xs.length 0 lo)).take (HT.sIx xs.length xs.length hi - HT.sIx xs.length 0 lo)
theorem iI(xs:List V)(lo a:Option Int):(dY xs lo a).length<=xs.length:=by
 unfold dY;rw[length_take,length_drop];lia
end
def ixN(n:Nat)(i:Int):Option Nat:=if 0<=i then (if i<n then some i.toNat else none) else if -(n:Int)<=i then some (i+n).toNat else none
def atI{α:Type}(xs:List α)(i:Int):Option α:=(ixN xs.length i).bind λj=>xs[j]?
theorem qt{n:Nat}{i:Int}{j:Nat}(h:ixN n i=some j):seqIndex? i n=some j/\j<n/\-(n:Int)<=i/\i<n:=by
 unfold ixN at h
 by_cases h0:0<=i
 .rw[if_pos h0]at h
  by_cases h1:i<n
  .rw[if_pos h1]at h
   have e:i.toNat=j:=Option.some.inj h;exact⟨by rw[seqIndex_of h0 h1,e],by lia,by lia,h1⟩
  .rw[if_neg h1]at h;cases h
 .rw[if_neg h0]at h
  by_cases h1:-(n:Int)<=i
  .rw[if_pos h1]at h
   have e:(i+n).toNat=j:=Option.some.inj h;exact⟨by rw[seqIndex_neg (by lia) h1,e],by lia,h1,by lia⟩
  .rw[if_neg h1]at h;cases h
theorem lI{a:Type}{xs:List a}{i:Int}{v:a}(h:atI xs i=some v):∃ j,seqIndex? i xs.length=some j/\xs[j]? = some v/\j<xs.length/\-(xs.length:Int)<=i/\i<xs.length:=by
 unfold atI at h;cases e:ixN xs.length i with
 | none=>rw[e]at h;cases h
 | some j =>
  rw[e]at h;obtain⟨d,c,b,f⟩:=qt e;exact⟨j,d,h,c,b,f⟩
theorem dH{a:Type}{xs:List a}{j:Nat}{v:a}(h:xs[j]? = some v):atI xs (j:Int)=some v:=by
 have b:j<xs.length:=(List.getElem?_eq_some_iff.mp h).1
 have e:ixN xs.length (j:Int)=some j:=by
  unfold ixN;rw[if_pos (by lia),if_pos (by lia)];simp
 unfold atI;rw[e];exact h
theorem mX{a:Type}(xs:List a)(v:a):atI (xs++[v]) (-1)=some v:=by
 have b:(xs++[v]).length=xs.length+1:=by simp
 have e:ixN (xs++[v]).length (-1)=some xs.length:=by
  unfold ixN;rw[b,if_neg (by decide),if_pos (by lia)]
  congr 1
  lia
 unfold atI;rw[e];show(xs++[v])[xs.length]? = some v;simp
def vH(b:Expr):Prop:=∀ o i,subscripted b false o i=operate [o,i] (getItem o i)
def IxR(X:Cx)(r:R2):Prop :=
 ∀(value slice:Expr) (pins:List (Addr×Obj)) (s:Shared) (σ:St) (H:Hp) (x y:V) (v u:Value) (Q:VK),Inv X pins σ H s->RelV x v->RelV y u->r x y H Q ->
  subscripted slice false v u=operate [v,u] (getItem v u)->wpAny (model X.prog X.w) X.A (subscriptTail value slice v u) (EP X pins σ Q) X.xe s
def MtR(X:Cx)(id:String)(r:V->List V->Hp->VK->Prop):Prop :=
 ∀(pins:List (Addr×Obj)) (s:Shared) (σ:St) (H:Hp) (x:V) (xs:List V) (v:Value) (us:List Value) (Q:VK),Inv X pins σ H s->RelV x v->Vals xs us->r x xs H Q ->
  wpAny (model X.prog X.w) X.A (call (.builtin id) (v::us)) (EP X pins σ Q) X.xe s
section
variable {X:Cx}{a b:Expr}{ta tb:TE}{pos:Pos}
theorem IxR.or{r g:R2}(h:IxR X r)(h':IxR X g):IxR X (λx y H Q=>r x y H Q\/g x y H Q):=by
 intro a b c s i H x y v u Q I j f q d
 rcases q with q | q
 .exact h a b c s i H x y v u Q I j f q d
 .exact h' a b c s i H x y v u Q I j f q d
theorem aI{r:R2}(l:IxR X r)(f:PE X a ta)(i:PE X b tb)(d:vH b):PE X (.Subscript a b pos) (tOp r ta tb):=by
 intro c s n H Q I h;exact Subscript_ (xU f i I h λv u o x y k g p j q=>l a b c o n k x y v u Q g p j q (d _ _))
inductive rIxL(K:Frag)(x y:V)(H:Hp)(Q:VK):Prop
 | mk(p:Addr)(xs:List V)(i:Int)(v:V)(h0:x=.ref p)(h1:y=.int i)(h2:SqL K H p xs)(h3:atI xs i=some v)(h4:Q v H):rIxL K x y H Q
inductive rIxT(K:Frag)(x y:V)(H:Hp)(Q:VK):Prop
 | mk(p:Addr)(xs:List V)(i:Int)(v:V)(h0:x=.ref p)(h1:y=.int i)(h2:SqT K H p xs)(h3:atI xs i=some v)(h4:Q v H):rIxT K x y H Q
def Ag:R2:=λx y H Q=>∃ z i c,x=.str z/\y=.int i/\z.length<=sizeLine/\atI z.cps.toList i=some c/\Q (.str ⟨#[c]⟩) H
theorem ix_list:IxR X (rIxL X.K):=by
 intro k f a s A H x y v u Q I N D h B;obtain⟨p,S,i,z,rfl,rfl,K,F,q⟩:=h;cases N;obtain⟨t,rfl⟩:=D;obtain⟨n,r,d,O⟩:=I.list K;obtain⟨j,c,G,R,E,M⟩:=lI F;obtain⟨w,o,g⟩:=r.get G;have L:=r.length;have P:=gD
 have b:EP X a A Q w s:=⟨z,H,I,g,q⟩
 by_cases h0:0<=i
 .have l:i.toNat=j:=by
   rw[seqIndex_of h0 M]at c;exact Option.some.inj c
  exact item_listR d.isList h0 (by lia) (by rw[l];simpa using o) b B
 .have l:(i+(n.toArray.size:Int)).toNat=j:=by
   rw[seqIndex_neg (by lia) E]at c;rw[size_toArray,<- L];exact Option.some.inj c
  exact subscriptTail_builtinR (x:=w) d.isList.typeIs slot_list_getitem.lookup
   (wpAny_getItem_list_neg (Q:=λr C=>r=w/\EP X a A Q r C) d.isList (by lia) (by rw[size_toArray] <;> lia) (by lia) (by rw[l];simpa using o) ⟨rfl,b⟩) B
theorem ix_tup:IxR X (rIxT X.K):=by
 intro f c a s k H x y v u Q I K n h D;obtain⟨p,P,i,z,rfl,rfl,E,B,q⟩:=h;cases K;obtain⟨t,rfl⟩:=n;obtain⟨G,r,g,L⟩:=I.tuple E;obtain⟨j,o,C,O,N,R⟩:=lI B;obtain⟨w,A,d⟩:=r.get C;have F:=r.length;have M:=gD
 have b:EP X a k Q w s:=⟨z,H,I,d,q⟩
 exact subscriptTail_builtinR (x:=w) g.typeIs slot_tuple_getitem.lookup
  (getItem_tuple (j:=j) (Q:=λr l=>r=w/\EP X a k Q r l) g (by lia) (by lia) (by rw[size_toArray,<- F];exact o) (by simpa using A) ⟨rfl,b⟩) D
theorem yk:IxR X Ag:=by
 intro b a d s F H x y v u Q I B l h r;obtain⟨z,i,c,rfl,rfl,C,o,q⟩:=h;obtain⟨t,rfl⟩:=B;obtain⟨G,rfl⟩:=l;obtain⟨j,f,p,E,n,A⟩:=lI o;have w:z.cps.toList.length=z.length:=by simp[Str.length]
 rw[w]at f n A;have D:=gD
 exact tail_any (typeIs_str s z t) slot_str_getitem.lookup (getItem_str (c:=c) (by
  have k:decide (i < -(2 ^ 63:Int))=false:=decide_eq_false (by lia);have g:decide (i >= 2 ^ 63)=false:=decide_eq_false (by lia)
  rw[k,g,Bool.or_false]) (by rw[f];simpa using p) ⟨.str ⟨#[c]⟩,H,I.tok _,⟨_,rfl⟩,q⟩) r
def rIx(K:Frag):R2:=λx y H Q=>rIxL K x y H Q\/rIxT K x y H Q\/Ag x y H Q
theorem aB:IxR X (rIx X.K):=ix_list.or (ix_tup.or yk)
theorem ow(its:List Value)(n j:Nat)(u:Value):Obj.mapSeq (·.setIfInBounds j u) { cls:=.type "list",data:=.seq its.toArray n }={ cls:=.type "list",data:=.seq (its.set j u).toArray n }:=by
 simp[Obj.mapSeq]
theorem Inv.lst{a:List (Addr×Obj)}{σ:St}{H:Hp}{s:Shared}{p:Addr}{xs:List V}(I:Inv X a σ H s)(h:H p=some (.lst xs)) :
  ∃(its:List Value) (n:Nat),Vals xs its/\s.heap.get? p=some { cls:=.type "list",data:=.seq its.toArray n }/\xs.length<=sizeLine:=by
 obtain⟨z,its,n,r,e⟩:=I.hok p _ h;exact⟨its,n,r,e,z⟩
theorem Inv.lstUpd{a:List (Addr×Obj)}{σ:St}{H:Hp}{s:Shared}{p:Addr}{xs ys:List V}{its its':List Value}{n c:Nat}{f:Obj->Obj}(I:Inv X a σ H s)(h:H p=some (.lst xs))
  (i:s.heap.get? p=some { cls:=.type "list",data:=.seq its.toArray n }) (d:f { cls:=.type "list",data:=.seq its.toArray n }={ cls:=.type "list",data:=.seq its'.toArray c }) (r:Vals ys its') (hz:ys.length<=sizeLine) (t:Nat) :
  Inv X a σ (upd H p (.lst ys)) { s with heap:=s.heap.update p f,toks:=t }:=by
 have e:(s.heap.update p f).get? p=some { cls:=.type "list",data:=.seq its'.toArray c }:=by
  rw[Heap.get?_update_self f i (by rw[d] <;> rfl),d]
 refine I.write (x:=p) (e:=p) (by rw[h];trivial) (.inl rfl) (λb u g q=>(Heap.get?_update_other _ _ (Ne.symm g)).trans q) ⟨_,e⟩ ?_;exact⟨hz,its',c,r,e⟩
def Ar:V->V->V->Hp->(Hp->Prop)->Prop:=λo i v H Q=>∃ p xs k j,o=.ref p/\i=.int k/\H p=some (.lst xs)/\ixN xs.length k=some j/\Q (upd H p (.lst (xs.set j v)))
theorem tT:Ay X Ar:=by
 intro a s D H o i v L K u Q I F B C h;obtain⟨p,E,k,j,rfl,rfl,y,A,q⟩:=h;cases F;obtain⟨t,rfl⟩:=B;obtain⟨b,n,r,d,z⟩:=I.lst y;obtain⟨c,M,w,l⟩:=qt A;have f:=r.length;have G:=gD
 have x:Inv X a D (upd H p (.lst (E.set j v))) { s with heap:=s.heap.update p (Obj.mapSeq (·.setIfInBounds j u)) } :=
  I.lstUpd y d (ow b n j u) (r.set C j) (by rw[length_set];exact z) s.toks
 by_cases h0:0<=k
 .have g:k.toNat=j:=by
   rw[seqIndex_of h0 l]at c;exact Option.some.inj c
  exact PySem.W.ki_setAt d h0 (by lia) (by rw[size_toArray,<- f];exact l) (by rw[g];exact⟨_,x,q⟩)
 .have g:(k+(b.toArray.size:Int)).toNat=j:=by
   rw[seqIndex_neg (by lia) w]at c;rw[size_toArray,<- f];exact Option.some.inj c
  exact PySem.W.ki_setBack d (by lia) (by rw[size_toArray,<- f];exact w) (by lia) (by rw[g];exact⟨_,x,q⟩)
theorem lM(lo a:Option Int)(n:Nat):(sliceBounds lo a none n).1=((HT.sIx n 0 lo:Nat):Int)/\(sliceBounds lo a none n).2.1=((HT.sIx n n a:Nat):Int)/\(sliceBounds lo a none n).2.2=1:=by
 refine⟨?_,?_,rfl⟩
 .cases lo with
  | none=>simp[sliceBounds,HT.sIx]
  | some i =>
   simp only[sliceBounds,HT.sIx,Option.getD_none,show(1:Int) > 0 by decide,if_true]
   by_cases h:i<0
   .simp only[h,if_true] <;> lia
   .simp only[h,if_false] <;> lia
 .cases a with
  | none=>simp[sliceBounds,HT.sIx]
  | some i =>
   simp only[sliceBounds,HT.sIx,Option.getD_none,show(1:Int) > 0 by decide,if_true]
   by_cases h:i<0
   .simp only[h,if_true] <;> lia
   .simp only[h,if_false] <;> lia
theorem jW(its:List Value)(lo a:Option Int):slicePick its.toArray lo a none=((its.drop (HT.sIx its.length 0 lo)).take (HT.sIx its.length its.length a - HT.sIx its.length 0 lo)).toArray:=by
 obtain⟨d,c,b⟩:=lM lo a its.toArray.size;unfold slicePick;rw[d,c,b]
 simp only[sliceRange_one,pick_run,size_toArray] <;> rfl
def Bp(K:Frag):V->Option Int->Option Int->Hp->VK->Prop:=λx lo hi H Q=>∃ a xs,x=.ref a/\SqL K H a xs/\∀ p,H p=none->Q (.ref p) (upd H p (.lst (dY xs lo hi)))
theorem i7:SlR X (Bp X.K):=by
 intro i s C H x v D A f g z Q I w k l y h;obtain⟨a,c,rfl,n,q⟩:=h;cases w;obtain⟨u,r,j,p⟩:=I.list n;have d:=r.length;refine⟨"list",_,slot_list_getitem.lookup,j.isList.typeIs,?_⟩;refine wpAny_getItem_list_slice j.isList k l y .none (by simp) ?_ (by rw[size_toArray] <;> lia);rw[jW,<- d];refine⟨.ref s.heap.objs.size,_,I.laid (t':=s.toks) (o:=.lst (dY c f g)) (λb B q=>Heap.get?_push_of_some _ q) (Nat.le_refl _) ?_,rfl,q _ (I.hok.fresh (Nat.le_refl _))⟩;exact⟨Nat.le_trans (iI c f g) p,_,0,(r.drop (HT.sIx c.length 0 f)).take (HT.sIx c.length c.length g - HT.sIx c.length 0 f),Heap.get?_push_size _ rfl⟩
theorem kP:CallR X (.builtin "len") (λxs H Q=>∃ p ys,xs=[.ref p]/\(SqL X.K H p ys\/SqT X.K H p ys)/\Q (.int ys.length) H):=by
 intro f s l H xs k Q I r h;obtain⟨p,ys,rfl,hq,q⟩:=h;obtain⟨u,rfl,i⟩:=cV r;cases i;have j:=gD
 rcases hq with hq | hq
 .obtain⟨d,c,b,g⟩:=I.list hq
  have a:=c.length;exact Calls.call_len_list b.isList (by simp only[size_toArray] <;> lia) ⟨.int ys.length,H,I.tok _,⟨s.toks+1,by rw[size_toArray,a]⟩,q⟩
 .obtain⟨d,c,b,g⟩:=I.tuple hq
  have a:=c.length;exact len_tuple b (by simp only[size_toArray] <;> lia) ⟨.int ys.length,H,I.tok _,⟨s.toks+1,by rw[size_toArray,a]⟩,q⟩
theorem call_len_str:CallR X (.builtin "len") (λxs H Q=>∃ z,xs=[.str z]/\z.length<=sizeLine/\Q (.int z.length) H):=by
 intro a s f H xs c Q I r h;obtain⟨z,rfl,d,q⟩:=h;obtain⟨u,rfl,t,rfl⟩:=cV r;have b:=gD;exact len_str (by lia) ⟨.int z.length,H,I.tok _,⟨_,rfl⟩,q⟩
theorem CallR.or{f:Value}{r c:List V->Hp->VK->Prop}(h:CallR X f r)(h':CallR X f c):CallR X f (λxs H Q=>r xs H Q\/c xs H Q):=by
 intro a s g H xs b Q I d q
 rcases q with q | q
 .exact h a s g H xs b Q I d q
 .exact h' a s g H xs b Q I d q
inductive rListOf(K:Frag)(xs:List V)(H:Hp)(Q:VK):Prop
 | mk(p:Addr)(ys:List V)(h0:xs=[.ref p])(h1:SqL K H p ys\/SqT K H p ys)(h2:∀ l,H l=none->Q (.ref l) (upd H l (.lst ys))):rListOf K xs H Q
theorem eU:CallR X (.type "list") (rListOf X.K):=by
 intro i s B H D C Q I r h;obtain⟨p,z,rfl,hq,q⟩:=h;obtain⟨u,rfl,A⟩:=cV r;cases A
 have g:∀(a:List Value),Vals z a->z.length<=sizeLine->∀(c:Heap) (d:Nat),(∀ b o',s.heap.get? b=some o'->c.get? b=some o') ->
   c.get? s.heap.objs.size=some { cls:=.type "list",dict:=none,data:=.seq a.toArray d,slots:=#[] }->EP X i B Q (.ref s.heap.objs.size) { s with heap:=c }:=λa f j c d k e =>
  ⟨.ref s.heap.objs.size,_,I.laid (t':=s.toks) k (Nat.le_refl _) (show ObjOk X.prog X.w _ c _ (.lst z) from⟨j,a,d,f,e⟩),rfl,q _ (I.hok.fresh (Nat.le_refl _))⟩
 rcases hq with hq | hq
 .obtain⟨a,f,v,j⟩:=I.list hq
  have l:=f.length;obtain⟨o,y,x,n,w⟩:=v.isList;exact call_list_seq p (.inl rfl) y x w (λc d k e=>g a f j c d k e) (by simp only[size_toArray] <;> lia)
 .obtain⟨a,f,v,j⟩:=I.tuple hq
  have l:=f.length;obtain⟨o,y,x,n,w⟩:=v;exact call_list_seq p (.inr rfl) y x w (λc d k e=>g a f j c d k e) (by simp only[size_toArray] <;> lia)
theorem dZ:CallR X (.type "tuple") (λxs H Q=>∃ p ys,xs=[.ref p]/\((SqL X.K H p ys/\∀ l,H l=none->Q (.ref l) (upd H l (.tup ys)))\/(SqT X.K H p ys/\Q (.ref p) H))):=by
 intro a s j H xs z Q I r h;obtain⟨p,ys,rfl,h⟩:=h;obtain⟨u,rfl,y⟩:=cV r;cases y
 rcases h with⟨g,q⟩ | ⟨g,q⟩
 .obtain⟨c,i,f,k⟩:=I.list g
  have n:=i.length;refine call_tuple_list f.isList (λd x=>?_) (by simp only[size_toArray] <;> lia);have v:Inv X a j H { s with heap:=d }:=I.kept (t':=s.toks) x
  have w:Inv X a j (upd H d.objs.size (.tup ys)) { s with heap:=d.push { cls:=.type "tuple",data:=.seq c.toArray } } :=
   v.laid (t':=s.toks) (λb o e=>Heap.get?_push_of_some _ e) (Nat.le_refl _) (show ObjOk X.prog X.w _ _ _ (.tup ys) from⟨k,c,i,IsTup.new _ _⟩)
  exact⟨.ref d.objs.size,_,w,rfl,q _ (v.hok.fresh (Nat.le_refl _))⟩
 .obtain⟨c,i,f,k⟩:=I.tuple g
  exact call_tuple_same f ⟨.ref p,H,I,rfl,q⟩
def tyV(K:Frag)(T:String)(x:V)(H:Hp):Prop:=match x with
 | .str _=>T = "str"
 | .int _=>T = "int"
 | .ref p=>(T = "list" /\ ∃ xs,SqL K H p xs)\/(T = "tuple" /\ ∃ o,K.lookup p=some o/\o.cls=.type "tuple" /\ o.dict=none) \/
   (T = "dict" /\ ((∃ kvs,H p=some (.dK kvs))\/∃ kvs,H p=some (.dT kvs)))\/(T = "set" /\ ∃ S n,H p=some (.set S n))
 | _=>False
theorem tK{f:List (Addr×Obj)}{σ:St}{H:Hp}{s:Shared}{T:String}{x:V}{v:Value}(I:Inv X f σ H s)(r:RelV x v)(ty:tyV X.K T x H) :
  s.TypeIs v T/\∀ a,v=.ref a->∃ ob,s.heap.get? a=some ob/\ob.dict=none:=by
 cases x with
 | str z =>
  obtain⟨t,rfl⟩:=r;cases(show T = "str" from ty);exact⟨typeIs_str s z t,λ_ e=>nomatch e⟩
 | int i =>
  obtain⟨t,rfl⟩:=r;cases(show T = "int" from ty);exact⟨typeIs_int s i t,λ_ e=>nomatch e⟩
 | ref p =>
  cases r
  rcases ty with⟨rfl,w,l⟩ | ⟨rfl,o,b,q,j⟩ | ⟨rfl,b⟩ | ⟨rfl,S,n,b⟩
  .obtain⟨u,_,k,_⟩:=I.list l
   refine⟨k.isList.typeIs,λa e=>?_⟩;cases e;obtain⟨o,n,e,c,j,_⟩:=k;exact⟨o,e,j⟩
  .refine⟨⟨o,I.kIn p o b,q⟩,λa e=>?_⟩
   cases e;exact⟨o,I.kIn _ o b,j⟩
  .have z:∃ o,s.heap.get? p=some o/\o.ExactDict:=by
    rcases b with⟨h,b⟩ | ⟨h,b⟩
    .obtain⟨_,_,_,_,o,_,_,e,d,_⟩:=I.hok p _ b
     exact⟨o,e,d⟩
    .obtain⟨_,_,_,_,o,_,_,e,d,_⟩:=I.hok p _ b
     exact⟨o,e,d⟩
   obtain⟨o,e,d⟩:=z;refine⟨⟨o,e,d.1⟩,λa g=>?_⟩;cases g;exact⟨o,e,d.2.1⟩
  .obtain⟨o,_,_,_,e,d,_⟩:=I.hok p _ b
   refine⟨⟨o,e,d.1⟩,λa g=>?_⟩;cases g;exact⟨o,e,d.2.1⟩
 | _=>exact False.elim ty
def An(K:Frag)(T:String)(r:V->List V->Hp->VK->Prop)(to:TE):TE:=λσ H Q=>to σ H λx H1=>tyV K T x H1/\r x [] H1 Q
def tBM(K:Frag)(T:String)(r:V->List V->Hp->VK->Prop)(to:TE)(t:TA):TE:=λσ H Q=>to σ H λx H1=>tyV K T x H1/\t σ H1 λxs H2=>r x xs H2 Q
variable {o e:Expr}{es:List Expr}{to:TE}{t:TA}{name:Str}{apos cpos:Pos}{T id:String}{r:V->List V->Hp->VK->Prop}
theorem xL(k:PlainAttrs T)(d:Slot T name id)(f:typeOf (.builtin id)=pure (.type "method_descriptor"))(l:MtR X id r)(z:PE X o to)
  (c:attributeBase o name X.env (eval o X.env)=eval o X.env:=by rfl) (b:(apos.endLine == cpos.line)=true:=by rfl):PE X (.Call (.Attribute o name apos) [] [] cpos) (An X.K T r to):=by
 intro a s i H Q I h;refine wpAny_Call_method0_late c b (thn (z a s i H _ I h) λv y ⟨x,n,j,g,w,q⟩=>?_);obtain⟨p,u⟩:=tK j g w;exact⟨T,id,k,d,f,p,u,Calls.callWith_builtin rfl (PySem.evalArgs_none (l a y i n x [] v [] Q j g .nil q))⟩
theorem vj(C:PlainAttrs T)(f:Slot T name id)(i:typeOf (.builtin id)=pure (.type "method_descriptor"))(q:MtR X id r)(B:PE X o to)(u:PA X (e::es) t)
  (d:attributeBase o name X.env (eval o X.env)=eval o X.env:=by rfl)
  (g:((backTo cpos (starEach (e::es) X.env)).all (λx=>!x.1) && (backToKw cpos (keywordEach [] X.env)).all (λx=>x.1.isSome)
   && decide ((e::es).length+([]:List Keyword).length+(if ([]:List Keyword).isEmpty then 0 else 1)<30))=true:=by rfl)
  (c:(apos.endLine == cpos.line)=true:=by rfl) (K:starEach (e::es) X.env=(false,eval e X.env)::starEach es X.env:=by rfl) (b:(backTo cpos (starEach es X.env)).any (·.1)=false:=by rfl) :
  PE X (.Call (.Attribute o name apos) (e::es) [] cpos) (tBM X.K T r to t):=by
 intro a s j H Q I h;refine wpAny_Call_method_late d g c rfl (thn (B a s j H _ I h) λv G ⟨x,L,l,n,A,y⟩=>?_);obtain⟨w,F⟩:=tK l n A;refine⟨T,id,C,f,i,w,F,?_⟩;have k:=u cpos a G j L _ l y;rw[K]at k ⊢;refine Calls.callWith_builtin (by show(false || (backTo cpos (starEach es X.env)).any (·.1))=false;rw[b] <;> rfl) (Calls.evalArgs_plain ?_);exact thn k λE N ⟨z,M,D,O,p⟩=>q a N j M x z v E Q D n O p
end
def MtM(X:Cx)(id:String)(r:V->List V->Hp->VK->Prop):Prop :=
 ∀(pins:List (Addr×Obj)) (s:Shared) (σ:St) (H:Hp) (x:V) (xs:List V) (v:Value) (us:List Value) (Q:VK),Inv X pins σ H s->RelV x v->Vals xs us->r x xs H Q ->
  wpAny (model X.prog X.w) X.A (call (.builtin id) (v::us)) (EP X pins σ Q) X.xe s
theorem Vals.one:∀{x:V}{us:List Value},Vals [x] us->∃ u,us=[u]/\RelV x u
 | _,_,.cons r .nil=>⟨_,rfl,r⟩
theorem Vals.zero:∀{us:List Value},Vals [] us->us=[]
 | _,.nil=>rfl
theorem Vals.dropLast{xs:List V}{us:List Value}(h:Vals xs us):Vals xs.dropLast us.dropLast:=by
 induction h with
 | nil=>exact .nil
 | cons r t ih =>
  cases t with
  | nil=>exact .nil
  | cons q t'=>exact .cons r ih
theorem Vals.rep{xs:List V}{us:List Value}(h:Vals xs us):∀ k:Nat,Vals (List.replicate k xs).flatten (List.replicate k us).flatten
 | 0=>.nil
 | k+1=>by
  rw[replicate_succ,replicate_succ,flatten_cons,flatten_cons];exact Vals.append h (Vals.rep h k)
theorem pA{c:Type}(l:List c):l.eraseIdx (l.length - 1)=l.dropLast:=by
 induction l with
 | nil=>rfl
 | cons a r ih =>
  cases r with
  | nil=>rfl
  | cons b r =>
   have e:(a::b::r).length - 1=((b::r).length - 1)+1:=by
    have f:(a::b::r).length=r.length+2:=rfl;have d:(b::r).length=r.length+1:=rfl;lia
   rw[e,List.eraseIdx_cons_succ,ih]
   all_goals rfl
theorem kd(its:List Value):∀(k:Nat) (acc:List Value),
  List.foldl (λx1 x2=>x1++x2) acc.toArray (List.replicate k its.toArray)=(acc++(List.replicate k its).flatten).toArray
 | 0,acc=>by simp
 | k+1,acc=>by
  have e:acc.toArray++its.toArray=(acc++its).toArray:=by simp
  have a:(acc++its)++(List.replicate k its).flatten=acc++(List.replicate (k+1) its).flatten:=by
   rw[replicate_succ,flatten_cons,append_assoc]
  rw[<- a,<- kd its k (acc++its),<- e,replicate_succ,foldl_cons]
section
variable {X:Cx}{pins:List (Addr×Obj)}{σ:St}{H:Hp}{s:Shared}{l b:Addr}{xs ys zs:List V}
theorem Inv.lset{its its':List Value}{n:Nat}{f:Array Value->Array Value}{t':Nat}(I:Inv X pins σ H s)(a:H l=some (.lst xs))
  (e:s.heap.get? l=some { cls:=.type "list",data:=.seq its.toArray n }) (c:f its.toArray=its'.toArray) (d:Vals ys its') (hz:ys.length<=sizeLine) :
  Inv X pins σ (upd H l (.lst ys)) { s with heap:=s.heap.update l (Obj.mapSeq f),toks:=t' }:=by
 have q:=PySem.IsL.update e f;rw[c]at q;refine I.write (x:=l) (e:=l) (by rw[a];exact trivial) (.inl rfl) (λh u b g=>(Heap.get?_update_other s.heap (Obj.mapSeq f) (Ne.symm b)).trans g) ⟨_,q⟩ ?_;exact⟨hz,its',_,d,q⟩
theorem Inv.lnew{its:List Value}{t':Nat}(I:Inv X pins σ H s)(a:Vals ys its)(hz:ys.length<=sizeLine) :
  Inv X pins σ (upd H s.heap.objs.size (.lst ys)) { s with heap:=s.heap.push { cls:=.type "list",data:=.seq its.toArray },toks:=t' } :=
 I.laid (λ_ _ q=>Heap.get?_push_of_some _ q) (Nat.le_refl _) ⟨hz,its,0,a,Heap.get?_push_size _ rfl⟩
theorem Inv.fresh(I:Inv X pins σ H s):H s.heap.objs.size=none:=I.hok.fresh (Nat.le_refl _)
theorem Inv.lstM(I:Inv X pins σ H s)(a:H l=some (.lst xs)):xs.length<=sizeLine/\∃(its:List Value) (n:Nat),Vals xs its/\xs.length=its.length/\s.heap.get? l=some { cls:=.type "list",data:=.seq its.toArray n }:=by
 obtain⟨z,its,n,r,e⟩:=I.hok l _ a;exact⟨z,its,n,r,r.length,e⟩
theorem oo{n:Nat}(h:n<=sizeLine):Builtin.List.listTooLong n=false:=by
 unfold Builtin.List.listTooLong;exact decide_eq_false (by lia)
end
section
variable {X:Cx}
inductive rAppend(x:V)(vs:List V)(H:Hp)(Q:VK):Prop
 | mk(l:Addr)(xs:List V)(y:V)(h0:x=.ref l)(h1:vs=[y])(h2:H l=some (.lst xs))(h3:xs.length<sizeLine)(h4:Q .non (upd H l (.lst (xs++[y])))):rAppend x vs H Q
theorem kz:MtM X "list.append" rAppend:=by
 intro b s w H x k v i Q I g f h;obtain⟨l,j,y,rfl,rfl,c,o,q⟩:=h;cases g;obtain⟨u,rfl,d⟩:=f.one;obtain⟨z,a,n,r,p,e⟩:=I.lstM c;refine call_meets F.slot_list_append ⟨_,e,rfl⟩ F.entry_list_append (F.args_list_append_2 _ _) (PySem.list_append l a.toArray n u (by rw[size_toArray];lia)) ⟨e,?_⟩;refine⟨.non,_,I.lset (its':=a++[u]) c e (by simp) (r.append (.cons d .nil)) ?_,rfl,q⟩;rw[length_append,length_singleton];lia
def qj:V->List V->Hp->VK->Prop:=λx vs H Q=>∃ l b xs zs,x=.ref l/\vs=[.ref b]/\H l=some (.lst xs)/\H b=some (.lst zs)/\xs.length+zs.length<=sizeLine/\Q .non (upd H l (.lst (xs++zs)))
theorem rT:MtM X "list.extend" qj:=by
 intro g s K H x D v E Q I B o h;obtain⟨l,b,L,N,rfl,rfl,i,p,C,q⟩:=h;cases B;obtain⟨u,rfl,k⟩:=o.one;cases k;obtain⟨z,c,n,r,M,e⟩:=I.lstM i;obtain⟨G,a,w,A,y,j⟩:=I.lstM p;have f:c.toArray.size+a.toArray.size<=sizeLine:=by rw[size_toArray,size_toArray];lia
 have d:¬(!c.toArray.isEmpty && Builtin.List.listTooLong (c.toArray.size+a.toArray.size))=true:=by
  rw[oo f,Bool.and_false];exact Bool.false_ne_true
 refine call_meets F.slot_list_extend ⟨_,e,rfl⟩ F.entry_list_extend (F.args_list_extend_2 _ _)
  (AutoSeq1.list_extend_list_list_0 l c.toArray n b a.toArray w d (by rw[size_toArray];lia) (by lia)) ⟨e,j,?_⟩
 refine⟨.non,_,I.lset (its':=c++a) i e (by simp) (r.append A) ?_,rfl,q⟩;rw[length_append];lia
def Aq:V->List V->Hp->VK->Prop:=λx vs H Q=>∃ l xs y,x=.ref l/\vs=[]/\H l=some (.lst xs)/\xs[xs.length - 1]? = some y/\Q y (upd H l (.lst xs.dropLast))
theorem yc:MtM X "list.pop" Aq:=by
 intro d s C H x B v w Q I k o h;obtain⟨l,A,y,rfl,rfl,f,g,q⟩:=h;cases k;have b:=o.zero;subst b;obtain⟨z,a,n,r,j,e⟩:=I.lstM f;obtain⟨u,p,i⟩:=r.get g
 have c:a.toArray[a.toArray.size - 1]? = some u:=by
  show a.toArray[a.length - 1]? = some u;rw[<- Array.getElem?_toList,<- j];exact p
 refine call_meets F.slot_list_pop ⟨_,e,rfl⟩ F.entry_list_pop (F.args_list_pop_1 _) (MeetsSeq.list_pop_last l a.toArray n u c (by rw[size_toArray];lia)) ⟨e,?_⟩;refine⟨y,_,I.lset (its':=a.dropLast) f e ?_ r.dropLast ?_,i,q⟩
 .show a.toArray.eraseIdxIfInBounds (a.toArray.size - 1)=a.dropLast.toArray
  rw[size_toArray,List.eraseIdxIfInBounds_toArray,pA]
 .rw[List.length_dropLast]
  lia
inductive rCat(x y:V)(H:Hp)(Q:VK):Prop
 | mk(l b:Addr)(xs zs:List V)(h0:x=.ref l)(h1:y=.ref b)(h2:H l=some (.lst xs))(h3:H b=some (.lst zs))(h4:xs.length+zs.length<=sizeLine)(h5:∀ p,H p=none->Q (.ref p) (upd H p (.lst (xs++zs)))):rCat x y H Q
theorem dL:OpR X (binaryOp .Add) rCat:=by
 intro d s G H x y v u Q I p i h;obtain⟨l,b,B,F,rfl,rfl,w,o,D,q⟩:=h;cases p;cases i;obtain⟨z,c,n,r,E,e⟩:=I.lstM w;obtain⟨C,a,A,k,j,g⟩:=I.lstM o;refine PySem.P.add_list e g ?_ (by rw[size_toArray,size_toArray];lia);have f:c.toArray++a.toArray=(c++a).toArray:=by simp
 rw[f];exact⟨.ref _,_,I.lnew (t':=s.toks) (r.append k) (by rw[length_append];lia),rfl,q _ I.fresh⟩
def Bf:R2:=λx y H Q=>∃ l k xs,x=.ref l/\y=.int k/\H l=some (.lst xs)/\-(2 ^ 63)<=k/\k<2 ^ 63/\xs.length*k.toNat<=sizeLine /\
 ∀ p,H p=none->Q (.ref p) (upd H p (.lst (List.replicate k.toNat xs).flatten))
theorem wQ{a:Type}(xs:List a)(k:Nat):(List.replicate k xs).flatten.length=k*xs.length:=by
 induction k with
 | zero=>simp
 | succ k ih=>rw[replicate_succ,flatten_cons,length_append,ih,Nat.succ_mul,Nat.add_comm]
theorem sM:OpR X (binaryOp .Mult) Bf:=by
 intro w s M H x y v u Q I L B h;obtain⟨l,k,N,rfl,rfl,D,C,E,p,q⟩:=h;cases L;obtain⟨t,rfl⟩:=B;obtain⟨z,b,n,r,G,e⟩:=I.lstM D;have f:b.toArray.size*k.toNat<=sizeLine:=by rw[size_toArray,<- G];exact p
 have i:¬b.toArray.size*k.toNat > (2 ^ 63 - 1)/8:=by
  have:(sizeLine:Nat)<=(2 ^ 63 - 1)/8:=by decide
  lia
 have g:¬(!Builtin.List.listFitsIndex k)=true:=by
  rw[fitsIndex_both C E];exact Bool.false_ne_true
 have c:¬Builtin.List.listTooLong (b.toArray.size*k.toNat)=true:=by
  rw[oo f];exact Bool.false_ne_true
 have d:List.foldl (λj o=>j++o) #[] (List.replicate (if b.toArray.isEmpty=true then 0 else k.toNat) b.toArray)=(List.replicate k.toNat b).flatten.toArray:=by
  have K:∀ m:Nat,List.foldl (λj o=>j++o) #[] (List.replicate m b.toArray)=(List.replicate m b).flatten.toArray:=λm=>by
   have:=kd b m [];rw[nil_append]at this;exact this
  rw[K];cases b with
  | nil=>simp
  | cons a r'=>rw[if_neg (by simp)]
 refine wpAny_binaryOp_repeat_ref (T := "list") (U := "int") (by decide) ⟨_,e,rfl⟩ (λA=>typeIs_int A k t) noFill_list_mul F.fills_int_mul F.slot_int_rmul repeat_list F.slot_int_index.lookup
  (call_meets F.slot_int_rmul (typeIs_int s k t) F.entry_int_rmul (F.args_int_rmul_2 _ _) (int___rmul___int_list k t l b.toArray n)
   ⟨e,rfl,⟨_,e,rfl⟩,call_meets F.slot_list_mul ⟨_,e,rfl⟩ F.entry_list_mul (F.args_list_mul_2 _ _) (AutoListH.list___mul___list_int_3 l b.toArray n k t g i c) ⟨e,?_⟩⟩)
 rw[d];exact⟨.ref _,_,I.lnew (t':=s.toks) (r.rep k.toNat) (by rw[wQ,Nat.mul_comm];exact p),rfl,q _ I.fresh⟩
end
section
variable {prog:Program}{w:World}{A:Around}{E:Value->Shared->Prop}{s:Shared}
set_option maxRecDepth 100000 in
end
section
variable {X:Cx}
end
end L2
namespace Att
open PySem PySem.W PySem.Calls PyProof.Rows
theorem iQ{P:Params}{h:Heap}:∀(ns:List Int) (vs:List Value),WellAll P h vs (ns.map WData.int)->IntsAre vs ns:=by
 intro ns
 induction ns with
 | nil =>
  intro vs w;rw[map_nil]at w;cases w;exact .nil
 | cons n ns ih =>
  intro vs w;rw[map_cons]at w;cases w with
  | cons a b =>
   cases a;exact .cons _ _ (ih _ b)
theorem rZ{l:OpenLaw}{n:Nat}(s:l.most=some n){P:Params}{h:Heap}{args:List WData}{c:List Value}
  (b:l.row.toRowW.claim.pre args=true) (j:WellAll P h c args) :
  ∃ a vs ns,c=[Value.ref a]/\args=[WData.list (ns.map WData.int)]/\h.get? a=some { cls:=.type "list",data:=.seq vs.toArray }/\IntsAre vs ns/\ns.length<=n:=by
 have k:WShape.hasAll [] args [.list .int]=true:=(pre_splitW b).1;have o:l.pre.holds [] { args:=args }=true:=(pre_splitW b).2;obtain⟨d,r,rfl,v,u⟩:=hasAllW_cons k;obtain rfl:=hasAllW_nil u;obtain⟨x,rfl,p⟩:=hasW_list v;obtain⟨ns,rfl⟩:=items_int p
 have f:ns.length<=n:=by
  unfold OpenLaw.pre at o
  have g:(WTm.not (.lt (.lit (.int (n:Int))) (.len (.arg 0)))).holds [] { args:=[.list (ns.map .int)] }=true:=by
   have g:=(holds_andW o).1;rw[s]at g;exact g
  have i:=condW_of g (w_not (w_lt w_lit (w_len_list (w_arg rfl))));rw[length_map]at i;refine Nat.le_of_not_lt λq=>?_
  have w:(n:Int)<((ns.length:Nat):Int):=by lia
  first
   | (rw[decide_eq_true w]at i;exact absurd i (by decide))
   | (simp at i;lia)
 cases j with
 | cons w1 w2 =>
  cases w2;cases w1 with
  | list ho hall=>exact⟨_,_,ns,rfl,rfl,ho,iQ ns _ hall,f⟩
theorem sj(l:OpenLaw)(args:List WData):l.row.toRowW.claim.post args (.bool true) args=true :=
 postW_of (r:=l.row.toRowW) (X:=(true == true))
  (show WShape.has [] (.bool true) .bool=true by first | rfl | decide | simp[WShape.has,WShape.arms,WShape.armsAll])
  (show(WTm.eq .res (.lit (.bool true))).value [] { args:=args,res:=some (.bool true),after:=args }=some (.bool (true == true)) from w_eq_bool (w_res rfl) w_lit) rfl
theorem attach_call{l:OpenLaw}{n:Nat}{q:Program}{b:List Str}{B:(Str->Option Value)->Heap->Prop}{y:World->Heap->Prop}{d:DefRec}
  (D:l.most=some n) (p:d.params.defaults=[])
  (j:∀(w:World) (s₀ s₁:Shared) (mg mb:Str->Option Value) (fa:Addr) (o:Obj) (pm cd doc:Value) (a:Addr) (vs:List Value) (ns:List Int),
   Ground q b [] B w s₀ mg mb s₁.heap->y w s₁.heap ->
   s₁.heap.get? fa=some o->o.data=.func (docDef d.name d.params d.body d.scope pm cd doc)->s₁.heap.CodeRec cd d.name->mg d.name=some (.ref fa) ->
   s₁.heap.get? a=some { cls:=.type "list",data:=.seq vs.toArray }->IntsAre vs ns->ns.length<=n->s₁.gens = #[] ->
   codeAny (model l.prog w) callerA (.call (.ref fa) ⟨[.ref a],[]⟩) (λr s'=>r=.ok (.ret (.bool true))/\OldK s₁.heap s'.heap/\s'.os=s₁.os/\AllBare s'.gens) s₁) :
  WalkO q b B y l.row.toRowW d [] (λf vs=>PySem.call f vs):=by
 intro w s₀ s₁ mg mb G Y fa o pm cd doc P N F C u v k L x z Q i A M s I;obtain rfl:P=.none:=Dflts.none v p;obtain rfl:N=.none:=Dflts.noKw v;obtain⟨a,vs,ns,rfl,rfl,h,c,g⟩:=rZ D i s;refine enter_call (codeAny_mono (j w s₀ s₁ mg mb fa o pm cd doc a vs ns G Y F (fd_plain C) u k h c g L) λr s' O=>?_);obtain⟨rfl,K,H,E⟩:=O;exact⟨.inl ⟨.bool true,.bool true,[],rfl,λ_=>rfl,.bool true,sj l _,λ_=>⟨List.Pairwise.nil,λ_ hm=>(nomatch hm)⟩⟩,K,H,E⟩
section
variable {prog:Program}{w:World}{A:Around}{E:Value->Shared->Prop}{s:Shared}{K:Frag}
end
end Att
namespace L2
open PySem PySem.Spec PyProof.Rows
theorem iy:∀{vs:List Value}{ns:List Int},IntsAre vs ns->Vals (ns.map V.int) vs
 | _,_,.nil=>.nil
 | _,_,.cons n t h=>.cons ⟨t,rfl⟩ (iy h)
abbrev KOf{K:Frag}{h:Heap}(_:K.In h):Frag:=K
def bP(s:Stmt)(j:Nat):Stmt:=match s with
 | .ClassDef _ _ _ body _ _ _ _ _ _ _=>body.getD j (.Pass ⟨0,0,0,0⟩)
 | _=>.Pass ⟨0,0,0,0⟩
def aj(s:Stmt):Arguments:=match s with
 | .FunctionDef _ a _ _ _ _ _ _ _ _=>a
 | _=>{ posonlyargs:=[],args:=[],vararg:=none,kwonlyargs:=[],kw_defaults:=[],kwarg:=none,defaults:=[] }
def ai(s:Stmt):List Stmt:=match s with
 | .FunctionDef _ _ b _ _ _ _ _ _ _=>b
 | _=>[]
def ac(s:Stmt):Scope:=match s with
 | .FunctionDef _ _ _ _ _ _ sc _ _ _=>sc
 | _=>{ kind:=.function,names:=[],isGenerator:=false,isCoroutine:=false }
abbrev CX0:CXT:=λ_ _ _ _ _ _=>False
abbrev E0:XK:=λ_ _ _=>False
theorem ao{X:Cx}:fE CX0 X E0:=λ_ _ _ _ _ _ _ h=>h.elim
structure Fun(K:Frag)(x qual:Str)(st:Stmt)(f:Addr)(fd:FuncData):Prop where
 ex:∃(oc:Value) (od:Option Addr) (kV doc pm:Value) (an:Option Addr) (cdv ct:Value) (osl:Array (Option Value)),
  fd=fnOf x qual (aj st) (ai st) (ac st) .none kV doc pm an cdv ct/\K.lookup f=some ⟨oc,od,.func fd,osl⟩/\codeIn K cdv qual=true
 kp:keepIn K (.ref f)=true
section
variable {P:Program}{w:World}{K:Frag}{mg:Str->Option Value}{base:Heap}
theorem Fun.ok{x a:Str}{c:Stmt}{f:Addr}{j:FuncData}{N ps:List Str}{k:Nat}{sp:Sp}(F:Fun K x a c f j)(S:FnScope N ps (ac c))(d:∀ vs H Q E,sp vs H Q E->vs.length=ps.length)
  (b:∀(cdv:Value) (A:Around) (outer:List Env) (s:Shared) (H:Hp) (vs:List V) (Q:VK) (E:XK),Room k (A.deeper (envOfC a (ac c) s.heap.objs.size f cdv))->sp vs H Q E ->
   ∃ t,PSs (dM CX0 P w K mg base N a (ac c) f cdv A outer s H E).nox (ai c) t/\t { nx:=λ_ H'=>Q .non H',rt:=Q } (start N vs) H):FnOk P w K mg base CX0 (k+1) f j ps sp:=by
 obtain⟨y,r,v,n,z,B,cdv,u,p,rfl,l,i⟩:=F.ex;refine uY l i S d λA outer s H vs Q E o g=>?_
 obtain⟨t,h,q⟩:=b cdv A outer s H vs Q E o g;exact⟨t,h.nox,q⟩
theorem Fun.binds{x a:Str}{b:Stmt}{f:Addr}{c:FuncData}{ps:List Str}(F:Fun K x a b f c)
  (h:∀(kV doc pm:Value) (an:Option Addr) (cdv ct:Value) (us:List Value),us.length=ps.length->bindArgs (fnOf x a (aj b) (ai b) (ac b) .none kV doc pm an cdv ct) ⟨us,[]⟩=pure (ps.zip us)):Binds K c ps []:=by
 obtain⟨k,j,kV,doc,pm,an,cdv,ct,g,rfl,i,d⟩:=F.ex;exact .all (h kV doc pm an cdv ct)
theorem am{x a:Str}{g:Stmt}{f:Addr}{p:Value}{od o:Option Addr}{h:Array (Option Value)}{j d n b i:Value}(l:K.lookup f=some ⟨p,od,.func (fnOf x a (aj g) (ai g) (ac g) .none j d n o b i),h⟩)
  (c:codeIn K b a=true) (k:keepIn K (.ref f)=true):Fun K x a g f (fnOf x a (aj g) (ai g) (ac g) .none j d n o b i):=⟨⟨p,od,j,d,n,o,b,i,h,rfl,l,c⟩,k⟩
end
theorem xb{A:Around}{k:Nat}(a:Room k A):A.units+1<cLine:=Nat.lt_of_le_of_lt (Nat.add_le_add_left (by decide:1<=64) _) a.units
section
variable {X:Cx}
end
theorem Bh{A B:Prop}(h:B):if false=true then A else B:=by
 rw[if_neg Bool.false_ne_true];exact h
theorem Ba{c A B:Prop}[Decidable c](a:c->A)(h2:¬c->B):if c then A else B:=by
 by_cases h:c
 .rw[if_pos h]
  exact a h
 .rw[if_neg h]
  exact h2 h
theorem nX{c A B:Prop}[Decidable c](a:c)(h:B):if (!decide c)=true then A else B:=by
 rw[decide_eq_true a];exact Bh h
def Same(H H':Hp):Prop:=∀ b o,H b=some o->H' b=some o
theorem Same.refl(H:Hp):Same H H:=λ_ _ h=>h
theorem Same.trans{H d f:Hp}(a:Same H d)(b:Same d f):Same H f:=λc o h=>b c o (a c o h)
theorem Same.free{H a:Hp}(e:Same H a){l:Addr}(h:a l=Option.none):H l=Option.none:=by
 cases q:H l with
 | none=>rfl
 | some o =>
  rw[e l o q]at h;cases h
end L2
set_option maxHeartbeats 4000000
namespace L2
open PySem PySem.Spec PyProof.Rows
def Its(x:Str):It:=⟨λi _=>i<x.cps.size,λi H y H'=>H'=H/\∃ c,x.cps[i]? = some c/\y=.str ⟨#[c]⟩,λi _=>x.cps.size<=i⟩
theorem oq{P:Program}{w:World}{K:Frag}{tg:Expr}(x:Str)(q:Addr){ty:String}{t:Tok}(n:ty = "str_ascii_iterator" \/ ty = "str_iterator") :
  Turn P w K tg (Its x) [q] q (λi h=>h.IsStrIter q ty x t i) where
 mem:=by simp
 obj:=λi h f b a=>by
  have e:b=q:=by simpa using a
  subst e;obtain⟨o,e,c,d⟩:=f;exact⟨o,e,λv z=>by rw[d]at z;cases z⟩
 keep:=λi h l f k=>by
  obtain⟨o,e,r⟩:=f;exact⟨o,k q (by simp) o e,r⟩
 item:=by
  intro X F O L S i g s Q H E I A f M;subst F O L;have p:i<x.cps.size:=M;obtain⟨D,C,T,y,u,B⟩:=A q (by simp)
  rcases n with rfl | rfl
  .refine wpAny_pyNext_ascii_item f (c:=x.cps[i]) (by simp[p]) λl j N=>?_
   have G:Inv X g Q H { s with heap:=l,toks:=s.toks+1 }:=I.turned (λb o a e=>(N.2 b a).trans e) D C y u B;obtain⟨o,e,c,d⟩:=id j;exact⟨_,rfl,mG (s:={ s with heap:=l,toks:=s.toks+1 }) e c d (by decide) ⟨.str ⟨#[x.cps[i]]⟩,H,G,⟨_,rfl⟩,⟨rfl,x.cps[i],by simp[p],rfl⟩,j,λb a=>(A b a).1⟩⟩
  .refine wpAny_pyNext_wide_item f (c:=x.cps[i]) (by simp[p]) λl j N=>?_
   have G:Inv X g Q H { s with heap:=l,toks:=s.toks+1 }:=I.turned (λb o a e=>(N.2 b a).trans e) D C y u B;obtain⟨o,e,c,d⟩:=id j;exact⟨_,rfl,mG (s:={ s with heap:=l,toks:=s.toks+1 }) e c d (by decide) ⟨.str ⟨#[x.cps[i]]⟩,H,G,⟨_,rfl⟩,⟨rfl,x.cps[i],by simp[p],rfl⟩,j,λb a=>(A b a).1⟩⟩
 done:=by
  intro X F O L S i g s Q H E I A f M;subst F O L;have p:x.cps.size<=i:=M;obtain⟨D,C,T,y,u,B⟩:=A q (by simp)
  rcases n with rfl | rfl
  .exact wpAny_pyNext_ascii_end (I.ok.hd S) f (by simp[p]) λl R=>⟨rfl,I.turned (t':=s.toks) (λb o a e=>R b o a e) D C y u B⟩
  .exact wpAny_pyNext_wide_end (I.ok.hd S) f (by simp[p]) λl R=>⟨rfl,I.turned (t':=s.toks) (λb o a e=>R b o a e) D C y u B⟩
 self:=λ_ _ _ _ _ f h=>by
  rcases n with rfl | rfl
  .exact wpAny_pyIter_striter_ascii f h
  .exact wpAny_pyIter_striter_wide f h
def Bb(tl:TE):TI:=λσ H R=>tl σ H λx H1=>∃ z,x=.str z/\R (Its z) H1
theorem xO{X:Cx}{tg l:Expr}{tl:TE}(j:PE X l tl):PI X tg l (Bb tl):=by
 intro a s k H R I h;refine thn (j a s k H _ I h) λv c ⟨x,f,d,g,i⟩=>?_
 obtain⟨z,e,q⟩:=i;subst e;obtain⟨t,rfl⟩:=g;refine wpAny_pyIter_strU ?_;refine⟨c.heap.objs.size,[c.heap.objs.size],_,_,f,rfl,d.kept (t':=c.toks) λb o e=>Heap.get?_push_of_some _ e,oq (ty:=strIterType z) (t:=t) z _ ?_,⟨_,Heap.get?_push_size _ rfl,rfl,rfl⟩,λb hb=>?_,q⟩
 .unfold strIterType
  split
  .exact .inl rfl
  .exact .inr rfl
 .have e:b=c.heap.objs.size:=by simpa using hb
  subst e;exact d.fpOk (Nat.le_refl _) (d.hok.fresh (Nat.le_refl _))
def Wk:St->St->Prop
 | [],[]=>True
 | Option.none::r,_::q=>Wk r q
 | some a::r,b::q=>b=some a/\Wk r q
 | _,_=>False
theorem Wk.len:∀{a b:St},Wk a b->a.length=b.length
 | [],[],_=>rfl
 | Option.none::r,_::q,h=>congrArg (· + 1) (Wk.len (a:=r) (b:=q) h)
 | some _::r,_::q,h=>congrArg (· + 1) (Wk.len (a:=r) (b:=q) h.2)
 | [],_::_,h=>h.elim
 | Option.none::_,[],h=>h.elim
 | some _::_,[],h=>h.elim
theorem Wk.get:∀{a b:St},Wk a b->∀(i:Nat) v,a[i]? = some (some v)->b[i]? = some (some v)
 | [],[],_,i,v,e=>by simp at e
 | Option.none::r,y::q,h,0,v,e=>by simp at e
 | Option.none::r,y::q,h,i+1,v,e=>by simpa using Wk.get (a:=r) (b:=q) h i v (by simpa using e)
 | some x::r,y::q,h,0,v,e=>by
  have c:x=v:=by simpa using e
  rw[h.1,c] <;> simp
 | some x::r,y::q,h,i+1,v,e=>by simpa using Wk.get (a:=r) (b:=q) h.2 i v (by simpa using e)
 | [],_::_,h,_,_,_=>h.elim
 | Option.none::_,[],h,_,_,_=>h.elim
 | some _::_,[],h,_,_,_=>h.elim
def dO(cells:List (Str×Addr)):List (Str×NameKind)->List (Str×Addr)->List (Str×Addr)
 | [],acc=>acc
 | (n,k)::r,acc=>if k == .free then dO cells r ((n,(cells.lookup n).getD 0)::acc) else dO cells r acc
theorem eW{d:Scope}{env:Env}(h:∀ y∈d.names,y.2=.free->∃ c,env.cells.lookup y.1=some c):closureFor d env=pure (dO env.cells d.names []):=by
 unfold closureFor
 have g:∀(l:List (Str×NameKind)) (b:List (Str×Addr)),(∀ y∈l,y.2=.free->∃ c,env.cells.lookup y.1=some c) ->
   (forIn l b λx r=>match x with | (name,kind)=>if (kind == .free)=true then do let a <- cellOf env name;pure (ForInStep.yield ((name,a)::r)) else pure (ForInStep.yield r):Sem (List (Str×Addr)))=pure (dO env.cells l b):=by
  intro l
  induction l with
  | nil=>intro b _;rfl
  | cons y r ih =>
   intro b i;obtain⟨n,k⟩:=y;have o:∀ y∈r,y.2=.free->∃ c,env.cells.lookup y.1=some c:=λy q=>i y (mem_cons_of_mem _ q)
   rw[forIn_cons]
   by_cases hk:k=.free
   .subst hk
    obtain⟨c,p⟩:=i (n,.free) mem_cons_self rfl;have s:cellOf env n=pure c:=by unfold cellOf;rw[p]
    have f:dO env.cells ((n,.free)::r) b=dO env.cells r ((n,c)::b):=by
     show(if (NameKind.free == NameKind.free)=true then dO env.cells r ((n,(env.cells.lookup n).getD 0)::b) else dO env.cells r b)=_;rw[if_pos (by decide),p];rfl
    rw[f,<- ih ((n,c)::b) o];show(do let x <- (if (NameKind.free == NameKind.free)=true then do let a <- cellOf env n;pure (ForInStep.yield ((n,a)::b)) else pure (ForInStep.yield b):Sem _);_)=_;rw[if_pos (by decide),s];rfl
   .have j:(k == NameKind.free)=false:=by simpa using hk
    have f:dO env.cells ((n,k)::r) b=dO env.cells r b:=by
     show(if (k == NameKind.free)=true then dO env.cells r ((n,(env.cells.lookup n).getD 0)::b) else dO env.cells r b)=_;rw[j];rfl
    rw[f,<- ih b o];show(do let x <- (if (k == NameKind.free)=true then do let a <- cellOf env n;pure (ForInStep.yield ((n,a)::b)) else pure (ForInStep.yield b):Sem _);_)=_;rw[j];rfl
 have:=g d.names [] h
 first | exact this | (rw[this];rfl) | simpa using this
theorem dU{a:List (Str×Addr)}:∀{l:List (Str×NameKind)}{acc:List (Str×Addr)}{n:Str}{c:Addr},(∀ y∈l,y.2=.free->∃ c,a.lookup y.1=some c)->(∀ n c,acc.lookup n=some c->a.lookup n=some c) ->
  (dO a l acc).lookup n=some c->a.lookup n=some c
 | [],acc,n,c,_,ha,e=>ha n c e
 | (m,k)::r,acc,n,c,hl,ha,e=>by
  have h:∀ y∈r,y.2=.free->∃ c,a.lookup y.1=some c:=λy i=>hl y (mem_cons_of_mem _ i)
  have b:(if (k == NameKind.free)=true then dO a r ((m,(a.lookup m).getD 0)::acc) else dO a r acc).lookup n=some c:=e
  by_cases hk:(k == NameKind.free)=true
  .rw[if_pos hk]at b
   refine dU h (λn c z=>?_) b;obtain⟨d,j⟩:=hl (m,k) mem_cons_self (by simpa using hk);rw[lookup_cons]at z
   by_cases hn:(n == m)=true
   .rw[hn]at z
    have:n=m:=by simpa using hn
    subst this;have g:a.lookup n=some d:=j;rw[g]at z ⊢;simpa using z
   .have f:(n == m)=false:=by simpa using hn
    rw[f]at z;exact ha n c z
  .rw[if_neg hk]at b
   exact dU h ha b
theorem gh{b:List (Str×Addr)}:∀{l:List (Str×NameKind)}{acc:List (Str×Addr)}{n:Str},((n,NameKind.free)∈l\/∃ c,acc.lookup n=some c)->∃ c,(dO b l acc).lookup n=some c
 | [],acc,n,h=>by
  rcases h with h | h
  .cases h
  .exact h
 | (m,k)::r,acc,n,h=>by
  show ∃ c,(if (k == NameKind.free)=true then dO b r ((m,(b.lookup m).getD 0)::acc) else dO b r acc).lookup n=some c
  have d:∀ a,n=m\/(∃ c,acc.lookup n=some c)->∃ c,((m,a)::acc).lookup n=some c:=λa z=>by
   rw[lookup_cons]
   by_cases hn:(n == m)=true
   .rw[hn];exact⟨_,rfl⟩
   .have f:(n == m)=false:=by simpa using hn
    rw[f]
    rcases z with z | z
    .exact absurd (by simpa using z) hn
    .exact z
  by_cases hk:(k == NameKind.free)=true
  .rw[if_pos hk]
   refine gh ?_
   rcases h with h | h
   .rcases mem_cons.mp h with e | h
    .exact .inr (d _ (.inl (congrArg Prod.fst e)))
    .exact .inl h
   .exact .inr (d _ (.inr h))
  .rw[if_neg hk]
   refine gh ?_
   rcases h with h | h
   .rcases mem_cons.mp h with e | h
    .have:k=.free:=(congrArg Prod.snd e).symm
     rw[this]at hk;exact absurd (by decide) hk
    .exact .inl h
   .exact .inr h
def rlb(env:Env)(p:Str×NameKind):Str×NameKind:=if (p.2 == NameKind.free && env.scope.kind == ScopeKind.function && env.kindOf p.1 == some NameKind.cell)=true then (p.1,NameKind.cell) else p
theorem j4(a:Scope)(env:Env):(relabel a env).names=a.names.map (rlb env):=rfl
theorem wc(env:Env)(p:Str×NameKind):(rlb env p).1=p.1:=by
 unfold rlb
 split <;> rfl
theorem uA{env:Env}{p:Str×NameKind}(h:p.2≠.cell)(h2:(rlb env p).2=.cell\/(rlb env p).2=.free):p.2=.free:=by
 unfold rlb at h2
 split at h2
 .rename_i q
  rw[Bool.and_eq_true,Bool.and_eq_true]at q;simpa using q.1.1
 .rcases h2 with h2 | h2
  .exact absurd h2 h
  .exact h2
theorem gu{env:Env}:∀{names:List (Str×NameKind)}{x:Str}{k:NameKind},(∀ y∈names,y.2≠.cell)->(k=.cell\/k=.free)->(names.map (rlb env)).lookup x=some k->(x,NameKind.free)∈names
 | [],x,k,_,_,e=>by simp at e
 | p::r,x,k,hc,hk,e=>by
  have d:∀ y∈r,y.2≠.cell:=λy c=>hc y (mem_cons_of_mem _ c)
  have g:rlb env p=(p.1,(rlb env p).2):=by rw[<- wc env p]
  rw[map_cons,g,lookup_cons]at e
  by_cases hx:x=p.1
  .have a:(x == p.1)=true:=by simpa using hx
   rw[a]at e;have b:(rlb env p).2=k:=Option.some.inj e;have f:=uA (env:=env) (hc p mem_cons_self) (by rw[b];exact hk);have:(x,NameKind.free)=p:=by rw[hx,<- f]
   rw[this];exact mem_cons_self
  .have a:(x == p.1)=false:=by simpa using hx
   rw[a]at e;exact mem_cons_of_mem _ (gu d hk e)
theorem eP{env:Env}{a:Scope}{x:Str}{k:NameKind}(c:∀ y∈a.names,y.2≠.cell)(b:k=.cell\/k=.free)(e:(relabel a env).names.lookup x=some k):(x,NameKind.free)∈a.names :=
 gu (env:=env) c b (by rw[<- j4];exact e)
def qX(ix:List (Option Nat))(σ:St):St:=ix.map λo=>o.bind λi=>(σ[i]?).join
def FreeOk(XN:List Str)(env:Env)(sc:Scope):List Str->List (Option Nat)->Prop
 | [],[]=>True
 | _::N,Option.none::ix=>FreeOk XN env sc N ix
 | y::N,some i::ix=>XN[i]? = some y/\env.kindOf y=some .cell/\(relabel sc env).names.lookup y=some .cell/\FreeOk XN env sc N ix
 | _,_=>False
theorem FreeOk.len{b:List Str}{env:Env}{a:Scope}:∀{N:List Str}{ix:List (Option Nat)},FreeOk b env a N ix->ix.length=N.length
 | [],[],_=>rfl
 | _::N,Option.none::ix,h=>congrArg (· + 1) (FreeOk.len (N:=N) (ix:=ix) h)
 | _::N,some _::ix,h=>congrArg (· + 1) (FreeOk.len (N:=N) (ix:=ix) h.2.2.2)
 | [],_::_,h=>h.elim
 | _::_,[],h=>h.elim
theorem FreeOk.get{c:List Str}{env:Env}{b:Scope}:∀{N:List Str}{ix:List (Option Nat)},FreeOk c env b N ix->∀(j:Nat) (y:Str) (i:Nat),N[j]? = some y->ix[j]? = some (some i) ->
  c[i]? = some y/\env.kindOf y=some .cell/\(relabel b env).names.lookup y=some .cell
 | [],[],_,j,y,i,e,_=>by simp at e
 | _::N,Option.none::ix,h,0,y,i,e,e2=>by simp at e2
 | _::N,Option.none::ix,h,j+1,y,i,e,e2=>FreeOk.get (N:=N) (ix:=ix) h j y i (by simpa using e) (by simpa using e2)
 | z::N,some k::ix,h,0,y,i,e,e2=>by
  have d:z=y:=by simpa using e
  have a:k=i:=by simpa using e2
  subst d;subst a;exact⟨h.1,h.2.1,h.2.2.1⟩
 | _::N,some _::ix,h,j+1,y,i,e,e2=>FreeOk.get (N:=N) (ix:=ix) h.2.2.2 j y i (by simpa using e) (by simpa using e2)
 | [],_::_,h,_,_,_,_,_=>h.elim
 | _::_,[],h,_,_,_,_,_=>h.elim
def cxB(X:Cx)(sc:Scope)(C:Addr)(N:List Str)(s₀:Shared)(H₀:Hp)(fp:List Addr):Cx :=
 { X with N:=N,s₀:=s₀,H₀:=H₀,env:=compEnvC sc (dO X.env.cells sc.names []) C X.env,outer:=X.stack,ex:=fp,fn:=λ_=>false,pn:=[],xe:=λ_ _=>False }
structure CompOk(X:Cx)(sc:Scope)(N:List Str)(ix:List (Option Nat)):Prop where
 kind:sc.kind=.function
 nocell:(sc.names.all λy=>y.2 != .cell)=true
 names:(sc.names.all λy=>y.2 != .local || sc.names.lookup y.1 == some .local) = true
 free:(sc.names.all λy=>y.2 != .free || X.env.scope.names.lookup y.1 == some .cell)=true
 fr:FreeOk X.N X.env sc N ix
section
variable {X:Cx}{sc:Scope}{N:List Str}{ix:List (Option Nat)}{pins:List (Addr×Obj)}{σ:St}{H:Hp}{s:Shared}
theorem CompOk.cells(c:CompOk X sc N ix)(a:X.Ok):∀ y∈sc.names,y.2=.free->∃ c,X.env.cells.lookup y.1=some c:=λy b e=>by
 have h:=all_eq_true.mp c.free y b;rw[e]at h;have d:X.env.scope.names.lookup y.1=some .cell:=by simpa using h
 exact a.has y.1 (.inl d)
theorem CompOk.nc(c:CompOk X sc N ix):∀ y∈sc.names,y.2≠.cell:=λy a=>by simpa using all_eq_true.mp c.nocell y a
theorem CompOk.nm(c:CompOk X sc N ix):∀ y ∈ sc.names,y.2 = .local->sc.names.lookup y.1 = some .local:=λy a e=>by
 have h:=all_eq_true.mp c.names y a;rw[e]at h;simpa using h
theorem qY{C:Addr}{D:List Addr}{h₁:Heap}{t':Nat}(c:CompOk X sc N ix)(I:Inv X pins σ H s)(B:∀ b∈D,gF X pins H b)(F:∀ b∈D,b<s.heap.objs.size)(E:s.heap.objs.size<=C)
  (M:h₁.Ns C (λ_=>none)) (h:∀ b o,s.heap.get? b=some o->h₁.get? b=some o):Inv (cxB X sc C N s H D) [] (qX ix σ) H { s with heap:=h₁,toks:=t' }:=by
 have g:=c.cells I.ok;have a:∀ n c,(dO X.env.cells sc.names []).lookup n=some c->X.env.cells.lookup n=some c:=λn c e=>dU g (λn c z=>by simp at z) e
 refine⟨⟨I.ok.mod,c.kind,I.ok.glob,I.ok.blt,E,λx y d P R=>I.ok.inj x y d (a x d P) (a y d R),λx hx=>?_,λx d z=>absurd z (by simp[cxB]),I.ok.hd,I.ok.frames,.inl rfl,λb hb=>⟨?_,λx d e=>?_⟩,I.bs,Nat.le_trans I.ok.bsz I.sz,λb o e hb=>?_,λb hb hs=>?_,I.stack,I.stkFree⟩,
  rfl,I.bare,Un.kept h,⟨_,M,λj y v O k e3=>?_⟩,λx d e=>?_,I.hok.fresh E,λx d e=>I.freeC x d (a x d e),λp hp=>absurd (show p∈([]:List (Addr×Obj)) from hp) (by simp),I.hok.kept h,?_⟩
 .refine gh (.inl ?_)
  rcases hx with hx | hx
  .exact eP c.nc (.inl rfl) (show(relabel sc X.env).names.lookup x=some .cell from hx)
  .exact eP c.nc (.inr rfl) (show(relabel sc X.env).names.lookup x=some .free from hx)
 .exact Nat.ne_of_lt (Nat.lt_of_lt_of_le (F b hb) E)
 .exact(B b hb).2.2.2.2.1 x d (a x d e)
 .rcases(B b hb).2.2.2.1 with z | z
  .exact I.ok.noex b o e z
  .exact absurd (Nat.lt_of_lt_of_le (Heap.lt_size e) (Nat.le_trans I.ok.bsz z)) (Nat.lt_irrefl _)
 .rcases mem_cons.mp (I.stkSub b hs) with z | z
  .exact(B b hb).2.1 z
  .exact(B b hb).2.2.1 z
 .have Y:∃ i,ix[j]? = some (some i)/\σ[i]? = some (some v):=by
   unfold qX at k;rw[List.getElem?_map]at k;cases q:ix[j]? with
   | none=>rw[q]at k;cases k
   | some o =>
    rw[q]at k;cases o with
    | none=>cases k
    | some i =>
     refine⟨i,rfl,?_⟩;have f:(σ[i]?).join=some v:=Option.some.inj k;cases q2:σ[i]? with
     | none=>rw[q2]at f;cases f
     | some w=>rw[q2]at f;exact congrArg some f
  obtain⟨i,S,T⟩:=Y;obtain⟨Q,K,G⟩:=c.fr.get j y i O S;obtain⟨m,Z,W⟩:=I.loc;obtain⟨u,r,l⟩:=W i y v Q T (.inr (.inl K));refine⟨u,r,?_⟩
  rcases l with⟨z,_⟩ | ⟨_,d,L,A⟩
  .rw[K]at z;cases z
  .obtain⟨d',hd'⟩:∃ d',(dO X.env.cells sc.names []).lookup y=some d':=gh (.inl (eP c.nc (.inl rfl) G))
   have:=a y d' hd';rw[L]at this;cases this;exact .inr ⟨.inl G,d,hd',A.keeps h⟩
 .obtain⟨v,z⟩:=I.cell x d (a x d e)
  exact⟨v,z.keeps h⟩
 .show(qX ix σ).length=N.length
  unfold qX;rw[length_map,c.fr.len]
theorem nM{C:Addr}{c:List Addr}{a:List (Addr×Obj)}{σ':St}{d:Hp}{s':Shared}(I:Inv X pins σ H s)(i:∀ b∈c,gF X pins H b)(J:Inv (cxB X sc C N s H c) a σ' d s'):Inv X pins σ d s':=by
 refine I.call' (ch:=c) J.os J.base J.hok J.bare λb g=>?_
 obtain⟨n,f,l,h,k,j⟩:=i b g;exact⟨h,f,k,j⟩
end
def PTs(X:Cx)(ifs:List Expr)(t:TT):Prop :=
 ∀(pins:List (Addr×Obj)) (s:Shared) (σ:St) (H:Hp) (Q:Bool->Hp->Prop),Inv X pins σ H s->t σ H Q ->
  wpAny (model X.prog X.w) X.A (forIn ifs true λc r=>if r=true then do let ok <- isTrue c X.env (eval c X.env);pure (ForInStep.yield ok) else pure (ForInStep.yield r)) (TP X pins σ Q) X.xe s
def AF:TT:=λ_ H Q=>Q true H
theorem ce{X:Cx}:PTs X [] AF:=λ_ _ _ H _ I h=>wpAny_tests_nil ⟨H,I,h⟩
theorem kN{X:Cx}{c:Expr}{t:TT}(h:PT X c t):PTs X [c] t:=λa s d H Q I b=>wpAny_tests_one (h a s d H Q I b)
def jq(J:It)(D:Addr)(σb:St)(g:TG)(tt:TT)(te:TE)(Q:Hp->List V->Prop)(W:Nat->Nat->List V->Hp->Prop):Prop :=
 ∀ i m ys H,W i m ys H->H D=some (.lst ys)/\((J.stop i H/\Q H ys)\/(J.go i H/\∀ x H3,J.yld i H x H3->g x σb H3 λσ4 H4=>Wk σb σ4/\tt σ4 H4 λb H5 =>
  if b=true then te σ4 H5 λy H6=>H6 D=some (.lst ys)/\ys.length<sizeLine/\∃ m',m'<m/\W (i+1) m' (ys++[y]) (upd H6 D (.lst (ys++[y]))) else ∃ m',m'<m/\W (i+1) m' ys H5))
def xa(ix:List (Option Nat))(wi:TI)(g:TG)(tt:TT)(te:TE):TE:=λσ H Q=>wi σ H λJ H1=>∀ D,H1 D=none->∃ W,(∃ m,W 0 m [] (upd H1 D (.lst [])))/\jq J D (qX ix σ) g tt te (λH _=>Q (.ref D) H) W
section
variable {X:Cx}{sc:Scope}{N:List Str}{ix:List (Option Nat)}{elt tg iter:Expr}{ifs:List Expr}{pos:Pos}{wi:TI}{g:TG}{tt:TT}{te:TE}
structure Blk(X:Cx)(sc:Scope)(N:List Str)(tg elt:Expr)(ifs:List Expr)(g:TG)(tt:TT)(te:TE):Prop where
 tg:∀ C s H fp,PG (cxB X sc C N s H fp) tg g
 tests:∀ C s H fp,PTs (cxB X sc C N s H fp) ifs tt
 elt:∀ C s H fp,PE (cxB X sc C N s H fp) elt te
theorem sw{J:It}{h:List Addr}{it D:Addr}{H:Nat->Heap->Prop}{a:St}{Q:Hp->List V->Prop}{R:Result->Shared->Prop}{W:Nat->Nat->List V->Hp->Prop}
  (hc:X.calm=true) (M:X.xe=λ_ _=>False) (T:Turn X.prog X.w X.K tg J h it H) (hg:PG X tg g) (ht:PTs X ifs tt) (he:PE X elt te) (w:jq J D a g tt te Q W)
  (c:∀{H':Hp},(∀ b∈h,H' b=none)->∀ b∈h,gF X [] H' b)
  (K:∀{σ':St}{H':Hp}{s':Shared}{ys:List V},Inv X [] σ' H' s'->Q H' ys->R (.ok .next) s')
  {m0 O:Nat}{A:List V}{G:Hp}{s0:Shared}(I0:Inv X [] a G s0) (S:H O s0.heap) (al:∀ b∈h,G b=none) (w0:W O m0 A G) :
  codeAny (model X.prog X.w) X.A (.compLoop (.ListComp elt [⟨tg,iter,ifs,0⟩] sc pos) 0 (.ref it) (.ref D) X.env) R s0:=by
 have f:∀{E':Value->Shared->Prop}(e:Value) (s':Shared),X.xe e s'->E' e s':=λ{E'} e s' z=>by rw[M]at z;exact z.elim
 refine codeAny_loop rfl (λn s'=>∃ i ys H',Inv X [] a H' s'/\H i s'.heap/\(∀ b∈h,H' b=none)/\W i n ys H') ?_ m0 ⟨O,A,G,I0,S,al,w0⟩;rintro n Z ⟨i,ys,H3,I3,E,p,w3⟩;show wpAny _ X.A ((compTurn (.ListComp elt [⟨tg,iter,ifs,0⟩] sc pos) 0 (.ref it) (.ref D) X.env).onRaise (λx=>do noteFrame x X.env;theTreesLotGoes x)) _ _ Z;refine wpAny_noted ?_;rw[compTurn_list];refine wpAny_bind (wpAny_standAt (wpAny_bind ?_));obtain⟨a1,next⟩:=w i n ys H3 w3
 rcases next with⟨s,q⟩ | ⟨go,C⟩
 .refine thn (T.done X rfl rfl rfl hc i [] Z a H3 _ I3 (c p) E s) λr s4 ⟨Y,I4⟩=>?_
  subst Y;exact wpAny_pure (K I4 q)
 .refine thn (T.item X rfl rfl rfl hc i [] Z a H3 _ I3 (c p) E go) λr s4 ⟨u,Y,h4⟩=>?_
  subst Y;refine wpAny_bind (thn h4 λ_ s5 ⟨x,H5,I5,r5,y5,j,a0⟩=>?_);have ab:=I5.pinned (c a0) (T.obj _ _ j)
  have nB:∀{σ':St}{H':Hp}{s':Shared},Inv X ([]++jn h s5.heap) σ' H' s'->Wk a σ'->Inv X [] a H' s'/\H (i+1) s'.heap/\∀ b∈h,H' b=none:=λ{σ' H' s'} l B=>by
   refine⟨(l.unpinned).weak B.len B.get,T.keep _ _ _ j λb F o e=>(l.pin (b,o) (mem_append_right _ (mem_append_right _ (eQ F e)))).1,λb F=>?_⟩;obtain⟨o,e,d⟩:=T.obj _ _ j b F;exact(l.pin (b,o) (mem_append_right _ (mem_append_right _ (eQ F e)))).2.1
  refine wpAny_bind (wpAny_mono (hg _ s5 a H5 x u _ ab r5 (C x H5 y5)) (λ_ s6 ⟨k,H6,I6,B,q6⟩=>?_) f);refine wpAny_bind (wpAny_mono (ht _ s6 k H6 _ I6 q6) (λok s7 ⟨H7,l,q7⟩=>?_) f);cases ok with
  | false =>
   obtain⟨L,P,w7⟩:=q7;obtain⟨b1,I,N⟩:=nB l B;exact wpAny_pure ⟨rfl,L,P,i+1,ys,H7,b1,I,N,w7⟩
  | true =>
   refine wpAny_bind (wpAny_bind (wpAny_mono (he _ s7 k H7 _ l q7) (λv s8 ⟨y,H8,I8,r8,an,as,L,P,w8⟩=>?_) f));refine wpAny_bind (wpAny_mono (kz _ s8 k H8 (.ref D) [y] (.ref D) [v] (λ_ H9=>H9=upd H8 D (.lst (ys++[y]))) I8 rfl (.cons r8 .nil) ⟨D,ys,y,rfl,rfl,an,as,rfl⟩) (λ_ s9 ⟨z,H9,I9,_,e9⟩=>?_) f);subst e9;obtain⟨b1,I,N⟩:=nB I9 B;exact wpAny_pure (wpAny_pure ⟨rfl,L,P,i+1,ys++[y],_,b1,I,N,w8⟩)
theorem kE{a:List (Addr×Obj)}{σ:St}{H:Hp}{s:Shared}{E:Value->Shared->Prop}{RR:Value->Addr->Result->Shared->Prop}{S:Addr}{i:List Addr}{K:Nat->Heap->Prop}{J:It}{Q:Addr->Hp->List V->Prop}
  (hc:X.calm=true) (c:CompOk X sc N ix) (B:Blk X sc N tg elt ifs g tt te) (I:Inv X a σ H s) (T:Turn X.prog X.w X.K tg J i S K) (Z:K 0 s.heap) (Y:∀ b∈i,gF X a H b)
  (h:∀ D,H D=none->∃ W,(∃ m,W 0 m [] (upd H D (.lst [])))/\jq J D (qX ix σ) g tt te (Q D) W)
  (hR:∀ D C H' s' ys,Inv X a σ H' s'->gF X a H' C->(∃ m,s'.heap.Ns C m)->Q D H' ys->RR (.ref D) C (.ok .next) s') :
  wpAny (model X.prog X.w) X.A (newList []) (λacc s₃=>wpAny (model X.prog X.w) X.A (newFunctionEnv sc X.env.globals (dO X.env.cells sc.names []) [] X.env.qual none .none (some X.env)) (λcenv s₄ =>
   codeAny (model X.prog X.w) X.A (.compStart (.ListComp elt [⟨tg,iter,ifs,0⟩] sc pos) 0 (.ref S) acc { cenv with scope:=relabel sc X.env }) (RR acc cenv.locals) s₄) E s₃) E s:=by
 have M:∀ b∈i,b<s.heap.objs.size:=λb f=>let ⟨o,e,_⟩:=T.obj _ _ Z b f;Heap.lt_size e
 refine wpAny_newObj_type ?_ (by show 0<=sizeLine;exact Nat.zero_le _);have hD:H s.heap.objs.size=none:=I.hok.fresh (Nat.le_refl _);obtain⟨W,⟨m0,w0⟩,A⟩:=h s.heap.objs.size hD;have v:Inv X a σ (upd H s.heap.objs.size (.lst [])) { s with heap:=s.heap.push { cls:=.type "list",data:=.seq ([]:List Value).toArray } }:=I.lnew (t':=s.toks) (its:=[]) .nil (Nat.zero_le _);have k1:∀ b o,s.heap.get? b=some o->(s.heap.push { cls:=.type "list",data:=.seq ([]:List Value).toArray }).get? b=some o:=λb o e=>Heap.get?_push_of_some _ e
 have O:∀ b∈i,b≠s.heap.objs.size:=λb f=>Nat.ne_of_lt (M b f)
 have j:∀ b∈i,gF X a (upd H s.heap.objs.size (.lst [])) b:=λb f=>⟨by rw[ag (O b f)];exact(Y b f).1,(Y b f).2⟩
 have u:K 0 (s.heap.push { cls:=.type "list",data:=.seq ([]:List Value).toArray }):=T.keep _ _ _ Z λb _ o e=>k1 b o e
 generalize hs1:({ s with heap:=s.heap.push { cls:=.type "list",data:=.seq ([]:List Value).toArray } }:Shared)=s1 at v;have l:s1.heap=s.heap.push { cls:=.type "list",data:=.seq ([]:List Value).toArray }:=by rw[<- hs1]
 generalize hDe:s.heap.objs.size=D at *;show wpAny _ _ _ _ _ s1;refine wpAny_newFunctionEnv c.nc (by intro y hy;simp at hy) (λh₁ hns₁ hsb₁=>?_) c.kind;have G:∀ b o,s1.heap.get? b=some o->h₁.get? b=some o:=λb o e=>(hsb₁.2 b (Nat.ne_of_lt (Heap.lt_size e))).trans (Heap.get?_push_of_some _ e)
 have k:∀ b∈i,b<s1.heap.objs.size:=λb f=>by
  obtain⟨o,e,_⟩:=T.obj _ _ u b f;rw[l];exact Heap.lt_size e
 have J0:=qY (h₁:=h₁) (t':=s1.toks+([]:List (Str×Value)).length) c v j k (Nat.le_refl _) (by simpa using hns₁) G;have w:K 0 h₁:=T.keep _ _ _ (by rw[l];exact u:K 0 s1.heap) λb _ o e=>G b o e
 have R:∀{H':Hp},(∀ b∈i,H' b=none)->∀ b∈i,gF (cxB X sc s1.heap.objs.size N s1 (upd H D (.lst [])) i) [] H' b:=λ{H'} P b f=>by
  obtain⟨f0,f1,f2,f3,f4,f5⟩:=j b f;refine⟨P b f,Nat.ne_of_lt (k b f),?_,.inl f,λx d e=>f4 x d (dU (c.cells I.ok) (λn c z=>by simp at z) e),λp hp=>absurd (show p∈([]:List (Addr×Obj)) from hp) (by simp)⟩;intro z
  rcases mem_cons.mp (v.stkSub b z) with q | q
  .exact f1 q
  .exact f2 q
 have L:∀{F:St}{H':Hp}{s':Shared}{ys:List V},Inv (cxB X sc s1.heap.objs.size N s1 (upd H D (.lst [])) i) [] F H' s'->Q D H' ys->RR (.ref D) s1.heap.objs.size (.ok .next) s':=λ{F H' s' ys} J q =>
  hR D _ H' s' ys (nM v j J) (v.fpOk (Nat.le_refl _) J.free) (let ⟨m,P,_⟩:=J.loc;⟨m,P⟩) q
 have r:codeAny (model X.prog X.w) X.A (.compLoop (.ListComp elt [⟨tg,iter,ifs,0⟩] sc pos) 0 (.ref S) (.ref D) (cxB X sc s1.heap.objs.size N s1 (upd H D (.lst [])) i).env) (RR (.ref D) s1.heap.objs.size) { s1 with heap:=h₁,toks:=s1.toks+([]:List (Str×Value)).length } :=
  sw (X:=cxB X sc s1.heap.objs.size N s1 (upd H D (.lst [])) i) hc rfl T (B.tg _ _ _ _) (B.tests _ _ _ _) (B.elt _ _ _ _) A R L J0 w (λb f=>(j b f).1) w0
 exact codeAny_compStart_list r (T.self _ 0 _ _ _ w r)
theorem cE(M:X.calm=true)(c:CompOk X sc N ix)(L:PI X tg iter wi)(B:Blk X sc N tg elt ifs g tt te)(G:∀ x,foldedSetIterable iter X.env x=pure x:=by intro _;rfl):PE X (.ListComp elt [⟨tg,iter,ifs,0⟩] sc pos) (xa ix wi g tt te):=by
 intro a s k H Q I h;rw[eval_ListComp];refine wpAny_comprehension_free (use:=none) rfl G (eW (c.cells I.ok)) c.kind c.nm (thn (L a s k H _ I h) λR l d=>thn d λitv s₂ h₂=>?_);obtain⟨Z,S,tn,J,Y,e,z,T,i,j,r⟩:=h₂;subst e;refine kE (RR:=λf C=>compPost (model X.prog X.w) X.A X.xe none (EP X a k Q) f C) (Q:=λD H _=>Q (.ref D) H) M c B z T i j r ?_;intro D C p w ys O y K q;refine⟨_,K.choose_spec,λW A=>⟨.ref D,p,?_,rfl,q⟩⟩;obtain⟨P,F,j,v,u,E⟩:=y;exact O.turned (t':=w.toks) (λb o n e=>(A.2 b n).trans e) P F v u E
theorem iZ{i:Nat}{y:Str}{j f:Pos}(hc:X.calm = true)(hN:X.N.Nodup)(hy:X.N[i]? = some y)(M:X.env.scope.names.lookup y = some .local)
  (r:swapsWith (.ListComp elt [⟨tg,iter,ifs,0⟩] sc pos) (some (.Name y j)) f.line X.env=pure true)
  (c:CompOk X sc N ix) (hi:PI X tg iter wi) (B:Blk X sc N tg elt ifs g tt te) (hs:∀ x,foldedSetIterable iter X.env x=pure x:=by intro _;rfl) :
  PS X (.Assign [.Name y j] (.ListComp elt [⟨tg,iter,ifs,0⟩] sc pos) f) (yH (xa ix wi g tt te) (kx i)):=by
 intro d s F H w I h;rw[exec_Assign_Name_used _ _ _ _ r];refine wpAny_bind (wpAny_standAt (wpAny_bind ?_));show wpAny _ X.A (do let _ <- comprehension (.ListComp elt [⟨tg,iter,ifs,0⟩] sc pos) sc X.env _ (newList []) false (eval iter X.env) (some (assign (.Name y j) X.env))) _ _ s
 refine wpAny_bind (wpAny_mono (wpAny_comprehension_free (use:=some (assign (.Name y j) X.env)) (Q:=λ_ l=>SP X d w .next l) rfl hs (eW (c.cells I.ok)) c.kind c.nm
  (thn (hi d s F H _ I h) λxv L k=>thn k λitv s₂ h₂=>?_)) (λ_ l hq=>wpAny_pure (wpAny_pure hq)) λ_ _ e=>e)
 obtain⟨it,fp,tn,J,H2,e,I2,T,p,G,R⟩:=h₂;subst e;refine kE (RR:=λn C=>compPost (model X.prog X.w) X.A X.xe (some (assign (.Name y j) X.env)) (λ_ l=>SP X d w .next l) n C) (Q:=λD H _=>w.nx (F.set i (some (.ref D))) H) hc c B I2 T p G R ?_;intro D C P l ys I' Z ns q;show wpAny _ X.A (assign (.Name y j) X.env (.ref D)) _ _ _;obtain⟨f0,K,G,S,E,f5⟩:=Z;refine wpAny_assign_Name (kG I' hN hy (.inl M) (v:=.ref D) rfl (λs2 J2 ⟨a,sb,Y⟩=>?_) (.inr M));obtain⟨m,W⟩:=ns
 have A:C≠a:=by
  rcases Y with z | z
  .rw[z];exact K
  .exact λe=>E y a z e.symm
 refine⟨m,W.sameBut sb A,λh3 u=>⟨_,P,?_,q⟩⟩;exact J2.turned (t':=s2.toks) (λb o O e=>(u.2 b O).trans e) f0 K S E f5
end
section
variable {κ:Type} [DecidableEq κ]
def eH(kvs:List (κ×V))(k:κ):Option V:=(kvs.find? λkv=>decide (kv.1=k)).map (·.2)
def wT(kvs:List (κ×V))(k:κ)(v:V):List (κ×V) :=
 if (kvs.any λkv=>decide (kv.1=k))=true then kvs.map (λkv=>if kv.1=k then (kv.1,v) else kv) else kvs++[(k,v)]
theorem eJ{p:κ×V}{r:List (κ×V)}{k:κ}(e:p.1=k):eH (p::r) k=some p.2:=by simp[eH,List.find?_cons,e]
theorem eI{p:κ×V}{r:List (κ×V)}{k:κ}(e:¬p.1=k):eH (p::r) k=eH r k:=by simp[eH,List.find?_cons,e]
theorem jc(k:κ):∀ kvs:List (κ×V),(kvs.any λkv=>decide (kv.1=k))=(eH kvs k).isSome
 | []=>rfl
 | p::r=>by
  rw[List.any_cons]
  by_cases e:p.1=k
  .simp only[eJ e,decide_eq_true e,Bool.true_or,Option.isSome_some]
  .rw[eI e,decide_eq_false e,Bool.false_or];exact jc k r
theorem sZ{a:List (κ×V)}{k:κ}(v:V)(h:eH a k=none):wT a k v=a++[(k,v)]:=by
 unfold wT;rw[jc,h];exact if_neg (by decide)
theorem RelO.isSome_eq{o:Option V}{u:Option Value}(r:RelO o u):o.isSome=u.isSome:=by
 cases o with
 | none=>cases u with
  | none=>rfl
  | some _=>exact(show False from r).elim
 | some _=>cases u with
  | none=>exact(show False from r).elim
  | some _=>rfl
theorem KV.val{a:List (κ×V)}{vs:List (κ×Value)}(r:KV a vs)(k:κ):RelO (eH a k) (valueAt vs k):=by
 unfold KV at r
 induction r with
 | nil=>exact True.intro
 | @cons p q ps qs h t ih =>
  obtain⟨d,f⟩:=h
  by_cases e:p.1=k
  .have c:q.1=k:=d.symm.trans e
   have b:valueAt (q::qs) k=some q.2:=by simp[valueAt,List.find?_cons,c]
   rw[eJ e,b];exact f
  .have c:¬q.1=k:=λz=>e (d.trans z)
   have b:valueAt (q::qs) k=valueAt qs k:=by simp[valueAt,List.find?_cons,c]
   rw[eI e,b];exact ih
end
theorem xC{P:Program}{w:World}{k:Key}{u:Value}(r:RelV (kV k) u):(bZ P w).is k u=true:=by
 cases k with
 | inl i=>obtain⟨t,e⟩:=(show ∃ t,u=Value.int i t from r);subst e;exact m9 P w i t
 | inr x=>obtain⟨t,e⟩:=(show ∃ t,u=Value.str x t from r);subst e;exact nG P w x t
theorem kC{P:Program}{w:World}:∀{ks:List Key}{us:List Value},Vals (ks.map kV) us->ItemsAre (bZ P w) ks us
 | [],_,r=>by rw[map_nil]at r;cases r;exact .nil
 | k::ks,_,r=>by
  rw[map_cons]at r;cases r with
  | cons h t=>exact .cons (xC h) (kC t)
abbrev KT(H:Hp):List (List Key×V)->List (List Key×Addr×Value)->Prop:=Paired λp q=>p.1=q.1/\H q.2.1=some (.tup (p.1.map kV))/\RelV p.2 q.2.2
theorem KT.val{H:Hp}{a:List (List Key×V)}{xs:List (List Key×Addr×Value)}(r:KT H a xs)(k:List Key):RelO (eH a k) ((atKey xs k).map (·.2)):=by
 induction r with
 | nil=>exact True.intro
 | @cons p q ps qs h t ih =>
  obtain⟨d,_,f⟩:=h
  by_cases e:p.1=k
  .have c:q.1=k:=d.symm.trans e
   have b:atKey (q::qs) k=some q.2:=by simp[atKey,List.find?_cons,c]
   rw[eJ e,b];exact f
  .have c:¬q.1=k:=λz=>e (d.trans z)
   have b:atKey (q::qs) k=atKey qs k:=by simp[atKey,List.find?_cons,c]
   rw[eI e,b];exact ih
theorem KT.repl{H:Hp}{a:List (List Key×V)}{xs:List (List Key×Addr×Value)}(r:KT H a xs)(k:List Key){y:V}{u:Value}(f:RelV y u) :
  KT H (a.map λkv=>if kv.1=k then (kv.1,y) else kv) (xs.map (putAt k u)):=by
 induction r with
 | nil=>exact .nil
 | @cons p q ps qs h t ih =>
  rw[map_cons,map_cons];refine .cons ?_ ih;obtain⟨b,c,d⟩:=h;unfold putAt
  by_cases e:p.1=k
  .rw[if_pos e,if_pos (b.symm.trans e)];exact⟨b,c,f⟩
  .rw[if_neg e,if_neg (λz=>e (b.trans z))];exact⟨b,c,d⟩
theorem KT.put{H:Hp}{a:List (List Key×V)}{xs:List (List Key×Addr×Value)}(r:KT H a xs)(k:List Key){b:Addr}{y:V}{u:Value}(f:H b=some (.tup (k.map kV)))(c:RelV y u) :
  KT H (wT a k y) (storedH xs k b u):=by
 have e:(a.any λd=>decide (d.1=k))=(atKey xs k).isSome:=by
  rw[jc,(r.val k).isSome_eq,Option.isSome_map]
 unfold wT storedH;rw[e]
 by_cases q:(atKey xs k).isSome=true
 .rw[if_pos q,if_pos q];exact r.repl k c
 .rw[if_neg q,if_neg q];exact Paired.snoc r ⟨rfl,f,c⟩
theorem KT.keeps{H c:Hp}{a:List (List Key×V)}{xs:List (List Key×Addr×Value)}(r:KT H a xs)(d:∀ b ys,H b=some (.tup ys)->c b=some (.tup ys)):KT c a xs :=
 Paired.mapP r λ_ _ z=>⟨z.1,d _ _ z.2.1,z.2.2⟩
section
variable {P:Program}{w:World}{H:Hp}{h:Heap}{a:Addr}
theorem w5{u:HO}(b:HOk P w H h)(e:Rd H a u):ObjOk P w H h a u:=e.ok b
theorem vb{b:List (Key×V)}(c:HOk P w H h)(e:Rd H a (.dK b)):b.length<=sizeLine/\(a == sysModules)=false/\∃ vs,KV b vs/\h.DictOf (bZ P w) a vs :=
 show ObjOk P w H h a (.dK b) from w5 c e
theorem oZ{ks:List Key}(d:HOk P w H h)(e:H a=some (.tup (ks.map kV))):(tupleKind (bZ P w)).is h ks a:=by
 obtain⟨_,b,r,o,g,f,n,c⟩:=(show ObjOk P w H h a (.tup (ks.map kV)) from d a _ e)
 exact⟨o,b.toArray,n,g,f,c,by simpa using kC r⟩
theorem qU{b:List (List Key×V)}(d:HOk P w H h)(e:Rd H a (.dT b)):b.length<=sizeLine/\(a == sysModules)=false /\
  ∃ xs,KT H b xs/\h.DictOfH (tupleKind (bZ P w)) a xs:=by
 obtain⟨z,y,xs,r,o,n,k,g,j,f,i,s⟩:=(show ObjOk P w H h a (.dT b) from w5 d e)
 refine⟨z,y,xs,r,o,n,k,g,j,f,i,λx hx=>?_,s⟩
 have c:∀{l:List (List Key×V)}{m:List (List Key×Addr×Value)},KT H l m->∀ x∈m,(tupleKind (bZ P w)).is h x.1 x.2.1:=by
  intro l m q
  induction q with
  | nil=>intro x hx;exact nomatch hx
  | @cons p q ps qs hq t ih =>
   intro x hx
   rcases mem_cons.mp hx with e | hx
   .subst e
    exact oZ d (by rw[<- hq.1];exact hq.2.1)
   .exact ih x hx
 exact c r x hx
theorem xx{b:List (List Key×V)}(c:HOk P w H h)(e:H a=some (.dT b)):b.length<=sizeLine/\(a == sysModules)=false /\
  ∃ xs,KT H b xs/\h.DictOfH (tupleKind (bZ P w)) a xs:=qU c (.inl e)
end
def xX(H:Hp)(a:Addr)(y:V)(r:Option V):Prop :=
 (∃ kvs k,Rd H a (.dK kvs)/\y=kV k/\r=eH kvs k)\/∃ kvs k b,Rd H a (.dT kvs)/\y=.ref b/\H b=some (.tup (k.map kV))/\r=eH kvs k
section
variable {X:Cx}{pins:List (Addr×Obj)}{σ:St}{H:Hp}{s:Shared}{a:Addr}{y v:V}{u r:Value}{o:Option V}{A:Around}{E:Value->Shared->Prop}
theorem Inv.big(I:Inv X pins σ H s):sysModules<s.heap.objs.size:=by
 have h:mainGlobals<s.heap.objs.size:=(I.mod.glob.keeps I.bk).lt;exact Nat.lt_trans (by decide) h
theorem rW{Q:Value->Shared->Prop}(F:A.units+1<cLine)(I:Inv X pins σ H s)(g:xX H a y (some v))(r:RelV y u)(h:∀ w' s',Inv X pins σ H s'->RelV v w'->Q w' s') :
  wpAny (model X.prog X.w) A (getItem (.ref a) u) Q E s:=by
 rcases g with⟨i,k,e,f,l⟩ | ⟨i,k,b,e,f,w,l⟩
 .subst f
  obtain⟨z,C,B,c,j⟩:=vb I.hok e;obtain⟨w',n,d⟩:=RelO.some_of (v:=v) (o:=valueAt B k) (by rw[l];exact c.val k);exact wpAny_getItem_of (xC r) j.mapOf n (h w' _ (I.tok _) d)
 .subst f
  cases(show u=Value.ref b from r);obtain⟨z,C,x,c,j⟩:=qU I.hok e;obtain⟨w',n,d⟩:=RelO.some_of (v:=v) (o:=(atKey x k).map (·.2)) (by rw[l];exact c.val k);obtain⟨p,D,q⟩:=Option.map_eq_some_iff.mp n;refine wpAny_getItem_heap (tupleKind_room_in1 F) (oZ I.hok w) j D ?_;rw[q];exact h w' _ (I.tok _) d
theorem vT{h':Heap}{t':Nat}{ob:HO}(I:Inv X pins σ H s)(d:Mut (H a))(f:Heap.SameBut a s.heap h')(g:∃ q,h'.get? a=some q)(c:ObjOk X.prog X.w (upd H a ob) h' a ob) :
  Inv X pins σ (upd H a ob) { s with heap:=h',toks:=t' } :=
 I.write (x:=a) (e:=a) d (.inl rfl) (λb q h z=>(f.2 b h).trans z) g c
end
section
variable {X:Cx}{pins:List (Addr×Obj)}{σ:St}{H:Hp}{s:Shared}{a:Addr}{kvs:List (Key×V)}{k:Key}{u:Value}{A:Around}{E:Value->Shared->Prop}
end
def Az(i:Expr):Prop:=∀ ov iv,subscripted i false ov iv=operate [ov,iv] (getItem ov iv)
theorem wu{prog:Program}{w:World}{A:Around}{E:Value->Shared->Prop}{s:Shared}{env:Env}{b a:Expr}{k:Pos}{T q:String}{Q:Value->Shared->Prop}
  (p:typeLookup (.type T) "__getitem__" = pure (some (.builtin q))) (n:Az a)
  (h:wpAny (model prog w) A (eval b env) (λo s₁=>wpAny (model prog w) A (eval a env) (λi s₂=>s₂.TypeIs o T/\wpAny (model prog w) A (getItem o i) Q E s₂) E s₁) E s) :
  wpAny (model prog w) A (eval (.Subscript b a k) env) Q E s:=by
 refine Subscript_ (wpAny_mono h (λo s₁ g=>wpAny_mono g (λi s₂ c=>?_) λ_ _ x=>x) λ_ _ x=>x);obtain⟨l,c⟩:=c;unfold subscriptTail;refine wpAny_bind ?_;rw[getitemInPython_of_ne l.not_modules];refine wpAny_bind (wpAny_specialOf l p ?_)
 have f:wpAny (model prog w) A (subscripted a false o i) (λr d=>wpAny (model prog w) A (letTemporaryGo b o r >>= λ_=>pure r) Q E d) E s₂:=by
  rw[n o i];exact wpAny_operating (wpAny_mono c (λr d j=>wpAny_bind (wpAny_letTemporaryGo (wpAny_pure j))) λ_ _ x=>x)
 first
  | exact wpAny_pure (wpAny_bind f)
  | exact wpAny_bind (wpAny_pure (wpAny_bind f))
  | exact wpAny_bind f
theorem nF{X:Cx}{c:List (Addr×Obj)}{σ:St}{H:Hp}{s:Shared}{a:Addr}{y:V}{o:Option V}(I:Inv X c σ H s)(g:xX H a y o):s.TypeIs (.ref a) "dict" := by
 rcases g with⟨d,k,e,_,_⟩ | ⟨d,k,b,e,_,_,_⟩
 .obtain⟨_,_,i,_,f⟩:=vb I.hok e
  exact f.typeIs
 .obtain⟨_,_,h,_,f⟩:=qU I.hok e
  exact f.typeIs
inductive rDGet(x y:V)(H:Hp)(Q:VK):Prop
 | mk(a:Addr)(v:V)(h0:x=.ref a)(h1:xX H a y (some v))(h2:Q v H):rDGet x y H Q
def zT(td ty:TE):TE:=λσ H Q=>td σ H λx H1=>ty σ H1 λy H2=>rDGet x y H2 Q
section
variable {X:Cx}{o i e value:Expr}{pos pos' tpos:Pos}{td ty tv:TE}
theorem vx(z:X.A.units+1<cLine)(w:PE X o td)(l:PE X i ty)(f:Az i):PE X (.Subscript o i pos) (zT td ty):=by
 intro b s d H Q I h;refine wu PySem.F.slot_dict_getitem.lookup f (thn (w b s d H _ I h) λu n ⟨x,j,r,p,k⟩=>thn (l b n d j _ r k) λiv s2 ⟨y,H2,I2,ry,a,v,ex,g,q2⟩=>?_);subst ex;obtain rfl:u=Value.ref a:=p;exact⟨nF I2 g,rW z I2 g ry λA B q c=>⟨v,H2,q,c,q2⟩⟩
end
theorem uO{P:Program}{w:World}{H:Hp}(h:Heap)(a:sysModules<h.objs.size):ObjOk P w H (h.push { cls:=.type "dict",data:=.dict #[] }) h.objs.size (.dT []) :=
 ⟨Nat.zero_le _,beq_eq_false_iff_ne.mpr (Ne.symm (Nat.ne_of_lt a)),[],.nil,_,#[],0,Heap.get?_push_size _ rfl,⟨rfl,rfl,rfl⟩,rfl,rfl,nodup_nil⟩
def xY:TE:=λ_ H Q=>∀ p,H p=none->Q (.ref p) (upd H p (.dT []))
section
variable {X:Cx}{pos:Pos}
theorem vn:PE X (.Dict [] [] pos) xY:=λb s c H Q I h =>
 wpAny_Dict_empty ⟨.ref s.heap.objs.size,_,I.laid (a:=s.heap.objs.size) (o:=.dT []) (t':=s.toks) (λ_ _ q=>Heap.get?_push_of_some _ q) (Nat.le_refl _) (uO s.heap I.big),rfl,h _ (I.hok.fresh (Nat.le_refl _))⟩
end
structure M2(X:Cx)(o:Expr)(m:Str)(apos:Pos)(e f:Expr)(cpos:Pos):Prop where
 base:attributeBase o m X.env (eval o X.env)=eval o X.env
 few:((backTo cpos (starEach [e,f] X.env)).all (λx=>!x.1) && (backToKw cpos (keywordEach [] X.env)).all (λx=>x.1.isSome)
  && decide (([e,f]:List Expr).length+([]:List Keyword).length+(if ([]:List Keyword).isEmpty then 0 else 1)<30))=true
 line:(apos.endLine == cpos.line)=true
 trees:backTo cpos (starEach [e,f] X.env)=[(false,eval e X.env),(false,eval f X.env)]
def IsD(H:Hp)(a:Addr):Prop:=(∃ kvs,Rd H a (.dK kvs))\/∃ kvs,Rd H a (.dT kvs)
theorem yD{X:Cx}{c:List (Addr×Obj)}{σ:St}{H:Hp}{s:Shared}{a:Addr}(I:Inv X c σ H s)(d:IsD H a) :
  s.TypeIs (.ref a) "dict" /\ (∀ b,Value.ref a=.ref b->∃ ob,s.heap.get? b=some ob/\ob.dict=none)/\(a == sysModules)=false:=by
 rcases d with⟨g,e⟩ | ⟨g,e⟩
 .obtain⟨_,j,l,_,f⟩:=vb I.hok e
  refine⟨f.typeIs,λb q=>?_,j⟩;cases q;obtain⟨ob,_,_,i,h,_⟩:=f;exact⟨ob,i,h.2.1⟩
 .obtain⟨_,j,k,_,f⟩:=qU I.hok e
  refine⟨f.typeIs,λb q=>?_,j⟩;cases q;obtain⟨ob,_,_,i,h,_⟩:=f;exact⟨ob,i,h.2.1⟩
section
variable {X:Cx}{pins:List (Addr×Obj)}{σ:St}{H:Hp}{s:Shared}{a:Addr}{y d:V}{u r:Value}{o:Option V}{A:Around}{E:Value->Shared->Prop}
end
section
variable {X:Cx}{o e f:Expr}{apos cpos:Pos}{td ty tx:TE}
end
section
variable {X:Cx}{pins:List (Addr×Obj)}{σ:St}{H:Hp}{s:Shared}{a:Addr}{kvs:List (Key×V)}{A:Around}{E:Value->Shared->Prop}
end
section
variable {X:Cx}{pins:List (Addr×Obj)}{σ:St}{H:Hp}{s:Shared}{a:Addr}{y:V}{u:Value}{A:Around}{E:Value->Shared->Prop}
end
theorem OpR.imp{X:Cx}{f:Value->Value->Sem Value}{r b:R2}(h:OpR X f r)(i:∀ x y H Q,b x y H Q->r x y H Q):OpR X f b :=
 λa s d H x y v u Q I g c q=>h a s d H x y v u Q I g c (i x y H Q q)
theorem CallR.imp{X:Cx}{f:Value}{r b:List V->Hp->VK->Prop}(h:CallR X f r)(i:∀ xs H Q,b xs H Q->r xs H Q):CallR X f b :=
 λa s g H xs c Q I d q=>h a s g H xs c Q I d (i xs H Q q)
def tV(i:Nat):TE:=λσ H Q=>match σ[i]? with
 | some (some v)=>Q v H
 | _=>False
theorem vr{X:Cx}(i:Nat){x:Str}{b:Pos}(j:X.N[i]? = some x:=by rfl)(d:Vis X.env.scope x:=by first | exact Or.inl rfl | exact Or.inr (Or.inl rfl) | exact Or.inr (Or.inr rfl))(f:(x == ("__debug__" : Str))=false:=by decide)
  (c:(x == ("__classdict__" : Str))=false:=by decide):PE X (.Name x b) (tV i):=λa s g H Q I h=>by
 refine yq j d f c a s g H Q I ?_;unfold tV at h
 split at h
 .rename_i v e
  exact⟨v,e,h⟩
 .exact h.elim
def rI2(g:Int->Int->V):R2:=λx y H Q=>match x,y with
 | .int i,.int j=>Q (g i j) H
 | _,_=>False
def rIC(C:Int->Int->Prop)(g:Int->Int->V):R2:=λx y H Q=>match x,y with
 | .int i,.int j=>C i j/\Q (g i j) H
 | _,_=>False
theorem OpR.i2{X:Cx}{f:Value->Value->Sem Value}{g:Int->Int->V}(h:OpR X f (rI0 g)):OpR X f (rI2 g):=h.imp λx y H Q q=>by
 cases x <;> cases y <;> first | exact⟨_,_,rfl,rfl,q⟩ | exact(show False from q).elim
theorem OpR.ic{X:Cx}{f:Value->Value->Sem Value}{C:Int->Int->Prop}{g:Int->Int->V}(h:OpR X f (rI C g)):OpR X f (rIC C g):=h.imp λx y H Q q=>by
 cases x <;> cases y <;> first | exact⟨_,_,rfl,rfl,q.1,q.2⟩ | exact(show False from q).elim
section
variable {X:Cx}
def xh:R2:=λx y H Q=>match x,y with
 | .int i,.int j=>Q (.int (i+j)) H
 | .str i,.str j=>i.length+j.length<=sizeLine/\Q (.str (i++j)) H
 | _,_=>False
theorem b7:OpR X (binaryOp .Add) xh:=(op_add.or oY).imp λx y H Q q=>by
 cases x <;> cases y <;> first | exact .inl ⟨_,_,rfl,rfl,q⟩ | exact .inr ⟨_,_,rfl,rfl,q.1,q.2⟩ | exact(show False from q).elim
theorem gv:OpR X (binaryOp .Sub) (rI2 λi j=>.int (i - j)):=op_sub.i2
def zE(i j:Int):Prop:=0<j
def CNn(i j:Int):Prop:=0<=j
theorem cp{i j:Int}(h:0<j:=by decide):zE i j:=h
theorem cn{i j:Int}(h:0<=j:=by decide):CNn i j:=h
theorem cd{i j:Int}(h:0<j:=by decide)(h2:j<1073741824:=by decide):AV i j:=⟨h,h2⟩
theorem cl{i j:Int}(h:-(2 ^ 64)<i:=by decide)(h2:i<2 ^ 64:=by decide):CMul i j:=.inl ⟨h,h2⟩
theorem cr{i j:Int}(h:-(2 ^ 64)<j:=by decide)(h2:j<2 ^ 64:=by decide):CMul i j:=.inr ⟨h,h2⟩
theorem dD:OpR X (binaryOp .Mod) (rIC zE λi j=>.int (i % j)):=op_mod.ic
theorem zJ:OpR X (binaryOp .RShift) (rIC CNn λi j=>.int (i/2 ^ j.toNat)):=op_shr.ic
theorem sf:OpR X (compareOp .LtE) (λx y H Q=>∃ i j,x=.str i/\y=.str j/\Q (.bl (!decide (j.cps.toList<i.cps.toList))) H):=by
 intro a s d H x y v u Q I c b h;obtain⟨i,j,rfl,rfl,q⟩:=h;obtain⟨t,rfl⟩:=c;obtain⟨f,rfl⟩:=b;exact PySem.P.le_str (aS I q rfl)
def xB(f:Int->Int->Bool)(g:Str->Str->Bool):R2:=λx y H Q=>match x,y with
 | .int i,.int j=>Q (.bl (f i j)) H
 | .str i,.str j=>Q (.bl (g i j)) H
 | _,_=>False
theorem j3:OpR X (compareOp .Lt) (xB (λi j=>decide (i<j)) λi j=>decide (i.cps.toList<j.cps.toList)):=(op_lt.or rR).imp λx y H Q q=>by
 cases x <;> cases y <;> first | exact .inl ⟨_,_,rfl,rfl,q⟩ | exact .inr ⟨_,_,rfl,rfl,q⟩ | exact(show False from q).elim
theorem sx:OpR X (compareOp .LtE) (xB (λi j=>decide (i<=j)) λi j=>!decide (j.cps.toList<i.cps.toList)):=(op_le.or sf).imp λx y H Q q=>by
 cases x <;> cases y <;> first | exact .inl ⟨_,_,rfl,rfl,q⟩ | exact .inr ⟨_,_,rfl,rfl,q⟩ | exact(show False from q).elim
theorem jX:OpR X (compareOp .Gt) (rI2 λi j=>.bl (decide (j<i))):=op_gt.i2
theorem vC:OpR X (compareOp .GtE) (rI2 λi j=>.bl (decide (j<=i))):=op_ge.i2
def u8(neg:Bool):R2:=λx y H Q=>match x,y with
 | .int i,.int j=>Q (.bl (if neg then !decide (i=j) else decide (i=j))) H
 | .str i,.str j=>Q (.bl (if neg then !decide (i=j) else decide (i=j))) H
 | .bl i,.bl j=>Q (.bl (if neg then !decide (i=j) else decide (i=j))) H
 | .non,.non=>Q (.bl (!neg)) H
 | .non,.int _=>Q (.bl neg) H
 | .non,.str _=>Q (.bl neg) H
 | .non,.bl _=>Q (.bl neg) H
 | .int _,.non=>Q (.bl neg) H
 | .str _,.non=>Q (.bl neg) H
 | .bl _,.non=>Q (.bl neg) H
 | .int _,.str _=>Q (.bl neg) H
 | .str _,.int _=>Q (.bl neg) H
 | _,_=>False
theorem eE:OpR X (compareOp .Eq) (u8 false):=op_eq.imp λx y H Q q=>by
 cases x <;> cases y <;> first | exact(show False from q).elim | exact⟨rfl,q⟩ | exact⟨rfl,by rw[i4];exact q⟩ | exact⟨rfl,by rw[lN];exact q⟩ | exact⟨rfl,by rw[iW];exact q⟩
theorem nE:OpR X (compareOp .NotEq) (u8 true):=op_ne.imp λx y H Q q=>by
 cases x <;> cases y <;> first | exact(show False from q).elim | exact⟨rfl,q⟩ | exact⟨rfl,by rw[i4];exact q⟩ | exact⟨rfl,by rw[lN];exact q⟩ | exact⟨rfl,by rw[iW];exact q⟩
def rU1(g:Int->V):V->Hp->VK->Prop:=λx H Q=>match x with
 | .int i=>Q (g i) H
 | _=>False
theorem qx:UnR X (unaryOp .USub) (rU1 λi=>.int (-i)):=λa s b H x v Q I r q=>xK a s b H x v Q I r (by
 cases x <;> first | exact⟨_,rfl,q⟩ | exact(show False from q).elim)
def AZ(neg:Bool):R2:=λx y H Q=>match x,y with
 | .str i,.str j=>Q (.bl (if neg then (Builtin.Str.occurrences j i 0 j.length 1).isEmpty else !(Builtin.Str.occurrences j i 0 j.length 1).isEmpty)) H
 | _,_=>False
theorem Ae:OpR X (compareOp .In) (AZ false):=op_in_str.imp λx y H Q q=>by
 cases x <;> cases y <;> first | exact⟨_,_,rfl,rfl,q⟩ | exact(show False from q).elim
def mB(Q:Bool->Hp->Prop):VK:=λx H=>match x with
 | .bl c=>Q c H
 | _=>False
variable {a b c:Expr}{ta tb tc:TE}{pos:Pos}{rest:List Expr}
def AM(ta tb:TE):TE:=λσ H Q=>ta σ H (mB λc H1=>if c=true then tb σ H1 Q else Q (.bl false) H1)
def mOr(ta tb:TE):TE:=λσ H Q=>ta σ H (mB λc H1=>if c=true then Q (.bl true) H1 else tb σ H1 Q)
def AS(ta:TE):TE:=λσ H Q=>ta σ H (mB λc H1=>Q (.bl (!c)) H1)
theorem iA{Q:Bool->Hp->Prop}{x:V}{H:Hp}(h:mB Q x H):∃ c,x=.bl c/\Q c H:=by
 cases x <;> first | exact⟨_,rfl,h⟩ | exact(show False from h).elim
theorem iJ(k:PE X a ta)(l:PE X (.BoolOp .And (b::rest) pos) tb):PE X (.BoolOp .And (a::b::rest) pos) (AM ta tb):=by
 intro d s i H Q I h;refine BoolOp_and (thn (k d s i H _ I h) λv o ⟨x,g,j,n,f⟩=>?_);obtain⟨c,rfl,f⟩:=iA f;cases n;refine wpAny_truthy_bool ?_;cases c with
 | true=>exact l d o i g Q j f
 | false=>exact⟨.bl false,g,j,rfl,f⟩
theorem Bg(k:PE X a ta)(l:PE X (.BoolOp .Or (b::rest) pos) tb):PE X (.BoolOp .Or (a::b::rest) pos) (mOr ta tb):=by
 intro d s i H Q I h;refine BoolOp_or (thn (k d s i H _ I h) λv o ⟨x,g,j,n,f⟩=>?_);obtain⟨c,rfl,f⟩:=iA f;cases n;refine wpAny_truthy_bool ?_;cases c with
 | false=>exact l d o i g Q j f
 | true=>exact⟨.bl true,g,j,rfl,f⟩
theorem zR(g:PE X a ta):PE X (.UnaryOp .Not a pos) (AS ta):=by
 intro b s j H Q I h;refine UnaryOp_ (thn (g b s j H _ I h) λv l ⟨x,f,k,i,d⟩=>?_);obtain⟨c,rfl,d⟩:=iA d;cases i;exact not_of (wpAny_truthy_bool ⟨.bl (!c),f,k,rfl,d⟩)
def mT(t:TE):TT:=λσ H Q=>t σ H (mB Q)
theorem dR(h:PE X a ta)(c:∀ whole,isTrue a X.env whole=(do let v <- whole;standAt a.pos;holding [v] (truthy v)):=by intro _;rfl):PT X a (mT ta):=by
 intro b s j H Q I k;refine isTrue_plain (thn (h b s j H _ I k) λv n ⟨x,f,l,g,i⟩=>?_) (c _);obtain⟨d,rfl,q⟩:=iA i;cases g;exact wpAny_truthy_bool ⟨f,l,q⟩
theorem aM{op:CmpOp}{r:R2}(D:OpR X (compareOp op) r)(j:PE X a ta)(n:PE X b tb)(i:behindInMarks op b=false):PT X (.Compare a [op] [b] pos) (mT (tOp r ta tb)):=by
 intro d s g H Q I h
 refine wpAny_isTrue_Compare1 (thn (j d s g H _ I h) λv A ⟨x,l,C,o,p⟩=>thn (n d A g l _ C p) λu s2 ⟨y,H2,I2,r2,q2⟩ =>
  thn (D d s2 g H2 x y v u _ I2 o r2 q2) λc E ⟨z,q,B,w,f⟩=>?_) i
 obtain⟨k,rfl,f⟩:=iA f;cases w;exact wpAny_truthy_bool ⟨q,B,f⟩
def yK(r r':R2)(ta tb tc:TE):TE:=λσ H Q=>ta σ H λx H1=>tb σ H1 λy H2=>r x y H2 (mB λk H3=>if k=true then tc σ H3 λw' H4=>r' y w' H4 Q else Q (.bl false) H3)
theorem pR{op g:CmpOp}{r n:R2}(L:OpR X (compareOp op) r)(l:OpR X (compareOp g) n)(D:PE X a ta)(w:PE X b tb)(T:PE X c tc)
  (C:lastMarks [op,g] [b,c]=false:=by with_unfolding_all rfl):PE X (.Compare a [op,g] [b,c] pos) (yK r n ta tb tc):=by
 intro f s i H Q I h
 refine Compare_chain (thn (D f s i H _ I h) λv O ⟨x,P,B,N,E⟩=>chain_link (thn (w f O i P _ B E) λu s2 ⟨y,H2,I2,r2,q2⟩ =>
  thn (L f s2 i H2 x y v u _ I2 N r2 q2) λd G ⟨z,p,o,A,j⟩=>?_)) C
 obtain⟨k,rfl,j⟩:=iA j;cases A;refine wpAny_truthy_bool ?_;cases k with
 | false=>exact ite_ff ⟨.bl false,p,o,rfl,j⟩
 | true=>exact ite_tt (chain_last (thn (T f G i p _ o j) λF M ⟨R,S,q,K,W⟩=>l f M i S y R u F Q q r2 K W))
open PySem.W in
theorem ve{f:List (Addr×Obj)}{σ:St}{H:Hp}{s:Shared}{x:V}{u t:Value}(I:Inv X f σ H s)(b:RelV x u)(ty:TyOf X.K H x t) :
  ∃ Hh:Heap->Prop,KitX X.K u t Hh/\Hh s.heap/\u≠.builtin "__main__.__loader__#opaque" := by
 cases ty with
 | non=>cases(show u=Value.none from b);exact⟨_,PySem.W.kitx_none,True.intro,λz=>nomatch z⟩
 | bl y=>cases(show u=Value.bool y from b);exact⟨_,PySem.W.kitx_bool,True.intro,λz=>nomatch z⟩
 | int i=>obtain⟨t,q⟩:=(show ∃ t,u=Value.int i t from b);cases q;exact⟨_,PySem.W.kitx_int,True.intro,λz=>nomatch z⟩
 | str y=>obtain⟨t,q⟩:=(show ∃ t,u=Value.str y t from b);cases q;exact⟨_,PySem.W.kitx_str,True.intro,λz=>nomatch z⟩
 | flt y=>obtain⟨t,q⟩:=(show ∃ t,u=Value.float y t from b);cases q;exact⟨_,PySem.W.kitx_float,True.intro,λz=>nomatch z⟩
 | @lst a d ea =>
  cases(show u=Value.ref a from b)
  obtain⟨_,_,n,_,c⟩:=(show ObjOk X.prog X.w H s.heap a (.lst d) from I.hok a _ ea)
  exact⟨_,kitx_list,⟨_,c,rfl⟩,λz=>nomatch z⟩
 | @frz a ob d ea =>
  cases(show u=Value.ref a from b)
  obtain⟨_,_,_,n,_,c⟩:=(show ObjOk X.prog X.w H s.heap a (.frz ob (.lst d)) from I.hok a _ ea)
  exact⟨_,kitx_list,⟨_,c,rfl⟩,λz=>nomatch z⟩
 | @tup a d ea =>
  cases(show u=Value.ref a from b)
  obtain⟨_,_,_,p⟩:=(show ObjOk X.prog X.w H s.heap a (.tup d) from I.hok a _ ea)
  obtain⟨o,c,g,_⟩:=p;exact⟨_,kitx_tuple,⟨o,c,g⟩,λz=>nomatch z⟩
 | @dK a kvs ea =>
  cases(show u=Value.ref a from b)
  obtain⟨_,_,r,_,p⟩:=(show ObjOk X.prog X.w H s.heap a (.dK kvs) from I.hok a _ ea)
  obtain⟨o,j,h,c,g,_⟩:=p;exact⟨_,kitx_dict,⟨o,c,g.1⟩,λz=>nomatch z⟩
 | @dT a kvs ea =>
  cases(show u=Value.ref a from b)
  obtain⟨_,_,d,_,o,j,h,c,g,_⟩:=(show ObjOk X.prog X.w H s.heap a (.dT kvs) from I.hok a _ ea)
  exact⟨_,kitx_dict,⟨o,c,g.1⟩,λz=>nomatch z⟩
 | @ins a C dx fs ea cl ha hn htk hm =>
  cases(show u=Value.ref a from b);obtain⟨k,O,_⟩:=i5 I.hok ea;obtain⟨l,J,_⟩:=O.look;exact⟨_,PySem.W.kitx_own (cl.get _) cl.hd ha hn htk hm,J,λz=>nomatch z⟩
def zL:V->Value
 | .ty n=>.type n
 | .ref a=>.ref a
 | _=>.none
def xy:V->Bool
 | .ty _=>true
 | .ref _=>true
 | _=>false
theorem vK{c:V}{u:Value}(h:xy c=true)(r:RelV c u):u=zL c:=by
 cases c <;> first | exact r | exact absurd (show false=true from h) Bool.false_ne_true
inductive rIsi(K:Frag)(xs:List V)(H:Hp)(Q:VK):Prop
 | mk(x c:V)(t:_)(b:Bool)(h0:xs=[x,c])(h1:xy c=true)(h2:TyOf K H x t)(h3:kitOne K t (zL c)=some b)(h4:Q (.bl b) H):rIsi K xs H Q
theorem jH:CallR X (.builtin "isinstance") (rIsi X.K):=by
 intro a s v H n l Q I r h;obtain⟨x,c,t,b,rfl,i,g,e,q⟩:=h;obtain⟨u,o,rfl,j,f⟩:=uj r;cases vK i f;obtain⟨w,Z,p,d⟩:=ve I j g
 exact PySem.W.kia_one Z I.kIn p e d λk=>⟨.bl b,H,I.tok k,rfl,q⟩
theorem rk(z:X.calm=true):CallR X (.builtin "all") (λxs H Q=>∃(p:Addr) (ys:List V) (bs:List Bool),xs=[.ref p]/\SqL X.K H p ys/\ys=bs.map V.bl/\Q (.bl (bs.all id)) H):=by
 intro k s G H xs F Q I r h;obtain⟨p,ys,bs,rfl,y,rfl,q⟩:=h;obtain⟨u,rfl,B⟩:=cV r;cases B;obtain⟨a,f,c,C⟩:=I.list y;have d:p<s.heap.objs.size:=by obtain⟨_,_,e,_⟩:=c;exact Heap.lt_size e
 refine call_all_walk (wpAny_pyIter_list c.isList ?_)
 refine⟨s.heap.objs.size,[s.heap.objs.size,p],[s.heap.objs.size],a.toArray.size,_,_,λi=>(bs[i]?).getD true,rfl,Walks.list (A:=X.A.in1) (I.ok.hd z) _ p (Nat.ne_of_lt d) a.toArray,
  ⟨⟨_,Heap.get?_push_size _ rfl,rfl,rfl⟩,c.isList.push _⟩,λi v D E K o j=>?_,λh' tk hk=>?_⟩
 .have n:a[i]? = some v:=by simpa using o
  have g:i<(bs.map V.bl).length:=by rw[f.length];exact(List.getElem?_eq_some_iff.mp n).1
  obtain⟨b,hb⟩:∃ b,bs[i]? = some b:=⟨bs[i]'(by simpa using g),by simp at g;simp[g]⟩
  obtain⟨u,l,w⟩:=f.get (i:=i) (x:=V.bl b) (by rw[List.getElem?_map,hb];rfl);rw[n]at l;cases l;cases w;simp only[hb,Option.getD_some]at j;exact wpAny_truthy_bool j
 .have e:((List.range a.toArray.size).all λi=>(bs[i]?).getD true)=bs.all id:=by
   rw[size_toArray,<- f.length,length_map];exact LSm.range_all bs
  rw[e];exact⟨.bl _,H,I.kept (LSm.kept_iter hk),rfl,q⟩
theorem rm:CallR X (.type "range") (λxs H Q=>∃ a b,xs=[.int a,.int b]/\∀ p,H p=none->Q (.ref p) (upd H p (.rng a b))):=by
 intro c s i H xs f Q I r h;obtain⟨a,b,rfl,q⟩:=h;obtain⟨u,g,rfl,⟨t,rfl⟩,⟨d,rfl⟩⟩:=uj r;refine call_range_2 ?_;exact⟨.ref s.heap.objs.size,_,I.laid (o:=.rng a b) (λb o e=>Heap.get?_push_of_some _ e) (Nat.le_refl _) ⟨t,d,s.toks,Heap.get?_push_size _ rfl⟩,rfl,q _ (I.hok.fresh (Nat.le_refl _))⟩
end
theorem yt{Q:V->Prop}{p r:Prop}[Decidable p][Decidable r](q:Q (.bl (decide (p/\r)))):if decide p=true then Q (.bl (decide r)) else Q (.bl false):=by
 by_cases h:p
 .rw[if_pos (decide_eq_true h)]
  have e:decide (p/\r)=decide r:=by by_cases z:r <;> simp[h,z]
  rw[<- e];exact q
 .rw[if_neg (λz=>h (of_decide_eq_true z))]
  have e:decide (p/\r)=false:=decide_eq_false λz=>h z.1
  rw[<- e];exact q
theorem ifP{c:Prop}[Decidable c]{A B:Prop}(a:c)(h:A):if decide c=true then A else B:=by rw[if_pos (decide_eq_true a)];exact h
theorem ifN{c:Prop}[Decidable c]{A B:Prop}(a:¬c)(h:B):if decide c=true then A else B:=by rw[if_neg (λz=>a (of_decide_eq_true z))];exact h
theorem ifC{c:Prop}[Decidable c]{A B:Prop}(a:c->A)(h2:¬c->B):if decide c=true then A else B:=by
 by_cases h:c
 .exact ifP h (a h)
 .exact ifN h (h2 h)
theorem ifB{b:Bool}{A B:Prop}(a:b=true->A)(h2:b=false->B):if b=true then A else B:=by
 cases b with
 | true=>rw[if_pos rfl];exact a rfl
 | false=>rw[if_neg Bool.false_ne_true];exact h2 rfl
theorem cf:bootBuiltins "len" = some (.builtin "len"):=by decide +kernel
theorem d8:bootBuiltins "isinstance" = some (.builtin "isinstance"):=by decide +kernel
theorem yC:bootBuiltins "all" = some (.builtin "all"):=by decide +kernel
theorem jJ:bootBuiltins "min" = some (.builtin "min"):=by decide +kernel
theorem lE:bootBuiltins "enumerate" = some (.type "enumerate"):=by decide +kernel
theorem hJ:bootBuiltins "range" = some (.type "range"):=by decide +kernel
theorem yN:bootBuiltins "str" = some (.type "str"):=by decide +kernel
theorem gw:bootBuiltins "int" = some (.type "int"):=by decide +kernel
theorem vZ:bootBuiltins "bool" = some (.type "bool"):=by decide +kernel
theorem fN:bootBuiltins "list" = some (.type "list"):=by decide +kernel
theorem gU:bootBuiltins "tuple" = some (.type "tuple"):=by decide +kernel
theorem kH{X:Cx}{x:Str}{v:V}{a:Pos}(c:Gl X x)(h:∃ u,X.mg x=some u/\RelV v u)(b:(x == ("__debug__" : Str))=false:=by decide):PE X (.Name x a) (tC v) :=
 let ⟨_,e,r⟩:=h
 v5 c e r b
def Bj(K:Frag)(tl:TE):TI:=λσ H R=>tl σ H λx H1=>match x with
 | .str z=>R (Its z) H1
 | .ref a=>((∃ xs,SqL K H1 a xs)/\R (Itl K a) H1)\/((∃ xs,SqT K H1 a xs)/\R (Itt K a) H1)
 | _=>False
theorem b9{X:Cx}{tg l:Expr}{tl:TE}(r:PE X l tl):PI X tg l (Bj X.K tl):=by
 intro f s A H R I h;have B:PE X l tl:=r;refine thn (r f s A H _ I h) λv c ⟨x,i,d,n,k⟩=>?_
 cases x with
 | str z =>
  have:=xO (X:=X) (tg:=tg) (l:=l) (tl:=tC (.str z));obtain⟨t,rfl⟩:=n;refine wpAny_pyIter_strU ?_;refine⟨c.heap.objs.size,[c.heap.objs.size],_,_,i,rfl,d.kept (t':=c.toks) λb o e=>Heap.get?_push_of_some _ e,oq (ty:=strIterType z) (t:=t) z _ ?_,⟨_,Heap.get?_push_size _ rfl,rfl,rfl⟩,λb hb=>?_,k⟩
  .unfold strIterType
   split
   .exact .inl rfl
   .exact .inr rfl
  .have e:b=c.heap.objs.size:=by simpa using hb
   subst e;exact d.fpOk (Nat.le_refl _) (d.hok.fresh (Nat.le_refl _))
 | ref a =>
  cases n
  rcases k with⟨⟨w,j⟩,q⟩ | ⟨⟨w,j⟩,q⟩
  .obtain⟨g,u,p,y⟩:=d.list j
   refine wpAny_pyIter_list p.isList ?_;refine⟨c.heap.objs.size,[c.heap.objs.size],_,_,i,rfl,d.kept (t':=c.toks) λb o e=>Heap.get?_push_of_some _ e,rq a _,⟨_,Heap.get?_push_size _ rfl,rfl,rfl⟩,λb hb=>?_,q⟩;have e:b=c.heap.objs.size:=by simpa using hb
   subst e;exact d.fpOk (Nat.le_refl _) (d.hok.fresh (Nat.le_refl _))
  .obtain⟨g,u,p,y⟩:=d.tuple j
   refine wpAny_pyIter_tuple (show c.heap.IsTuple a g.toArray from p) ?_;refine⟨c.heap.objs.size,[c.heap.objs.size],_,_,i,rfl,d.kept (t':=c.toks) λb o e=>Heap.get?_push_of_some _ e,oO a _,⟨_,Heap.get?_push_size _ rfl,rfl,rfl⟩,λb hb=>?_,q⟩;have e:b=c.heap.objs.size:=by simpa using hb
   subst e;exact d.fpOk (Nat.le_refl _) (d.hok.fresh (Nat.le_refl _))
 | _=>exact(show False from k).elim
inductive rLenSq(K:Frag)(p:Addr)(H:Hp)(Q:VK):Prop
 | mk(ys:List V)(h0:SqL K H p ys\/SqT K H p ys)(h1:Q (.int ys.length) H):rLenSq K p H Q
theorem aQ{X:Cx}:CallR X (.builtin "len") (λxs H Q=>match xs with
  | [.str z]=>z.length<=sizeLine/\Q (.int z.length) H
  | [.ref p]=>rLenSq X.K p H Q
  | _=>False):=(call_len_str.or kP).imp λxs H Q q=>by
 match xs,q with
 | [.str z],q=>exact .inl ⟨z,rfl,q.1,q.2⟩
 | [.ref p],q=>obtain⟨a,h,q⟩:=q;exact .inr ⟨p,a,rfl,h,q⟩
section
variable {D:Addr}{σb:St}{g:TG}{tt:TT}{te:TE}{Q:Hp->List V->Prop}{H:Hp}{K:Frag}
def pI(D:Addr)(σb:St)(g:TG)(tt:TT)(te:TE)(x:V)(ys:List V)(H:Hp)(P:List V->Hp->Prop):Prop :=
 g x σb H λσ4 H4=>Wk σb σ4/\tt σ4 H4 λb H5=>if b=true then te σ4 H5 λy H6=>H6 D=some (.lst ys)/\ys.length<sizeLine/\P (ys++[y]) (upd H6 D (.lst (ys++[y]))) else P ys H5
theorem uZ{z:Str}(d:Nat->List V->Hp->Prop)(f:d 0 [] H)(k:∀ i ys H,d i ys H->H D=some (.lst ys))
  (h:∀(i c:Nat) ys H P,z.cps[i]? = some c->d i ys H->(∀ a b,d (i+1) a b->P a b)->pI D σb g tt te (.str ⟨#[c]⟩) ys H P) (j:∀ ys H,d z.cps.size ys H->Q H ys):∃ W,(∃ m,W 0 m [] H)/\jq (Its z) D σb g tt te Q W:=by
 refine⟨λi m ys H=>m=z.cps.size - i/\i<=z.cps.size/\d i ys H,⟨_,rfl,Nat.zero_le _,f⟩,?_⟩;rintro i m ys H ⟨rfl,n,p⟩;refine⟨k i ys H p,?_⟩
 by_cases hlt:i<z.cps.size
 .refine .inr ⟨hlt,λx o y=>?_⟩
  obtain⟨rfl,c,l,rfl⟩:=y;exact h i c ys _ (λa b=>∃ m',m'<z.cps.size - i/\m'=z.cps.size - (i+1)/\i+1<=z.cps.size/\d (i+1) a b) l p (λa b q=>⟨z.cps.size - (i+1),by lia,rfl,hlt,q⟩)
 .have e:i=z.cps.size:=by lia
  subst e;exact .inl ⟨Nat.le_refl _,j ys H p⟩
theorem bL{a:Addr}{xs:List V}(c:Nat->List V->Hp->Prop)(d:c 0 [] H)(h:∀ i ys H,c i ys H->SqL K H a xs)(k:∀ i ys H,c i ys H->H D=some (.lst ys))
  (f:∀(i:Nat) x ys H P,xs[i]? = some x->c i ys H->(∀ a b,c (i+1) a b->P a b)->pI D σb g tt te x ys H P) (j:∀ ys H,c xs.length ys H->Q H ys):∃ W,(∃ m,W 0 m [] H)/\jq (Itl K a) D σb g tt te Q W:=by
 refine⟨λi m ys H=>m=xs.length - i/\i<=xs.length/\c i ys H,⟨_,rfl,Nat.zero_le _,d⟩,?_⟩;rintro i m ys H ⟨rfl,l,p⟩;refine⟨k i ys H p,?_⟩;have q:=h i ys H p
 by_cases hlt:i<xs.length
 .refine .inr ⟨⟨xs,xs[i],q,by simp[hlt]⟩,λx n y=>?_⟩
  obtain⟨rfl,y⟩:=y;exact f i x ys _ (λa b=>∃ m',m'<xs.length - i/\m'=xs.length - (i+1)/\i+1<=xs.length/\c (i+1) a b) (y xs q) p (λa b q=>⟨xs.length - (i+1),by lia,rfl,hlt,q⟩)
 .have e:i=xs.length:=by lia
  subst e;exact .inl ⟨⟨xs,q,Nat.le_refl _⟩,j ys H p⟩
theorem nj{a:Addr}{xs:List V}(c:Nat->List V->Hp->Prop)(d:c 0 [] H)(h:∀ i ys H,c i ys H->SqT K H a xs)(k:∀ i ys H,c i ys H->H D=some (.lst ys))
  (f:∀(i:Nat) x ys H P,xs[i]? = some x->c i ys H->(∀ a b,c (i+1) a b->P a b)->pI D σb g tt te x ys H P) (j:∀ ys H,c xs.length ys H->Q H ys):∃ W,(∃ m,W 0 m [] H)/\jq (Itt K a) D σb g tt te Q W:=by
 refine⟨λi m ys H=>m=xs.length - i/\i<=xs.length/\c i ys H,⟨_,rfl,Nat.zero_le _,d⟩,?_⟩;rintro i m ys H ⟨rfl,l,p⟩;refine⟨k i ys H p,?_⟩;have q:=h i ys H p
 by_cases hlt:i<xs.length
 .refine .inr ⟨⟨xs,xs[i],q,by simp[hlt]⟩,λx n y=>?_⟩
  obtain⟨rfl,y⟩:=y;exact f i x ys _ (λa b=>∃ m',m'<xs.length - i/\m'=xs.length - (i+1)/\i+1<=xs.length/\c (i+1) a b) (y xs q) p (λa b q=>⟨xs.length - (i+1),by lia,rfl,hlt,q⟩)
 .have e:i=xs.length:=by lia
  subst e;exact .inl ⟨⟨xs,q,Nat.le_refl _⟩,j ys H p⟩
theorem oh{lo:Int}{n:Nat}(c:Nat->List V->Hp->Prop)(d:c 0 [] H)(h:∀ i ys H,c i ys H->H D=some (.lst ys))
  (f:∀(i:Nat) ys H P,i<n->c i ys H->(∀ a b,c (i+1) a b->P a b)->pI D σb g tt te (.int (lo+i)) ys H P) (j:∀ ys H,c n ys H->Q H ys):∃ W,(∃ m,W 0 m [] H)/\jq (Itr lo n) D σb g tt te Q W:=by
 refine⟨λi m ys H=>m=n - i/\i<=n/\c i ys H,⟨_,rfl,Nat.zero_le _,d⟩,?_⟩;rintro i m ys H ⟨rfl,k,p⟩;refine⟨h i ys H p,?_⟩
 by_cases hlt:i<n
 .refine .inr ⟨hlt,λx l y=>?_⟩
  obtain⟨rfl,rfl⟩:=y;exact f i ys _ (λa b=>∃ m',m'<n - i/\m'=n - (i+1)/\i+1<=n/\c (i+1) a b) hlt p (λa b q=>⟨n - (i+1),by lia,rfl,hlt,q⟩)
 .have e:i=n:=by lia
  subst e;exact .inl ⟨Nat.le_refl _,j ys H p⟩
end
theorem Same.new{H:Hp}{p:Addr}{o:HO}(h:H p=none):Same H (upd H p o):=λb u e=>by rw[ag (aF e h)];exact e
theorem Same.sqT{K:Frag}{H b:Hp}{a:Addr}{xs:List V}(e:Same H b)(h:SqT K H a xs):SqT K b a xs:=by
 rcases h with(h | ⟨o,h⟩) | h
 .exact .inl (.inl (e _ _ h))
 .exact .inl (.inr ⟨o,e _ _ h⟩)
 .exact .inr h
mutual
def DV(K:Frag)(H:Hp):PyData->V->Prop
 | .none,x=>x=.non
 | .bool b,x=>x=.bl b
 | .int i,x=>x=.int i
 | .str z,x=>x=.str z
 | .list ds,x=>∃ a xs,x=.ref a/\SqL K H a xs/\DVs K H ds xs
 | .tuple ds,x=>∃ a xs,x=.ref a/\SqT K H a xs/\DVs K H ds xs
 | .dict _,_=>False
def DVs(K:Frag)(H:Hp):List PyData->List V->Prop
 | [],xs=>xs=[]
 | d::ds,xs=>∃ y ys,xs=y::ys/\DV K H d y/\DVs K H ds ys
end
section
variable {X:Cx}{pins:List (Addr×Obj)}{σ:St}{H:Hp}{s:Shared}
mutual
theorem DV.reads(I:Inv X pins σ H s):∀{d:PyData}{x:V}{u:Value},DV X.K H d x->RelV x u->∃ as,Reads s.heap u d as
 | .none,x,u,h,r=>by
  rw[DV]at h;subst h;cases r;exact⟨_,.none⟩
 | .bool b,x,u,h,r=>by
  rw[DV]at h;subst h;cases r;exact⟨_,.bool b⟩
 | .int i,x,u,h,r=>by
  rw[DV]at h;subst h;obtain⟨t,rfl⟩:=r;exact⟨_,.int i t⟩
 | .str z,x,u,h,r=>by
  rw[DV]at h;subst h;obtain⟨t,rfl⟩:=r;exact⟨_,.str z t⟩
 | .list ds,x,u,h,r=>by
  rw[DV]at h;obtain⟨a,l,rfl,g,f⟩:=h;cases r;obtain⟨j,k,⟨o,n,e,c,_,d⟩,_⟩:=I.list g;obtain⟨as,q⟩:=DVs.reads I f k;exact⟨_,.list e c d (by simpa using q)⟩
 | .tuple ds,x,u,h,r=>by
  rw[DV]at h;obtain⟨a,l,rfl,g,f⟩:=h;cases r;obtain⟨j,k,⟨o,e,c,n,d⟩,_⟩:=I.tuple g;obtain⟨as,q⟩:=DVs.reads I f k;exact⟨_,.tuple e c d (by simpa using q)⟩
 | .dict _,x,u,h,r=>by rw[DV]at h;exact h.elim
theorem DVs.reads(I:Inv X pins σ H s):∀{ds:List PyData}{xs:List V}{us:List Value},DVs X.K H ds xs->Vals xs us->∃ as,ReadsAll s.heap us ds as
 | [],xs,us,h,r=>by
  rw[DVs]at h;subst h;cases r;exact⟨_,.nil⟩
 | d::ds,xs,us,h,r=>by
  rw[DVs]at h;obtain⟨y,f,rfl,b,a⟩:=h;cases r with
  | cons r rs =>
   obtain⟨as,q⟩:=DV.reads I b r;obtain⟨c,p⟩:=DVs.reads I a rs;exact⟨_,.cons q p⟩
end
end
inductive rEqD(K:Frag)(neg:Bool)(x y:V)(H:Hp)(Q:VK):Prop
 | mk(d e:PyData)(h0:DV K H d x)(h1:DV K H e y)(h2:SeqAt.shaped d=true)(h3:SeqAt.shaped e=true)(h4:Q (.bl (if neg then !PyData.eqv d e else PyData.eqv d e)) H):rEqD K neg x y H Q
theorem mv{X:Cx}(n:X.A.units+64<cLine):OpR X (compareOp .Eq) (rEqD X.K false):=by
 intro a s r H x y v u Q I l c h;obtain⟨d,e,f,g,i,k,q⟩:=h;obtain⟨o,b⟩:=f.reads I l;obtain⟨p,j⟩:=g.reads I c;exact eq_dataH b j i k n ⟨.bl _,H,I,rfl,q⟩
theorem jL{X:Cx}(n:X.A.units+64<cLine):OpR X (compareOp .NotEq) (rEqD X.K true):=by
 intro a s r H x y v u Q I l c h;obtain⟨d,e,f,g,i,k,q⟩:=h;obtain⟨o,b⟩:=f.reads I l;obtain⟨p,j⟩:=g.reads I c;exact ne_dataH b j i k n ⟨.bl _,H,I,rfl,q⟩
section
variable {X:Cx}{st:Stmt}{rest:List Stmt}{t u:TS}{e:Expr}{te:TE}{tt:TT}
def zx(t u:TS):TS:=λD σ H=>∃ M:St->Hp->Prop,t { D with nx:=M } σ H/\∀ σ' H',M σ' H'->u D σ' H'
theorem cH(d:PS X st t)(h2:PSs X rest u):PSs X (st::rest) (zx t u):=by
 intro a s j H D I h;obtain⟨M,h,c⟩:=h;refine wpAny_execs_cons (thn (d a s j H { D with nx:=M } I h) λf g q=>?_);cases f with
 | next =>
  obtain⟨b,i,k,q⟩:=q;exact h2 a g b i D k (c _ _ q)
 | ret v=>exact q
 | brk=>exact q
 | cont=>exact q
end
end L2
namespace L2
abbrev PvS:=Nat->St->Hp->Prop
abbrev PvL:=Nat->List V->Hp->Prop
theorem qu{a b:TS}{D:Ends}{σ:St}{H:Hp}:(let B2:TS:=b;aW a B2 D σ H)->aW a b D σ H:=λh=>h
theorem iE{a b c:TS}{D:Ends}{σ:St}{H:Hp}:(let B3:TS:=c;let B2:TS:=aW b B3;aW a B2 D σ H)->aW a (aW b c) D σ H:=λh=>h
theorem jz{c a d b:TS}{D:Ends}{σ:St}{H:Hp}:(let B4:TS:=b;let B3:TS:=aW d B4;let B2:TS:=aW a B3;aW c B2 D σ H)->aW c (aW a (aW d b)) D σ H:=λh=>h
theorem qD{c b f a d:TS}{D:Ends}{σ:St}{H:Hp}:(let B5:TS:=d;let B4:TS:=aW a B5;let B3:TS:=aW f B4;let B2:TS:=aW b B3;aW c B2 D σ H)->aW c (aW b (aW f (aW a d))) D σ H:=λh=>h
theorem zg{c b f a d g:TS}{D:Ends}{σ:St}{H:Hp}:(let B6:TS:=g;let B5:TS:=aW d B6;let B4:TS:=aW a B5;let B3:TS:=aW f B4;let B2:TS:=aW b B3;aW c B2 D σ H)->aW c (aW b (aW f (aW a (aW d g)))) D σ H:=λh=>h
theorem tD{c b f a d i g:TS}{D:Ends}{σ:St}{H:Hp}:(let B7:TS:=g;let B6:TS:=aW i B7;let B5:TS:=aW d B6;let B4:TS:=aW a B5;let B3:TS:=aW f B4;let B2:TS:=aW b B3;aW c B2 D σ H)->aW c (aW b (aW f (aW a (aW d (aW i g))))) D σ H:=λh=>h
theorem xV{g d j b i l k c f a:TS}{D:Ends}{σ:St}{H:Hp}:(let B10:TS:=a;let B9:TS:=aW f B10;let B8:TS:=aW c B9;let B7:TS:=aW k B8;let B6:TS:=aW l B7;let B5:TS:=aW i B6;let B4:TS:=aW b B5;let B3:TS:=aW j B4;let B2:TS:=aW d B3;aW g B2 D σ H)->aW g (aW d (aW j (aW b (aW i (aW l (aW k (aW c (aW f a)))))))) D σ H:=λh=>h
end L2
namespace L2
open PySem PySem.Spec PyProof.Rows
section
variable {X:Cx}{pins:List (Addr×Obj)}{σ:St}{H:Hp}{s:Shared}{h':Heap}
theorem Inv.turnedNew{t':Nat}{ch:List Addr}{a:Addr}{o:HO}(I:Inv X pins σ H s)(k:∀ b u,b ∉ ch->s.heap.get? b=some u->h'.get? b=some u)(l:∀ b∈ch,gF X pins H b)
  (w:s.heap.objs.size<=a) (j:ObjOk X.prog X.w (upd H a o) h' a o):Inv X pins σ (upd H a o) { s with heap:=h',toks:=t' }:=by
 have p:H a=none:=I.hok.fresh w
 have g:∀ b u,H b=some u->b ∉ ch:=λb u e z=>by
  rw[(l b z).1]at e;cases e
 have d:∀ b u,H b=some u->b≠a:=λb u e z=>by
  rw[z,p]at e;cases e
 have i:∀ b u,s.heap.get? b=some u->b≠a:=λb u e=>Nat.ne_of_lt (Nat.lt_of_lt_of_le (Heap.lt_size e) w)
 refine I.step (g':=s.gens) (d':=s.drawn) (ch:=ch) (λb h=>?_) (λb u _ _ f e _=>k b u f e) (λb u _ _ f e _=>⟨u.slots,k b u f e⟩) (λb u _ e n=>?_) (λb u f e=>⟨u,k b u f e⟩)
  (λb E e=>?_) (λb u v e=>?_) (λb ps e=>⟨#[],?_⟩) (λm hm=>?_) (λb u e=>?_) I.bare
 .obtain⟨_,A,_,C,F,y⟩:=l b h
  exact⟨C,A,F,y⟩
 .rw[ag (i b u e)];exact n
 .rw[ag (d b _ e)];exact e
 .rw[ag (d b _ e)];exact e
 .rw[ag (d b _ e),e];simp
 .obtain⟨x,D,B,G,r⟩:=hm
  exact⟨x,D,B,k _ x (λz=>(l _ z).2.1 rfl) G,r⟩
 .by_cases h:b=a
  .subst h
   rw[ad]at e;cases e;exact j
  .rw[ag h]at e
   refine(I.hok b u e).stay (λc v f q=>k c v ?_ q) (λc q=>?_) λc E q=>?_
   .rcases f with z | z
    .rw[z];exact g b u e
    .exact g c _ z
   .rw[ag (d c _ q)];exact q
   .rw[ag (d c _ q)];exact q
theorem Inv.turnedN{t':Nat}{ch:List Addr}(I:Inv X pins σ H s)(k:∀ b u,b ∉ ch->s.heap.get? b=some u->h'.get? b=some u)(f:∀ b∈ch,gF X pins H b):Inv X pins σ H { s with heap:=h',toks:=t' }:=by
 have d:∀ b u,H b=some u->b ∉ ch:=λb u e z=>by
  rw[(f b z).1]at e;cases e
 refine I.step (g':=s.gens) (d':=s.drawn) (ch:=ch) (λb i=>?_) (λb u _ _ a e _=>k b u a e) (λb u _ _ a e _=>⟨u.slots,k b u a e⟩) (λb u _ e n=>n) (λb u a e=>⟨u,k b u a e⟩)
  (λb p e=>e) (λb u v e=>e) (λb ps e=>⟨#[],by rw[e];simp⟩) (λm hm=>?_) (λb u e=>?_) I.bare
 .obtain⟨_,h,_,l,x,w⟩:=f b i
  exact⟨l,h,x,w⟩
 .obtain⟨g,o,j,y,r⟩:=hm
  exact⟨g,o,j,k _ g (λz=>(f _ z).2.1 rfl) y,r⟩
 .refine(I.hok b u e).stay (λc v a q=>k c v ?_ q) (λc q=>q) λc p q=>q
  rcases a with z | z
  .rw[z];exact d b u e
  .exact d c _ z
end
def Ite(a:Addr):It:=⟨λi H=>∃ xs x,H a=some (.lst xs)/\xs[i]? = some x,
 λi H x H'=>∃ p y,H p=none/\x=.ref p/\(∀ xs,H a=some (.lst xs)->xs[i]? = some y)/\H'=upd H p (.tup [.int (i:Nat),y]),λi H=>∃ xs,H a=some (.lst xs)/\xs.length<=i⟩
theorem rj{P:Program}{w:World}{K:Frag}{es:List Expr}{k:Nat}{ab:Pos}(a e c:Addr)(A:e≠c) :
  Turn P w K (.Tuple es k ab) (Ite a) [e,c] e (λi h=>(∃ old,IsEnum h e c i old)/\h.IsListIter c a i) where
 mem:=by simp
 obj:=λi h g b hb=>by
  obtain⟨⟨old,d⟩,o,B,F,h3⟩:=g
  rcases mem_cons.mp hb with rfl | hb
  .exact⟨_,d,λv z=>by cases z⟩
  .rw[mem_singleton.mp hb]
   exact⟨o,B,λv z=>by rw[h3]at z;cases z⟩
 keep:=λi h h' g kp=>by
  obtain⟨⟨old,d⟩,o,B,r⟩:=g;exact⟨⟨old,kp e (by simp) _ d⟩,o,kp c (by simp) o B,r⟩
 item:=by
  intro X L Z O hc i j s σ H E I D g Y;subst L Z O;obtain⟨⟨old,d⟩,f⟩:=g;obtain⟨xs,x,G,T⟩:=Y;obtain⟨z,p,n,r,y,R⟩:=I.lstM G;obtain⟨u,hu,ru⟩:=Vals.get r T
  have l:s.heap.IsList a p.toArray:=⟨_,R,rfl,_,rfl⟩
  refine wpAny_pyNext_enum_item d f l (x:=u) (by simpa using hu) A λB e1 e2 e3 e4 e5=>?_
  refine⟨_,rfl,wpAny_letOwnedTupleGo_enum e1 λF e6 sb=>?_⟩;have C:s.heap.objs.size≠e:=λq=>absurd (Heap.lt_size d) (by rw[<- q];exact Nat.lt_irrefl _)
  have M:s.heap.objs.size≠c:=λq=>by
   obtain⟨o,S,_⟩:=f;exact absurd (Heap.lt_size S) (by rw[<- q];exact Nat.lt_irrefl _)
  have hn:H s.heap.objs.size=none:=I.hok.fresh (Nat.le_refl _);have Q:F.get? s.heap.objs.size=some { cls:=.type "tuple",data:=.seq #[.int i s.toks,u] }:=(sb.2 _ C).trans e3
  have J:Inv X j σ (upd H s.heap.objs.size (.tup [.int (i:Nat),x])) { s with heap:=F,toks:=s.toks+1 }:=by
   refine I.turnedNew (ch:=[e,c]) (λb o hb q=>?_) D (Nat.le_refl _) ⟨by rw[sizeLine_eq];show 2<=16777216;decide,[.int i s.toks,u],.cons ⟨_,rfl⟩ (.cons ru .nil),_,Q,rfl,0,rfl⟩;have b1:b≠e:=λz=>hb (by simp[z])
   have b2:b≠c:=λz=>hb (by simp[z])
   exact(sb.2 b b1).trans (e5 b o b1 b2 q)
  refine⟨.ref s.heap.objs.size,_,J,rfl,⟨s.heap.objs.size,x,hn,rfl,λys hy=>?_,rfl⟩,⟨⟨u,?_⟩,?_⟩,λb hb=>?_⟩
  .rw[G]at hy
   cases hy;exact T
  .have W:IsEnum F e c ((i:Int)+1) u:=e6
   have e7:((i+1:Nat):Int)=(i:Int)+1:=by lia
   rw[e7];exact W
  .obtain⟨o,S,r⟩:=e2
   exact⟨o,(sb.2 c (Ne.symm A)).trans S,r⟩
  .have N:b≠s.heap.objs.size:=by
    rcases mem_cons.mp hb with rfl | hb
    .exact C.symm
    .rw[mem_singleton.mp hb];exact M.symm
   rw[ag N];exact(D b hb).1
 done:=by
  intro X L Z O hc i j s σ H E I D g Y;subst L Z O;obtain⟨⟨old,d⟩,f⟩:=g;obtain⟨xs,G,T⟩:=Y;obtain⟨z,p,n,r,y,R⟩:=I.lstM G
  have l:s.heap.IsList a p.toArray:=⟨_,R,rfl,_,rfl⟩
  refine wpAny_pyNext_enum_end (I.ok.hd hc) d f l (by simp;lia) λB eb=>⟨rfl,I.turnedN (ch:=[e,c]) (t':=s.toks) (λb o hb q=>eb b o (λz=>hb (by simp[z])) q) D⟩
 self:=λ_ _ _ _ _ g h=>by
  obtain⟨⟨old,d⟩,_⟩:=g;exact wpAny_pyIter_enum d h
def At(ta:TA):TI:=λσ H R=>ta σ H λvs H1=>∃ a xs,vs=[.ref a]/\H1 a=some (.lst xs)/\R (Ite a) H1
theorem qR{X:Cx}{O:List Expr}{k:Nat}{f:Pos}{e:Expr}{w:TA}{p i:Pos}(L:Gl X "enumerate")(B:X.mg "enumerate" = none)(D:PA X [e] w)(N:starEach [e] X.env=[(false,eval e X.env)]:=by rfl) :
  PI X (.Tuple O k f) (.Call (.Name "enumerate" p) [e] [] i) (At w):=by
 intro c s x H R I h;refine wpAny_Call_Name_kw (jd I L B lE ?_ (by decide) (by decide));refine PyProof.Rows.callWith_type1 (thn (D i c s x H _ I h) λT d ⟨S,y,j,G,a,W,l,P,q⟩=>?_) N rfl;subst l;obtain⟨u,rfl,C⟩:=cV G;cases C;obtain⟨z,Q,n,r,v,E⟩:=j.lstM P;refine call_enumerate_1 (n:=n) E λK l A Y M=>?_
 have F:Inv X c x y { d with heap:=K }:=j.kept (t':=d.toks) M;have o:d.heap.objs.size+1≠d.heap.objs.size:=Nat.succ_ne_self _;refine wpAny_pyIter_enum l ?_;refine⟨d.heap.objs.size+1,[d.heap.objs.size+1,d.heap.objs.size],_,_,y,rfl,F,rj a _ _ o,⟨⟨_,l⟩,A⟩,λb hb=>?_,q⟩
 have g:d.heap.objs.size<=b:=by
  rcases mem_cons.mp hb with rfl | hb
  .lia
  .rw[mem_singleton.mp hb]
   exact Nat.le_refl _
 exact j.fpOk g (j.hok.fresh g)
theorem mM{a:Addr}{xs:List V}{g:TG}{d:TS}{D:Ends}{σ:St}{H:Hp}(c:Nat->St->Hp->Prop)(f:c 0 σ H)(o:∀ i σ H,c i σ H->H a=some (.lst xs))
  (h:∀(i:Nat) x σ H p,xs[i]? = some x->c i σ H->H p=none->g (.ref p) σ (upd H p (.tup [.int (i:Nat),x])) λσ2 H2=>d { D with nx:=c (i+1),ct:=c (i+1),bk:=D.nx } σ2 H2) (l:∀ σ H,c xs.length σ H->D.nx σ H) :
  ∃ W:Nat->Nat->St->Hp->Prop,(∃ m,W 0 m σ H)/\∀ i m σ H,W i m σ H ->
   ((Ite a).stop i H/\D.nx σ H)\/((Ite a).go i H/\∃ N:St->Hp->Prop,(∀ σ' H',N σ' H'->∃ m',m'<m/\W (i+1) m' σ' H')/\∀ x H',(Ite a).yld i H x H'->g x σ H' λσ2 H2=>d { D with nx:=N,ct:=N,bk:=D.nx } σ2 H2):=by
 refine⟨λi m σ H=>m=xs.length - i/\i<=xs.length/\c i σ H,⟨_,rfl,Nat.zero_le _,f⟩,?_⟩;rintro i m σ H ⟨rfl,r,p⟩;have q:=o i σ H p
 by_cases hlt:i<xs.length
 .refine .inr ⟨⟨xs,xs[i],q,by simp[hlt]⟩,c (i+1),λσ' H' k=>⟨_,by lia,rfl,hlt,k⟩,λx H' y=>?_⟩
  obtain⟨b,v,j,rfl,n,rfl⟩:=y;exact h i v σ H b (n xs q) p j
 .have e:i=xs.length:=by lia
  subst e;exact .inl ⟨⟨xs,q,Nat.le_refl _⟩,l σ H p⟩
end L2
namespace NumM
open PySem PySem.NumText
end NumM
namespace L2
open PySem PySem.Spec PyProof.Rows
def yV(lo hi:Int):Option Int->Option Int
 | some n=>if lo<=n/\n<=hi then some n else none
 | none=>none
theorem jV(c:Nat):c∈("abcdefghijklmnopqrstuvwxyz" : Str).cps.toList↔97<=c/\c<=122:=by
 have e:("abcdefghijklmnopqrstuvwxyz" : Str).cps.toList=List.range' 97 26:=by decide +kernel
 rw[e,List.mem_range'_1];omega
end L2
namespace SplM
open PySem
end SplM
namespace L2
open PySem PySem.Spec PyProof.Rows
section
variable {X:Cx}
open Builtin.Str in
theorem ze{P:Program}{w:World}{A:Around}{E:Value->Shared->Prop}{s:Shared}{x y:Str}{t u:Tok}{Q:Value->Shared->Prop}(c:(y.length == 0)=false)(d:x.length<=sizeLine)
  (f:(partsBetween x (occurrences x y 0 x.length (x.length+1)) y.length).length<=sizeLine)
  (h:∀(l:List (Str×Tok)) (k:Nat),l.map (·.1)=Txt.split x y->Q (.ref s.heap.objs.size) { s with heap:=s.heap.push { cls:=.type "list",data:=.seq (strValues l).toArray },toks:=k }) :
  wpAny (model P w) A (call (.builtin "str.split") [.str x t,.str y u]) Q E s:=by
 by_cases h1:(decide (x.length<y.length) || decide (strKind x<strKind y))=true
 .refine call_meets F.slot_str_split (typeIs_str s x t) F.entry_str_split (F.args_str_split_2 _ _) (meets_str_split_cannot_occur x y t u h1) ?_
  exact h [(x,t)] s.toks (by unfold Txt.split;rw[if_pos h1];rfl)
 .have a:=eq_false_of_ne_true h1
  by_cases h2:(occurrences x y 0 x.length (x.length+1)).isEmpty=true
  .refine call_meets F.slot_str_split (typeIs_str s x t) F.entry_str_split (F.args_str_split_2 _ _) (meets_str_split_not_found x y t u a c h2) ?_
   exact h [(x,t)] s.toks (by unfold Txt.split;rw[if_neg h1,if_pos h2];rfl)
  .have b:=eq_false_of_ne_true h2
   refine call_meets F.slot_str_split (typeIs_str s x t) F.entry_str_split (F.args_str_split_2 _ _) (meets_str_split_sep x y t u a c b d f) ?_
   have:=h (numbered s.toks (partsBetween x (occurrences x y 0 x.length (x.length+1)) y.length)) (s.toks+(partsBetween x (occurrences x y 0 x.length (x.length+1)) y.length).length)
    ((numbered_texts _ _).trans (by unfold Txt.split;rw[if_neg h1,if_neg h2]))
   rw[<- strsFrom_eq]at this;exact this
variable {o e:Expr}{es:List Expr}{to:TE}{t:TA}{apos cpos:Pos}
theorem pe_m.append(h:PE X o to)(g:PA X (e::es) t)(c:attributeBase o "append" X.env (eval o X.env)=eval o X.env:=by rfl)
  (d:((backTo cpos (starEach (e::es) X.env)).all (λx=>!x.1) && (backToKw cpos (keywordEach [] X.env)).all (λx=>x.1.isSome) && decide ((e::es).length+([]:List Keyword).length+(if ([]:List Keyword).isEmpty then 0 else 1)<30))=true:=by rfl)
  (b:(apos.endLine == cpos.line)=true:=by rfl) (f:starEach (e::es) X.env=(false,eval e X.env)::starEach es X.env:=by rfl) (a:(backTo cpos (starEach es X.env)).any (·.1)=false:=by rfl) :
  PE X (.Call (.Attribute o "append" apos) (e::es) [] cpos) (tBM X.K "list" rAppend to t):=vj F.plainAttrs_list F.slot_list_append F.type_list_append kz h g c d b f a
theorem pe_m.pop(c:PE X o to)(b:attributeBase o "pop" X.env (eval o X.env)=eval o X.env:=by rfl)(a:(apos.endLine == cpos.line)=true:=by rfl) :
  PE X (.Call (.Attribute o "pop" apos) [] [] cpos) (An X.K "list" Aq to):=xL F.plainAttrs_list F.slot_list_pop F.type_list_pop yc c b a
end
def TK(H H':Hp):Prop:=∀ b xs,H b=some (.tup xs)->H' b=some (.tup xs)
theorem TK.trans{H d f:Hp}(a:TK H d)(b:TK d f):TK H f:=λc o h=>b c o (a c o h)
theorem Same.tk{H a:Hp}(e:Same H a):TK H a:=λb c h=>e b _ h
theorem TK.lst{H:Hp}{l:Addr}{xs ys:List V}(h:H l=some (.lst xs)):TK H (upd H l (.lst ys)):=λb a e=>by
 rw[ag (gG e h (by intro z;cases z))];exact e
theorem Same.put{H a:Hp}{D:Addr}{o:HO}(e:Same H a)(h:H D=none):Same H (upd a D o):=λb u q=>by
 rw[ag (aF q h)];exact e b u q
theorem aC{a:Type}{xs:List a}{i:Int}{v:a}(k:Nat)(b:(k:Int)=i)(h:xs[k]? = some v):atI xs i=some v:=by rw[<- b];exact dH h
theorem rP(xs:List V)(k:Nat)(h:k<=xs.length):dY xs none (some (k:Int))=xs.take k:=by
 unfold dY;rw[HT.sIx_nat,HT.sIx_none,List.drop_zero,Nat.sub_zero,Nat.min_eq_left h]
theorem kj(xs:List V)(k:Nat):dY xs (some (k:Int)) none=xs.drop k:=by
 unfold dY;rw[HT.sIx_nat,HT.sIx_none]
 by_cases h:k<=xs.length
 .rw[Nat.min_eq_left h,take_of_length_le (by simp)]
 .rw[Nat.min_eq_right (by lia),Nat.sub_self,take_zero,List.drop_of_length_le (by lia)]
structure U where
 name:Str
 value:Int
 size:Int
 path:List Str
theorem qh{K:Frag}{H:Hp}:∀(l:List Str),DVs K H (l.map PyData.str) (l.map V.str)
 | []=>by simp[DVs]
 | c::l=>by
  rw[map_cons,map_cons,DVs];exact⟨_,_,rfl,by simp[DV],qh l⟩
theorem nJ:∀(l:List Str),(∀ t∈l,∀ c∈t.cps.toList,c<128)->PyData.canLayAll0 (l.map PyData.str)=true/\PyData.depthAll (l.map PyData.str)<=1
 | [],_=>by simp[PyData.canLayAll0,PyData.depthAll]
 | t::l,h=>by
  obtain⟨b,f⟩:=nJ l λn hn=>h n (mem_cons_of_mem _ hn)
  have a:=h t mem_cons_self;rw[map_cons,PyData.canLayAll0,PyData.depthAll];refine⟨?_,?_⟩
  .rw[b,Bool.and_true,PyData.canLay0,PyData.strOk,<- Array.all_toList,all_eq_true]
   intro c d;have:=a c d;exact decide_eq_true (by lia)
  .simp only[PyData.depth]
   lia
section
variable {X:Cx}{K:Frag}
theorem i8(h:X.K=K):IxR X (rIx K):=h ▸ aB
theorem oJ(h:X.K=K):CallR X (.builtin "len") (λxs H Q=>match xs with
  | [.str z]=>z.length<=sizeLine/\Q (.int z.length) H
  | [.ref p]=>rLenSq K p H Q
  | _=>False):=h ▸ aQ
theorem fU(h:X.K=K){a:List Expr}{k:Nat}{t:TGs}{n:Nat}{b:Pos}(f:X.calm=true)(g:PGs X a t)(d:(assignEach a X.env).length=n:=by rfl)(c:(assignEach a X.env).findIdx? (·.1)=none:=by rfl) :
  PG X (.Tuple a k b) (gTup K n t):=h ▸ gA f g d c
end
structure XCls(K:Frag)(D:Addr):Prop where
 ga:findIn K (.ref D) "__getattribute__" = some (some (.builtin "BaseException.__getattribute__"))
 gn:findIn K (.ref D) "__getattr__" = some none
 cl:findIn K (.ref D) "__class__" = some (some (.builtin "object.__class__"))
 mb:mroIn K D (.type "BaseException")=some true
 mo:mroIn K D (.type "object")=some true
 isc:(clsIn K D).isSome=true
section
variable {prog:Program}{w:World}{A:Around}{E:Value->Shared->Prop}{h:Heap}{g:Array GenState}{d:Drawn}{t:Nat}{os:OsState}{a D:Addr}{o:Obj}{K:Frag}
end
theorem pX{c:List Addr}{j H:Hp}{f h h2:Heap}(u:Un c [] j H f h)(k:∀ b o,(∃ o',f.get? b=some o')->b ∉ c->h.get? b=some o->h2.get? b=some o)
  (i:∀ b o,b∈c->h.get? b=some o->∃ l,h2.get? b=some { o with slots:=l }):Un c [] j H f h2 where
 keep:=λb o q n a d=>k b o ⟨o,q⟩ a (u.keep b o q n a d)
 slot:=λb o q n a d=>by
  obtain⟨l,e⟩:=u.slot b o q n a d;obtain⟨p,g⟩:=i b _ a e;exact⟨p,g⟩
 free:=u.free
 there:=λb o q d=>by
  obtain⟨o',e⟩:=u.there b o q d
  by_cases a:b∈c
  .obtain⟨l,g⟩:=i b o' a e
   exact⟨_,g⟩
  .exact⟨o',k b o' ⟨o,q⟩ a e⟩
 tups:=u.tups
 frzs:=u.frzs
 tbls:=u.tbls
theorem ni{P:Program}{w:World}{H:Hp}{h h2:Heap}(x:HOk P w H h)(k:∀ b o u,H b=some u->h.get? b=some o->h2.get? b=some o):HOk P w H h2:=λa o e =>
 (x a o e).stay (λb u c q=>by
  rcases c with z | z
  .rw[z]at q ⊢
   exact k a u o e q
  .exact k b u _ z q) (λ_ q=>q) λ_ _ q=>q
theorem ObjOk.isObj{P:Program}{w:World}{H:Hp}{h:Heap}{a:Addr}{o:HO}(x:ObjOk P w H h a o):∃ u,h.get? a=some u:=by
 cases o with
 | lst xs=>obtain⟨_,_,_,_,e⟩:=x;exact⟨_,e⟩
 | tup xs=>obtain⟨_,_,_,_,e,_⟩:=x;exact⟨_,e⟩
 | dK kvs=>obtain⟨_,_,_,_,o,_,_,e,_⟩:=x;exact⟨_,e⟩
 | dT kvs=>obtain⟨_,_,_,_,o,_,_,e,_⟩:=x;exact⟨_,e⟩
 | set S n=>obtain⟨o,_,_,_,e,_⟩:=x;exact⟨_,e⟩
 | ins C dx fs=>obtain⟨_,_,_,e,_⟩:=x;exact⟨_,e⟩
 | own y=>exact x
 | xd fs=>obtain⟨_,⟨_,_,_,e,_⟩,_⟩:=x;exact⟨_,e⟩
 | rng lo hi=>obtain⟨_,_,_,e⟩:=x;exact⟨_,e⟩
 | frz ob u=>exact⟨_,x.1⟩
 | tbl ps=>exact⟨_,x⟩
 | met f y=>exact⟨_,x⟩
 | ext φ=>exact x.2.1
section
variable {P:Program}{w:World}{outer:List Env}{H H':Hp}{s s':Shared}{x D:Addr}{a0:Value}{B:Heap}
end
section
variable {X:Cx}{pins:List (Addr×Obj)}{σ:St}{H H':Hp}{s s':Shared}{x D:Addr}{a0:Value}{B h2:Heap}
theorem vN(J:Inv X pins σ H' s'){b:Addr}(h:∃ o',X.s₀.heap.get? b=some o')(d:b ∉ frs X.outer):b ∉ frs X.stack:=λc=>by
 obtain⟨o',e⟩:=h
 rcases mem_cons.mp (J.stkSub b c) with z | z
 .have a:=Heap.lt_size e
  have f:=J.ok.above;rw[z]at a;exact absurd (Nat.lt_of_lt_of_le a f) (Nat.lt_irrefl _)
 .exact d z
theorem vA(J:Inv X pins σ H' s'){b:Addr}{u:HO}(e:H' b=some u):b ∉ frs X.stack:=λa=>by
 rw[J.stkFree b a]at e;cases e
end
section
variable {P:Program}{w:World}{K:Frag}{mg:Str->Option Value}{base:Heap}{N:List Str}{qual:Str}{scope:Scope}{f:Addr}{cdv:Value}{A:Around}{outer:List Env}{s0:Shared}{H0:Hp}{E:XK}
end
section
variable {P:Program}{w:World}{K:Frag}{mg:Str->Option Value}{base:Heap}
end
structure XHd(K:Frag)(C:Addr):Prop where
 isc:(clsIn K C).isSome=true
 ty:typeIn K (.ref C)=some (.type "type")
 mb:mroIn K C (.type "BaseException")=some true
theorem ng{K:Frag}{M:Model}{h:Heap}{C:Addr}(X:K.In h)(e:(clsIn K C).isSome=true):PySem.W.Looks M h (isType (.ref C)) true:=by
 obtain⟨b,a⟩:=Option.isSome_iff_exists.mp e;unfold clsIn at a
 split at a
 .rename_i c' d' cd' sl' ho
  intro c d g f k q;unfold isType loadHead;exact wpAny_bind (wpAny_loadPart (k _ _ (X _ _ ho)) (wpAny_pure q))
 .cases a
theorem rY{K:Frag}{M:Model}{h:Heap}{C D x:Addr}{ob:Obj}(X:K.In h)(c:XHd K C)(f:h.get? x=some ob)(g:ob.cls=.ref D)(b:mroIn K D (.ref C)=some true) :
  PySem.W.Looks M h (excMatches (.ref x) (.ref C)) true:=by
 have l:PySem.W.Looks M h (typeOf (.ref C)) (.type "type"):=looks_typeIn X c.ty;have a:PySem.W.Looks M h (isSubtype (.type "type") (.type "tuple")) false:=PySem.W.Looks.of_pure tc_notTuple;have j:PySem.W.Looks M h (isInstance (.ref C) (.type "tuple")) false:=l.andThen a
 have d:PySem.W.Looks M h (isExcClass (.ref C)) true:=by
  unfold isExcClass;exact(ng X c.isc).andThen (looks_mroIn X c.mb)
 have n:PySem.W.Looks M h (typeOf (.ref x)) (.ref D):=g ▸ (PySem.W.Looks.ld f).andThen .now;have i:PySem.W.Looks M h (isSubtype (.ref D) (.ref C)) true:=looks_mroIn X b;intro A Q E s k q;unfold excMatches;refine wpAny_bind (j A _ E s k ?_);rw[if_neg Bool.false_ne_true];refine wpAny_bind (wpAny_pure ?_);simp only[forIn_cons,List.forIn_nil,bind_assoc,pure_bind];refine wpAny_bind (d A _ E s k ?_);simp only[Bool.not_true,Bool.false_eq_true,if_false,pure_bind];refine wpAny_bind (n A _ E s k ?_);refine wpAny_bind (i A _ E s k ?_);simp only[if_true,pure_bind];exact wpAny_pure q
def Cx.inX(X:Cx)(x:Addr):Cx:={ X with A:=X.A.mark (some (.ref x)),calm:=false,xe:=λ_ _=>False }
section
variable {X:Cx}{pins:List (Addr×Obj)}{σ:St}{H H' H1:Hp}{s s' s1:Shared}{x D C:Addr}{a0:Value}{B h2:Heap}
theorem Inv.inX(I:Inv X pins σ H s)(x:Addr):Inv (X.inX x) pins σ H s :=
 ⟨⟨I.ok.mod,I.ok.kind,I.ok.glob,I.ok.blt,I.ok.above,I.ok.inj,I.ok.has,I.ok.cab,λz=>absurd (show false=true from z) Bool.false_ne_true,I.ok.frames,I.ok.stk,I.ok.exf,I.ok.bs,I.ok.bsz,I.ok.noex,I.ok.exfs,I.ok.funs,I.ok.frf⟩,
  I.os,I.bare,I.base,I.loc,I.cell,I.free,I.freeC,I.pin,I.hok,I.len⟩
theorem Inv.outX(a:X.calm=true->X.A.handled=none)(I:Inv (X.inX x) pins σ H s):Inv X pins σ H s :=
 ⟨⟨I.ok.mod,I.ok.kind,I.ok.glob,I.ok.blt,I.ok.above,I.ok.inj,I.ok.has,I.ok.cab,a,I.ok.frames,I.ok.stk,I.ok.exf,I.ok.bs,I.ok.bsz,I.ok.noex,I.ok.exfs,I.ok.funs,I.ok.frf⟩,
  I.os,I.bare,I.base,I.loc,I.cell,I.free,I.freeC,I.pin,I.hok,I.len⟩
end
section
variable {prog:Program}{w:World}{A:Around}{E:Value->Shared->Prop}{h:Heap}{g:Array GenState}{d:Drawn}{t:Nat}{os:OsState}{a D dx:Addr}{o:Obj}{vs:Array Value}{cd:ClassData}{K:Frag}{name:Str}{mA:Str->Option Value}{v:Value}
abbrev bmV:List Value:=[.type "ValueError",.type "Exception",.type "BaseException",.type "object"]
def Au:Value->Bool
 | .ref _=>true
 | _=>false
def kB(l:List Value):Bool:=l.dropWhile Au == bmV
theorem mq(a:Value):∀{l:List Value},kB l=true->refuseLoop a "__setattr__" l=pure ()
 | [],e=>by cases e
 | x::r,e=>by
  by_cases hx:Au x=true
  .have b:kB r=true:=by
    unfold kB at e ⊢;rw[List.dropWhile_cons_of_pos hx]at e;exact e
   cases x <;> first | exact absurd hx Bool.false_ne_true | (rw[refuseLoop_ref];exact mq a b)
  .unfold kB at e
   rw[List.dropWhile_cons_of_neg hx]at e;rw[beq_iff_eq.mp e];exact PySem.F.store_ValueError.passes a
structure XSet(K:Frag)(D:Addr)(name:Str)(cd:ClassData):Prop where
 k:clsIn K D=some cd
 dct:cd.hasDict=true
 mro:kB cd.mro=true
 mo:mroIn K D (.type "object")=some true
 sa:findIn K (.ref D) "__setattr__" = some (some (.builtin "object.__setattr__"))
 na:findIn K (.ref D) name=some none
theorem pJ{tk:Tok}{Q:Fin->Shared->Prop}(c:XSet K D name cd)(X:K.In h)(j:h.get? a=some o)(k:o.cls=.ref D)
  (i:wpAny (model prog w) A (instanceDict a true) (λr s'=>wpAny (model prog w) A (match r with | some d'=>Builtin.ObjectAttr.storeInDict d' (.str name tk) name v | none=>Builtin.ObjectAttr.noDictFor (.ref a) (.ref D) name false) Q E s') E ⟨h,g,d,t,os⟩) :
  wpAny (model prog w) A (Builtin.«object.__setattr__» ⟨[.ref a,.str name tk,v],[]⟩) Q E ⟨h,g,d,t,os⟩:=by
 have b:PySem.W.Looks (model prog w) h (typeOf (.ref a)) (.ref D):=k ▸ (PySem.W.Looks.ld j).andThen .now;have f:PySem.W.Looks (model prog w) h (mroOf (.ref D)) cd.mro:=(looks_clsIn X c.k).andThen .now;rw[osa_eq,refuse_eq];refine wpAny_bind (wpAny_bind (b.at (wpAny_bind (f.at ?_))));rw[mq _ c.mro];refine wpAny_pure (wpAny_bind (b.at (wpAny_bind ((looks_findIn X c.na).at ?_))));refine wpAny_bind (wpAny_pure ?_);show wpAny _ _ (Builtin.ObjectAttr.storeInOwnDict (.ref a) (.ref D) (.str name tk) name v false) _ _ _;unfold Builtin.ObjectAttr.storeInOwnDict;refine wpAny_bind (wpAny_pure ?_);rw[if_neg (show ¬((Value.ref D == Value.type "module")=true) from λz=>by cases eq_of_beq z)];exact wpAny_bind i
theorem nk{tk:Tok}{Q:Fin->Shared->Prop}{a:Addr}{f:List Str}(j:h.Ns1 a mA)(r:PySem.Within mA f)(hz:f.length<=1000)
  (k:∀ h',h'.Ns1 a (λy=>if y=name then some v else mA y)->Heap.SameBut a h h'->Q (.done (.ret .none)) ⟨h',g,d,t+1,os⟩) :
  wpAny (model prog w) A (Builtin.ObjectAttr.storeInDict a (.str name tk) name v) Q E ⟨h,g,d,t,os⟩:=by
 unfold Builtin.ObjectAttr.storeInDict Builtin.ObjectAttr.newKeyGuard;refine wpAny_bind (wpAny_pure (wpAny_bind (wpAny_nsSet1 j λl c p=>?_)));obtain⟨u,b,q,s,n,i⟩:=c.count (PySem.Within.cons name v r);have o:b.size<=sizeLine:=Nat.le_trans i (by rw[length_cons,sizeLine_eq];lia);refine wpAny_bind (wpAny_lookBehind s (by rw[n];exact pastItsLine_dict (Nat.le_succ_of_le o)) ?_);exact wpAny_pure (k l c p)
theorem sy{tk:Tok}{Q:Fin->Shared->Prop}(c:XSet K D name cd)(X:K.In h)(k:h.get? a=some o)(l:o.cls=.ref D)(j:o.data=.fields vs)(q:o.dict=none)
  (p:∀ h',h'.Ns1 h.objs.size (λy=>if y=name then some v else none)->h'.get? a=some { o with dict:=some h.objs.size }->(∀ b u,b≠a->h.get? b=some u->h'.get? b=some u)->Q (.done (.ret .none)) ⟨h',g,d,t+1,os⟩) :
  wpAny (model prog w) A (Builtin.«object.__setattr__» ⟨[.ref a,.str name tk,v],[]⟩) Q E ⟨h,g,d,t,os⟩:=by
 refine pJ c X k l ?_;have i:(h.push { cls:=.type "dict",data:=.dict #[] }).get? a=some o:=Heap.get?_push_of_some _ k;have f:a≠h.objs.size:=Nat.ne_of_lt (Heap.lt_size k);unfold instanceDict;refine wpAny_bind (wpAny_loadPart_at k ?_);rw[l];refine wpAny_bind ((looks_clsIn X c.k).at ?_);rw[c.dct,q,j];simp only[Bool.not_true,Bool.false_eq_true,if_false];rw[if_neg (by simp[typeHasDict])];refine wpAny_bind (wpAny_alloc' (wpAny_bind (wpAny_update' i (wpAny_pure ?_))))
 have n:((h.push { cls:=.type "dict",data:=.dict #[] }).update a λu=>{ u with dict:=some h.objs.size }).get? h.objs.size=some { cls:=.type "dict",data:=.dict #[] } :=
  (Heap.get?_update_ne _ _ _ _ f.symm).trans (Heap.get?_push_at rfl rfl)
 refine nk (Heap.Ns1.of_empty ⟨_,#[],_,n,rfl,λu r=>absurd r (by simp),λ_=>rfl⟩) PySem.Within.nil (by simp) λh2 n2 s2=>p h2 n2 ?_ λb u hb e=>?_
 .refine(s2.2 a f).trans (Heap.get?_update_self _ i ?_)
  rw[Obj.isFreed_of_fields (vs:=vs)];exact j
 .exact(s2.2 b (Nat.ne_of_lt (Heap.lt_size e))).trans ((Heap.get?_update_ne _ _ _ _ hb).trans (Heap.get?_push_of_some _ e))
theorem wa{tk:Tok}{Q:Fin->Shared->Prop}{b:List Str}(c:XSet K D name cd)(X:K.In h)(f:h.get? a=some o)(i:o.cls=.ref D)(l:o.dict=some dx)(j:h.Ns1 dx mA)(n:PySem.Within mA b)(hz:b.length<=1000)
  (k:∀ h',h'.Ns1 dx (λy=>if y=name then some v else mA y)->Heap.SameBut dx h h'->Q (.done (.ret .none)) ⟨h',g,d,t+1,os⟩) :
  wpAny (model prog w) A (Builtin.«object.__setattr__» ⟨[.ref a,.str name tk,v],[]⟩) Q E ⟨h,g,d,t,os⟩:=by
 refine pJ c X f i ?_;unfold instanceDict;refine wpAny_bind (wpAny_loadPart_at f ?_);rw[i];refine wpAny_bind ((looks_clsIn X c.k).at ?_);rw[c.dct,l];simp only[Bool.not_true,Bool.false_eq_true,if_false];exact wpAny_pure (nk j n hz k)
theorem p7{Q:Unit->Shared->Prop}(c:XSet K D name cd)(X:K.In h)(f:h.get? a=some o)(i:o.cls=.ref D)
  (j:∀(B:Around) (tk:Tok) (Q':Fin->Shared->Prop) (E':Value->Shared->Prop),(∀ s',Q () s'->Q' (.done (.ret .none)) s')->wpAny (model prog w) B (Builtin.«object.__setattr__» ⟨[.ref a,.str name tk,v],[]⟩) Q' E' ⟨h,g,d,t+1,os⟩) :
  wpAny (model prog w) A (setAttr (.ref a) name v) Q E ⟨h,g,d,t,os⟩:=by
 have n:=PySem.F.store_ValueError.slot.bind (.ref a);have b:=PySem.F.store_ValueError;have k:PySem.W.Looks (model prog w) h (typeOf (.ref a)) (.ref D):=i ▸ (PySem.W.Looks.ld f).andThen .now;have l:PySem.W.Looks (model prog w) h (isInstance (.ref a) (.type "object")) true:=k.andThen (looks_mroIn X c.mo);unfold setAttr callSpecial? specialOf
 repeat (any_goals (first | assumption | (with_reducible refine wpAny_loadPart_at f ?_;rw[i]) | with_reducible refine(looks_findIn X c.sa).at ?_ | wp_step))
 refine codeAny_call_builtin b.slot.plain b.entry (@PySem.W.check_slot (model prog w) _ _ ⟨h,g,d,t+1,os⟩ "object.__setattr__" "object" "__setattr__" (.ref a) [.str name t,v] [] _ b.kind b.split l (b.args (.ref a) (.str name t) v) ?_);exact j _ t _ _ λs' q=>wpAny_pure (wpAny_pure q)
end
section
variable {prog:Program}{w:World}{A:Around}{E:Value->Shared->Prop}{h:Heap}{g:Array GenState}{d:Drawn}{t:Nat}{os:OsState}
variable {nm q:Str}{C N fI:Addr}{bs bm bmB:List Value}{hdct:Bool}{sn:List Str}{sub:List Value}{ab:Bool}{col:Option Bool}{dd:Option Addr}{k0 k1 k2 k3 k5:Option Value}{B newId initId:String}{mN:Str->Option Value}{rest:List Value}{oI:Obj}
abbrev fg(h:Heap)(C:Addr)(rest:List Value):Heap:=(h.push { cls:=.type "tuple",data:=.seq rest.toArray }).push { cls:=.ref C,data:=.fields #[.ref h.objs.size,.none,.none,.none,.bool false,.none] }
theorem vI{Q:Fin->Shared->Prop}(F:ExcBaseFacts B newId initId bmB)(T:OwnTail h bmB bm)(c:h.get? C=some (excClassObj nm q C N bs bm hdct sn sub ab col dd k0 k1 k2 k3 k5 newId))(k:h.Ns N mN)(p:mN "__init__" = some (.ref fI))
  (s:h.get? fI=some oI) (i:oI.cls=.type "function") (hz:rest.length<=sizeLine)
  (n:wpAny (model prog w) A (call (.ref fI) (.ref (h.objs.size+1)::rest)) (λr s'=>r=.none/\Q (.done (.ret (.ref (h.objs.size+1)))) s') E ⟨fg h C rest,g,d,t,os⟩) :
  wpAny (model prog w) A (Builtin.«type.__call__» ⟨.ref C::rest,[]⟩) Q E ⟨h,g,d,t,os⟩:=by
 have f:∀ b o,h.get? b=some o->(fg h C rest).get? b=some o:=λb o e=>Heap.get?_push_of_some _ (Heap.get?_push_of_some _ e)
 have j:=f C _ c;have x:(fg h C rest).Ns N mN:=k.keeps f;have y:OwnTail (fg h C rest) bmB bm:=T.keeps f;have v:(fg h C rest).get? (h.objs.size+1)=some { cls:=.ref C,data:=.fields #[.ref h.objs.size,.none,.none,.none,.bool false,.none] }:=by heap_get
 have a:(Value.ref C::bm).contains (.ref C)=true:=by simp
 repeat (first | with_reducible refine wpAny_loadPart_at c ?_ | with_reducible refine wpAny_madeBy_exc c ?_ | wp_step)
 refine codeAny_call_builtin_code (Code.quiet_builtin _ F.quiet) (wpAny_check_new_subT F T c (codeAny_exc_new_subT F T c ?_ hz));show wpAny _ _ _ _ _ ⟨fg h C rest,g,d,t,os⟩;unfold isInstance
 repeat (first | with_reducible refine wpAny_loadPart_at v ?_ | (with_reducible refine wpAny_isSubtype_exc j ?_;rw[a]) | wp_step)
 show wpAny _ _ (typeLookup (.ref C) _) _ _ _;refine wpAny_typeLookup_tail j x y F.mroIs F.init.lookup ?_;rw[p];refine wpAny_holding (wpAny_bind ?_);unfold bindSpecial;refine wpAny_bind (wpAny_typeOf (T := "function") ⟨oI,f fI _ s,i⟩ ?_);rw[if_pos (by decide)];refine wpAny_pure (wpAny_bind (wpAny_mono n (λr s' u=>?_) λ_ _ z=>z));obtain⟨rfl,l⟩:=u
 wp_walk
 exact l
theorem wj{Q:Value->Shared->Prop}(F:ExcBaseFacts B newId initId bmB)(T:OwnTail h bmB bm)(a:h.get? C=some (excClassObj nm q C N bs bm hdct sn sub ab col dd k0 k1 k2 k3 k5 newId))(c:h.Ns N mN)(i:mN "__init__" = some (.ref fI))
  (j:h.get? fI=some oI) (b:oI.cls=.type "function") (hz:rest.length<=sizeLine)
  (f:wpAny (model prog w) (A.under (.builtin "type.__call__" ⟨.ref C::rest,[]⟩)) (call (.ref fI) (.ref (h.objs.size+1)::rest)) (λr s'=>r=.none/\Q (.ref (h.objs.size+1)) s') E ⟨fg h C rest,g,d,t,os⟩) :
  wpAny (model prog w) A (call (.ref C) rest) Q E ⟨h,g,d,t,os⟩:=by
 have l:=tc_lookup;have n:=tc_bind (.ref C);have k:(⟨h,g,d,t,os⟩:Shared).TypeIs (.ref C) "type" := ⟨_,a,rfl⟩;refine wpAny_call (codeAny_of_tree ?_);show wpAny _ _ (callAny (.ref C) _) _ _ _
 repeat (any_goals (first | assumption | with_reducible refine wpAny_loadPart_at a ?_ | wp_step))
 exact⟨rfl,codeAny_call_builtin_at (Code.quiet_builtin _ (by decide +kernel)) entry_typeCall (wpAny_check_type_call_sub a (vI F T a c i j b hz f))⟩
end
def XD0(a D:Addr):Heap->Prop:=λh=>∃ o vs,h.get? a=some o/\o.cls=.ref D/\o.data=.fields vs/\o.dict=none/\vs[1]? = some .none/\vs[2]? = some .none
def XD1(a D dx:Addr):Heap->Prop:=λh=>∃ o vs,h.get? a=some o/\o.cls=.ref D/\o.data=.fields vs/\o.dict=some dx/\vs[1]? = some .none/\vs[2]? = some .none
def XDct(dx:Addr)(fs:List (Str×V)):Heap->Prop:=λh=>∃ mA,h.Ns1 dx mA/\∀ f,RelO (fs.lookup f) (mA f)
section
variable {P:Program}{w:World}{H:Hp}{h:Heap}{a D dx:Addr}{fs:List (Str×V)}
theorem XD0.ok(x:XD0 a D h):ObjOk P w H h a (.ext (XD0 a D)):=⟨x,let ⟨o,_,e,_⟩:=x;⟨o,e⟩,λ_ _ ⟨o,b,e,r⟩ k=>⟨o,b,k o e,r⟩⟩
theorem XD1.ok(x:XD1 a D dx h):ObjOk P w H h a (.ext (XD1 a D dx)):=⟨x,let ⟨o,_,e,_⟩:=x;⟨o,e⟩,λ_ _ ⟨o,b,e,r⟩ k=>⟨o,b,k o e,r⟩⟩
theorem XDct.ok(x:XDct dx fs h):ObjOk P w H h dx (.ext (XDct dx fs)):=⟨x,let ⟨_,⟨o,_,_,e,_⟩,_⟩:=x;⟨o,e⟩,λ_ _ ⟨a,n,r⟩ k=>⟨a,n.at k,r⟩⟩
end
section
variable {X:Cx}{pins:List (Addr×Obj)}{σ:St}{H:Hp}{s:Shared}{h':Heap}{x dx D:Addr}{φ:Heap->Prop}{ox od:HO}
theorem Inv.tracked{t':Nat}(I:Inv X pins σ H s)(k:∀ b u,s.heap.get? b=some u->h'.get? b=some u)(f:s.heap.get? x=none)(d:ObjOk X.prog X.w (upd H x ox) h' x ox):Inv X pins σ (upd H x ox) { s with heap:=h',toks:=t' }:=by
 have g:H x=none:=by
  cases q:H x with
  | none=>rfl
  | some u =>
   obtain⟨o,e⟩:=(I.hok x u q).isObj;rw[f]at e;cases e
 have h:∀ b o,s.heap.get? b=some o->b≠x:=λb o e z=>by rw[z,f]at e;cases e
 have a:∀ b u,H b=some u->b≠x:=λb u e z=>by rw[z,g]at e;cases e
 refine I.un ⟨λb o e _ _ _=>k b o e,λb o e _ _ _=>⟨o.slots,k b o e⟩,λb o e n _=>?_,λb o e _=>⟨o,k b o e⟩,λb xs e=>?_,λb o u e=>?_,λb ps e=>⟨#[],?_⟩⟩ λb u e=>?_
 .rw[ag (h b o e)];exact n
 .rw[ag (a b _ e)];exact e
 .rw[ag (a b _ e)];exact e
 .rw[ag (a b _ e),e];simp
 .by_cases hb:b=x
  .subst hb
   rw[ad]at e;cases e;exact d
  .rw[ag hb]at e
   exact(I.hok b u e).stay (λc v _ q=>k c v q) (λc q=>by rw[ag (a c _ q)];exact q) λc xs q=>by rw[ag (a c _ q)];exact q
theorem Inv.put2{t':Nat}(I:Inv X pins σ H s)(f:H x=some (.ext φ))(l:s.heap.objs.size<=dx)(k:∀ b u,b≠x->s.heap.get? b=some u->h'.get? b=some u)(j:ObjOk X.prog X.w (upd (upd H dx od) x ox) h' x ox)
  (p:ObjOk X.prog X.w (upd (upd H dx od) x ox) h' dx od):Inv X pins σ (upd (upd H dx od) x ox) { s with heap:=h',toks:=t' }:=by
 have d:H dx=none:=I.hok.fresh l;have y:x≠dx:=λz=>by rw[z,d]at f;cases f
 have A:∀ b o,s.heap.get? b=some o->b≠dx:=λb o e=>Nat.ne_of_lt (Nat.lt_of_lt_of_le (Heap.lt_size e) l)
 have g:∀ b u,H b=some u->b≠dx:=λb u e z=>by rw[z,d]at e;cases e
 have h:∀ b,H b=none->b≠x:=λb e z=>by rw[z,f]at e;cases e
 have a:∀ b u,H b=some u->(∀ ψ,u≠.ext ψ)->b≠x:=λb u e n z=>by
  rw[z,f]at e;cases e;exact n φ rfl
 obtain⟨r,i⟩:=j.isObj;refine I.un ⟨λb o e n _ _=>k b o (h b n) e,λb o e n _ _=>⟨o.slots,k b o (h b n) e⟩,λb o e n _=>?_,λb o e _=>?_,λb xs e=>?_,λb o u e=>?_,λb ps e=>⟨#[],?_⟩⟩ λb u e=>?_
 .rw[ag (h b n),ag (A b o e)];exact n
 .by_cases hb:b=x
  .subst hb;exact⟨r,i⟩
  .exact⟨o,k b o hb e⟩
 .rw[ag (a b _ e λ_ z=>nomatch z),ag (g b _ e)];exact e
 .rw[ag (a b _ e λ_ z=>nomatch z),ag (g b _ e)];exact e
 .rw[ag (a b _ e λ_ z=>nomatch z),ag (g b _ e),e];simp
 .by_cases hb:b=x
  .subst hb
   rw[ad]at e;cases e;exact j
  .by_cases hb2:b=dx
   .subst hb2
    rw[ag hb,ad]at e;cases e;exact p
   .rw[ag hb,ag hb2]at e
    refine(I.hok b u e).stay (λc v w q=>k c v ?_ q) (λc q=>?_) λc xs q=>?_
    .rintro rfl
     rcases w with z | z
     .exact hb z.symm
     .rw[f]at z;cases z
    .rw[ag (a c _ q λ_ z=>nomatch z),ag (g c _ q)];exact q
    .rw[ag (a c _ q λ_ z=>nomatch z),ag (g c _ q)];exact q
end
def zN(K:Frag)(ta tv:TE)(f:Str):TS:=λD σ H=>tv σ H λy H1=>ta σ H1 λx H2=>∃ a C cd,x=.ref a/\XSet K C f cd /\
 ((H2 a=some (.ext (XD0 a C))/\∀ dx,H2 dx=none->dx≠a->D.nx σ (upd (upd H2 dx (.ext (XDct dx [(f,y)]))) a (.ext (XD1 a C dx)))) \/
  ∃ dx fs,H2 a=some (.ext (XD1 a C dx))/\H2 dx=some (.ext (XDct dx fs))/\fs.length<=900/\D.nx σ (upd H2 dx (.ext (XDct dx ((f,y)::fs)))))
theorem fm{f g:Str}{y:V}{a:List (Str×V)}:List.lookup g ((f,y)::a)=if g=f then some y else a.lookup g:=by
 rw[lookup_cons]
 by_cases z:g=f
 .rw[if_pos z,show(g == f)=true by simpa using z]
 .rw[if_neg z,show(g == f)=false by simpa using z]
section
variable {X:Cx}{o e value:Expr}{f:Str}{pos pos' tpos:Pos}{ta tv:TE}
theorem wV(S:PE X o ta)(hv:PE X value tv)(hs:swapsWith value (some (.Attribute o f pos')) pos.line X.env=pure false):PS X (.Assign [.Attribute o f pos'] value pos) (zN X.K ta tv f):=by
 intro d s p H D I h;refine plainObj_wpAny_Assign_Attribute (thn (hv d s p H _ I h) λu Z ⟨y,H1,Q,L,q⟩=>thn (S d Z p H1 _ Q q) λov s2 ⟨x,H2,I2,rx,a,C,cd,ex,c,k⟩=>?_) hs;subst ex;obtain rfl:ov=Value.ref a:=rx;obtain⟨l,g2,d2,O,W⟩:=s2
 rcases k with⟨n,k⟩ | ⟨dx,w,n,K,hl,k⟩
 .obtain⟨⟨ob,M,j,i,F,E,G⟩,_⟩:=I2.hok a _ n
  refine p7 c I2.kIn j i λB tk R E' A=>sy c I2.kIn j i F E λh' n' o' k'=>A _ ?_
  have T:H2 l.objs.size=none:=I2.hok.fresh (Nat.le_refl _);have r:l.objs.size≠a:=Nat.ne_of_gt (Heap.lt_size j);refine⟨p,_,I2.put2 (t':=O+1+1) (h':=h') (x:=a) (dx:=l.objs.size) (od:=.ext (XDct l.objs.size [(f,y)])) (ox:=.ext (XD1 a C l.objs.size)) n (Nat.le_refl _) k' (XD1.ok ⟨_,M,o',i,F,rfl,G⟩) (XDct.ok ⟨_,n',λg=>?_⟩),k _ T r⟩;rw[fm]
  by_cases z:g=f
  .rw[if_pos z,if_pos z];exact L
  .rw[if_neg z,if_neg z];exact True.intro
 .obtain⟨⟨ob,M,j,i,F,E,G⟩,_⟩:=I2.hok a _ n
  obtain⟨⟨P,Y,N⟩,_⟩:=I2.hok dx _ K
  have wi:PySem.Within P (w.map (·.1)):=λg hg=>by
   cases q:w.lookup g with
   | none =>
    have:=N g;rw[q]at this;exact absurd (RelO.none_of this) hg
   | some v=>exact mem_map.mpr ⟨(g,v),PySem.mem_of_lookup q,rfl⟩
  refine p7 c I2.kIn j i λB tk R E' A=>wa c I2.kIn j i E Y wi (by rw[length_map];lia) λh' n' sb=>A _ ?_
  refine⟨p,_,I2.write (t':=O+1+1) (h':=h') (x:=dx) (e:=dx) (o:=.ext (XDct dx ((f,y)::w))) (by rw[K];exact True.intro) (.inl rfl) (λb u hb e=>(sb.2 b hb).trans e) (let ⟨o',_,_,e',_⟩:=n';⟨o',e'⟩) (XDct.ok ⟨_,n',λg=>?_⟩),k⟩;rw[fm]
  by_cases z:g=f
  .rw[if_pos z,if_pos z];exact L
  .rw[if_neg z,if_neg z];exact N g
end
theorem oG{K:Frag}{h:Heap}{N:Addr}{m:Str->Option Value}{n:Str}{v:Value}(X:K.In h)(G:h.Ns N m)(q:nsIn K N n=some (some v)):m n=some v:=by
 obtain⟨i,f,g,d,c,_,b⟩:=G;unfold nsIn at q
 split at q
 .rename_i c0 d0 en0 k0 sl0 lk
  have a:=X _ _ lk;rw[d]at a;cases a;cases c
  split at q
  .rename_i entry found
   cases q;rw[<- b];unfold nsFind findBy;rw[<- Array.find?_toList,found];rfl
  .split at q <;> cases q
 .cases q
def xIn(K:Frag)(C:Addr)(fI:Option Value):Bool:=match K.lookup C with
 | some ⟨.type "type",_,.cls cd,sl⟩=>(match cd.mro,sl.toList with
  | .ref C'::bm,[_,_,_,_,some (.builtin n),_]=>C' == C && n == "ValueError.__new__" && !cd.hasDel && tailIn K bmV bm && nsOkIn K cd.ns && nsIn K cd.ns "__init__" == some fI
  | _,_=>false)
 | _=>false
structure XObj(h:Heap)(C:Addr)(fI:Option Value):Prop where
 obj:∃ bm N nm q bs hdct sn sub ab col dd k0 k1 k2 k3 k5 mN,h.get? C=some (excClassObj nm q C N bs bm hdct sn sub ab col dd k0 k1 k2 k3 k5 "ValueError.__new__")/\h.Ns N mN/\mN "__init__" = fI/\OwnTail h bmV bm
theorem qL{K:Frag}{h:Heap}{C:Addr}{j:Option Value}(X:K.In h)(z:xIn K C j=true):XObj h C j:=by
 unfold xIn at z
 split at z
 .rename_i dct cld slt lk
  split at z
  .rename_i C' tl a0 a1 a2 a3 nid a5 hmro hsl
   simp only[Bool.and_eq_true,beq_iff_eq,Bool.not_eq_true']at z;obtain⟨⟨⟨⟨⟨rfl,rfl⟩,a⟩,q⟩,c⟩,b⟩:=z;obtain⟨u,x,w,f,s,r,n,g,o,d,k⟩:=cld;dsimp only at hmro a c b;subst hmro a
   have p:slt = #[a0,a1,a2,a3,some (.builtin "ValueError.__new__"),a5]:=by
    obtain⟨l⟩:=slt;simp only at hsl;rw[hsl]
   subst p;have i:h.Ns f (h.nsMap f):=.of_isNs (PySem.W.isNs_of_in X c);refine⟨tl,f,u,s,x,r,n,g,o,d,dct,a0,a1,a2,a3,a5,_,X _ _ lk,i,?_,PySem.W.tail_of_in X q⟩;cases j with
   | none=>exact PySem.W.ns_none_of X i b
   | some v=>exact oG X i b
  .cases z
 .cases z
def mZ(K:Frag)(D:Addr):Bool:=findIn K (.ref D) "__getattribute__" == some (some (.builtin "BaseException.__getattribute__")) && findIn K (.ref D) "__getattr__" == some none &&
 findIn K (.ref D) "__class__" == some (some (.builtin "object.__class__")) && mroIn K D (.type "BaseException") == some true && mroIn K D (.type "object") == some true && (clsIn K D).isSome && typeIn K (.ref D) == some (.type "type")
theorem sF{K:Frag}{D:Addr}(h:mZ K D=true):XCls K D:=by
 unfold mZ at h;simp only[Bool.and_eq_true,beq_iff_eq]at h;obtain⟨⟨⟨⟨⟨⟨d,b⟩,a⟩,f⟩,g⟩,c⟩,i⟩:=h;exact⟨d,b,a,f,g,c⟩
theorem tG{K:Frag}{D:Addr}(h:mZ K D=true):XHd K D:=by
 unfold mZ at h;simp only[Bool.and_eq_true,beq_iff_eq]at h;obtain⟨⟨⟨⟨⟨⟨g,f⟩,d⟩,b⟩,i⟩,a⟩,c⟩:=h;exact⟨a,c,b⟩
def ym(K:Frag)(D:Addr)(name:Str):Bool:=((clsIn K D).any λcd=>cd.hasDict && kB cd.mro) && mroIn K D (.type "object") == some true &&
 findIn K (.ref D) "__setattr__" == some (some (.builtin "object.__setattr__")) && findIn K (.ref D) name == some none
theorem Ab{K:Frag}{D:Addr}{name:Str}(h:ym K D name=true):∃ cd,XSet K D name cd:=by
 unfold ym at h;simp only[Bool.and_eq_true,beq_iff_eq]at h;obtain⟨⟨⟨d,c⟩,b⟩,f⟩:=h;obtain⟨cd,e,a⟩:=any_some d;rw[Bool.and_eq_true]at a;exact⟨cd,e,a.1,a.2,c,b,f⟩
section
variable {P:Program}{w:World}{K:Frag}{mg:Str->Option Value}{base:Heap}{N:List Str}{qual:Str}{scope:Scope}{f:Addr}{cdv:Value}{A:Around}{outer:List Env}{s0:Shared}{H0:Hp}{E:XK}
end
def zX(C:Addr):TE:=λ_ H Q=>∀ a,H a=none->Q (.ref a) (upd H a (.ext (XD0 a C)))
def AH(C:Addr)(sp:Sp)(t:TA):TE:=λσ H Q=>t σ H λvs H1=>∀ a,H1 a=none->sp (.ref a::vs) (upd H1 a (.ext (XD0 a C))) (λv H2=>v=.non/\Q (.ref a) H2) E0
section
variable {X:Cx}{k:Nat}{f C:Addr}{fd:FuncData}{ps:List Str}{sp:Sp}{x:Str}{p pos:Pos}{e:Expr}{es:List Expr}{t:TA}
theorem gZ(z:xIn X.K C none=true)(l:keepIn X.K (.ref C)=true)(B:Gl X x)(v:X.mg x=some (.ref C))(d:(x == ("__debug__" : Str))=false:=by decide):PE X (.Call (.Name x p) [] [] pos) (zX C):=by
 intro g s P H Q I h;refine wpAny_Call_Name_kw (dW I B v ?_ d);refine callWith_K0 I.kIn l ?_;obtain⟨Y,N,nm,q,bs,f,S,A,W,j,L,k0,K,R,O,F,E,n,y,c,T⟩:=(qL I.kIn z).obj;obtain⟨i,Z,G,w,D⟩:=s;refine wpAny_call_exc_subT (rest:=[]) PySem.F.excBase_ValueError T n y c (λM a b=>?_) (Nat.zero_le _);obtain⟨t1,k,_,_⟩:=b.there
 have r:H a=none:=by
  cases q:H a with
  | none=>rfl
  | some u =>
   obtain⟨o,e⟩:=(I.hok a u q).isObj;have:=b.new;rw[show i.get? a=some o from e]at this;cases this
 exact⟨.ref a,_,I.tracked (t':=w) b.keeps b.new (XD0.ok ⟨_,_,k,rfl,rfl,rfl,rfl,rfl⟩),rfl,h a r⟩
theorem lC(z:xIn X.K C (some (.ref f))=true)(kp:keepIn X.K (.ref C)=true)(Z:isFn X.K (.ref f)=true)(F:FnOk X.prog X.w X.K X.mg X.base CX0 k f fd ps sp)(hr:Room (k+1) X.A)(hg:Gl X x)(hm:X.mg x=some (.ref C))
  (Y:Binds X.K fd ps []) (ha:PA X (e::es) t) (hz:∀ vs H Q E,sp vs H Q E->vs.length<=100) (K:(x == ("__debug__" : Str))=false:=by decide) (he:starEach (e::es) X.env=(false,eval e X.env)::starEach es X.env:=by rfl)
  (w:(backTo pos (starEach es X.env)).any (·.1)=false:=by rfl):PE X (.Call (.Name x p) (e::es) [] pos) (AH C sp t):=by
 intro g s P H Q I h;refine wpAny_Call_Name_kw (dW I hg hm ?_ K);refine callWith_K (h₀:=X.base) I.ok.mod.kin kp (thn (ha pos g s P H _ I h) λd c ⟨vs,H1,j,r,q⟩=>⟨j.kIn,?_⟩) he w;obtain⟨bm,N,nm,qn,bs,O,sn,al,ab,W,dd,k0,k1,k2,k3,k5,mN,hC,hN,D,T⟩:=(qL j.kIn z).obj;have y:=q (c.heap.objs.size+1) (j.hok.fresh (Nat.le_succ _))
 have i:d.length<=sizeLine:=by
  have:=hz _ _ _ _ y;rw[length_cons]at this;rw[<- r.length];exact Nat.le_trans (Nat.le_of_succ_le this) (by decide)
 have up:∀ b o,c.heap.get? b=some o->(fg c.heap C d).get? b=some o:=λb o e=>Heap.get?_push_of_some _ (Heap.get?_push_of_some _ e)
 have e2:(fg c.heap C d).get? (c.heap.objs.size+1)=some { cls:=.ref C,data:=.fields #[.ref c.heap.objs.size,.none,.none,.none,.bool false,.none] }:=by heap_get
 have B:=j.laid (t':=c.toks) (h':=fg c.heap C d) (a:=c.heap.objs.size+1) (o:=.ext (XD0 (c.heap.objs.size+1) C)) up (Nat.le_succ _) (XD0.ok ⟨_,_,e2,rfl,rfl,rfl,rfl,rfl⟩)
 obtain⟨oI,hfI,hfc⟩:∃ oI,c.heap.get? f=some oI/\oI.cls=.type "function" := by
  have:=beq_iff_eq.mp Z;unfold typeIn at this;obtain⟨ob,lk,L⟩:=Option.map_eq_some_iff.mp this;exact⟨ob,j.kIn _ _ lk,L⟩
 have R:Vals (V.ref (c.heap.objs.size+1)::vs) (Value.ref (c.heap.objs.size+1)::d):=.cons rfl r;have G:(Value.ref (c.heap.objs.size+1)::d).length=ps.length:=by rw[<- R.length];exact F.len _ _ _ _ y
 have M:=Y { c with heap:=fg c.heap C d,toks:=c.toks } (Value.ref (c.heap.objs.size+1)::d) B.kIn (by rw[append_nil];exact G);rw[append_nil]at M
 have l:wpAny (model X.prog X.w) X.A (call (.ref C) d) (EP X g P Q) X.xe c:=by
  obtain⟨A,g1,d1,t1,an⟩:=c;refine wj PySem.F.excBase_ValueError T hC hN D hfI hfc i ?_;refine wpAny_call (codeAny_mono (F.run _ X.stack _ _ ⟨Value.ref (A.objs.size+1)::d,[]⟩ (Value.ref (A.objs.size+1)::d) _ _ E0 (hr.make C d []) (B.env0.make C d []) M R y) λr s' n=>?_);cases r with
  | error e=>exact False.elim n
  | ok fl =>
   cases fl with
   | ret u =>
    obtain⟨v,H',I3,rv,ev,S⟩:=B.after n;subst ev;exact⟨rv,⟨V.ref (A.objs.size+1),H',I3,rfl,S⟩⟩
   | next=>exact False.elim n
   | brk=>exact False.elim n
   | cont=>exact False.elim n
 exact l
end
theorem lP:∀{xs:List V}{us:List Value},xs.length=us.length->(∀(i:Nat) x u,xs[i]? = some x->us[i]? = some u->RelV x u)->Vals xs us
 | [],[],_,_=>.nil
 | x::xs,u::us,h,r=>.cons (r 0 x u rfl rfl) (lP (by simpa using h) λi y w b a=>r (i+1) y w (by simpa using b) (by simpa using a))
 | [],_::_,h,_=>by cases h
 | _::_,[],h,_=>by cases h
section
variable {X:Cx}
theorem ik:CallR X (.type "range") (λxs H Q=>∃ b,xs=[.int b]/\∀ p,H p=none->Q (.ref p) (upd H p (.rng 0 b))):=by
 intro a s d H xs c Q I r h;obtain⟨b,rfl,q⟩:=h;obtain⟨u,rfl,⟨t,rfl⟩⟩:=cV r;refine call_range_1 ?_;exact⟨.ref s.heap.objs.size,_,I.laid (o:=.rng 0 b) (λb o e=>Heap.get?_push_of_some _ e) (Nat.le_refl _) ⟨_,_,_,Heap.get?_push_size _ rfl⟩,rfl,q _ (I.hok.fresh (Nat.le_refl _))⟩
end
section
variable {M:Model}{A:Around}{E:Value->Shared->Prop}{s:Shared}{env:Env}{K:Frag}{D:Addr}
theorem wF{x:Sem Value}{Q:Flow->Shared->Prop}(c:XCls K D)(l:XHd K D)(k:A.handled=none)
  (h:wpAny M A x (λv s₁=>∃ e ob vs,v=.ref e/\K.In s₁.heap/\s₁.heap.get? e=some ob/\ob.cls=.ref D/\ob.data=.fields vs/\vs[1]? = some .none/\E (.ref e) s₁) E s):wpAny M A (raiseStmt env (some x) none) Q E s:=by
 unfold raiseStmt;refine wpAny_bind (wpAny_mono h (λv s₁ a=>?_) λ_ _ z=>z);obtain⟨e,ob,vs,rfl,X,f,i,b,n,j⟩:=a;obtain⟨q,g,d,p,o⟩:=s₁
 repeat (first | with_reducible refine(looks_typeIn X l.ty).at ?_ | (with_reducible refine wpAny_loadPart_at f ?_;first | rw[i] | rw[b]) | with_reducible refine(looks_mroIn X c.mb).at ?_ | with_reducible refine wpAny_field f b n ?_ | wp_step)
 exact wpAny_raiseNew_none k j
end
def Fx(h:Heap)(e:Addr)(cls:Value)(dct:Option Addr)(fl:Value)(T:Addr):Prop :=
 ∃ ob fs oT ts,h.get? e=some ob/\ob.cls=cls/\ob.dict=dct/\ob.data=.fields fs/\fs[1]? = some (.ref T)/\T≠e/\h.get? T=some oT/\oT.data=.fields ts/\ts[3]? = some fl
theorem jt(f:Array Value->Array Value)(o:Obj):(Obj.mapFields f o).dict=o.dict:=by
 obtain⟨c,d,a,b⟩:=o
 cases a <;> rfl
theorem u7(f:Array Value->Array Value)(o:Obj):(Obj.mapFields f o).cls=o.cls:=Obj.cls_mapFields _ _
section
variable {M:Model}{A:Around}{E:Value->Shared->Prop}{s:Shared}{base:Heap}{env:Env}{outer:List Env}{L e:Addr}{ob:Obj}{fs:Array Value}{head:Value}{more:Bool}
theorem nu{Q:Unit->Shared->Prop}(fr:A.frames=some (env::outer))(r:s.heap.FunFrames base (env::outer))(B:env.frame=some L)(u:s.heap.get? e=some ob)(n:ob.data=.fields fs)(w:1<fs.size)
  (h:∀ h' T,Fx h' e ob.cls ob.dict (rawInt L) T->s.heap.get? T=none->(∀ b o,b≠e->b ∉ frs (env::outer)->s.heap.get? b=some o->h'.get? b=some o) ->
   (∀ b o,b≠e->s.heap.get? b=some o->∃ sl,h'.get? b=some { o with slots:=sl })->Q () { s with heap:=h' }) :
  wpAny M A (do let a <- frameOf env;let pl <- entryPlaceOf L more;let b <- EntryCells.newEntry head a .none (rawInt L) .none pl;setField (.ref e) 1 b) Q E s:=by
 have k:e ∉ frs (env::outer):=λz=>by
  obtain⟨_,o,v,j⟩:=r.mem z;rw[u]at v;cases v;exact j fs n
 refine wpAny_bind (wpAny_frameOf_fun fr r B λc i=>?_);refine wpAny_bind (wpAny_entryPlaceOf λpl l=>?_);unfold EntryCells.newEntry newFields;refine wpAny_bind (wpAny_newObj_type ?_ (l.sizeOk5 _ _ _ _ _));have q:c.get? e=some ob:=(i.2.1 e k).trans u;have p:=Heap.get?_push_of_some (h:=c) { cls:=.type "traceback",dict:=none,data:=.fields ([head,.ref L,.none,rawInt L,.none]++(if pl.isEmpty then List.replicate 6 Value.none else pl)).toArray } q;have y:c.objs.size≠e:=Nat.ne_of_gt (Heap.lt_size q);have x:=Obj.data_mapFields n (·.setIfInBounds 1 (Value.ref c.objs.size));have D:=Heap.get?_update_self (Obj.mapFields (·.setIfInBounds 1 (Value.ref c.objs.size))) p (Obj.isFreed_of_fields x)
 have d:∀ b o,b≠e->c.get? b=some o->((c.push { cls:=.type "traceback",dict:=none,data:=.fields ([head,.ref L,.none,rawInt L,.none]++(if pl.isEmpty then List.replicate 6 Value.none else pl)).toArray }).update e (Obj.mapFields (·.setIfInBounds 1 (Value.ref c.objs.size)))).get? b=some o :=
  λb o f g=>(Heap.get?_update_other _ _ (Ne.symm f)).trans (Heap.get?_push_of_some _ g)
 refine wpAny_setField p n w (h _ c.objs.size ⟨_,_,_,_,D,u7 _ _,jt _ _,x,by simp[w],y,(Heap.get?_update_other _ _ (Ne.symm y)).trans (Heap.get?_push_size _ rfl),rfl,?_⟩ ?_ (λb o f j g=>d b o f ((i.2.1 b j).trans g)) λb o f g=>?_)
 .simp
 .have:s.heap.objs.size=c.objs.size:=i.1.symm
  rw[<- this];exact Heap.get?_none_of_le (Nat.le_refl _)
 .obtain⟨sl,C⟩:=i.2.2 b o g
  exact⟨sl,d b _ f C⟩
end
section
variable {M:Model}{A:Around}{E:Value->Shared->Prop}{s:Shared}{base:Heap}{env:Env}{outer:List Env}{L e T:Addr}{ob:Obj}{fs:Array Value}{cls fl:Value}{dct:Option Addr}
def KeptBut(xs fr:List Addr)(h h':Heap):Prop :=
 (∀ b o,b ∉ xs->b ∉ fr->h.get? b=some o->h'.get? b=some o)/\∀ b o,b ∉ xs->h.get? b=some o->∃ sl,h'.get? b=some { o with slots:=sl }
theorem KeptBut.trans{xs ys fr:List Addr}{h d h2:Heap}(a:KeptBut xs fr h d)(b:KeptBut ys fr d h2):KeptBut (xs++ys) fr h h2 :=
 ⟨λc o n f g=>b.1 c o (λz=>n (mem_append_right _ z)) f (a.1 c o (λz=>n (mem_append_left _ z)) f g),λc o n g=>by
  obtain⟨l,k⟩:=a.2 c o (λz=>n (mem_append_left _ z)) g;obtain⟨j,i⟩:=b.2 c _ (λz=>n (mem_append_right _ z)) k
  exact⟨j,i⟩⟩
theorem uz{Q:Unit->Shared->Prop}(fr:A.frames=some (env::outer))(l:s.heap.FunFrames base (env::outer))(d:env.frame=some L)(i:s.heap.get? e=some ob)(a:ob.data=.fields fs)(c:fs[1]? = some .none)
  (h:∀ h' T,Fx h' e ob.cls ob.dict (rawInt L) T->s.heap.get? T=none->KeptBut [e] (frs (env::outer)) s.heap h'->Q () { s with heap:=h' }):wpAny M A (noteFrame (.ref e) env) Q E s:=by
 unfold noteFrame;simp only[d];refine wpAny_bind (wpAny_field i a c ?_);rw[if_neg (by decide)];exact nu fr l d i a (Array.getElem?_eq_some_iff.mp c).1 λh' T x p k j=>h h' T x p ⟨λb o n f g=>k b o (by simpa using n) f g,λb o n g=>j b o (by simpa using n) g⟩
theorem pU{Q:Unit->Shared->Prop}(fr:A.frames=some (env::outer))(F:s.heap.FunFrames base (env::outer))(v:env.frame=some L)(x:Fx s.heap e cls dct .none T)
  (h:∀ h' T',Fx h' e cls dct (rawInt L) T'->s.heap.get? T'=none->KeptBut [T,e] (frs (env::outer)) s.heap h'->Q () { s with heap:=h' }):wpAny M A (noteFrame (.ref e) env) Q E s:=by
 obtain⟨N,I,K,G,w,rfl,rfl,B,C,H,k,j,y⟩:=x;unfold noteFrame;simp only[v];refine wpAny_bind (wpAny_field w B C ?_);rw[if_pos (show(Value.ref T != Value.none)=true from by simp)];refine wpAny_bind (wpAny_field k j y ?_);rw[if_neg (show ¬((Value.none == rawInt L)=true) from by simp[rawInt])];refine wpAny_bind (wpAny_setField k j (Array.getElem?_eq_some_iff.mp y).1 ?_);have a:∀ b,b≠T->(s.heap.update T (Obj.mapFields (·.setIfInBounds 3 Value.none))).get? b=s.heap.get? b:=λb D=>Heap.get?_update_other _ _ (Ne.symm D)
 have d:∀ b o,s.heap.get? b=some o->(∀ vs,o.data≠.fields vs)->b≠T:=λb o i l z=>by
  rw[z,k]at i;cases i;exact l G j
 have u:=Heap.get?_update_self (Obj.mapFields (·.setIfInBounds 3 Value.none)) k (Obj.isFreed_of_fields (Obj.data_mapFields j _));refine nu fr (F.of_keeps λb o i l=>⟨o,(a b (d b o i l)).trans i,rfl⟩) v ((a e H.symm).trans w) B (Array.getElem?_eq_some_iff.mp C).1 λh' T' x' nT' k1 k2=>h h' T' x' ?_ ⟨λb o n f g=>?_,λb o n g=>?_⟩
 .cases q:s.heap.get? T' with
  | none=>rfl
  | some o =>
   by_cases z:T'=T
   .rw[z,u]at nT'
    cases nT'
   .have c:=nT'
    rw[a T' z,q]at c;cases c
 .have p:b≠T:=λz=>n (by rw[z];exact mem_cons_self)
  have r:b≠e:=λz=>n (by rw[z];simp)
  exact k1 b o r f ((a b p).trans g)
 .have p:b≠T:=λz=>n (by rw[z];exact mem_cons_self)
  have r:b≠e:=λz=>n (by rw[z];simp)
  exact k2 b o r ((a b p).trans g)
theorem fZ{Q:Unit->Shared->Prop}{fr:List Addr}(x:Fx s.heap e cls dct fl T)(h:∀ h',Fx h' e cls dct .none T->KeptBut [T] fr s.heap h'->Q () { s with heap:=h' }):wpAny M A (setFlight (.ref e) none) Q E s:=by
 obtain⟨v,q,w,r,p,rfl,rfl,d,i,j,k,c,u⟩:=x;have l:3<r.size:=(Array.getElem?_eq_some_iff.mp u).1;have a:∀ b,b≠T->(s.heap.update T (Obj.mapFields (·.setIfInBounds 3 ((none:Option Addr).elim Value.none λf=>rawInt f)))).get? b=s.heap.get? b:=λb nb=>Heap.get?_update_other _ _ (Ne.symm nb)
 unfold setFlight;refine wpAny_bind (wpAny_field p d i ?_);rw[if_pos (show(Value.ref T != Value.none)=true from by simp)];refine wpAny_setField k c l (h _ ⟨v,q,_,_,(a e j.symm).trans p,rfl,rfl,d,i,j,Heap.get?_update_self _ k (Obj.isFreed_of_fields (Obj.data_mapFields c _)),Obj.data_mapFields c _,by simp[l]⟩ ⟨λb o n _ g=>?_,λb o n g=>?_⟩)
 .exact(a b (by simpa using n)).trans g
 .exact⟨o.slots,(a b (by simpa using n)).trans g⟩
theorem vo{Q:Unit->Shared->Prop}(fr:A.frames=some (env::outer))(g:s.heap.FunFrames base (env::outer))(d:env.frame=some L)(x:Fx s.heap e cls dct .none T)
  (h:∀ h' T',Fx h' e cls dct .none T'->s.heap.get? T'=none->KeptBut [T,e,T'] (frs (env::outer)) s.heap h'->Q () { s with heap:=h' }):wpAny M A (leaving env (.ref e)) Q E s:=by
 unfold leaving;refine wpAny_bind (pU fr g d x λc i a b f=>fZ (s:={ s with heap:=c }) a λh2 x2 k2=>h h2 i x2 b (f.trans k2))
theorem rK{Q:Unit->Shared->Prop}(fr:A.frames=some (env::outer))(j:s.heap.FunFrames base (env::outer))(i:env.frame=some L)(l:s.heap.get? e=some ob)(a:ob.data=.fields fs)(b:fs[1]? = some .none)
  (h:∀ h' T',Fx h' e ob.cls ob.dict .none T'->s.heap.get? T'=none->KeptBut [e,T'] (frs (env::outer)) s.heap h'->Q () { s with heap:=h' }):wpAny M A (leaving env (.ref e)) Q E s:=by
 unfold leaving;refine wpAny_bind (uz fr j i l a b λf k c d g=>fZ (s:={ s with heap:=f }) c λh2 x2 k2=>h h2 k x2 d (g.trans k2))
end
structure XG(P:Program)(w:World)(outer:List Env)(H:Hp)(s:Shared)(x D:Addr)(dct:Option Addr)(T:Addr)(H':Hp)(s':Shared):Prop where
 os:s'.os=s.os
 bare:AllBare s'.gens
 un:Un (frs outer) [] H H' s.heap s'.heap
 hok:HOk P w H' s'.heap
 fx:Fx s'.heap x (.ref D) dct .none T
 nx:s.heap.get? x=none
 nT:s.heap.get? T=none
 ux:H' x=none
 uT:H' T=none
def CXG(P:Program)(w:World):CXT:=λouter H s E e s'=>∃ x D dct T H',e=.ref x/\XG P w outer H s x D dct T H' s'/\E (.ref D) dct H'
theorem cR{a:List Addr}{H c:Hp}{h h':Heap}{b:Addr}(u:Un a [] H c h h')(n:h'.get? b=none):h.get? b=none:=by
 cases q:h.get? b with
 | none=>rfl
 | some o =>
  obtain⟨d,e⟩:=u.there b o q (by simp);rw[n]at e;cases e
section
variable {P:Program}{w:World}{K:Frag}{mg:Str->Option Value}{base:Heap}{N:List Str}{qual:Str}{scope:Scope}{f:Addr}{cdv:Value}{A:Around}{outer:List Env}{s0:Shared}{H0:Hp}{E:XK}
abbrev cxG(P:Program)(w:World)(K:Frag)(mg:Str->Option Value)(base:Heap)(N:List Str)(qual:Str)(scope:Scope)(f:Addr)(cdv:Value)(A:Around)(outer:List Env)(s0:Shared)(H0:Hp)(E:XK):Cx :=
 dM (CXG P w) P w K mg base N qual scope f cdv A outer s0 H0 E
theorem qC{X:Cx}{c:List (Addr×Obj)}{σ:St}{f:Hp}{s':Shared}{h2:Heap}{x D T:Addr}{d:Option Addr}{xs:List Addr}(J:Inv X c σ f s')(h:X.ex=[])
  (k:KeptBut xs (frs X.stack) s'.heap h2) (a:∀ b∈xs,X.s₀.heap.get? b=none/\f b=none/\b ∉ frs X.outer) (p:Fx h2 x (.ref D) d .none T) (l:x∈xs) (j:T∈xs) :
  XG X.prog X.w X.outer X.H₀ X.s₀ x D d T f { s' with heap:=h2 }:=by
 have q:Un (frs X.outer) [] X.H₀ f X.s₀.heap s'.heap:=by
  have:=J.base;rw[h]at this;exact this
 refine⟨J.os,J.bare,pX q (λb o i g e=>k.1 b o (λz=>?_) (vN J i g) e) (λb o g e=>k.2 b o (λz=>(a b z).2.2 g) e),ni J.hok (λb o u hu e=>k.1 b o (λz=>?_) (vA J hu) e),p,(a x l).1,(a T j).1,(a x l).2.1,(a T j).2.1⟩
 .obtain⟨r,n⟩:=i
  rw[(a b z).1]at n;cases n
 .rw[(a b z).2.1]at hu
  cases hu
theorem i3{X:Cx}{a:List (Addr×Obj)}{σ:St}{H:Hp}{s:Shared}(I:Inv X a σ H s){b:Addr}(h:s.heap.get? b=none):b ∉ frs X.outer:=λz=>by
 obtain⟨_,o,e,_⟩:=I.funs.mem z;rw[h]at e;cases e
theorem pG:fE (CXG P w) (cxG P w K mg base N qual scope f cdv A outer s0 H0 E) E:=by
 intro a y H s e i I p;obtain⟨x,D,h,T,c,rfl,G,q⟩:=p;have J:Inv (cxG P w K mg base N qual scope f cdv A outer s0 H0 E) a y c i:=I.call' (ch:=[]) G.os G.un G.hok G.bare (by simp);have l:Un (frs outer) [] H0 H s0.heap s.heap:=I.base;have v:Un (frs outer) [] H0 c s0.heap i.heap:=J.base;show wpAny _ _ (leaving _ (.ref x)) _ _ i;refine vo I.ok.frames J.stack rfl G.fx λB j r g k=>?_
 refine⟨x,D,h,j,c,rfl,qC J rfl k (λb n=>?_) r (by simp) (by simp),q⟩;have d:b=T\/b=x\/b=j:=by simpa using n
 rcases d with rfl | rfl | rfl
 .exact⟨cR l G.nT,G.uT,i3 I G.nT⟩
 .exact⟨cR l G.nx,G.ux,i3 I G.nx⟩
 .refine⟨cR v g,?_,i3 J g⟩
  cases z:c b with
  | none=>rfl
  | some u =>
   obtain⟨o,e⟩:=(J.hok b u z).isObj;rw[g]at e;cases e
theorem vP:PassesOwn (model P w) (cxG P w K mg base N qual scope f cdv A outer s0 H0 E).A (cxG P w K mg base N qual scope f cdv A outer s0 H0 E).env (cxG P w K mg base N qual scope f cdv A outer s0 H0 E).xe:=PassesOwn.leaving
end
section
variable {P:Program}{w:World}{K:Frag}{mg:Str->Option Value}{base:Heap}
theorem Fun.okG{x a:Str}{c:Stmt}{f:Addr}{i:FuncData}{N ps:List Str}{k:Nat}{sp:Sp}(F:Fun K x a c f i)(S:FnScope N ps (ac c))(d:∀ vs H Q E,sp vs H Q E->vs.length=ps.length)
  (b:∀(cdv:Value) (A:Around) (outer:List Env) (s:Shared) (H:Hp) (vs:List V) (Q:VK) (E:XK),Room k (A.deeper (envOfC a (ac c) s.heap.objs.size f cdv))->sp vs H Q E ->
   ∃ t,PSs (cxG P w K mg base N a (ac c) f cdv A outer s H E) (ai c) t/\t { nx:=λ_ H'=>Q .non H',rt:=Q } (start N vs) H):FnOk P w K mg base (CXG P w) (k+1) f i ps sp:=by
 obtain⟨u,p,r,l,v,y,cdv,q,o,rfl,j,h⟩:=F.ex;exact uY j h S d λA outer s H vs Q E n g=>b cdv A outer s H vs Q E n g
end
def untr(H:Hp)(x:Addr):Hp:=λb=>if b=x then none else H b
theorem bC{H:Hp}{x b:Addr}(h:b≠x):untr H x b=H b:=by unfold untr;rw[if_neg h]
theorem dJ{H:Hp}{x:Addr}:untr H x x=none:=by unfold untr;rw[if_pos rfl]
def XU(a D:Addr)(dct:Option Addr):Heap->Prop:=λh=>∃ o vs,h.get? a=some o/\o.cls=.ref D/\o.data=.fields vs/\o.dict=dct/\vs[1]? = some .none/\vs[2]? = some .none
theorem Inv.untr{X:Cx}{a:List (Addr×Obj)}{σ:St}{H:Hp}{s:Shared}{x:Addr}{g:Heap->Prop}(I:Inv X a σ H s)(h:H x=some (.ext g)):Inv X a σ (untr H x) s:=by
 have d:∀ b u,H b=some u->(∀ ψ,u≠.ext ψ)->b≠x:=λb u e n z=>by
  rw[z,h]at e;cases e;exact n g rfl
 have i:∀ b,H b=none->L2.untr H x b=none:=λb e=>by
  by_cases z:b=x
  .rw[z];exact dJ
  .rw[bC z];exact e
 have f:HOk X.prog X.w (L2.untr H x) s.heap:=λb u e=>by
  by_cases z:b=x
  .rw[z,dJ]at e
   cases e
  .rw[bC z]at e
   refine(I.hok b u e).stay (λ_ _ _ q=>q) (λc q=>?_) λc xs q=>?_
   .rw[bC (d c _ q λ_ z=>nomatch z)];exact q
   .rw[bC (d c _ q λ_ z=>nomatch z)];exact q
 exact I.un (t':=s.toks) (h':=s.heap) ⟨λb o e _ _ _=>e,λb o e _ _ _=>⟨o.slots,e⟩,λb o e n _=>i b n,λb o e _=>⟨o,e⟩,λb xs e=>by rw[bC (d b _ e λ_ z=>nomatch z)];exact e,
  λb o u e=>by rw[bC (d b _ e λ_ z=>nomatch z)];exact e,λb ps e=>⟨#[],by rw[bC (d b _ e λ_ z=>nomatch z),e];simp⟩⟩ f
section
variable {P:Program}{w:World}{K:Frag}{mg:Str->Option Value}{base:Heap}{N:List Str}{qual:Str}{scope:Scope}{f:Addr}{cdv:Value}{A:Around}{outer:List Env}{s0:Shared}{H0:Hp}{E:XK}
def vM(K:Frag)(H0:Hp)(E:XK)(D:Addr)(te:TE):TS:=λ_ σ H=>te σ H λv H1=>∃ x dct φ,v=.ref x/\H1 x=some (.ext φ)/\(∀ h,φ h->XU x D dct h)/\H0 x=none/\E (.ref D) dct (untr H1 x)
theorem cI{l:Expr}{L:TE}{D:Addr}{g:Pos}(c:XCls K D)(X:XHd K D)(he:PE (cxG P w K mg base N qual scope f cdv A outer s0 H0 E) l L) :
  PS (cxG P w K mg base N qual scope f cdv A outer s0 H0 E) (.Raise (some l) none g) (vM K H0 E D L):=by
 intro d s σ H DE I h;rw[arm_exec_Raise];refine wpAny_bind (wpAny_standAt ?_);show wpAny _ _ (raiseStmt _ (some (do let v <- eval l (cxG P w K mg base N qual scope f cdv A outer s0 H0 E).env;standAt g;pure v)) none) _ _ s;refine wF (K:=K) (D:=D) c X (I.ok.hd rfl) (wpAny_bind (thn (he d s σ H _ I h) λv r ⟨y,i,a,ry,x,F,φ,ey,p,B,S,q⟩=>wpAny_bind (wpAny_standAt (wpAny_pure ?_))));subst ey;obtain rfl:v=Value.ref x:=ry;obtain⟨ob,O,C,M,j,g4,R⟩:=B _ (a.hok x _ p).1;refine⟨x,ob,O,rfl,a.kIn,C,M,j,R.1,?_⟩;show wpAny _ _ (leaving _ (.ref x)) _ _ r;have J:=a.untr p;have Y:Un (frs outer) [] H0 (untr i x) s0.heap r.heap:=J.base;have Z:Un (frs outer) [] H0 i s0.heap r.heap:=a.base
 have nx:s0.heap.get? x=none:=by
  cases z:s0.heap.get? x with
  | none=>rfl
  | some o =>
   have:=Z.free x o z S (by simp);rw[p]at this;cases this
 refine rK a.ok.frames J.stack rfl C j R.1 λh2 T Q G k=>?_
 rw[M,g4]at Q;refine⟨x,D,F,T,untr i x,rfl,qC J rfl k (λb W=>?_) Q (by simp) (by simp),q⟩;have n:b=x\/b=T:=by simpa using W
 rcases n with rfl | rfl
 .refine⟨nx,dJ,λz=>?_⟩
  obtain⟨_,o,e,nf⟩:=J.funs.mem z;rw[C]at e;cases e;exact nf O j
 .refine⟨cR Y G,?_,i3 J G⟩
  cases z:untr i x b with
  | none=>rfl
  | some u =>
   obtain⟨o,e⟩:=(J.hok b u z).isObj;rw[G]at e;cases e
end
def XCt(a D:Addr)(dct:Option Addr):Heap->Prop:=λh=>∃ o vs,h.get? a=some o/\o.cls=.ref D/\o.data=.fields vs/\o.dict=dct
section
variable {X:Cx}{pins:List (Addr×Obj)}{σ:St}{H H':Hp}{s s':Shared}{x D C T T2:Addr}{dct:Option Addr}{fl:Value}{h2:Heap}{xs:List Addr}
theorem xm(I:Inv X pins σ H s)(G:XG X.prog X.w X.stack H s x D dct T H' s')(k:KeptBut xs (frs X.stack) s'.heap h2)(f:∀ b∈xs,s.heap.get? b=none/\H' b=none/\b ∉ frs X.stack)(L:Fx h2 x (.ref D) dct fl T2) :
  Inv X pins σ (upd H' x (.ext (XCt x D dct))) { s' with heap:=h2 }:=by
 have c:∀ b u,H' b=some u->b≠x:=λb u e z=>by rw[z,G.ux]at e;cases e
 have p:∀ b u,H' b=some u->b ∉ frs X.stack:=λb u e w=>by
  obtain⟨_,o,M,_⟩:=I.stack.mem w;rw[G.un.free b o M (I.stkFree b w) (by simp)]at e;cases e
 have g:Un (frs X.stack) [] H H' s.heap h2:=pX G.un (λb o B j e=>k.1 b o (λz=>by obtain⟨o0,e0⟩:=B;rw[(f b z).1]at e0;cases e0) j e) (λb o j e=>k.2 b o (λz=>(f b z).2.2 j) e);have v:HOk X.prog X.w H' h2:=ni G.hok (λb o u l e=>k.1 b o (λz=>by rw[(f b z).2.1]at l;cases l) (p b u l) e);obtain⟨A,E,_,_,y,N,C,P,_⟩:=L;refine I.call' (ch:=[]) (s':={ s' with heap:=h2 }) G.os ⟨g.keep,g.slot,λb o e n i=>?_,g.there,λb xs e=>?_,λb o u e=>?_,λb ps e=>?_⟩ (λa o e=>?_) G.bare (by simp)
 .have:b≠x:=λz=>by rw[z,G.nx]at e;cases e
  rw[ag this];exact g.free b o e n i
 .have d:=g.tups b xs e
  rw[ag (c b _ d)];exact d
 .have d:=g.frzs b o u e
  rw[ag (c b _ d)];exact d
 .obtain⟨h,d⟩:=g.tbls b ps e
  exact⟨h,by rw[ag (c b _ d)];exact d⟩
 .by_cases ha:a=x
  .subst ha
   rw[ad]at e;cases e;exact⟨⟨A,E,y,N,P,C⟩,⟨A,y⟩,λQ R ⟨o,K,F,r⟩ O=>⟨o,K,O o F,r⟩⟩
  .rw[ag ha]at e
   exact(v a o e).stay (λ_ _ _ q=>q) (λb q=>by rw[ag (c b _ q)];exact q) λb xs q=>by rw[ag (c b _ q)];exact q
end
section
variable {X:Cx}{pins:List (Addr×Obj)}{σ:St}{H H':Hp}{s s':Shared}{x D C T:Addr}{dct:Option Addr}{cn en:Str}{ie:Nat}{b₀:Stmt}{suite:List Stmt}{cp hp:Pos}{ts:TS}{DE:Ends}
end
end L2
namespace FrM
theorem um(x y:Int):Int.gcd y (x % y)=Int.gcd x y:=by
 have e:x=x % y+y*(x/y):=(Int.emod_add_mul_ediv x y).symm;rw[Int.gcd_comm x y]
 conv=>rhs;rw[e]
 rw[Int.gcd_add_mul_left_right]
def Bt(n:Nat)(i:Int):Prop:=i.natAbs<2 ^ n
theorem Bt.mono{m n:Nat}{i:Int}(h:Bt m i)(l:m<=n):Bt n i:=Nat.lt_of_lt_of_le h (Nat.pow_le_pow_right (by decide) l)
theorem Bt.le{n:Nat}{i j:Int}(h:Bt n i)(l:j.natAbs<=i.natAbs):Bt n j:=Nat.lt_of_le_of_lt l h
theorem Bt.mul{m n:Nat}{i j:Int}(h:Bt m i)(h':Bt n j):Bt (m+n) (i*j):=by
 unfold Bt at *;rw[Int.natAbs_mul,Nat.pow_add];exact Nat.mul_lt_mul_of_le_of_lt (Nat.le_of_lt h) h' (Nat.lt_of_le_of_lt (Nat.zero_le _) h)
structure Low(T B t b:Int):Prop where
 pos:1<=b
 cop:Int.gcd t b=1
 eq:t*B=T*b
theorem low(t b:Int)(g:0<b):0<(Int.gcd t b:Int)/\(Int.gcd t b:Int)<=b/\Low t b (t/(Int.gcd t b:Int)) (b/(Int.gcd t b:Int))/\(t/(Int.gcd t b:Int)).natAbs<=t.natAbs/\(b/(Int.gcd t b:Int)).natAbs<=b.natAbs:=by
 have d:0<Int.gcd t b:=Int.gcd_pos_iff.mpr (.inr (by omega));have c:0<(Int.gcd t b:Int):=by omega
 have h:=Int.gcd_dvd_left t b;have a:=Int.gcd_dvd_right t b;have j:=Int.ediv_mul_cancel h;have i:=Int.ediv_mul_cancel a;have f:(Int.gcd t b:Int)<=b:=Int.le_of_dvd g a;refine⟨c,f,⟨?_,Int.gcd_ediv_gcd_ediv_gcd d,?_⟩,?_,?_⟩
 .have:=Int.ediv_pos_of_pos_of_dvd g (by omega) a
  omega
 .rw[<- Int.mul_ediv_assoc _ a,Int.mul_comm,<- Int.mul_ediv_assoc _ h,Int.mul_comm]
 .have:=congrArg Int.natAbs j
  rw[Int.natAbs_mul]at this;rw[<- this];exact Nat.le_mul_of_pos_right _ (by simpa using d)
 .have:=congrArg Int.natAbs i
  rw[Int.natAbs_mul]at this;rw[<- this];exact Nat.le_mul_of_pos_right _ (by simpa using d)
end FrM
namespace L2
open PySem PySem.Spec PyProof.Rows FrM
section
variable {X:Cx}
def CMulB(i j:Int):Prop:=(Bt 8000 i/\Bt 8000 j)\/CMul i j
theorem CMulB.ok{i j:Int}(h:CMulB i j):IntMulOk i j:=by
 rcases h with⟨b,a⟩ | h
 .exact IntMulOk.of_le (m:=8000) (n:=8000) (intBits_le_iff.mpr b) (intBits_le_iff.mpr a) (by decide)
 .exact h.ok
def CDivB(i j:Int):Prop:=0<j/\Bt 8000 j
theorem CDivB.no{i j:Int}(h:CDivB i j):Builtin.divisionGoesByPylong i j=false:=by
 refine PyProof.noPylong_of_log2 ?_;have a:j.natAbs<2 ^ 8000:=h.2
 by_cases h0:j.natAbs=0
 .rw[h0];decide +kernel
 .have:j.natAbs.log2<8000:=(Nat.log2_lt h0).mpr a
  lia
theorem op_mulB:OpR X (binaryOp .Mult) (rI CMulB λi j=>.int (i*j)):=opI λ_ _ _ _ _ _ _ a q=>mul_int q a.ok
theorem op_fdivB:OpR X (binaryOp .FloorDiv) (rI CDivB λi j=>.int (i/j)):=opI λi j _ _ _ _ _ a q=>by
 have b:(0:Int)<j:=a.1;exact floordiv_int (by lia) (by rw[Int.fdiv_eq_ediv_of_nonneg i (by lia)];exact q) (.inl a.no)
theorem cY:OpR X (binaryOp .Mult) (rIC CMulB λi j=>.int (i*j)):=op_mulB.ic
theorem fR:OpR X (binaryOp .FloorDiv) (rIC CDivB λi j=>.int (i/j)):=op_fdivB.ic
theorem cmB{i j:Int}{m n:Nat}(h:Bt m i)(h':Bt n j)(b:m<=8000:=by decide)(a:n<=8000:=by decide):CMulB i j:=.inl ⟨h.mono b,h'.mono a⟩
theorem clB{i j:Int}(h:-(2 ^ 64)<i:=by decide)(h2:i<2 ^ 64:=by decide):CMulB i j:=.inr (cl h h2)
theorem crB{i j:Int}(h:-(2 ^ 64)<j:=by decide)(h2:j<2 ^ 64:=by decide):CMulB i j:=.inr (cr h h2)
theorem cdB{i j:Int}{n:Nat}(h:0<j)(h':Bt n j)(a:n<=8000:=by decide):CDivB i j:=⟨h,h'.mono a⟩
theorem yG:bootBuiltins "abs" = some (.builtin "abs"):=by decide +kernel
end
end L2
namespace L2
open PySem PySem.Spec PyProof.Rows
def zK:Expr->Bool
 | .Starred ..=>true
 | _=>false
theorem sr{e:Expr}{a:List Expr}{env:Env}(h:zK e=false):starEach (e::a) env=(false,eval e env)::starEach a env:=by
 cases e <;> first | rfl | cases h
theorem fM{X:Cx}{e:Expr}{a:List Expr}{b:TE}{t:TA}(c:PE X e b)(d:PA X a t)(h:zK e=false:=by rfl):PA X (e::a) (w6 b t):=aa c d (sr h)
@[irreducible] def PSq(X:Cx)(sts:List Stmt)(t:TS):Prop:=PSs X sts t
theorem zf{X:Cx}{b:Stmt}{a:List Stmt}{t u:TS}(c:PS X b t)(h2:PSq X a u):PSs X (b::a) (aW t u):=by
 unfold PSq at h2;exact af c h2
section
variable {X:Cx}{k ie ir:Nat}{f C:Addr}{fd:FuncData}{ps:List Str}{sp:Sp}{dvs:List V}{ds:List Value}{fx cn en rn:Str}{p pos p2 p3 cp hp tp:Pos}{e:Expr}{es:List Expr}{t:TA}{b₀:Stmt}{suite:List Stmt}{ts:TS}
end
structure LamD where
 qual:Str
 params:Arguments
 body:Expr
 scope:Scope
def hV(f:Addr)(d:LamD)(clos:List (Str×Addr))(c:Addr):Heap->Prop:=λh=>∃ pm ctv,h.get? f=some (kla_obj "<lambda>" d.qual d.params d.body d.scope clos pm c ctv)
def dC(c:Addr)(v:V):Heap->Prop:=λh=>∃ o u,h.get? c=some o/\o.data=.cell (some u)/\RelV v u
def eX(c:Addr)(q:Str):Heap->Prop:=λh=>∃ o vs t,h.get? c=some o/\o.data=.fields vs/\vs[1]? = some (.str q t)
section
variable {P:Program}{w:World}{H:Hp}{h:Heap}
theorem pK{f:Addr}{d:LamD}{b:List (Str×Addr)}{c:Addr}{g a:Value}(e:h.get? f=some (kla_obj "<lambda>" d.qual d.params d.body d.scope b g c a)):ObjOk P w H h f (.ext (hV f d b c)) :=
 ⟨⟨g,a,e⟩,⟨_,e⟩,λl j ⟨g,a,i⟩ k=>⟨g,a,k _ i⟩⟩
theorem m6{c:Addr}{v:V}(x:dC c v h):ObjOk P w H h c (.ext (dC c v)) :=
 ⟨x,let ⟨o,_,e,_⟩:=x;⟨o,e⟩,λd b ⟨o,u,a,r⟩ k=>⟨o,u,k _ a,r⟩⟩
theorem sC{c:Addr}{q:Str}(x:eX c q h):ObjOk P w H h c (.ext (eX c q)) :=
 ⟨x,let ⟨o,_,_,e,_⟩:=x;⟨o,e⟩,λf d ⟨o,b,t,a,r⟩ k=>⟨o,b,t,k _ a,r⟩⟩
end
theorem wH(a:Addr)(o:Obj)(f:o.data≠.freed):∃ h:Heap,h.get? a=some o:=by
 refine⟨{ objs:=Array.replicate (a+1) o },?_⟩;obtain⟨c,d,b,g⟩:=o
 cases b <;> first | exact absurd rfl f | simp[Heap.get?]
theorem lA{c:Addr}{q:Str}{v:V}:HO.ext (eX c q)≠HO.ext (dC c v):=λe=>by
 injection e with e
 obtain⟨h,b⟩:=wH c { cls:=.none,data:=.fields #[.none,.str q 0] } (by intro z;cases z);have y:dC c v h:=by rw[<- e];exact⟨_,_,_,b,rfl,rfl⟩
 obtain⟨o,u,a,d,_⟩:=y;rw[b]at a;cases a;cases d
def zB:HO->Bool
 | .tbl _=>false
 | _=>true
def SameT(H H':Hp):Prop:=∀ b o,H b=some o->(zB o=true->H' b=some o)/\∃ o',H' b=some o'
theorem SameT.refl{H:Hp}:SameT H H:=λb o e=>⟨λ_=>e,o,e⟩
theorem SameT.trans{H d h:Hp}(a:SameT H d)(b:SameT d h):SameT H h:=λc o e=>by
 obtain⟨f,l,k⟩:=a c o e;obtain⟨g,j,i⟩:=b c l k;exact⟨λn=>(b c o (f n)).1 n,j,i⟩
theorem Same.t{H a:Hp}(s:Same H a):SameT H a:=λb o e=>⟨λ_=>s b o e,o,s b o e⟩
theorem SameT.at{H b:Hp}(s:SameT H b){a:Addr}{o:HO}(e:H a=some o)(n:zB o=true:=by rfl):b a=some o:=(s a o e).1 n
theorem SameT.free{H b:Hp}(s:SameT H b){a:Addr}(e:b a=none):H a=none:=by
 cases q:H a with
 | none=>rfl
 | some o=>obtain⟨_,d,c⟩:=s a o q;rw[e]at c;cases c
theorem SameT.put{H c:Hp}(s:SameT H c){a:Addr}{o:HO}(e:H a=none):SameT H (upd c a o):=λb u q=>by
 have n:b≠a:=λz=>by rw[z,e]at q;cases q
 rw[ag n];exact s b u q
def zQ(H:Hp)(P:Addr)(ls:List (Pos×Str)):Prop:=∃ ps,H P=some (.tbl ps)/\TriplesOk ps.toList/\∀ l∈ls,codeAmong l.1 ps.toList=none\/∃ c,codeAmong l.1 ps.toList=some (.ref c)/\H c=some (.ext (eX c l.2))
abbrev oe:=List (Addr×List (Pos×Str))
def TabsOk(tabs:oe)(H:Hp):Prop:=∀ q∈tabs,zQ H q.1 q.2
theorem TabsOk.same{d:oe}{H f:Hp}(t:TabsOk d H)(s:Same H f):TabsOk d f:=λq i=>by
 obtain⟨k,h,g,n⟩:=t q i;exact⟨k,s _ _ h,g,λl j=>(n l j).imp id λ⟨c,a,b⟩=>⟨c,a,s _ _ b⟩⟩
theorem TabsOk.put{d:oe}{H:Hp}{r:Addr}{o:HO}(t:TabsOk d H)(i:∀ ps,H r≠some (.tbl ps))(h2:∀ φ,H r≠some (.ext φ)):TabsOk d (upd H r o):=λq h=>by
 obtain⟨ps,f,g,k⟩:=t q h;refine⟨ps,?_,g,λl j=>(k l j).imp id λ⟨c,a,b⟩=>⟨c,a,?_⟩⟩
 .rw[ag λz=>i ps (by rw[<- z];exact f)];exact f
 .rw[ag λz=>h2 _ (by rw[<- z];exact b)];exact b
theorem nL{p d:Pos}{c:Value}(l:List Value)(h:TriplesOk l)(f:¬(p.line=d.line/\p.col=d.col)):codeAmong d (l++[rawInt p.line,rawInt p.col,c])=codeAmong d l:=by
 fun_induction TriplesOk l with
 | case1 =>
  simp only[nil_append,codeAmong,rawInt];rw[if_neg];intro z;rw[Bool.and_eq_true,beq_iff_eq,beq_iff_eq]at z;exact f ⟨by lia,by lia⟩
 | case2 a t b u x rest ih =>
  simp only[cons_append,codeAmong];rw[ih h]
 | case3=>exact h.elim
theorem lQ{p:Pos}{c:Value}(l:List Value)(h:TriplesOk l):TriplesOk (l++[rawInt p.line,rawInt p.col,c]):=by
 fun_induction TriplesOk l with
 | case1=>simp[TriplesOk,rawInt]
 | case2 a t b u x rest ih=>exact ih h
 | case3=>exact h.elim
def Bm(mg:Str->Option Value)(base:Heap):Prop:=∃ bm ob,mg "__builtins__" = some (.ref bm)/\base.get? bm=some ob/\ob.cls=.type "module" /\ ob.dict=some builtinsNs/\ob.data=.plain
def Bi(tabs:oe)(d:LamD)(clos:List (Str×Addr)):TE:=λσ H Q=>TabsOk tabs H/\∀ f c H1,SameT H H1->TabsOk tabs H1->H f=none->H1 f=some (.ext (hV f d clos c))->H1 c=some (.ext (eX c d.qual))->Q (.ref f) H1
theorem ma{b c:Type}:∀{l:List (b×c)},(l.map (·.1)).Nodup->∀ x∈l,∀ y∈l,x.1=y.1->x=y
 | [],_,x,hx,_,_,_=>by cases hx
 | a::r,nd,x,hx,y,hy,e=>by
  rw[map_cons,nodup_cons]at nd
  rcases mem_cons.mp hx with rfl | hx' <;> rcases mem_cons.mp hy with rfl | hy'
  .rfl
  .exact absurd (mem_map.mpr ⟨y,hy',e.symm⟩) nd.1
  .exact absurd (mem_map.mpr ⟨x,hx',e⟩) nd.1
  .exact ma nd.2 x hx' y hy' e
theorem qM:∀{l:List (Pos×Str)},(l.Pairwise λx y=>¬(x.1.line=y.1.line/\x.1.col=y.1.col))->∀ x∈l,∀ y∈l,(x.1.line=y.1.line/\x.1.col=y.1.col)->x=y
 | [],_,x,hx,_,_,_=>by cases hx
 | a::r,nd,x,hx,y,hy,e=>by
  rw[pairwise_cons]at nd
  rcases mem_cons.mp hx with rfl | hx' <;> rcases mem_cons.mp hy with rfl | hy'
  .rfl
  .exact absurd e (nd.1 y hy')
  .exact absurd ⟨e.1.symm,e.2.symm⟩ (nd.1 x hx')
  .exact qM nd.2 x hx' y hy' e
section
variable {X:Cx}{tabs:oe}{P c:Addr}{ls:List (Pos×Str)}{d:LamD}{clos:List (Str×Addr)}{pos:Pos}
theorem jP(an:X.env.code=.ref c)(hC:codeHdIn X.K c P=true)(hB:Bm X.mg X.base)(hq:X.env.qual ++ "<lambda>" = d.qual)(as:closureFor d.scope X.env=pure clos)(O:defaultsOf d.params X.env=([],[]))
  (hm:(P,ls)∈tabs) (hl:(pos,d.qual)∈ls) (a9:(tabs.map (·.1)).Nodup) (a1:ls.Pairwise λx y=>¬(x.1.line=y.1.line/\x.1.col=y.1.col)):PE X (.Lambda d.params d.body d.scope pos) (Bi tabs d clos):=by
 intro bt s σ H Q I h;obtain⟨hT,hQ⟩:=h;refine PySem.W.kla_eval O ?_;rw[hq];obtain⟨G,v,l,L⟩:=hT _ hm;have r:s.heap.Ns mainGlobals X.mg:=I.mod.glob.keeps I.bk;have C:CodeHd s.heap c P:=codeHd_of_K I.kIn hC;have p:s.heap.get? P=some (tabObj G):=I.hok P _ v
 have br:mainGlobals≠P:=λq=>by
  obtain⟨o,es,ep,e,M,_⟩:=r;rw[q,p]at e;cases e;cases M
 obtain⟨bm,ob,b1,b2,b3,b4,W⟩:=hB;have R:=I.bk _ _ b2
 have a3:bm≠P:=λq=>by
  rw[q,p]at R;cases R;cases b3
 have a5:bm≠mainGlobals:=λq=>by
  obtain⟨o,es,ep,e,M,_⟩:=r;rw[q,e]at R;cases R;rw[M]at W;cases W
 have a0:bm≠builtinsNs:=λq=>by
  obtain⟨mb,⟨o,es,ep,e,M,_⟩,_⟩:=I.mod.blt;rw[q,e]at b2;cases b2;rw[M]at W;cases W
 have BA:s.heap.BuiltinsAt X.mg P:=⟨bm,ob,b1,a0,a5,a3,R,b3,b4,W⟩
 rcases L _ hl with hn | ⟨i,hc,a6⟩
 .refine PySem.W.kla_makeFunction (mg:=X.mg) as I.ok.glob r an C p l hn br BA λi N h' tk hx w E Y bl=>?_
  have ab:H i=none:=I.hok.fresh w;have j:H h'.objs.size=none:=I.hok.fresh (Nat.le_trans w (Nat.le_of_lt E));have S:i≠h'.objs.size:=Nat.ne_of_lt E;have a7:P≠i:=aF v ab;have al:P≠h'.objs.size:=aF v j
  obtain⟨f,hf⟩:∃ f,f=h'.objs.size:=⟨_,rfl⟩
  obtain⟨ob',hob⟩:∃ o,o=kla_obj "<lambda>" d.qual d.params d.body d.scope clos ((X.mg "__name__").getD .none) i N:=⟨_,rfl⟩
  have a2:(h'.push ob').get? f=some ob':=by rw[hf,hob];exact Heap.get?_push_size _ rfl
  have k:∀ b o,b≠P->s.heap.get? b=some o->(h'.push ob').get? b=some o:=λb o n e=>Heap.get?_push_of_some _ (hx b o n e)
  have D:(h'.push ob').get? P=some (tabObj (G ++ #[rawInt pos.line,rawInt pos.col,.ref i])):=Heap.get?_push_of_some _ bl
  have a':eX i d.qual (h'.push ob'):=by
   obtain⟨B,oc,vs,t,e2,bn,a4,hv⟩:=Y;cases e2;exact⟨oc,vs,t,Heap.get?_push_of_some _ bn,a4,hv⟩
  rw[<- hf]at j S al ⊢;rw[<- hob]
  obtain⟨H1,hH1⟩:∃ H1,H1=upd (upd (upd H P (.tbl (G ++ #[rawInt pos.line,rawInt pos.col,.ref i]))) i (.ext (eX i d.qual))) f (.ext (hV f d clos i)):=⟨_,rfl⟩
  have gf:H1 f=some (.ext (hV f d clos i)):=by rw[hH1];exact ad
  have gc:H1 i=some (.ext (eX i d.qual)):=by rw[hH1,ag S];exact ad
  have gP:H1 P=some (.tbl (G ++ #[rawInt pos.line,rawInt pos.col,.ref i])):=by rw[hH1,ag al,ag a7];exact ad
  have go:∀ b,b≠P->b≠i->b≠f->H1 b=H b:=λb h1 h2 T=>by rw[hH1,ag T,ag h2,ag h1]
  have g:∀ b o,b≠P->H b=some o->H1 b=some o:=λb o n e=>by rw[go b n (aF e ab) (aF e j)];exact e
  have F:∀ b o,H b=some o->(∀ qs,o≠.tbl qs)->b≠P:=λb o e n z=>by rw[z,v]at e;cases e;exact n G rfl
  have un:Un X.fs [] H H1 s.heap (h'.push ob'):=by
   refine⟨λb o e n _ _=>k b o (λz=>by rw[z,v]at n;cases n) e,λb o e n _ _=>⟨o.slots,k b o (λz=>by rw[z,v]at n;cases n) e⟩,λb o e n _=>?_,λb o e _=>?_,λb xs e=>g b _ (F b _ e λ_ z=>nomatch z) e,λb o u e=>g b _ (F b _ e λ_ z=>nomatch z) e,λb qs e=>?_⟩
   .have hb:b<s.heap.objs.size:=Heap.lt_size e
    rw[go b (λz=>by rw[z,v]at n;cases n) (Nat.ne_of_lt (Nat.lt_of_lt_of_le hb w)) (by rw[hf];exact Nat.ne_of_lt (Nat.lt_of_lt_of_le hb (Nat.le_trans w (Nat.le_of_lt E))))];exact n
   .by_cases hb:b=P
    .rw[hb];exact⟨_,D⟩
    .exact⟨o,k b o hb e⟩
   .by_cases hb:b=P
    .rw[hb,v]at e
     cases e;rw[hb];exact⟨_,gP⟩
    .exact⟨#[],by rw[g b _ hb e];simp⟩
  have bg:HOk X.prog X.w H1 (h'.push ob'):=λa o e=>by
   by_cases h1:a=f
   .subst h1;rw[gf]at e;cases e;exact pK (by rw[a2,hob])
   by_cases h2:a=i
   .subst h2;rw[gc]at e;cases e;exact sC a'
   by_cases T:a=P
   .subst T;rw[gP]at e;cases e;exact D
   rw[go a T h2 h1]at e;refine(I.hok a o e).stay (λb u hb q=>k b u ?_ q) (λb q=>g b _ (F b _ q λ_ z=>nomatch z) q) λb xs q=>g b _ (F b _ q λ_ z=>nomatch z) q
   rcases hb with rfl | hb
   .exact T
   .exact F b _ hb λ_ z=>nomatch z
  refine⟨.ref f,H1,I.un (h':=h'.push ob') (t':=tk) un bg,rfl,hQ f i H1 (λb o e=>?_) (λq hq'=>?_) j gf gc⟩
  .by_cases hb:b=P
   .subst hb
    rw[v]at e;cases e;exact⟨λz=>(Bool.false_ne_true z).elim,_,gP⟩
   .exact⟨λ_=>g b o hb e,o,g b o hb e⟩
  .by_cases hqP:q.1=P
   .have a8:q=(P,ls):=ma a9 q hq' (P,ls) hm hqP
    subst a8;refine⟨_,gP,by rw[Array.toList_append];exact lQ _ l,λK A=>?_⟩;rw[Array.toList_append]
    by_cases hp:pos.line=K.1.line/\pos.col=K.1.col
    .have:=qM a1 (pos,d.qual) hl K A hp
     subst this;exact .inr ⟨i,codeAmong_snoc _ l hn,gc⟩
    .have eo:=nL (c:=.ref i) G.toList l hp
     rcases L K A with z | ⟨B,z1,z2⟩
     .exact .inl (eo.trans z)
     .exact .inr ⟨B,eo.trans z1,g B _ (F B _ z2 λ_ z=>nomatch z) z2⟩
   .obtain⟨qs,e1,e2,e3⟩:=hT q hq'
    exact⟨qs,g _ _ hqP e1,e2,λK A=>(e3 K A).imp id λ⟨B,z1,z2⟩=>⟨B,z1,g B _ (F B _ z2 λ_ z=>nomatch z) z2⟩⟩
 .refine PySem.W.kla_makeFunctionHit (mg:=X.mg) as I.ok.glob r an C p l hc BA λN h' tk hk Z=>?_
  have j:H h'.objs.size=none:=I.hok.fresh Z;have sm:Same H (upd H h'.objs.size (.ext (hV h'.objs.size d clos i))):=Same.new j;refine⟨.ref h'.objs.size,_,I.laid (a:=h'.objs.size) (o:=.ext (hV h'.objs.size d clos i)) (t':=tk) (λb u e=>Heap.get?_push_of_some _ (hk b u e)) Z (pK (Heap.get?_push_size _ rfl)),rfl,hQ _ i _ sm.t (hT.same sm) j ad (sm _ _ a6)⟩
end
def untrs(H:Hp)(cs:List Addr):Hp:=λb=>if b∈cs then none else H b
theorem eA{H:Hp}{a:List Addr}{b:Addr}(h:b∈a):untrs H a b=none:=by unfold untrs;rw[if_pos h]
theorem bb{H:Hp}{a:List Addr}{b:Addr}(h:b ∉ a):untrs H a b=H b:=by unfold untrs;rw[if_neg h]
theorem cZ{H:Hp}{a:List Addr}{b:Addr}(h:H b=none):untrs H a b=none:=by unfold untrs;split <;> first | rfl | exact h
abbrev CellsAt(H:Hp):List (Str×Addr)->List V->Prop:=Paired λ(p:Str×Addr) (v:V)=>H p.2=some (.ext (dC p.2 v))
theorem CellsAt.mem{H:Hp}:∀{clos:List (Str×Addr)}{vals:List V},CellsAt H clos vals->∀ p∈clos,∃ v,H p.2=some (.ext (dC p.2 v))
 | _,_,.nil,p,h=>by cases h
 | _,_,.cons r t,p,h=>by
  rcases mem_cons.mp h with rfl | h
  .exact⟨_,r⟩
  .exact CellsAt.mem t p h
theorem CellsAt.get{H:Hp}:∀{clos:List (Str×Addr)}{vals:List V}{i:Nat}{v:V},CellsAt H clos vals->vals[i]? = some v->∃ p,clos[i]? = some p/\H p.2=some (.ext (dC p.2 v))
 | _,_,_,_,.nil,h=>by cases h
 | _,_,0,_,.cons r t,h=>by cases h;exact⟨_,rfl,r⟩
 | _,_,i+1,_,.cons r t,h=>CellsAt.get (i:=i) t h
theorem CellsAt.at{H:Hp}{a:List (Str×Addr)}{c:List V}(f:CellsAt H a c){b:Addr}(d:b∈a.map (·.2)):∃ v,H b=some (.ext (dC b v)):=by
 obtain⟨p,g,rfl⟩:=mem_map.mp d;exact f.mem p g
theorem bR{H:Hp}{a:List (Str×Addr)}{c:List V}{b:Addr}{o:HO}(d:CellsAt H a c)(h:H b=some o)(n:∀ v,o≠.ext (dC b v)):untrs H (a.map (·.2)) b=some o:=by
 rw[bb λz=>?_]
 .exact h
 .obtain⟨v,e⟩:=d.at z
  rw[h]at e;exact n v (Option.some.inj e)
theorem dg{a:Type}:∀{l:List (Str×a)}{x:Str}{u:a},(l.map (·.1)).Nodup->(x,u)∈l->l.lookup x=some u
 | [],_,_,_,h=>by cases h
 | (y,w)::r,x,u,nd,h=>by
  rw[map_cons,nodup_cons]at nd
  rcases mem_cons.mp h with e | h
  .cases e;simp[List.lookup]
  .have:x≠y:=λz=>nd.1 (mem_map.mpr ⟨(x,u),h,z⟩)
   rw[lookup_cons,beq_eq_false_iff_ne.mpr this];exact dg nd.2 h
theorem rE{a:Type}{l:List a}(h:l.Nodup):l.reverse.Nodup:=by
 unfold List.Nodup at h ⊢;rw[List.pairwise_reverse];exact h.imp λn z=>n z.symm
def iB(d:LamD)(L f c:Addr)(clos:List (Str×Addr)):Env:={ scope:=d.scope,locals:=L,globals:=mainGlobals,cells:=clos,qual:=d.qual ++ ".<locals>.",func:=some f,code:=.ref c,frame:=some L,builtins:=builtinsNs }
def cxL(P:Program)(w:World)(K:Frag)(mg:Str->Option Value)(base:Heap)(N:List Str)(d:LamD)(clos:List (Str×Addr))(f c:Addr)(A:Around)(outer:List Env)(s:Shared)(H:Hp):Cx where
 prog:=P
 w:=w
 K:=K
 mg:=mg
 base:=base
 A:=A.deeper (iB d s.heap.objs.size f c clos)
 N:=N
 s₀:=s
 H₀:=untrs H (clos.map (·.2))
 env:=iB d s.heap.objs.size f c clos
 outer:=outer
 stack:=iB d s.heap.objs.size f c clos::outer
 ex:=[]
 calm:=true
 fn:=λ_=>false
 pn:=[]
 xe:=λ_ _=>False
def LamOkC(P:Program)(w:World)(K:Frag)(mg:Str->Option Value)(base:Heap)(k:Nat)(d:LamD)(fv ps:List Str)(sp:List (Str×Addr)->List V->Sp):Prop :=
 ∀(A:Around) (outer:List Env) (s:Shared) (H:Hp) (f c:Addr) (clos:List (Str×Addr)) (us:List Value) (vs vals:List V) (Q:VK) (E:XK),Room k A->Env0 P w K mg base A outer s H->H f=some (.ext (hV f d clos c))->H c=some (.ext (eX c d.qual)) ->
  clos.map (·.1)=fv->(clos.map (·.2)).Nodup->CellsAt H clos vals->Vals vs us->sp clos vals vs H Q E->codeAny (model P w) A (.call (.ref f) ⟨us,[]⟩) (CR CX0 outer P w H s Q E) s
def LamOk(P:Program)(w:World)(K:Frag)(mg:Str->Option Value)(base:Heap)(k:Nat)(d:LamD)(fv ps:List Str)(sp:List V->Sp):Prop:=LamOkC P w K mg base k d fv ps λ_=>sp
structure LamScope(d:LamD)(fv ps:List Str):Prop where
 kind:d.scope.kind=.function
 co:d.scope.isCoroutine=false
 gen:d.scope.isGenerator=false
 nocell:∀ x∈d.scope.names,x.2≠.cell
 par:∀ x ∈ ps,d.scope.names.lookup x = some .local
 free:∀ x∈d.scope.names,x.2=.free->x.1∈fv
 fr:∀ x∈fv,d.scope.names.lookup x=some .free
 nd:(ps++fv).Nodup
theorem cF{a b:Type}[BEq a][LawfulBEq a]:∀{l:List (a×b)}{x:a}{u:b},l.lookup x=some u->(x,u)∈l
 | [],_,_,h=>by cases h
 | (y,w)::r,x,u,h=>by
  rw[lookup_cons]at h;cases e:x == y with
  | true=>rw[e]at h;cases h;rw[eq_of_beq e];exact mem_cons_self ..
  | false=>rw[e]at h;exact mem_cons_of_mem _ (cF h)
theorem oP{P:Program}{w:World}{K:Frag}{mg:Str->Option Value}{B:Heap}{d:LamD}{M ps:List Str}{a:List (Str×Addr)}{f c:Addr}{A:Around}{j:List Env}{s:Shared}{H:Hp}{us:List Value}{vs g:List V}{F:Heap}{tk:Nat}
  (S:LamScope d M ps) (hd:A.handled=none) (D:Env0 P w K mg B A j s H) (hl:vs.length=ps.length) (r:Vals vs us) (C:a.map (·.1)=M) (ab:(a.map (·.2)).Nodup) (O:CellsAt H a g)
  (X:F.Ns s.heap.objs.size (λx=>(ps.zip us).reverse.lookup x)) (hk:∀ b o,s.heap.get? b=some o->F.get? b=some o) :
  Inv (cxL P w K mg B (ps++M) d a f c A j s H) [] ((vs++g).map some) (untrs H (a.map (·.2))) { s with heap:=F,toks:=tk }:=by
 have R:(a.map (·.1)).Nodup:=by rw[C];exact(nodup_append.mp S.nd).2.1
 have al:ps.Nodup:=(nodup_append.mp S.nd).1;have as:us.length=ps.length:=by rw[<- r.length];exact hl
 have Q:∀ x k,a.lookup x=some k->k∈a.map (·.2):=λx k e=>mem_map.mpr ⟨(x,k),cF e,rfl⟩
 have l:∀ b v,H b=some (.ext (dC b v))->∃ u,RelV v u/\F.IsCell b (some u):=λb v e=>by
  obtain⟨⟨o,u,E,n,g3⟩,_⟩:=D.hok b _ e;exact⟨u,g3,o,hk _ _ E,n⟩
 have L:∀ b:Addr,b ∉ (cxL P w K mg B (ps++M) d a f c A j s H).ex:=λb z=>absurd (show b∈([]:List Addr) from z) (by simp)
 have a0:a.length=M.length:=by rw[<- C,length_map]
 have an:g.length=a.length:=(Paired.length O).symm
 refine⟨⟨D.mod,S.kind,rfl,rfl,Nat.le_refl _,λy z k F h2=>?_,λy hy=>?_,λy k h=>(Bool.false_ne_true h).elim,λ_=>hd,Around.frames_deeper D.frames,.inr ⟨rfl,rfl⟩,λb z=>absurd z (L b),λb o e=>⟨(D.bs b o e).1,cZ (D.bs b o e).2⟩,D.bsz,λb _ _=>L b,λb z=>absurd z (L b),D.funs,λb hb=>cZ (D.frf b hb)⟩,
  rfl,D.bare,Un.kept hk,⟨_,X,λi y v E n g3=>?_⟩,λy k h=>?_,cZ (D.hok.fresh (Nat.le_refl _)),λy k h=>eA (Q y k h),λp N=>absurd (show p∈([]:List (Addr×Obj)) from N) (by simp),λb u e=>?_,?_⟩
 .have F:a.lookup y=some k:=F
  have h2:a.lookup z=some k:=h2;have e1:=cF F;have e2:=cF h2;have W:((a.map λp=>(p.2,p.1)).map (·.1)).Nodup:=by rw[map_map];exact ab
  have:=ma W (k,y) (mem_map.mpr ⟨_,e1,rfl⟩) (k,z) (mem_map.mpr ⟨_,e2,rfl⟩) rfl;exact congrArg Prod.snd this
 .have hy:d.scope.names.lookup y=some .cell\/d.scope.names.lookup y=some .free:=hy
  rcases hy with hy | hy
  .exact absurd rfl (S.nocell _ (cF hy))
  .have:=S.free _ (cF hy) rfl
   rw[<- C]at this;obtain⟨p,N,e⟩:=mem_map.mp this;have e':p.1=y:=e;exact⟨p.2,dg R (by show(y,p.2)∈a;rw[<- e'];exact N)⟩
 .have E:(ps++M)[i]? = some y:=E
  by_cases hi:i<ps.length
  .rw[List.getElem?_append_left hi]at E
   rw[List.getElem?_map,List.getElem?_append_left (by lia)]at n
   have I:vs[i]? = some v:=by
    cases q:vs[i]? with
    | none=>rw[q]at n;cases n
    | some x=>rw[q]at n;cases n;rfl
   obtain⟨u,hu,Z⟩:=r.get I;refine⟨u,Z,.inl ⟨S.par y (List.mem_of_getElem? E),?_⟩⟩;have Y:(y,u)∈ps.zip us:=List.mem_of_getElem? (i:=i) (by rw[List.getElem?_zip_eq_some];exact⟨E,hu⟩);refine dg ?_ (List.mem_reverse.mpr Y);rw[List.map_reverse];refine rE ?_;have:(ps.zip us).map (·.1)=ps:=by rw[List.map_fst_zip];lia
   rw[this];exact al
  .rw[List.getElem?_append_right (by lia)]at E
   rw[List.getElem?_map,List.getElem?_append_right (by lia)]at n
   have I:g[i - ps.length]? = some v:=by
    rw[hl]at n;cases q:g[i - ps.length]? with
    | none=>rw[q]at n;cases n
    | some x=>rw[q]at n;cases n;rfl
   obtain⟨p,N,e⟩:=O.get I;rw[<- C,List.getElem?_map,N]at E;cases E;obtain⟨u,Z,T⟩:=l _ _ e;have G:=List.mem_of_getElem? N;refine⟨u,Z,.inr ⟨.inr (S.fr p.1 ?_),p.2,dg R G,T⟩⟩;rw[<- C];exact mem_map.mpr ⟨p,G,rfl⟩
 .obtain⟨v,e⟩:=O.at (Q y k h)
  obtain⟨u,_,T⟩:=l _ _ e;exact⟨_,T⟩
 .by_cases hb:b∈a.map (·.2)
  .rw[eA hb]at e;cases e
  .rw[bb hb]at e
   refine(D.hok b u e).stay (λb' u' _ q=>hk b' u' q) (λb' q=>?_) λb' xs q=>?_
   .exact bR O q λv z=>nomatch z
   .exact bR O q λv z=>nomatch z
 .show((vs++g).map some).length=(ps++M).length
  rw[length_map,length_append,length_append];lia
section
variable {P:Program}{w:World}{K:Frag}{mg:Str->Option Value}{base:Heap}
theorem pF{d:LamD}{N ps:List Str}{k:Nat}{sp:List (Str×Addr)->List V->Sp}(S:LamScope d N ps)
  (B:∀(pm ctv:Value) (clos:List (Str×Addr)) (c:Addr) (us:List Value),us.length=ps.length->bindArgs (kla_fn "<lambda>" d.qual d.params d.body d.scope clos pm (.ref c) ctv) ⟨us,[]⟩=pure (ps.zip us))
  (Z:∀ clos vals vs H Q E,sp clos vals vs H Q E->vs.length=ps.length)
  (C:∀(A:Around) (outer:List Env) (s:Shared) (H:Hp) (f c:Addr) (clos:List (Str×Addr)) (vals vs:List V) (Q:VK) (E:XK),Room k (A.deeper (iB d s.heap.objs.size f c clos))->clos.map (·.1)=N->CellsAt H clos vals->sp clos vals vs H Q E ->
   ∃ t,PE (cxL P w K mg base (ps++N) d clos f c A outer s H) d.body t/\t ((vs++vals).map some) (untrs H (clos.map (·.2))) (λv H'=>∀ H3,Same H' H3->(∀ p∈clos,H3 p.2=H p.2)->Q v H3)) :
  LamOkC P w K mg base (k+1) d N ps sp:=by
 intro A outer s H f c clos us vs vals Q E R j hf hc M Y l r F;have hl:=Z _ _ _ _ _ _ F;have W:us.length=ps.length:=by rw[<- r.length];exact hl
 obtain⟨⟨pm,ctv,ef⟩,_,_⟩:=j.hok f _ hf;obtain⟨⟨oc,ab,ct,ec,ed,ev⟩,_,_⟩:=j.hok c _ hc;have X:s.heap.NoLimit:=j.mod.nolimit.keeps λb o e=>(j.bs b o e).1
 obtain⟨t,ht,hq⟩:=C A outer s H f c clos vals vs Q E (R.deeper _) M l F;refine PySem.W.kla_callFunE (body:=d.body) R.depth ef rfl S.co S.gen rfl ⟨c,oc,ab,ct,rfl,ec,ed,ev⟩ ?_;rw[B pm ctv clos c us W];refine wpAny_pure (wpAny_newFunctionEnv S.nocell (λy hy=>S.par y.1 (of_mem_zip hy).1) (λh1 hns hsb=>?_) S.kind);have hk:∀ b o,s.heap.get? b=some o->h1.get? b=some o:=λb o e=>hsb.extBut b o (Nat.ne_of_lt (Heap.lt_size e)) (Heap.get?_push_of_some _ e)
 refine⟨X.fresh _ hsb,?_⟩;show codeAny _ _ (.expr d.body (iB d s.heap.objs.size f c clos)) _ _;have I:=oP (f:=f) (c:=c) (tk:=s.toks+(ps.zip us).length) S R.hd j hl r M Y l hns hk;refine PySem.W.kla_codeExpr (wpAny_mono (ht [] _ _ _ _ I hq) (λu s' hs=>?_) λe s' z=>False.elim z);obtain⟨v,H',J,rv,q⟩:=hs
 obtain⟨cs,hcs⟩:∃ cs,cs=clos.map (·.2):=⟨_,rfl⟩
 have h:Un (frs outer) [] (untrs H (clos.map (·.2))) H' s.heap s'.heap:=J.base
 have x:∀ b,b∈clos.map (·.2)->∃ o v,s.heap.get? b=some o/\H b=some (.ext (dC b v)):=λb a=>by
  obtain⟨v,e⟩:=l.at a;obtain⟨⟨o,_,g,_⟩,_⟩:=j.hok b _ e;exact⟨o,v,g,e⟩
 have T:∀ b∈clos.map (·.2),H' b=none:=λb a=>by
  obtain⟨o,v,g,_⟩:=x b a;exact h.free b o g (eA a) (by simp)
 let H3:Hp:=λb=>if b∈clos.map (·.2) then H b else H' b
 have g1:∀ b,b∈clos.map (·.2)->H3 b=H b:=λb a=>if_pos a
 have O:∀ b,b ∉ clos.map (·.2)->H3 b=H' b:=λb a=>if_neg a
 have D:Same H' H3:=λb o e=>by
  rw[O b λz=>by rw[T b z]at e;cases e];exact e
 have up:∀ b o,H b=some o->(∀ v,o≠.ext (dC b v))->b ∉ clos.map (·.2):=λb o e n z=>by
  obtain⟨v,i⟩:=l.at z;rw[e]at i;exact n v (Option.some.inj i)
 refine⟨v,H3,J.os,J.bare,⟨λb o e n a L=>h.keep b o e (cZ n) a L,λb o e n a L=>h.slot b o e (cZ n) a L,λb o e n L=>?_,h.there,λb xs e=>?_,λb o u e=>?_,λb ps' e=>?_⟩,λb o e=>?_,rv,q H3 D λp hp=>g1 p.2 (mem_map.mpr ⟨p,hp,rfl⟩)⟩
 .rw[O b λz=>by obtain⟨_,v,_,i⟩:=x b z;rw[n]at i;cases i]
  exact h.free b o e (cZ n) L
 .exact D _ _ (h.tups b xs (bR l e λv z=>nomatch z))
 .exact D _ _ (h.frzs b o u (bR l e λv z=>nomatch z))
 .obtain⟨G,z⟩:=h.tbls b ps' (bR l e λv z=>nomatch z)
  exact⟨G,D _ _ z⟩
 .by_cases a:b∈clos.map (·.2)
  .rw[g1 b a]at e
   obtain⟨o',v',g,i⟩:=x b a;rw[e]at i;cases i;obtain⟨⟨o2,u2,k1,k2,k3⟩,_⟩:=j.hok b _ e;refine m6 ⟨o2,u2,h.keep b o2 k1 (eA a) (λz=>?_) (by simp),k2,k3⟩;rw[j.frf b z]at e;cases e
  .rw[O b a]at e
   refine(J.hok b o e).stay (λb' u' _ q=>q) (λb' q=>D _ _ q) λb' xs q=>D _ _ q
theorem lJ{d:LamD}{g ps:List Str}{k:Nat}{sp:List V->Sp}(S:LamScope d g ps)
  (a:∀(pm ctv:Value) (clos:List (Str×Addr)) (c:Addr) (us:List Value),us.length=ps.length->bindArgs (kla_fn "<lambda>" d.qual d.params d.body d.scope clos pm (.ref c) ctv) ⟨us,[]⟩=pure (ps.zip us))
  (h:∀ vals vs H Q E,sp vals vs H Q E->vs.length=ps.length)
  (b:∀(A:Around) (outer:List Env) (s:Shared) (H:Hp) (f c:Addr) (clos:List (Str×Addr)) (vals vs:List V) (Q:VK) (E:XK),Room k (A.deeper (iB d s.heap.objs.size f c clos))->clos.map (·.1)=g->CellsAt H clos vals->sp vals vs H Q E ->
   ∃ t,PE (cxL P w K mg base (ps++g) d clos f c A outer s H) d.body t/\t ((vs++vals).map some) (untrs H (clos.map (·.2))) (λv H'=>∀ H3,Same H' H3->(∀ p∈clos,H3 p.2=H p.2)->Q v H3)) :
  LamOk P w K mg base (k+1) d g ps sp:=pF (sp:=λ_=>sp) S a (λ_=>h) b
end
theorem PE.or{X:Cx}{e:Expr}{t t':TE}(h:PE X e t)(h':PE X e t'):PE X e (λσ H Q=>t σ H Q\/t' σ H Q):=λa s σ H Q I q=>q.elim (h a s σ H Q I) (h' a s σ H Q I)
def pM(d:LamD)(fv:List Str)(sp:List (Str×Addr)->List V->Sp):V->List V->Hp->VK->Prop:=λv vs H Q=>∃ f c clos vals,v=.ref f/\H f=some (.ext (hV f d clos c))/\H c=some (.ext (eX c d.qual))/\clos.map (·.1)=fv/\(clos.map (·.2)).Nodup/\CellsAt H clos vals/\sp clos vals vs H Q λ_ _ _=>False
def vL(d:LamD)(fv:List Str)(sp:List V->Sp):V->List V->Hp->VK->Prop:=pM d fv λ_=>sp
def xN(d:LamD)(fv:List Str)(sp:List V->Sp)(tf:TE)(t:TA):TE:=λσ H Q=>tf σ H λv H1=>(∃ f d' clos c,v=.ref f/\H1 f=some (.ext (hV f d' clos c)))/\t σ H1 λvs H2=>(∀ f d' clos c,v=.ref f->H1 f=some (.ext (hV f d' clos c))->H2 f=some (.ext (hV f d' clos c)))/\vL d fv sp v vs H2 Q
section
variable {X:Cx}{d:LamD}{fv ps:List Str}{k:Nat}{sp:List V->Sp}{x:Str}{p pos:Pos}{tf:TE}{t:TA}{e:Expr}{es:List Expr}
theorem pP{sp:List (Str×Addr)->List V->Sp}{a:List (Addr×Obj)}{σ:St}{H:Hp}{s:Shared}{Q:VK}{us:List Value}{vs:List V}{v:V}{u:Value}(L:LamOkC X.prog X.w X.K X.mg X.base k d fv ps sp)(q:Room k X.A)(I:Inv X a σ H s)(x:RelV v u)(r:Vals vs us)(h:pM d fv sp v vs H Q) :
  wpAny (model X.prog X.w) X.A (call u us) (EP X a σ Q) X.xe s:=by
 obtain⟨f,c,i,g,rfl,p,w,n,l,j,o⟩:=h;obtain rfl:u=Value.ref f:=x;refine wpAny_call (codeAny_mono (L X.A X.stack s H f c i us vs g Q _ q I.env0 p w n l j r o) λr y b=>?_);cases r with
 | error e=>exact False.elim b
 | ok fl =>
  cases fl with
  | ret u=>exact I.after b
  | next=>exact False.elim b
  | brk=>exact False.elim b
  | cont=>exact False.elim b
theorem mn{H:Hp}{s:Shared}{P:Program}{w:World}{f c:Addr}{d:LamD}{a:List (Str×Addr)}(b:HOk P w H s.heap)(h:H f=some (.ext (hV f d a c))):FnAt f s.heap:=by
 obtain⟨⟨j,i,g⟩,_,_⟩:=b f _ h;exact⟨_,_,_,_,g⟩
theorem gK(w:PE X (.Name x p) tf)(L:LamOk X.prog X.w X.K X.mg X.base k d fv ps sp)(z:Room k X.A)(y:PA X (e::es) t)
  (B:starEach (e::es) X.env=(false,eval e X.env)::starEach es X.env:=by rfl) (b:(backTo pos (starEach es X.env)).any (·.1)=false:=by rfl):PE X (.Call (.Name x p) (e::es) [] pos) (xN d fv sp tf t):=by
 intro a s n H Q I h;refine wpAny_Call_Name_kw (thn (w a s n H _ I h) λu C ⟨v,E,i,A,⟨f,F,o,c,D,j⟩,q⟩=>?_);subst D;obtain rfl:u=Value.ref f:=A;refine PySem.W.callWith_F (mn i.hok j) (thn (y pos a C n E _ i q) λK N ⟨G,M,l,r,g⟩=>⟨mn l.hok (g.1 _ _ _ _ rfl j),?_⟩) B b;exact pP L z l (v:=.ref f) rfl r g.2
theorem gy{sp:List (Str×Addr)->List V->Sp}(l:PE X (.Name x p) tf)(L:LamOkC X.prog X.w X.K X.mg X.base k d fv ps sp)(r:Room k X.A):PE X (.Call (.Name x p) [] [] pos) (λσ H Q=>tf σ H λv H1=>pM d fv sp v [] H1 Q):=by
 intro a s σ H Q I h;refine wpAny_Call_Name_kw (thn (l a s σ H _ I h) λu w ⟨v,H1,i,j,q⟩=>?_);obtain⟨f,c,b,g,n,o,_⟩:=id q;subst n;obtain rfl:u=Value.ref f:=j;exact PySem.W.callWith_F0 (mn i.hok o) (pP (us:=[]) L r i (v:=.ref f) rfl .nil q)
theorem fO(b:PE X (.Name x p) tf)(L:LamOk X.prog X.w X.K X.mg X.base k d fv ps sp)(a:Room k X.A):PE X (.Call (.Name x p) [] [] pos) (λσ H Q=>tf σ H λv H1=>vL d fv sp v [] H1 Q):=gy b L a
end
abbrev TR:=VK->(V->St->Hp->Prop)->St->Hp->Prop
def PR(X:Cx)(sts:List Stmt)(t:TR):Prop :=
 ∀(pins:List (Addr×Obj)) (s:Shared) (σ:St) (H:Hp) (R:VK) (Z:V->St->Hp->Prop),Inv X pins σ H s->t R Z σ H ->
  wpAny (model X.prog X.w) X.A (execs sts X.env) (λf s'=>∃ u,f=.ret u/\((∃ v σ' H',Inv X pins σ' H' s'/\RelV v u/\(R v H'\/Z v σ' H'))\/∃ v H',s'.os=X.s₀.os/\AllBare s'.gens/\Un X.fs X.ex X.H₀ H' X.s₀.heap s'.heap/\HOk X.prog X.w H' s'.heap/\RelV v u/\R v H')) X.xe s
section
variable {X:Cx}{e:Expr}{te:TE}{pos:Pos}{st:Stmt}{rest:List Stmt}{t:TS}{u:TR}
theorem uv(c:PE X e te):PR X [.Return (some e) pos] (λ_ Z σ H=>te σ H λv H'=>Z v σ H'):=by
 intro a s σ H R Z I h;refine wpAny_execs_cons (wpAny_Return_some (thn (c a s σ H _ I h) λv i ⟨x,b,g,d,f⟩=>?_));exact⟨v,rfl,.inl ⟨x,σ,b,g,d,.inr f⟩⟩
theorem kY(g:PS X st t)(h2:PR X rest u):PR X (st::rest) (λR Z σ H=>t { nx:=u R Z,rt:=R } σ H):=by
 intro a s σ H R Z I h;refine wpAny_execs_cons (thn (g a s σ H { nx:=u R Z,rt:=R } I h) λf i q=>?_);cases f with
 | next =>
  obtain⟨b,c,d,q⟩:=q;exact h2 a i b c R Z d q
 | ret v =>
  obtain⟨j,b,c,d,r,q⟩:=q;exact⟨v,rfl,.inl ⟨j,b,c,d,r,.inl q⟩⟩
 | brk=>obtain⟨_,_,_,q⟩:=q;exact False.elim q
 | cont=>obtain⟨_,_,_,q⟩:=q;exact False.elim q
end
def i9(cells:List (Str×Addr))(N:List Str)(σ:St)(H3:Hp):Prop:=∀(i:Nat) (y:Str) (v:V) (c:Addr),N[i]? = some y->σ[i]? = some (some v)->cells.lookup y=some c->H3 c=some (.ext (dC c v))
theorem hZ{y:Str}{c:Addr}:∀(names:List (Str×NameKind)) (n:Nat) (acc:List (Str×Addr)),(y,c)∈cellsFrom n names acc->(y,c)∈acc\/(y,NameKind.cell)∈names
 | [],n,acc,h=>.inl h
 | (x,k)::r,n,acc,h=>by
  unfold cellsFrom at h
  split at h
  .rename_i hk
   rcases hZ r (n+1) ((x,n)::acc) h with z | z
   .rcases mem_cons.mp z with e | z
    .cases e
     rw[eq_of_beq hk];exact .inr (mem_cons_self ..)
    .exact .inl z
   .exact .inr (mem_cons_of_mem _ z)
  .rcases hZ r n acc h with z | z
   .exact .inl z
   .exact .inr (mem_cons_of_mem _ z)
section
variable {P:Program}{w:World}{K:Frag}{mg:Str->Option Value}{base:Heap}
theorem uP{CX:CXT}{N:List Str}{C:Str}{scope:Scope}{f:Addr}{Z:Value}{A:Around}{a:List Env}{s s':Shared}{H B:Hp}{E:XK}{σ:St}(hN:N.Nodup)(T:∀ p∈scope.names,p.2=.cell->scope.names.lookup p.1=some .cell)
  {L:List (Addr×Obj)}(J:Inv (dM CX P w K mg base N C scope f Z A a s H E) L σ B s') :
  ∃ H3,Same B H3/\i9 (cellsFrom (s.heap.objs.size+1) scope.names []) N σ H3/\(∀ b,B b=none->H3 b≠none->∃ y,(cellsFrom (s.heap.objs.size+1) scope.names []).lookup y=some b)/\Un (frs a) [] H H3 s.heap s'.heap/\HOk P w H3 s'.heap:=by
 have x:∀ y c,(cellsFrom (s.heap.objs.size+1) scope.names []).lookup y=some c->scope.names.lookup y=some .cell:=λy c e=>by
  rcases hZ _ _ _ (cF e) with z | z
  .cases z
  .exact T _ z rfl
 obtain⟨cells,hcells⟩:∃ l,l=cellsFrom (s.heap.objs.size+1) scope.names []:=⟨_,rfl⟩
 rw[<- hcells]at x ⊢;have d:(dM CX P w K mg base N C scope f Z A a s H E).env.cells=cells:=hcells.symm
 let G:Addr->V->Prop:=λb v=>∃(i:Nat) (y:Str),N[i]? = some y/\σ[i]? = some (some v)/\cells.lookup y=some b
 have G1:∀ b v S,G b v->G b S->v=S:=by
  rintro b v S ⟨i,y,O,M,g⟩ ⟨j,z,b1,X,b3⟩;have:y=z:=J.ok.inj y z b (by rw[d];exact g) (by rw[d];exact b3);subst this;have:i=j:=jI hN O b1;subst this;rw[M]at X;cases X;rfl
 have W:∀ b v,G b v->B b=none/\s.heap.objs.size<=b/\dC b v s'.heap:=by
  rintro b v ⟨i,y,O,M,g⟩;refine⟨J.freeC y b (by rw[d];exact g),J.ok.cab y b rfl (by rw[d];exact g),?_⟩;obtain⟨m,hn,hl⟩:=J.loc;obtain⟨u,r,l⟩:=hl i y v O M (.inr (.inl (x y b g)))
  rcases l with⟨k,_⟩ | ⟨k,c,e,o,ho,hd⟩
  .exfalso
   have k:scope.names.lookup y = some .local:=k;rw[x y b g]at k;cases k
  .have e:cells.lookup y=some c:=by rw[<- d];exact e
   rw[g]at e;cases e;exact⟨o,u,ho,hd,r⟩
 classical
 let H3:Hp:=λb=>if h:∃ v,G b v then some (.ext (dC b (Classical.choose h))) else B b
 have g1:∀ b v,G b v->H3 b=some (.ext (dC b v)):=λb v h=>by
  have R:∃ v,G b v:=⟨v,h⟩
  show(if h:∃ v,G b v then some (.ext (dC b (Classical.choose h))) else B b)=_;rw[dif_pos R,G1 b _ v (Classical.choose_spec R) h]
 have Q:∀ b,(¬∃ v,G b v)->H3 b=B b:=λb h=>dif_neg h
 have F:Same B H3:=λb o e=>by
  rw[Q b λ⟨v,z⟩=>by rw[(W b v z).1]at e;cases e];exact e
 have D:Un (frs a) [] H B s.heap s'.heap:=J.base;refine⟨H3,F,λi y v c O M g=>g1 c v ⟨i,y,O,M,g⟩,(λb n1 n2=>?_),⟨D.keep,D.slot,λb o e n R=>?_,D.there,λb xs e=>F _ _ (D.tups b xs e),λb o u e=>F _ _ (D.frzs b o u e),λb ps e=>?_⟩,λb o e=>?_⟩
 .by_cases h:∃ v,G b v
  .obtain⟨v,i,y,_,_,g⟩:=h
   exact⟨y,g⟩
  .rw[Q b h]at n2
   exact absurd n1 n2
 .rw[Q b λ⟨v,z⟩=>absurd (Nat.lt_of_lt_of_le (Heap.lt_size e) (W b v z).2.1) (Nat.lt_irrefl _)]
  exact D.free b o e n R
 .obtain⟨I,z⟩:=D.tbls b ps e
  exact⟨I,F _ _ z⟩
 .by_cases h:∃ v,G b v
  .obtain⟨v,h⟩:=h
   rw[g1 b v h]at e;cases e;exact m6 (W b v h).2.2
  .rw[Q b h]at e
   exact(J.hok b o e).stay (λY u' _ q=>q) (λY q=>F _ _ q) λY xs q=>F _ _ q
theorem qm{N:List Str}{c:Str}{scope:Scope}{f:Addr}{j:Value}{A:Around}{a:List Env}{s:Shared}{H:Hp}{E:XK}{k:Nat}{g:Addr}{fd:FuncData}{ps:List Str}{sp:Sp}{ds:List Value}{C:List V}{x:Str}{p L rp:Pos}{e:Expr}{W:List Expr}{t:TA}
  (hN:N.Nodup) (a1:∀ p∈scope.names,p.2=.cell->scope.names.lookup p.1=some .cell)
  (F:FnOk P w K mg base CX0 k g fd ps sp) (hr:Room k (dM CX0 P w K mg base N c scope f j A a s H E).nox.A) (hg:Gl (dM CX0 P w K mg base N c scope f j A a s H E).nox x) (hm:mg x=some (.ref g)) (hk:keepIn K (.ref g)=true) (l:Binds K fd ps ds) (hd:Vals C ds)
  (ha:PA (dM CX0 P w K mg base N c scope f j A a s H E).nox (e::W) t) (al:(x == ("__debug__" : Str))=false:=by decide)
  (he:starEach (e::W) (dM CX0 P w K mg base N c scope f j A a s H E).nox.env=(false,eval e (dM CX0 P w K mg base N c scope f j A a s H E).nox.env)::starEach W (dM CX0 P w K mg base N c scope f j A a s H E).nox.env:=by rfl)
  (as:(backTo L (starEach W (dM CX0 P w K mg base N c scope f j A a s H E).nox.env)).any (·.1)=false:=by rfl) :
  PR (dM CX0 P w K mg base N c scope f j A a s H E).nox [.Return (some (.Call (.Name x p) (e::W) [] L)) rp]
   (λR _ σ H'=>t σ H' λvs H1=>∀ H3,Same H1 H3->i9 (cellsFrom (s.heap.objs.size+1) scope.names []) N σ H3->sp (vs++C) H3 R λ_ _ _=>False):=by
 intro D s1 σ H1 R Z I h;refine wpAny_execs_cons (wpAny_Return_some ?_);refine wpAny_Call_Name_kw (dW I hg hm ?_ al);refine callWith_K (h₀:=base) I.ok.mod.kin hk (thn (ha L D s1 σ H1 _ I h) λQ s2 ⟨vs,H2,I2,r,q⟩=>⟨I2.kIn,?_⟩) he as;have J:Inv (dM CX0 P w K mg base N c scope f j A a s H E) D σ H2 s2:=I2.unwish;obtain⟨H3,sm,hc,M,B,a2⟩:=uP hN a1 J;have r2:Vals (vs++C) (Q++ds):=r.append hd;have q':=q H3 sm hc;have hl:(Q++ds).length=ps.length:=by rw[<- r2.length];exact F.len _ _ _ _ q'
 have hL:∀ b∈frs (envOfC c scope s.heap.objs.size f j::a),b=s.heap.objs.size\/b∈frs a:=λb l=>by
  have:b∈s.heap.objs.size::frs a:=l;exact mem_cons.mp this
 have e0:Env0 P w K mg base (dM CX0 P w K mg base N c scope f j A a s H E).A (envOfC c scope s.heap.objs.size f j::a) s2 H3:=by
  have z:=J.env0;refine⟨z.frames,z.mod,λb o e=>⟨(z.bs b o e).1,B.free b o (J.ok.bs b o e).1 (J.ok.bs b o e).2 (by simp)⟩,z.bsz,z.funs,λb l=>?_,a2,z.bare⟩;cases q3:H3 b with
  | none=>rfl
  | some o =>
   obtain⟨y,hy⟩:=M b (z.frf b l) (by rw[q3];simp)
   rcases hL b l with rfl | hb'
   .exact absurd rfl (J.cne y _ hy)
   .obtain⟨_,Y,a0,_⟩:=J.ok.funs.mem hb'
    have:=J.ok.cab y b rfl hy;exact absurd (Nat.lt_of_lt_of_le (Heap.lt_size a0) this) (Nat.lt_irrefl _)
 refine wpAny_call (codeAny_mono (F.run _ _ s2 H3 ⟨Q,[]⟩ (Q++ds) (vs++C) R _ hr e0 (l s2 Q J.kIn hl) r2 q') λrr s' T=>?_);cases rr with
 | error e=>exact False.elim T
 | ok fl =>
  cases fl with
  | ret u =>
   obtain⟨v,H4,os,S,d,X,rv,qq⟩:=T
   have O:∀ b o,s.heap.get? b=some o->b ∉ frs a->b ∉ frs (envOfC c scope s.heap.objs.size f j::a):=λb o e n z=>by
    rcases hL b z with rfl | z
    .exact absurd (Heap.lt_size e) (Nat.lt_irrefl _)
    .exact n z
   have ab:∀ b,b∈frs a->b∈frs (envOfC c scope s.heap.objs.size f j::a):=λb z=>by
    show b∈s.heap.objs.size::frs a;exact mem_cons_of_mem _ z
   refine⟨u,rfl,.inr ⟨v,H4,os.trans J.os,S,⟨λb o e n l i=>d.keep b o (B.keep b o e n l i) (B.free b o e n i) (O b o e l) i,λb o e n l i=>?_,λb o e n i=>?_,λb o e i=>?_,λb xs e=>d.tups b xs (B.tups b xs e),λb o u e=>d.frzs b o u (B.frzs b o u e),λb qs e=>?_⟩,X,rv,qq⟩⟩
   .obtain⟨sl,G⟩:=B.slot b o e n l i
    obtain⟨an,e2⟩:=d.slot b _ G (B.free b o e n i) (ab b l) i;exact⟨an,e2⟩
   .obtain⟨Y,G⟩:=B.there b o e i
    exact d.free b Y G (B.free b o e n i) i
   .obtain⟨Y,G⟩:=B.there b o e i
    exact d.there b Y G i
   .obtain⟨m1,G⟩:=B.tbls b qs e
    obtain⟨m2,e2⟩:=d.tbls b _ G;exact⟨m1++m2,by rw[e2,Array.append_assoc]⟩
  | next=>exact False.elim T
  | brk=>exact False.elim T
  | cont=>exact False.elim T
theorem Fun.okL{x a:Str}{d:Stmt}{f c:Addr}{C:FuncData}{N ps:List Str}{k:Nat}{sp:Sp}(F:Fun K x a d f C)(hc:C.code=.ref c)(S:FnScope N ps (ac d))(G:∀ p∈(ac d).names,p.2=.cell->(ac d).names.lookup p.1=some .cell)
  (l:∀ vs H Q E,sp vs H Q E->vs.length=ps.length)
  (g:∀(A:Around) (outer:List Env) (s:Shared) (H:Hp) (vs:List V) (Q:VK) (E:XK),Room k (A.deeper (envOfC a (ac d) s.heap.objs.size f (.ref c)))->sp vs H Q E ->
   ∃ t,PR (dM CX0 P w K mg base N a (ac d) f (.ref c) A outer s H E).nox (ai d) t/\t Q (λv σ H'=>∀ H3,Same H' H3->i9 (cellsFrom (s.heap.objs.size+1) (ac d).names []) N σ H3->Q v H3) (start N vs) H):FnOk P w K mg base CX0 (k+1) f C ps sp:=by
 obtain⟨oc,od,kV,a0,pm,an,B,ct,as,rfl,lk,O⟩:=F.ex;obtain rfl:B=.ref c:=hc;refine⟨l,λA outer s H R us vs Q E D j X r i=>?_⟩;have hl:=l _ _ _ _ i;have T:K.In s.heap:=j.mod.kin.keeps λb o e=>(j.bs b o e).1
 have L:s.heap.NoLimit:=j.mod.nolimit.keeps λb o e=>(j.bs b o e).1
 have h:∀ y ∈ ps.zip us,(ac d).names.lookup y.1 = some .local\/((ac d).names.lookup y.1 = some .cell/\((cellsFrom (s.heap.objs.size + 1) (ac d).names []).lookup y.1).isSome = true):=λ⟨n,v⟩ hy=>by
  rcases S.par n (of_mem_zip hy).1 with q | q
  .exact .inl q
  .exact .inr ⟨q,cellsFrom_some _ _ _ (.inl q)⟩
 refine codeAny_call_function D.depth (T _ _ lk) rfl S.co S.gen rfl (codeRec_of T O) (X _ _ _ _ ?_);refine wpAny_newFunctionEnv_cells S.kind h λal he W x=>?_
 subst he;refine⟨L.keeps x.toInCall.keep,codeAny_func ?_⟩;obtain⟨t,Z,hq⟩:=g A outer s H vs Q E (D.deeper _) i;have I:Inv (dM CX0 P w K mg base N a (ac d) f (.ref c) A outer s H E) [] (start N vs) H W:=hX S D.hd j hl r x;refine wpAny_mono (Z [] W (start N vs) H Q _ (I.wish _) hq) (λfl s' M=>?_) λe s' M=>False.elim M
 obtain⟨u,rfl,⟨v,ab,H',J,z,q⟩ | ⟨v,H',g1,g2,Y,g4,z,q⟩⟩:=M
 .have J:=J.unwish
  rcases q with q | q
  .exact⟨v,H',J.os,J.bare,J.base,J.hok,z,q⟩
  .obtain⟨H3,h1,h2,_,h3,h4⟩:=uP S.nd G J
   exact⟨v,H3,J.os,J.bare,h3,h4,z,q H3 h1 h2⟩
 .exact⟨v,H',g1,g2,Y,g4,z,q⟩
theorem Fun.okF{x a:Str}{d:Stmt}{f c:Addr}{C:FuncData}{N ps:List Str}{k:Nat}{sp:Sp}(F:Fun K x a d f C)(hc:C.code=.ref c)(S:FnScope N ps (ac d))(G:∀ p∈(ac d).names,p.2=.cell->(ac d).names.lookup p.1=some .cell)
  (l:∀ vs H Q E,sp vs H Q E->vs.length=ps.length)
  (g:∀(A:Around) (outer:List Env) (s:Shared) (H:Hp) (vs:List V) (Q:VK) (E:XK),Room k (A.deeper (envOfC a (ac d) s.heap.objs.size f (.ref c)))->sp vs H Q E ->
   ∃ t,PR (dM CX0 P w K mg base N a (ac d) f (.ref c) A outer s H E).nox (ai d) t/\t Q (λv σ H'=>∀ H3,Same H' H3->i9 (cellsFrom (s.heap.objs.size+1) (ac d).names []) N σ H3->(∀ y b,(cellsFrom (s.heap.objs.size+1) (ac d).names []).lookup y=some b->H' b=none)->Q v H3) (start N vs) H):FnOk P w K mg base CX0 (k+1) f C ps sp:=by
 obtain⟨oc,od,kV,a0,pm,an,B,ct,as,rfl,lk,O⟩:=F.ex;obtain rfl:B=.ref c:=hc;refine⟨l,λA outer s H R us vs Q E D j X r i=>?_⟩;have hl:=l _ _ _ _ i;have T:K.In s.heap:=j.mod.kin.keeps λb o e=>(j.bs b o e).1
 have L:s.heap.NoLimit:=j.mod.nolimit.keeps λb o e=>(j.bs b o e).1
 have h:∀ y ∈ ps.zip us,(ac d).names.lookup y.1 = some .local\/((ac d).names.lookup y.1 = some .cell/\((cellsFrom (s.heap.objs.size + 1) (ac d).names []).lookup y.1).isSome = true):=λ⟨n,v⟩ hy=>by
  rcases S.par n (of_mem_zip hy).1 with q | q
  .exact .inl q
  .exact .inr ⟨q,cellsFrom_some _ _ _ (.inl q)⟩
 refine codeAny_call_function D.depth (T _ _ lk) rfl S.co S.gen rfl (codeRec_of T O) (X _ _ _ _ ?_);refine wpAny_newFunctionEnv_cells S.kind h λal he W x=>?_
 subst he;refine⟨L.keeps x.toInCall.keep,codeAny_func ?_⟩;obtain⟨t,Z,hq⟩:=g A outer s H vs Q E (D.deeper _) i;have I:Inv (dM CX0 P w K mg base N a (ac d) f (.ref c) A outer s H E) [] (start N vs) H W:=hX S D.hd j hl r x;refine wpAny_mono (Z [] W (start N vs) H Q _ (I.wish _) hq) (λfl s' M=>?_) λe s' M=>False.elim M
 obtain⟨u,rfl,⟨v,ab,H',J,z,q⟩ | ⟨v,H',g1,g2,Y,g4,z,q⟩⟩:=M
 .have J:=J.unwish
  rcases q with q | q
  .exact⟨v,H',J.os,J.bare,J.base,J.hok,z,q⟩
  .obtain⟨H3,h1,h2,_,h3,h4⟩:=uP S.nd G J
   exact⟨v,H3,J.os,J.bare,h3,h4,z,q H3 h1 h2 λy b e=>J.freeC y b e⟩
 .exact⟨v,H',g1,g2,Y,g4,z,q⟩
end
theorem rS{P:Program}{w:World}{K:Frag}{mg mb:Str->Option Value}{CX:CXT}{k:Nat}{fa a:Addr}{fd:FuncData}{x:Str}{sp:Sp}{f:Shared}{vs:List Value}{S:List Int}{p:List Addr}
  (KX:K.In f.heap) (I:f.heap.Ns mainGlobals mg) (g:f.heap.Ns builtinsNs mb) (al:∀ x:Str,x ≠ "__name__" -> mb x=bootBuiltins x) (Q:f.heap.NoLimit) (hg:f.gens = #[])
  (G:f.heap.get? a=some { cls:=.type "list",data:=.seq vs.toArray }) (hi:IntsAre vs S) (hl:S.length<=sizeLine) (hr:Room k callerA) (a0:Bm mg f.heap)
  (j:∀ P∈p,f.heap.get? P=some (tabObj #[])) (as:∀ P∈p,∃ c,codeHdIn K c P=true) (a3:∀ P∈p,K.lookup P=none)
  (F:∀ base:Heap,K.In base->base.Ns mainGlobals mg->Bm mg base->FnOk P w K mg base CX k fa fd [x] sp) (E:∀(s:Shared) (u:Value),BindsTo s fd ⟨[u],[]⟩ [(x,u)])
  (ab:∀ H:Hp,(∀ P∈p,H P=some (.tbl #[]))->SqL K H a (S.map V.int)->sp [.ref a] H (λv _=>v=.bl true) λ_ _ _=>False)
  (a4:∀ H e s',CX [] H f (λ_ _ _=>False) e s'->False) :
  codeAny (model P w) callerA (.call (.ref fa) ⟨[.ref a],[]⟩) (λr s'=>r=.ok (.ret (.bool true))/\OldK f.heap s'.heap/\s'.os=f.os/\AllBare s'.gens) f:=by
 have rv:=iy hi;have L:=hi.length;have M:a ∉ p:=λz=>by have:=j a z;rw[G]at this;cases this
 have D:∀ H:Hp,(∀ P∈p,H P=some (.tbl #[]))->SqL K H a (S.map V.int)->HOk P w H f.heap->(∀ b u,H b=some u->(b=a/\∃ o xs,u=.frz o (.lst xs))\/(b∈p/\u=.tbl #[]))->(H a≠none->K.lookup a=none) ->
   codeAny (model P w) callerA (.call (.ref fa) ⟨[.ref a],[]⟩) (λr s'=>r=.ok (.ret (.bool true))/\OldK f.heap s'.heap/\s'.os=f.os/\AllBare s'.gens) f:=by
  intro H hT hS X hA hK;have l:∀{b:Addr}{o:Obj},f.heap.get? b=some o->H b=none->(j5 f.heap H).get? b=some o:=λe n=>uQ e n
  have a1:∀{b:Addr}{o:Obj},f.heap.get? b=some o->o.cls≠.none->(∀ Y n,o.data≠.seq Y n)->H b=none:=λ{b o} e d1 d2=>by
   cases q:H b with
   | none=>rfl
   | some u =>
    rcases hA b u q with⟨rfl,_⟩ | ⟨g,_⟩
    .rw[G]at e;cases e;exact(d2 _ _ rfl).elim
    .rw[j b g]at e;cases e;exact(d1 rfl).elim
  have a2:∀{b:Addr}{o:Obj}{R:Array DictEntry}{W:Nat},f.heap.get? b=some o->o.data=.dict R W->H b=none:=λ{b o R W} e d=>by
   cases q:H b with
   | none=>rfl
   | some u =>
    rcases hA b u q with⟨rfl,_⟩ | ⟨g,_⟩
    .rw[G]at e;cases e
     have d':Data.seq vs.toArray _=Data.dict R W:=d;cases d'
    .rw[j b g]at e;cases e;cases d
  have y:∀{b:Addr}{m:Str->Option Value},f.heap.Ns b m->(j5 f.heap H).Ns b m:=λ{b m} ⟨o,R,W,e,d,r⟩=>⟨o,R,W,l e (a2 e d),d,r⟩
  have O:K.In (j5 f.heap H):=λb o e=>l (KX b o e) (by
   cases q:H b with
   | none=>rfl
   | some u =>
    rcases hA b u q with⟨rfl,_⟩ | ⟨g,_⟩
    .rw[hK (by rw[q];simp)]at e;cases e
    .rw[a3 b g]at e;cases e)
  have hM:Mod K mg (j5 f.heap H):=⟨O,y I,⟨mb,y g,al⟩,let ⟨mc,h1,h2⟩:=Q;⟨mc,y h1,h2⟩⟩
  have hB:Bm mg (j5 f.heap H):=by
   obtain⟨bm,ob,b1,b2,b3,b4,b5⟩:=a0;exact⟨bm,ob,b1,l b2 (a1 b2 (by rw[b3];simp) (λY n=>by rw[b5];intro z;cases z)),b3,b4,b5⟩
  have e0:Env0 P w K mg (j5 f.heap H) callerA [] f H:=⟨rfl,hM,λb o e=>wz e,Nat.le_of_eq (rG _ _),trivial,λb g=>absurd (show b∈([]:List Addr) from g) (by simp),X,.of_eq hg⟩
  refine codeAny_mono ((F _ O (y I) hB).run callerA [] f H ⟨[.ref a],[]⟩ [.ref a] [.ref a] _ _ hr e0 (E f (.ref a)) (.cons rfl .nil) (ab H hT hS)) λr s' h=>?_
  cases r with
  | error e=>exact(a4 H e s' h).elim
  | ok fl =>
   cases fl with
   | next=>exact False.elim h
   | brk=>exact False.elim h
   | cont=>exact False.elim h
   | ret u =>
    obtain⟨v,H',os,N,Z,A,r',q⟩:=h;have q':v=.bl true:=q;subst q';obtain rfl:u=Value.bool true:=r';refine⟨rfl,⟨λb o e=>?_,λb o e=>Z.there b o e (by simp)⟩,os,N⟩;cases q:H b with
    | none=>exact .inl (Z.keep b o e q (by intro z;exact absurd (show b∈([]:List Addr) from z) (by simp)) (by simp))
    | some u =>
     rcases hA b u q with⟨_,ob,xs,rfl⟩ | ⟨g,rfl⟩
     .have z2:=Z.frzs b ob _ q
      obtain⟨e1,_⟩:=X b _ q;obtain⟨e2,_⟩:=A b _ z2;rw[e]at e1;cases e1;exact .inl e2
     .obtain⟨c,hc⟩:=as b g
      have C:=codeHd_of_K KX hc;obtain⟨B,z⟩:=Z.tbls b _ q;have z2:s'.heap.get? b=some (tabObj (#[]++B)):=A b _ z;rw[j b g]at e;cases e;exact .inr (.inl ⟨(C.tab (j b g)).isCodeTable,rfl,#[],B,rfl,z2⟩)
 let T:Hp:=λb=>if b∈p then some (.tbl #[]) else none
 cases hk:K.lookup a with
 | some o =>
  have e:=KX a o hk;rw[G]at e;cases e;refine D T (λP hP=>if_pos hP) (.inr ⟨_,vs.toArray,_,hk,rfl,rfl,rfl,by rw[size_toArray,L];exact hl,by simpa using rv⟩) (λb u z=>?_) (λb u z=>?_) λz=>absurd (if_neg M) z
  .by_cases g:b∈p
   .have i:=(if_pos g).symm.trans z
    cases i;exact j b g
   .have i:=(if_neg g).symm.trans z
    cases i
  .by_cases g:b∈p
   .have i:=(if_pos g).symm.trans z
    cases i;exact .inr ⟨g,rfl⟩
   .have i:=(if_neg g).symm.trans z
    cases i
 | none =>
  refine D (λb=>if b=a then some (.frz { cls:=.type "list",data:=.seq vs.toArray } (.lst (S.map V.int))) else T b) (λP hP=>?_) (.inl (.inr ⟨{ cls:=.type "list",data:=.seq vs.toArray },if_pos rfl⟩)) (λb u z=>?_) (λb u z=>?_) λ_=>hk
  .have an:P≠a:=λz=>M (by rw[<- z];exact hP)
   exact(if_neg an).trans (if_pos hP)
  .by_cases g:b=a
   .have i:=(if_pos g).symm.trans z
    cases i;subst g;exact⟨G,by rw[length_map];exact hl,vs,_,rv,G⟩
   .have i:=(if_neg g).symm.trans z
    by_cases g:b∈p
    .have i:=(if_pos g).symm.trans i
     cases i;exact j b g
    .have i:=(if_neg g).symm.trans i
     cases i
  .by_cases g:b=a
   .have i:=(if_pos g).symm.trans z
    cases i;exact .inl ⟨g,_,_,rfl⟩
   .have i:=(if_neg g).symm.trans z
    by_cases g:b∈p
    .have i:=(if_pos g).symm.trans i
     cases i;exact .inr ⟨g,rfl⟩
    .have i:=(if_neg g).symm.trans i
     cases i
theorem walk_ofT{l:PySem.W.OpenLaw}{n k:Nat}{q:Program}{j:List Str}{XP:(Str->Option Value)->Heap->Prop}{M:World->Heap->Prop}{d:DefRec}{K:Params->Frag}{CX:CXT}{sp:Frag->List Addr->Sp}{x:Str}{g:List Addr}
  (Q:l.most=some n) (E:n<=sizeLine) (A:d.params.defaults=[]) (R:Room k callerA)
  (hY:∀(w:World) (h:Heap),M w h->(K w.params).In h/\∀ P∈g,h.get? P=some (tabObj #[]))
  (F:∀(ts':List Addr),ts'=g->∀(w:World) (mg:Str->Option Value) (fa:Addr) (h:Heap),(K w.params).In h->h.Ns mainGlobals mg->mg d.name=some (.ref fa) ->
   ∃ fd:FuncData,(∀(s:Shared) (u:Value),BindsTo s fd ⟨[u],[]⟩ [(x,u)])/\(∀ P∈g,∃ c,codeHdIn (K w.params) c P=true)/\(∀ P∈g,(K w.params).lookup P=none) /\
    ∀ base:Heap,(K w.params).In base->base.Ns mainGlobals mg->Bm mg base->FnOk l.prog w (K w.params) mg base CX k fa fd [x] (sp (K w.params) g))
  (y:∀(K:Frag) (H:Hp) (a:Addr) (ns:List Int),ns.length<=n->(∀ P∈g,H P=some (.tbl #[]))->SqL K H a (ns.map V.int)->sp K g [.ref a] H (λv _=>v=.bl true) λ_ _ _=>False)
  (I:∀(H:Hp) (s:Shared) (e:Value) (s':Shared),CX [] H s (λ_ _ _=>False) e s'->False) :
  PySem.W.WalkO q j XP M l.row.toRowW d [] (λf vs=>PySem.call f vs):=by
 refine Att.attach_call Q A λw N i mg mb fa o pm cd Z a vs ns G Y ho hd ab z r p b T=>?_
 obtain⟨L,X⟩:=hY w _ Y;obtain⟨fd,O,B,D,W⟩:=F g rfl w mg fa _ L G.T.g z;have C:Bm mg i.heap:=let ⟨bm,ob,b1,_,b3,b4,b5,b6⟩:=G.T.bmain;⟨bm,ob,b1,b3,b4,b5,b6⟩;exact rS L G.T.g G.T.b G.T.builtins G.T.nolimit T r p (Nat.le_trans b E) R C X B D W O (λH hO S=>y (K w.params) H a ns b hO S) λH e s'=>I H i e s'
end L2
namespace FrM
def m8(t b:Int):Int×Int:=(t/(Int.gcd t b:Int),b/(Int.gcd t b:Int))
end FrM
namespace L2
open PySem PySem.Spec PyProof.Rows
def ml:List V->List Value->Bool
 | [],[]=>true
 | .int i::xs,.int j _::us=>decide (i=j) && ml xs us
 | _,_=>false
theorem iH:∀{xs:List V}{us:List Value},ml xs us=true->Vals xs us
 | [],[],_=>.nil
 | .int i::xs,.int j t::us,h=>by
  have h:(decide (i=j) && ml xs us)=true:=h;rw[Bool.and_eq_true]at h;have e:=of_decide_eq_true h.1;exact .cons ⟨t,by rw[e]⟩ (iH h.2)
def uw(K:Frag)(a:Addr)(xs:List V):Bool :=
 match K.lookup a with
 | some o =>
  (match o.cls with
  | .type t=>t == "tuple"
  | _=>false) &&
  (match o.data with
  | .seq its _=>decide (its.size<=1000) && ml xs its.toList
  | _=>false)
 | none=>false
theorem xP{K:Frag}{H:Hp}{a:Addr}{xs:List V}(h:uw K a xs=true):SqT K H a xs:=by
 unfold uw at h
 split at h
 .rename_i o e
  rw[Bool.and_eq_true]at h;obtain⟨c,b⟩:=h
  split at c
  .rename_i t ec
   split at b
   .rename_i its n ed
    rw[Bool.and_eq_true]at b;refine .inr ⟨o,its,n,e,by rw[ec,beq_iff_eq.mp c],ed,?_,iH b.2⟩;have:=of_decide_eq_true b.1;have:sizeLine=16777216:=sizeLine_eq;lia
   .cases b
  .cases c
 .cases h
def TyS(K:Frag)(H:Hp)(x:V)(t:Value):Prop:=TyOf K H x t\/∃ a xs,x=.ref a/\t=.type "tuple" /\ SqT K H a xs
section
variable {X:Cx}
open PySem.W in
theorem AA{b:List (Addr×Obj)}{σ:St}{H:Hp}{s:Shared}{x:V}{u t:Value}(I:Inv X b σ H s)(d:RelV x u)(ty:TyS X.K H x t) :
  ∃ Hh:Heap->Prop,KitX X.K u t Hh/\Hh s.heap/\u≠.builtin "__main__.__loader__#opaque" := by
 rcases ty with ty | ⟨a,h,rfl,rfl,f⟩
 .exact ve I d ty
 .cases(show u=Value.ref a from d)
  obtain⟨g,j,p,i⟩:=I.tuple f;exact⟨_,kitx_tuple,let ⟨o,e,c,_⟩:=p;⟨o,e,c⟩,λz=>nomatch z⟩
theorem d4:bootBuiltins "sum" = some (.builtin "sum"):=by decide +kernel
theorem fk:∀{ns:List Int}{us:List Value},Vals (ns.map V.int) us->IntsAre us ns
 | [],_,.nil=>.nil
 | n::ns,_,.cons r t=>by
  obtain⟨a,rfl⟩:=r;exact .cons _ _ (fk t)
inductive rSumI(K:Frag)(xs:List V)(H:Hp)(Q:VK):Prop
 | mk(p:Addr)(ns:List Int)(h0:xs=[.ref p])(h1:SqL K H p (ns.map V.int))(h2:Q (.int ns.sum) H):rSumI K xs H Q
theorem ck(n:X.calm=true):CallR X (.builtin "sum") (rSumI X.K):=by
 intro d s z H xs y Q I r h;obtain⟨p,a,rfl,k,q⟩:=h;obtain⟨u,rfl,v⟩:=cV r;cases v;obtain⟨b,j,g,w⟩:=I.list k;have f:=fk j;obtain⟨xs,c⟩:=f.allInts.items;have i:(numsOf b)=a:=f.numsOf;refine sum_intListG (I.ok.hd n) (xs:=xs) (by rw[<- c];exact g.isList) λx B A l=>?_
 have o:preSum (numAt xs) xs.size=a.sum:=by
  rw[preSum_eq,take_of_length_le (by simp),<- i,<- nums_intItems,<- c]
 rw[o];exact⟨.int a.sum,H,I.kept l,⟨_,rfl⟩,q⟩
theorem gN(E:X.calm=true):CallR X (.type "list") (λxs H Q=>∃(p:Addr) (n:Nat),xs=[.ref p]/\n<=1000/\H p=some (.rng 0 (n:Int))/\∀ l,H l=none->Q (.ref l) (upd H l (.lst ((List.range n).map λ(i:Nat)=>V.int (i:Int))))):=by
 intro f s M H xs K Q I r h;obtain⟨p,n,rfl,F,e,q⟩:=h;obtain⟨u,rfl,j⟩:=cV r;cases j
 obtain⟨t,N,L,v⟩:=(show ObjOk X.prog X.w H s.heap p (.rng 0 (n:Int)) from I.hok p _ e)
 refine call_list_range (n:=n) (I.ok.hd E) v (small_one (by decide) (by decide) (by lia) (by lia)) (by rw[rangeSize_one];split <;> lia) (by lia) λG A b c D w k=>?_
 refine⟨.ref s.heap.objs.size,_,I.laid (t':=A) (o:=.lst ((List.range n).map λ(i:Nat)=>V.int (i:Int))) D (Nat.le_refl _) ?_,rfl,q _ (I.hok.fresh (Nat.le_refl _))⟩;obtain⟨z,y⟩:=k;refine⟨by rw[length_map,length_range,sizeLine_eq];lia,b.toList,c,lP (by rw[length_map,length_range];simpa using z.symm) λi x u a B=>?_,w⟩;rw[List.getElem?_map]at a
 have d:i<n:=by
  by_cases d:i<n
  .exact d
  .rw[List.getElem?_eq_none (by rw[length_range];lia)]at a
   cases a
 rw[List.getElem?_range d]at a;cases a;obtain⟨g,C⟩:=y i u (by simpa using B);refine(show ∃ t',u=Value.int (i:Int) t' from⟨g,?_⟩);rw[C]
 congr 1
 lia
end
def dE:Expr:=.Name "" ⟨0,0,0,0⟩
def uI(st:Stmt)(i:Nat):Stmt:=(ai st).getD i (.Pass ⟨0,0,0,0⟩)
def sA:Stmt->Expr
 | .Return (some e) _=>e
 | _=>dE
def vR:Expr->Nat->Expr
 | .Call _ es _ _,i=>es.getD i dE
 | _,_=>dE
def zq:Expr->Nat->Expr
 | .List es _,i=>es.getD i dE
 | _,_=>dE
def zI:Expr->Nat->Expr
 | .Tuple es _ _,i=>es.getD i dE
 | _,_=>dE
def mP(q:Str):Expr->LamD
 | .Lambda p b s _=>⟨q,p,b,s⟩
 | _=>⟨q,default,dE,default⟩
def va:Expr->Pos
 | .Lambda _ _ _ p=>p
 | _=>⟨0,0,0,0⟩
theorem fV:bootBuiltins "sorted" = some (.builtin "sorted"):=by decide +kernel
theorem eV:∀{us:List Value}{ns:List Int},IntsAre us ns->Vals (ns.map V.int) us
 | _,_,.nil=>.nil
 | _,_,.cons n t h=>.cons ⟨_,rfl⟩ (eV h)
theorem kQ{X:Cx}:CallR X (.builtin "sorted") (λxs H Q=>∃(p:Addr) (ns:List Int),xs=[.ref p]/\SqL X.K H p (ns.map V.int)/\ns.length<64/\∀ q (ns':List Int),ns'.Perm ns->ns'.Pairwise (·<=·)->H q=none->Q (.ref q) (upd H q (.lst (ns'.map V.int)))):=by
 intro i s E H xs D Q I r h;obtain⟨p,ns,rfl,y,F,q⟩:=h;obtain⟨u,rfl,B⟩:=cV r;cases B;obtain⟨d,k,l,C⟩:=I.list y;have A:=fk k;have g:d.length=ns.length:=by have:=k.length;rw[length_map]at this;exact this.symm
 refine sorted_ints l.isList A (by lia) λc ns' w j n=>?_
 obtain⟨e,x⟩:=sortedAll_at s.heap d c;have v:H (s.heap.objs.size+1)=none:=I.hok.fresh (Nat.le_succ _);have f:sizeLine=16777216:=sizeLine_eq;refine⟨.ref (s.heap.objs.size+1),_,I.laid (a:=s.heap.objs.size+1) (o:=.lst (ns'.map V.int)) (t':=s.toks) (λb u z=>sortedAll_old z) (Nat.le_succ _) ⟨?_,c.toList,e,eV w,?_⟩,rfl,q _ ns' j n v⟩
 .rw[length_map,j.length_eq];lia
 .rw[x,Array.toArray_toList]
theorem rB{K:Frag}{M:Model}{h:Heap}{C D x:Addr}{ob:Obj}(X:K.In h)(c:XHd K C)(f:h.get? x=some ob)(g:ob.cls=.ref D)(b:mroIn K D (.ref C)=some false) :
  PySem.W.Looks M h (excMatches (.ref x) (.ref C)) false:=by
 have l:PySem.W.Looks M h (typeOf (.ref C)) (.type "type"):=looks_typeIn X c.ty;have a:PySem.W.Looks M h (isSubtype (.type "type") (.type "tuple")) false:=PySem.W.Looks.of_pure tc_notTuple;have j:PySem.W.Looks M h (isInstance (.ref C) (.type "tuple")) false:=l.andThen a
 have d:PySem.W.Looks M h (isExcClass (.ref C)) true:=by
  unfold isExcClass;exact(ng X c.isc).andThen (looks_mroIn X c.mb)
 have n:PySem.W.Looks M h (typeOf (.ref x)) (.ref D):=g ▸ (PySem.W.Looks.ld f).andThen .now;have i:PySem.W.Looks M h (isSubtype (.ref D) (.ref C)) false:=looks_mroIn X b;intro A Q E s k q;unfold excMatches;refine wpAny_bind (j A _ E s k ?_);rw[if_neg Bool.false_ne_true];refine wpAny_bind (wpAny_pure ?_);simp only[forIn_cons,List.forIn_nil,bind_assoc,pure_bind];refine wpAny_bind (d A _ E s k ?_);simp only[Bool.not_true,Bool.false_eq_true,if_false,pure_bind];refine wpAny_bind (n A _ E s k ?_);refine wpAny_bind (i A _ E s k ?_);simp only[Bool.false_eq_true,if_false,pure_bind];exact wpAny_pure q
structure Lnd(X:Cx)(pins:List (Addr×Obj))(σ:St)(H:Hp)(s:Shared)(x D:Addr)(dct:Option Addr)(T:Addr)(H':Hp)(s':Shared)(T4:Addr)(h5:Heap):Prop where
 I:Inv X pins σ H s
 G:XG X.prog X.w X.stack H s x D dct T H' s'
 k:KeptBut ([T,x]++[T4]) (frs X.stack) s'.heap h5
 hxs:∀ b,b=T\/b=x\/b=T4->s.heap.get? b=none/\H' b=none/\b ∉ frs X.stack
 fx:Fx h5 x (.ref D) dct .none T4
abbrev TH:=Addr->Option Addr->Addr->Ends->St->Hp->Prop
def PH(X:Cx)(hs:List ExceptHandler)(th:TH):Prop :=
 ∀(pins:List (Addr×Obj)) (σ:St) (H:Hp) (s:Shared) (x D:Addr) (dct:Option Addr) (T:Addr) (H':Hp) (s':Shared) (T4:Addr) (h5:Heap) (DE:Ends),Lnd X pins σ H s x D dct T H' s' T4 h5->th D dct x DE σ (upd H' x (.ext (XCt x D dct))) ->
  wpAny (model X.prog X.w) X.A (handleBy (.ref x) X.env hs) (SP X pins DE) X.xe { s' with heap:=h5 }
theorem ou{X:Cx}:PH X [] (λ_ _ _ _ _ _=>False):=λ_ _ _ _ _ _ _ _ _ _ _ _ _ _ q=>False.elim q
section
variable {X:Cx}{C:Addr}{cn en:Str}{ie:Nat}{b₀:Stmt}{suite:List Stmt}{cp hp:Pos}{ts:TS}{rest:List ExceptHandler}{tr:TH}
theorem Lnd.J{a:List (Addr×Obj)}{σ:St}{H:Hp}{s:Shared}{x D:Addr}{c:Option Addr}{T:Addr}{f:Hp}{s':Shared}{h:Addr}{d:Heap}(L:Lnd X a σ H s x D c T f s' h d):Inv X a σ (upd f x (.ext (XCt x D c))) { s' with heap:=d } :=
 xm (h2:=d) L.I L.G L.k (λb g=>L.hxs b (by simpa using g)) L.fx
theorem lL(y:X.stack = X.env :: X.outer/\X.env.frame = some X.env.locals)(Q:Gl X cn)(R:X.mg cn = some (.ref C))(B:XHd X.K C)
  (P:∀ x,PSs (X.inX x) (b₀::suite) ts) (K:PH X rest tr) (w:(cn == ("__debug__" : Str))=false:=by decide) :
  PH X (.ExceptHandler (some (.Name cn cp)) none (b₀::suite) hp::rest) (λD dct x DE σ H1=>(mroIn X.K D (.ref C)=some true/\ts { nx:=DE.nx,rt:=DE.rt } σ H1)\/(mroIn X.K D (.ref C)=some false/\tr D dct x DE σ H1)):=by
 intro a σ H s x D dct T G i f r DE L q;have p:=L.J;obtain⟨o5,ho5,hc5⟩:∃ o,r.get? x=some o/\o.cls=.ref D:=let ⟨o,_,_,_,e,c,_⟩:=L.fx;⟨o,e,c⟩;refine wpAny_handleBy_cons (codeAny_handlers_test (dW (X:=X.inX x) (p.inX x) Q R ?_ w)) (by intro z;cases z)
 rcases q with⟨k,q⟩ | ⟨k,q⟩
 .refine(rY p.kIn B ho5 hc5 k).at ?_
  refine codeAny_handlers_suite ?_;refine fZ (s:={ i with heap:=r }) (fr:=frs (X.env::X.outer)) L.fx λA E O=>?_
  have j:KeptBut ([T,x]++[f]++[f]) (frs X.stack) i.heap A:=by
   have:=L.k;rw[y.1]at this ⊢;exact this.trans O
  have I:=xm (h2:=A) L.I L.G j (λb F=>L.hxs b (by
   have:b=T\/b=x\/b=f\/b=f:=by simpa using F
   rcases this with z | z | z | z
   .exact .inl z
   .exact .inr (.inl z)
   .exact .inr (.inr z)
   .exact .inr (.inr z))) E
  refine wpAny_mono (P x a _ _ _ _ (I.inX x) q) (λN S g=>?_) (λ_ _ z=>False.elim z);cases N with
  | next =>
   obtain⟨d,n,l,h⟩:=g;exact⟨d,n,l.outX L.I.ok.hd,h⟩
  | ret u =>
   obtain⟨v,d,n,l,M,h⟩:=g;exact⟨v,d,n,l.outX L.I.ok.hd,M,h⟩
  | brk=>obtain⟨_,_,_,z⟩:=g;exact False.elim z
  | cont=>obtain⟨_,_,_,z⟩:=g;exact False.elim z
 .refine(rB p.kIn B ho5 hc5 k).at ?_
  exact K a σ H s x D dct T G i f r DE L q
end
def HX(X:Cx)(pins:List (Addr×Obj))(hr:Value->Option Addr->St->Hp->Prop)(e:Value)(s':Shared):Prop:=∃ σ H s,Inv X pins σ H s/\CXG X.prog X.w X.stack H s (λc d H'=>hr c d σ H') e s'
abbrev TB:=(St->Hp->Prop)->VK->(Value->Option Addr->St->Hp->Prop)->St->Hp->Prop
def PB1(X:Cx)(st:Stmt)(t:TB):Prop :=
 ∀(pins:List (Addr×Obj)) (s:Shared) (σ:St) (H:Hp) (nx:St->Hp->Prop) (rt:VK) (hr:Value->Option Addr->St->Hp->Prop),Inv X pins σ H s->t nx rt hr σ H->wpAny (model X.prog X.w) X.A (exec st X.env) (SP X pins { nx:=nx,rt:=rt }) (HX X pins hr) s
def PB(X:Cx)(sts:List Stmt)(t:TB):Prop :=
 ∀(pins:List (Addr×Obj)) (s:Shared) (σ:St) (H:Hp) (nx:St->Hp->Prop) (rt:VK) (hr:Value->Option Addr->St->Hp->Prop),Inv X pins σ H s->t nx rt hr σ H->wpAny (model X.prog X.w) X.A (execs sts X.env) (SP X pins { nx:=nx,rt:=rt }) (HX X pins hr) s
section
variable {X:Cx}
theorem oE{b:Stmt}{t:TB}(g:PB1 X b t):PB X [b] t:=by
 intro a s j H d c i I h;refine wpAny_execs_cons (thn (g a s j H d c i I h) λf k q=>?_);cases f with
 | next=>exact wpAny_execs_nil q
 | ret v=>exact q
 | brk=>exact q
 | cont=>exact q
def PX(X:Cx)(e:Expr)(t:VK->XK->St->Hp->Prop):Prop :=
 ∀(pins:List (Addr×Obj)) (s:Shared) (σ:St) (H:Hp) (Q:VK) (E:XK),Inv X pins σ H s->t Q E σ H ->
  wpAny (model X.prog X.w) X.A (eval e X.env) (EP X pins σ Q) (λe s'=>∃ H1 s1,Inv X pins σ H1 s1/\CXG X.prog X.w X.stack H1 s1 E e s') s
theorem jy{e:Expr}{t:VK->XK->St->Hp->Prop}{b:Pos}(h:PX X e t)(f:swapsWith e none b.line X.env=pure false:=by rfl):PB1 X (.Expr e b) (λnx _ hr σ H=>t (λ_ H1=>nx σ H1) (λc d H'=>hr c d σ H') σ H):=by
 intro a s σ H nx k hr I q;refine wpAny_Expr_any (wpAny_mono (h a s σ H _ _ I q) (λu i ⟨v,H1,g,r,j⟩=>?_) λe s' ⟨H1,i,g,c⟩=>⟨σ,H1,i,g,c⟩) I.quiet f;exact⟨σ,H1,g,j⟩
end
section
variable {X:Cx}{k:Nat}{f C:Addr}{fd:FuncData}{ps:List Str}{sp:Sp}{dvs:List V}{ds:List Value}{x m:Str}{p pos apos:Pos}{e o:Expr}{es:List Expr}{ta:TE}{t:TA}
theorem yn{a:List (Addr×Obj)}{σ:St}{H:Hp}{s:Shared}{Q:VK}{E:XK}{us:List Value}{vs:List V}(F:FnOk X.prog X.w X.K X.mg X.base (CXG X.prog X.w) k f fd ps sp)(i:Room k X.A)(d:Binds X.K fd ps ds)(j:Vals dvs ds)
  (I:Inv X a σ H s) (r:Vals vs us) (h:sp (vs++dvs) H Q E):wpAny (model X.prog X.w) X.A (call (.ref f) us) (EP X a σ Q) (λe s'=>∃ H1 s1,Inv X a σ H1 s1/\CXG X.prog X.w X.stack H1 s1 E e s') s:=by
 have c:Vals (vs++dvs) (us++ds):=r.append j;have g:(us++ds).length=ps.length:=by rw[<- c.length];exact F.len _ _ _ _ h
 refine wpAny_call (codeAny_mono (F.run X.A X.stack s H ⟨us,[]⟩ (us++ds) (vs++dvs) Q E i I.env0 (d s us I.kIn g) c h) λr s' b=>?_);cases r with
 | error e=>exact⟨H,s,I,b⟩
 | ok fl =>
  cases fl with
  | ret u=>exact I.after b
  | next=>exact False.elim b
  | brk=>exact False.elim b
  | cont=>exact False.elim b
theorem kO(F:FnOk X.prog X.w X.K X.mg X.base (CXG X.prog X.w) k f fd ps sp)(o:Room k X.A)(u:Gl X x)(g:X.mg x=some (.ref f))(v:keepIn X.K (.ref f)=true)(l:Binds X.K fd ps ds)(n:Vals dvs ds)
  (i:PA X.nox (e::es) t) (c:(x == ("__debug__" : Str))=false:=by decide) (j:starEach (e::es) X.env=(false,eval e X.env)::starEach es X.env:=by rfl) (b:(backTo pos (starEach es X.env)).any (·.1)=false:=by rfl) :
  PX X (.Call (.Name x p) (e::es) [] pos) (λQ E σ H=>t σ H λvs H1=>sp (vs++dvs) H1 Q E):=by
 intro a s σ H Q E I h;refine wpAny_Call_Name_kw (dW I u g ?_ c);refine callWith_K (h₀:=X.base) I.ok.mod.kin v (wpAny_mono (i pos a s σ H _ (I.wish _) h) (λw y ⟨vs,H1,d,r,q⟩=>⟨d.unwish.kIn,?_⟩) λ_ _ z=>False.elim z) j b;exact yn F o l n d.unwish r q
theorem kM{body:List Stmt}{h₀:ExceptHandler}{A:List ExceptHandler}{w:TB}{y:TH}{F:Pos}(d:X.stack = X.env :: X.outer/\X.env.frame = some X.env.locals)(p:PB X body w)(N:PH X (h₀ :: A) y) :
  PS X (.Try body (h₀::A) [] [] F) (λDE σ H=>w DE.nx DE.rt (λc dct σ' H'=>∃ D,c=.ref D/\∀ x,H' x=none->y D dct x DE σ' (upd H' x (.ext (XCt x D dct)))) σ H):=by
 intro a s σ H DE I h;refine wpAny_Try_except ?_;refine wpAny_mono (p a s σ H DE.nx DE.rt _ I h) (λf l q=>?_) λe s' z=>?_
 .cases f with
  | next=>exact wpAny_execs_nil q
  | ret u=>exact q
  | brk=>obtain⟨_,_,_,z⟩:=q;exact False.elim z
  | cont=>obtain⟨_,_,_,z⟩:=q;exact False.elim z
 .obtain⟨i,P,l,k,x,D,dct,T,H',rfl,G,Y,S,Q⟩:=z
  cases S;have J:Inv X a i H' s':=k.call' (ch:=[]) G.os G.un G.hok G.bare (by simp);have O:s'.heap.FunFrames X.base (X.env::X.outer):=d.1 ▸ J.stack;refine pU (by rw[k.ok.frames,d.1]) O d.2 G.fx λM g R B K=>?_
  refine fZ (s:={ s' with heap:=M }) (fr:=frs (X.env::X.outer)) R λC E L=>?_
  have r:KeptBut ([T,x]++[g]) (frs X.stack) s'.heap C:=by rw[d.1];exact K.trans L
  have v:∀ b,l.heap.get? b=none->b ∉ frs X.stack:=λb n z=>by
   obtain⟨_,o,e,_⟩:=k.stack.mem z;rw[n]at e;cases e
  have j:l.heap.get? g=none:=cR G.un B
  have W:H' g=none:=by
   cases z:H' g with
   | none=>rfl
   | some u =>
    obtain⟨o,e⟩:=(J.hok g u z).isObj;rw[B]at e;cases e
  refine N a i P l x D dct T H' s' g C DE ⟨k,G,r,λb p=>?_,E⟩ (Q x G.ux)
  rcases p with rfl | rfl | rfl
  .exact⟨G.nT,G.uT,v _ G.nT⟩
  .exact⟨G.nx,G.ux,v _ G.nx⟩
  .exact⟨j,W,v _ j⟩
end
section
variable {X:Cx}{e:Expr}{es:List Expr}{pos:Pos}
theorem zw:OpR X (binaryOp .BitAnd) (rI2 λi j=>.int (Builtin.bitAnd i j)):=op_and.i2
end
theorem nV{prog:Program}{w:World}{A:Around}{E:Value->Shared->Prop}{a l:Addr}{items:Array Value}(b:l≠a):∀(n i:Nat) (s:Shared) (Q:List Value->Shared->Prop),
  s.heap.IsListIter a l i->s.heap.IsList l items->i+n<=items.size ->
  (∀ h':Heap,h'.IsListIter a l (i+n)->Heap.SameBut a s.heap h'->Q ((items.toList.drop i).take n) { s with heap:=h' }) ->
  wpAny (model prog w) A (draw (.ref a) n) Q E s
 | 0,i,s,Q,hi,hl,hle,q=>by
  have p:=q s.heap hi (by constructor <;> intros <;> first | rfl | assumption);rw[take_zero]at p;exact wpAny_pure p
 | n+1,i,s,Q,hi,hl,hle,q=>by
  have f:i<items.size:=by lia
  have r:items[i]? = some items[i]:=by simp[f]
  refine wpAny_bind (wpAny_pyNext_list_item hi hl r λu g c=>?_);refine wpAny_bind (wpAny_holding (nV b n (i+1) _ _ g (hl.extBut c.extBut b) (by lia) λk j h=>?_));refine wpAny_pure ?_;have d:k.IsListIter a l (i+(n+1)):=by rw[show i+(n+1)=i+1+n by lia];exact j
  have o:=q k d (c.trans h)
  have e:(items.toList.drop i).take (n+1)=items[i]::(items.toList.drop (i+1)).take n:=by
   rw[List.drop_eq_getElem_cons (by simpa using f),List.take_succ_cons];simp
  rw[e]at o;exact o
theorem iP{prog:Program}{w:World}{A:Around}{E:Value->Shared->Prop}{s:Shared}{l:Addr}{items:Array Value}{Q:List Value->Shared->Prop}(n:A.handled=none)(f:s.heap.IsList l items)
  (q:∀ h':Heap,Heap.ExtBut s.heap.objs.size s.heap h'->Q items.toList { s with heap:=h' }):wpAny (model prog w) A (unpackItems (.ref l) items.size none) Q E s:=by
 have c:l≠s.heap.objs.size:=by
  obtain⟨o,p,_⟩:=f;exact Nat.ne_of_lt (Heap.lt_size p)
 unfold unpackItems;refine wpAny_bind ?_;unfold notIterableAtAll;refine wpAny_bind (wpAny_specialOf (Heap.IsList.typeIs f) F.slot_list_iter.lookup (wpAny_pure ?_));simp only[Bool.false_eq_true,if_false];refine wpAny_bind (wpAny_holding (wpAny_pyIter_list f ?_));have d:=f.push { cls:=Value.type "list_iterator",data:=Data.fields #[Value.ref l,Value.int 0 0] }
 have g:(s.heap.push { cls:=Value.type "list_iterator",data:=Data.fields #[Value.ref l,Value.int 0 0] }).IsListIter s.heap.objs.size l 0:=⟨_,Heap.get?_push_size _ rfl,rfl,rfl⟩
 refine wpAny_bind (wpAny_holding (nV c items.size 0 _ _ g d (by lia) λr i a=>?_));have e:(items.toList.drop 0).take items.size=items.toList:=by rw[List.drop_zero];exact take_of_length_le (by simp)
 rw[e,if_neg (by simp)];refine wpAny_bind (wpAny_holding (wpAny_pyNext_list_end n i (d.extBut a.extBut c) (by simp) λk h=>?_));exact wpAny_pure (q k λb o j e=>h b o j (a.extBut b o j (Heap.get?_push_of_some _ e)))
section
variable {X:Cx}{pos:Pos}
def AC(K:Frag)(n:Nat)(t:TGs):TG:=λv σ H Q=>∃ a xs,v=.ref a/\SqL K H a xs/\xs.length=n/\t xs σ H Q
theorem yI{f:List Expr}{k:Nat}{t:TGs}{n:Nat}(K:X.calm=true)(h:PGs X f t)
  (x:(assignEach f X.env).length=n:=by rfl) (j:(assignEach f X.env).findIdx? (·.1)=none:=by rfl):PG X (.Tuple f k pos) (AC X.K n t):=by
 intro c s p H v u Q I r i;obtain⟨a,E,y,D,G,i⟩:=i;subst y;cases r;obtain⟨g,l,⟨o,z,e,w,M,d⟩,L⟩:=I.list D
 have F:s.heap.IsList a g.toArray:=⟨o,e,w,z,d⟩
 rw[arm_assign_Tuple];refine wpAny_bind (wpAny_standAt ?_);unfold unpack;refine wpAny_bind (wpAny_holding ?_);rw[j];have B:(assignEach f X.env).length=g.toArray.size:=by simp[x,<- G,l.length]
 rw[B];refine iP (I.ok.hd K) F λA C=>?_
 have q:Inv X c p H { s with heap:=A }:=I.kept (t':=s.toks) λb o e=>C b o (Nat.ne_of_lt (Heap.lt_size e)) e
 exact h c _ p H E _ Q q (by simpa using l) i
end
structure FunD(K:Frag)(x qual:Str)(st:Stmt)(f:Addr)(fd:FuncData):Prop where
 ex:∃(oc:Value) (od:Option Addr) (dV kV doc pm:Value) (an:Option Addr) (cdv ct:Value) (osl:Array (Option Value)),
  fd=fnOf x qual (aj st) (ai st) (ac st) dV kV doc pm an cdv ct/\K.lookup f=some ⟨oc,od,.func fd,osl⟩/\codeIn K cdv qual=true
 kp:keepIn K (.ref f)=true
section
variable {P:Program}{w:World}{K:Frag}{mg:Str->Option Value}{base:Heap}
theorem FunD.okG{x a:Str}{c:Stmt}{f:Addr}{i:FuncData}{N ps:List Str}{k:Nat}{sp:Sp}(F:FunD K x a c f i)(S:FnScope N ps (ac c))(d:∀ vs H Q E,sp vs H Q E->vs.length=ps.length)
  (b:∀(cdv:Value) (A:Around) (outer:List Env) (s:Shared) (H:Hp) (vs:List V) (Q:VK) (E:XK),Room k (A.deeper (envOfC a (ac c) s.heap.objs.size f cdv))->sp vs H Q E ->
   ∃ t,PSs (cxG P w K mg base N a (ac c) f cdv A outer s H E) (ai c) t/\t { nx:=λ_ H'=>Q .non H',rt:=Q } (start N vs) H):FnOk P w K mg base (CXG P w) (k+1) f i ps sp:=by
 obtain⟨u,p,z,r,l,v,y,cdv,q,o,rfl,j,h⟩:=F.ex;exact uY j h S d λA outer s H vs Q E n g=>b cdv A outer s H vs Q E n g
theorem wM{x a:Str}{g:Stmt}{f:Addr}{q:Value}{od o:Option Addr}{h:Array (Option Value)}{p j d n b i:Value}(l:K.lookup f=some ⟨q,od,.func (fnOf x a (aj g) (ai g) (ac g) p j d n o b i),h⟩)
  (c:codeIn K b a=true) (k:keepIn K (.ref f)=true):FunD K x a g f (fnOf x a (aj g) (ai g) (ac g) p j d n o b i):=⟨⟨q,od,p,j,d,n,o,b,i,h,rfl,l,c⟩,k⟩
theorem oQ{a:FuncData}{D:Addr}{o:Obj}{items:Array Value}{n:Nat}{ps:List Str}{ds:List Value}(c:a.defaults=.ref D)(b:K.lookup D=some o)(i:o.data=.seq items n)
  (h:∀ us:List Value,(us++ds).length=ps.length->∃ k,bindArgs a ⟨us,[]⟩=seqItems? a.defaults >>= k/\k (some items)=pure (ps.zip (us++ds))):Binds K a ps ds:=λs us X g=>by
 obtain⟨k,f,d⟩:=h us g;exact .of_defaults c (X _ _ b) i f d
theorem AT{us:List Value}{v:Value}(h:(us++[v]).length=3):∃ x y,us=[x,y]:=by
 rw[length_append]at h
 match us,h with
 | [x,y],_=>exact⟨x,y,rfl⟩
 | [],h=>cases h
 | [_],h=>cases h
 | _::_::_::tl,h=>simp at h
end
end L2
namespace L2
open PySem PySem.Calls PySem.Spec PyProof.Rows PySem.W
section
variable {prog:Program}{w:World}{s:Shared}{A:Around}{E:Value->Shared->Prop}
theorem uH{t:Addr}{us:List Value}{g:List Int}{R:Value->Shared->Prop}(p:IsTup s.heap t us.toArray)(l:IntsAre us g)(a:us.length<64)
  (c:∀(out:Array Value) (ns':List Int),IntsAre out.toList ns'->ns'.Perm g->ns'.Pairwise (·<=·)->R (.ref (s.heap.objs.size+1)) { s with heap:=sortedAll s.heap us out }) :
  wpAny (model prog w) A (call (.builtin "sorted") [.ref t]) R E s:=by
 obtain⟨o,x,u,n,q⟩:=id p;have i:us.length<=sizeLine:=by rw[sizeLine_eq];lia
 refine call_function_entry kind_sorted plain_sorted entry_sorted (args_sorted1 _) ?_;unfold Builtin.«sorted»;refine wpAny_bind (m:=checkCount "sorted" 1 1 _) (wpAny_pure (wpAny_bind ?_));unfold collect;refine wpAny_bind (wpAny_runValue (codeAny_builtin entry_proto_collect' ?_));show wpAny _ _ (do again (.builtin "list.__iadd__" ⟨[<- newList [],.ref t],[]⟩)) _ _ s;refine wpAny_bind (wpAny_newList (wpAny_pure ⟨Code.quiet_builtin _ (by decide +kernel),codeAny_builtin entry_list_iadd' ?_⟩));show wpAny _ _ (Builtin.List.listExtendWith (.ref s.heap.objs.size) (.ref t) (.ref s.heap.objs.size)) _ _ { s with heap:=s.heap.push (seqObj "list" #[] 0) };unfold Builtin.List.listExtendWith;have b:(s.heap.push (seqObj "list" #[] 0)).get? t=some o:=Heap.get?_push_of_some _ x;have d:(s.heap.push (seqObj "list" #[] 0)).get? s.heap.objs.size=some (seqObj "list" #[] 0):=Heap.get?_push_size _ rfl;refine wpAny_bind (wpAny_typeOf (T := "tuple") ⟨o,b,u⟩ ?_);have e:(Value.type "tuple" == Value.type "tuple")=true:=rfl;rw[if_pos (by rw[e];simp)];refine wpAny_bind (listItems_at b q (wpAny_bind (listItems_at (xs:=#[]) (n:=0) d rfl ?_)));rw[if_neg (by simp)];refine wpAny_bind (listUpdate_at (xs:=#[]) (n:=0) d rfl (wpAny_pure ?_) (Nat.zero_le _) (by show(#[]++us.toArray).size<=sizeLine+1;simp only[Array.size_append,size_toArray,List.length_nil];lia));show wpAny (model prog w) _ (do let o <- load s.heap.objs.size;match o.data with | .seq xs _=>pure xs.toList | _=>unsupported "internal:collect") _ E { s with heap:=(s.heap.push (seqObj "list" #[] 0)).update s.heap.objs.size (Obj.mapSeq (· ++ us.toArray)) };refine wpAny_bind (wpAny_load (get?_update_seq d _) ?_);show wpAny _ _ (pure ((#[]:Array Value)++us.toArray).toList) _ E _;have j:((#[]:Array Value)++us.toArray).toList=us:=by simp
 rw[j];refine wpAny_pure (wpAny_bind (wpAny_newList ?_));have f:((s.heap.push (seqObj "list" #[] 0)).update s.heap.objs.size (Obj.mapSeq (· ++ us.toArray))).objs.size=s.heap.objs.size+1:=by rw[Heap.size_update,size_push']
 have h:(((s.heap.push (seqObj "list" #[] 0)).update s.heap.objs.size (Obj.mapSeq (· ++ us.toArray))).push (seqObj "list" us.toArray 0)).get? (s.heap.objs.size+1)=some (seqObj "list" us.toArray 0):=by rw[<- f];exact Heap.get?_push_size _ rfl
 show wpAny _ _ _ _ _ { s with heap:=((s.heap.push (seqObj "list" #[] 0)).update s.heap.objs.size (Obj.mapSeq (· ++ us.toArray))).push (seqObj "list" us.toArray 0) };rw[f];exact wpAny_bind (wpAny_holding (wpAny_call_entry slot_list_sort ⟨_,h,rfl⟩ entry_list_sort (list_sort_tree h l a λout ns' r k v=>⟨_,rfl,wpAny_pure ⟨_,rfl,c out ns' r k v⟩⟩) (args_list_sort _)))
end
theorem gp{X:Cx}:CallR X (.builtin "sorted") (λxs H Q=>∃(p:Addr) (ns:List Int),xs=[.ref p]/\(SqL X.K H p (ns.map V.int)\/SqT X.K H p (ns.map V.int))/\ns.length<64/\∀ q (ns':List Int),ns'.Perm ns->ns'.Pairwise (·<=·)->H q=none->Q (.ref q) (upd H q (.lst (ns'.map V.int)))):=by
 intro d s B H xs v Q I r h;obtain⟨p,ns,rfl,hq,A,q⟩:=h
 rcases hq with hq | hq
 .exact kQ d s B H _ v Q I r ⟨p,ns,rfl,hq,A,q⟩
 obtain⟨u,rfl,D⟩:=cV r;cases D;obtain⟨f,k,w,E⟩:=I.tuple hq;have x:=fk k;have j:f.length=ns.length:=by have:=k.length;rw[length_map]at this;exact this.symm
 refine uH w x (by lia) λc ns' y i C=>?_
 obtain⟨e,n⟩:=sortedAll_at s.heap f c;have l:H (s.heap.objs.size+1)=none:=I.hok.fresh (Nat.le_succ _);have g:sizeLine=16777216:=sizeLine_eq;refine⟨.ref (s.heap.objs.size+1),_,I.laid (a:=s.heap.objs.size+1) (o:=.lst (ns'.map V.int)) (t':=s.toks) (λb u z=>sortedAll_old z) (Nat.le_succ _) ⟨?_,c.toList,e,eV y,?_⟩,rfl,q _ ns' i C l⟩
 .rw[length_map,i.length_eq];lia
 .rw[n,Array.toArray_toList]
end L2
namespace WSrt
open PySem PySem.W PyProof.Rows
def run{α:Type}(lt:Nat->Nat->Bool):KasT α->α
 | .ret x=>x
 | .ask i j k=>run lt (k (lt i j))
theorem eG{a b:Type}(lt:Nat->Nat->Bool)(f:a->KasT b):∀ t:KasT a,run lt (t.bind f)=run lt (f (run lt t))
 | .ret _=>rfl
 | .ask i j k=>eG lt f (k (lt i j))
def e(p:Array Nat)(i:Nat):Nat:=(p[i]?).getD 0
theorem aX(p:Array Nat)(i:Nat):p.getD i 0=e p i:=by unfold e;simp[Array.getD_eq_getD_getElem?]
variable (lt:Nat->Nat->Bool) (n:Nat)
structure Wk:Prop where
 asy:∀ i j,i<n->j<n->lt i j=true->lt j i=false
 tr:∀ i j k,i<n->j<n->k<n->lt j i=false->lt k j=false->lt k i=false
structure PV(p:Array Nat):Prop where
 sz:p.size=n
 pm:p.toList.Perm (List.range n)
theorem e_list{p:Array Nat}{i:Nat}(h:i<p.size):p.toList[i]? = some (e p i):=by
 unfold e;rw[Array.getElem?_toList];simp[h]
theorem PV.bd{p:Array Nat}(h:PV n p){i:Nat}(a:i<n):e p i<n:=by
 have:=e_list (p:=p) (i:=i) (by rw[h.sz];exact a);have b:=h.pm.mem_iff.mp (List.mem_of_getElem? this);exact mem_range.mp b
theorem PV.ne{p:Array Nat}(h:PV n p){i j:Nat}(r:i<n)(v:j<n)(a:i≠j):e p i≠e p j:=by
 have o:p.toList.Nodup:=h.pm.nodup_iff.mpr nodup_range;have d:=e_list (p:=p) (i:=i) (by rw[h.sz];exact r);have q:=e_list (p:=p) (i:=j) (by rw[h.sz];exact v);intro z;rw[z]at d
 have s:=(List.getElem?_eq_some_iff.mp d)
 have u:=(List.getElem?_eq_some_iff.mp q)
 obtain⟨k,l⟩:=s;obtain⟨f,b⟩:=u;have g:=pairwise_iff_getElem.mp o
 rcases Nat.lt_trichotomy i j with c | c | c
 .exact g i j k f c (l.trans b.symm)
 .exact a c
 .exact g j i f k c (b.trans l.symm)
def Asc(p:Array Nat)(m:Nat):Prop:=∀ i j,i<j->j<m->lt (e p j) (e p i)=false
def Dsc(p:Array Nat)(m:Nat):Prop:=∀ i j,i<j->j<m->lt (e p i) (e p j)=false
def Blk(p:Array Nat)(i j:Nat):Prop:=∀ x y,i<=x->x<j->i<=y->y<j->lt (e p x) (e p y)=false
variable (T:Wk lt n)
include T
theorem vk{p:Array Nat}{m:Nat}(h:PV n p)(f:1<=m)(d:m<n)(a:Asc lt p m)(c:lt (e p m) (e p (m - 1))=false):Asc lt p (m+1):=by
 intro i j b g
 by_cases c1:j<m
 .exact a i j b c1
 .have:j=m:=by omega
  subst this
  by_cases c2:i=j - 1
  .rw[c2];exact c
  .exact T.tr _ (e p (j - 1)) _ (h.bd n (by omega)) (h.bd n (by omega)) (h.bd n (by omega)) (a i (j - 1) (by omega) (by omega)) c
theorem js{p:Array Nat}{m:Nat}(h:PV n p)(f:1<=m)(d:m<n)(a:Dsc lt p m)(c:lt (e p (m - 1)) (e p m)=false):Dsc lt p (m+1):=by
 intro i j b g
 by_cases c1:j<m
 .exact a i j b c1
 .have:j=m:=by omega
  subst this
  by_cases c2:i=j - 1
  .rw[c2];exact c
  .exact T.tr _ (e p (j - 1)) _ (h.bd n (by omega)) (h.bd n (by omega)) (h.bd n (by omega)) c (a i (j - 1) (by omega) (by omega))
theorem iU{p:Array Nat}(h:PV n p):∀(f m:Nat),1<=m->m+f<=n->Asc lt p m->m<=run lt (kas_asc p f m)/\run lt (kas_asc p f m)<=m+f/\Asc lt p (run lt (kas_asc p f m))/\(run lt (kas_asc p f m)<m+f->lt (e p (run lt (kas_asc p f m))) (e p (run lt (kas_asc p f m) - 1))=true)
 | 0,m,_,_,a=>⟨Nat.le_refl _,Nat.le_refl _,a,λz=>absurd z (Nat.lt_irrefl _)⟩
 | f+1,m,h1,h2,a=>by
  have g:run lt (kas_asc p (f+1) m)=run lt (if lt (e p m) (e p (m - 1))=true then .ret m else kas_asc p f (m+1)):=by
   show run lt (if lt (p.getD m 0) (p.getD (m - 1) 0)=true then .ret m else kas_asc p f (m+1))=_;rw[aX,aX]
  rw[g];cases c:lt (e p m) (e p (m - 1)) with
  | true =>
   rw[if_pos rfl];exact⟨Nat.le_refl _,by show m<=_;omega,a,λ_=>c⟩
  | false =>
   rw[if_neg (by decide)];obtain⟨i,j,b,d⟩:=iU h f (m+1) (by omega) (by omega) (vk lt n T h h1 (by omega) a c);exact⟨by omega,by omega,b,λz=>d (by omega)⟩
omit T in
theorem iK{p:Array Nat}{i m k:Nat}(a:m<=p.size):e (kas_rev p i m) k=if i<=k/\k<m then e p (i+m - 1 - k) else e p k:=by
 unfold e kas_rev;rw[getElem?_mirror_all a]
 split <;> rfl
omit T in
theorem PV.rev{p:Array Nat}(h:PV n p)(i m:Nat):PV n (kas_rev p i m):=⟨by unfold kas_rev;rw[mirror_size];exact h.sz,(Array.perm_iff_toList_perm.mp (mirror_perm p i m ((m - i)/2))).trans h.pm⟩
theorem nr{p:Array Nat}{i m:Nat}(h:PV n p)(f:m<=n)(a:Dsc lt p m)(b:Blk lt p i m):Dsc lt (kas_rev p i m) m:=by
 intro x y c g;have d:m<=p.size:=by rw[h.sz];exact f
 rw[iK d,iK d]
 by_cases cy:i<=y/\y<m
 .rw[if_pos cy]
  by_cases cx:i<=x/\x<m
  .rw[if_pos cx]
   exact b _ _ (by omega) (by omega) (by omega) (by omega)
  .rw[if_neg cx]
   exact a _ _ (by omega) (by omega)
 .rw[if_neg cy,if_neg (by omega)]
  exact a _ _ c g
theorem fF:∀(f:Nat) (p:Array Nat) (m q:Nat),PV n p->q+1<=m->m+f<=n->Dsc lt p m->Blk lt p (m - (q+1)) m->∃ p' m' q',run lt (kas_desc f p m q)=(p',m',q')/\PV n p'/\m<=m'/\m'<=m+f/\q'+1<=m'/\Dsc lt p' m'/\Blk lt p' (m' - (q'+1)) m'
 | 0,p,m,q,h,hq,_,a,b=>⟨p,m,q,rfl,h,Nat.le_refl _,Nat.le_refl _,hq,a,b⟩
 | f+1,p,m,q,h,hq,hf,a,b=>by
  have M:run lt (kas_desc (f+1) p m q)=run lt (if lt (e p m) (e p (m - 1))=true then (if q > 0 then kas_desc f (kas_rev p (m - (q+1)) m) (m+1) 0 else kas_desc f p (m+1) 0) else (if lt (e p (m - 1)) (e p m)=true then .ret (p,m,q) else kas_desc f p (m+1) (q+1))):=by
   show run lt (if lt (p.getD m 0) (p.getD (m - 1) 0)=true then (if q > 0 then kas_desc f (kas_rev p (m - (q+1)) m) (m+1) 0 else kas_desc f p (m+1) 0) else .ask (p.getD (m - 1) 0) (p.getD m 0) λd=>if d=true then .ret (p,m,q) else kas_desc f p (m+1) (q+1))=_;rw[aX,aX]
   split <;> rfl
  rw[M]
  have g:∀ p':Array Nat,PV n p'->Blk lt p' (m+1 - (0+1)) (m+1):=λp' k x y i v j w=>by
   have:x=m:=by omega
   have:y=m:=by omega
   subst x y;cases c:lt (e p' m) (e p' m) with
   | false=>rfl
   | true=>rw[T.asy _ _ (k.bd n (by omega)) (k.bd n (by omega)) c]at c;exact absurd c (by decide)
  have z:m<=p.size:=by rw[h.sz];omega
  cases c:lt (e p m) (e p (m - 1)) with
  | true =>
   have B:=T.asy _ _ (h.bd n (by omega)) (h.bd n (by omega)) c;rw[if_pos rfl]
   by_cases hq0:q > 0
   .rw[if_pos hq0]
    have k:=h.rev n (m - (q+1)) m;have G:=nr lt n T h (by omega) a b
    have K:lt (e (kas_rev p (m - (q+1)) m) (m - 1)) (e (kas_rev p (m - (q+1)) m) m)=false:=by
     rw[iK z,iK z,if_pos ⟨by omega,by omega⟩,if_neg (by omega)];have H:m - (q+1)+m - 1 - (m - 1)=m - (q+1):=by omega
     rw[H];exact T.tr _ (e p (m - 1)) _ (h.bd n (by omega)) (h.bd n (by omega)) (h.bd n (by omega)) B (b _ _ (by omega) (by omega) (by omega) (by omega))
    obtain⟨p',m',q',r,s,A,E,u,l,o⟩:=fF f _ (m+1) 0 k (by omega) (by omega) (js lt n T k (by omega) (by omega) G K) (g _ k);exact⟨p',m',q',r,s,by omega,by omega,u,l,o⟩
   .rw[if_neg hq0]
    obtain⟨p',m',q',r,s,A,E,u,l,o⟩:=fF f p (m+1) 0 h (by omega) (by omega) (js lt n T h (by omega) (by omega) a B) (g _ h);exact⟨p',m',q',r,s,by omega,by omega,u,l,o⟩
  | false =>
   rw[if_neg (by decide)];cases d:lt (e p (m - 1)) (e p m) with
   | true =>
    rw[if_pos rfl];exact⟨p,m,q,rfl,h,Nat.le_refl _,by omega,hq,a,b⟩
   | false =>
    rw[if_neg (by decide)]
    have L:Blk lt p (m+1 - (q+1+1)) (m+1):=by
     have I:m+1 - (q+1+1)=m - (q+1):=by omega
     rw[I]
     have C:∀ x,m - (q+1)<=x->x<m->lt (e p x) (e p m)=false/\lt (e p m) (e p x)=false:=λx D F =>
      ⟨T.tr _ (e p (m - 1)) _ (h.bd n (by omega)) (h.bd n (by omega)) (h.bd n (by omega)) d (b _ _ D F (by omega) (by omega)),T.tr _ (e p (m - 1)) _ (h.bd n (by omega)) (h.bd n (by omega)) (h.bd n (by omega)) (b _ _ (by omega) (by omega) D F) c⟩
     intro x y i v j w
     by_cases cx:x=m
     .by_cases cy:y=m
      .rw[cx,cy]
       exact g p h m m (by omega) (by omega) (by omega) (by omega)
      .rw[cx];exact(C y j (by omega)).2
     .by_cases cy:y=m
      .rw[cy];exact(C x i (by omega)).1
      .exact b x y i (by omega) j (by omega)
    obtain⟨p',m',q',r,s,A,E,u,l,o⟩:=fF f p (m+1) (q+1) h (by omega) (by omega) (js lt n T h (by omega) (by omega) a d) L;exact⟨p',m',q',r,s,by omega,by omega,u,l,o⟩
omit T in
theorem wN{p:Array Nat}{m:Nat}(h:PV n p)(d:m<=n)(a:Dsc lt p m):Asc lt (kas_rev p 0 m) m:=by
 intro i j c f;have b:m<=p.size:=by rw[h.sz];exact d
 rw[iK b,iK b,if_pos ⟨by omega,by omega⟩,if_pos ⟨by omega,by omega⟩];exact a _ _ (by omega) (by omega)
theorem mD{p:Array Nat}{m:Nat}(h:PV n p)(f:1<=m)(d:m<=n)(a:Dsc lt p m):∃ m' p',run lt (kas_tail3 m n p)=(m',p')/\PV n p'/\Asc lt p' m'/\1<=m'/\m'<=n:=by
 unfold kas_tail3;rw[eG];have b:=h.rev n 0 m;obtain⟨g,i,c,_⟩:=iU lt n T b (n - m) m f (by omega) (wN lt n h d a);exact⟨_,_,rfl,b,c,by omega,by omega⟩
theorem kA{p:Array Nat}{m:Nat}(h:PV n p)(u:1<=m)(g:m<n)(a:Dsc lt p (m+1)):∃ m' p',run lt (kas_descPart m n p)=(m',p')/\PV n p'/\Asc lt p' m'/\1<=m'/\m'<=n:=by
 unfold kas_descPart;rw[eG]
 have b:Blk lt p (m+1 - (0+1)) (m+1):=λx y o j r l=>by
  have:x=m:=by omega
  have:y=m:=by omega
  subst x y;cases c:lt (e p m) (e p m) with
  | false=>rfl
  | true=>rw[T.asy _ _ (h.bd n g) (h.bd n g) c]at c;exact absurd c (by decide)
 obtain⟨p',m',d,k,f,v,s,w,i,q⟩:=fF lt n T (n - (m+1)) p (m+1) 0 h (by omega) (by omega) a b;rw[k];show ∃ m'' p'',run lt (if d > 0 then kas_tail3 m' n (kas_rev p' (m' - (d+1)) m') else kas_tail3 m' n p')=_/\_
 by_cases c:d > 0
 .rw[if_pos c]
  exact mD lt n T (f.rev n _ _) (by omega) (by omega) (nr lt n T f (by omega) i q)
 .rw[if_neg c]
  exact mD lt n T f (by omega) (by omega) i
theorem mw{p:Array Nat}{m:Nat}(h:PV n p)(s:1<=m)(r:m<n)(f:Asc lt p m)(k:lt (e p 0) (e p (m - 1))=false)(q:lt (e p (m - 1)) (e p m)=false):Dsc lt (kas_rev p 0 m) (m+1):=by
 have c:m<=p.size:=by rw[h.sz];omega
 have d:∀ x y,x<=y->y<m->lt (e p y) (e p x)=false:=λx y g a=>by
  by_cases z:x=y
  .subst z
   cases c4:lt (e p x) (e p x) with
   | false=>rfl
   | true=>rw[T.asy _ _ (h.bd n (by omega)) (h.bd n (by omega)) c4]at c4;exact absurd c4 (by decide)
  .exact f x y (by omega) a
 have b:∀ x y,x<m->y<m->lt (e p x) (e p y)=false:=λx y o a =>
  T.tr _ (e p 0) _ (h.bd n (by omega)) (h.bd n (by omega)) (h.bd n (by omega)) (T.tr _ (e p (m - 1)) _ (h.bd n (by omega)) (h.bd n (by omega)) (h.bd n (by omega)) (d y (m - 1) (by omega) (by omega)) k) (d 0 x (by omega) o)
 intro i j l u;rw[iK c,iK c,if_pos ⟨by omega,by omega⟩]
 by_cases cj:j<m
 .rw[if_pos ⟨by omega,cj⟩]
  exact b _ _ (by omega) (by omega)
 .rw[if_neg (by omega)]
  have:j=m:=by omega
  subst this;exact T.tr _ (e p (j - 1)) _ (h.bd n (by omega)) (h.bd n (by omega)) (h.bd n (by omega)) q (b _ _ (by omega) (by omega))
theorem ku{p:Array Nat}(h:PV n p)(r:2<=n):∃ m' p',run lt (kas_count n p)=(m',p')/\PV n p'/\Asc lt p' m'/\1<=m'/\m'<=n:=by
 unfold kas_count;rw[eG];have l:Asc lt p 1:=λi j d k=>by omega
 obtain⟨b,q,a,g⟩:=iU lt n T h (n - 1) 1 (Nat.le_refl _) (by omega) l;generalize run lt (kas_asc p (n - 1) 1)=m at b q a g
 by_cases c:m=n
 .have:(m == n)=true:=by simpa using c
  rw[if_pos this];exact⟨m,p,rfl,h,a,b,by omega⟩
 .have:¬(m == n)=true:=by simpa using c
  rw[if_neg this];have f:=T.asy _ _ (h.bd n (by omega)) (h.bd n (by omega)) (g (by omega))
  by_cases c2:m > 1
  .rw[if_pos c2]
   show ∃ m' p',run lt (if lt (p.getD 0 0) (p.getD (m - 1) 0)=true then .ret (m,p) else kas_descPart m n (kas_rev p 0 m))=_/\_;rw[aX,aX];cases c3:lt (e p 0) (e p (m - 1)) with
   | true =>
    rw[if_pos rfl];exact⟨m,p,rfl,h,a,b,by omega⟩
   | false =>
    rw[if_neg (by decide)];exact kA lt n T (h.rev n 0 m) (by omega) (by omega) (mw lt n T h b (by omega) a c3 f)
  .rw[if_neg c2]
   have o:m=1:=by omega
   subst o;refine kA lt n T h (by omega) (by omega) ?_;intro i j d k;have:i=0:=by omega
   have:j=1:=by omega
   subst i j;exact f
theorem im{p:Array Nat}{k:Nat}(h:PV n p)(o:k<n)(a:Asc lt p k):∀(f l r:Nat),l<=r->r<=k->r - l<=f->(∀ i,i<l->lt (e p k) (e p i)=false)->(∀ i,r<=i->i<k->lt (e p i) (e p k)=false) ->
  run lt (kas_place p k f l r)<=k/\(∀ i,i<run lt (kas_place p k f l r)->lt (e p k) (e p i)=false)/\(∀ i,run lt (kas_place p k f l r)<=i->i<k->lt (e p i) (e p k)=false)
 | 0,l,r,h1,h2,h3,lo,hi=>⟨by show l<=k;omega,lo,λi d b=>hi i (by have z:l<=i:=d;omega) b⟩
 | f+1,l,r,h1,h2,h3,lo,hi=>by
  by_cases c:l >= r
  .have s:run lt (kas_place p k (f+1) l r)=l:=by
    show run lt (if l >= r then .ret l else _)=l;rw[if_pos c];rfl
   rw[s];exact⟨by omega,lo,λi d b=>hi i (by omega) b⟩
  .have s:run lt (kas_place p k (f+1) l r)=run lt (if lt (e p k) (e p ((l+r)/2))=true then kas_place p k f l ((l+r)/2) else kas_place p k f ((l+r)/2+1) r):=by
    show run lt (if l >= r then .ret l else .ask (p.getD k 0) (p.getD ((l+r)/2) 0) λc=>if c=true then kas_place p k f l ((l+r)/2) else kas_place p k f ((l+r)/2+1) r)=_;rw[if_neg c,aX,aX];rfl
   rw[s];have j:l<=(l+r)/2:=by omega
   have q:(l+r)/2<r:=by omega
   generalize (l+r)/2=m at j q;cases cc:lt (e p k) (e p m) with
   | true =>
    have g:=T.asy _ _ (h.bd n o) (h.bd n (by omega)) cc;rw[if_pos rfl];refine im h o a f l m j (by omega) (by omega) lo λi d b=>?_
    by_cases c3:i=m
    .rw[c3];exact g
    .exact T.tr _ (e p m) _ (h.bd n o) (h.bd n (by omega)) (h.bd n (by omega)) g (a m i (by omega) b)
   | false =>
    rw[if_neg (by decide)];refine im h o a f (m+1) r (by omega) h2 (by omega) (λi d=>?_) hi
    by_cases c3:i=m
    .rw[c3];exact cc
    .exact T.tr _ (e p m) _ (h.bd n (by omega)) (h.bd n (by omega)) (h.bd n o) (a i m (by omega) (by omega)) cc
omit T in
theorem ke{p:Array Nat}{k l i:Nat}(b:k<p.size)(c:l<=k):e (bubble p k (k - l)) i=if i=l then e p k else if l<i/\i<=k then e p (i - 1) else e p i:=by
 unfold e;rw[getElem?_bubble b (k - l) (by omega)];have a:k - (k - l)=l:=by omega
 rw[a]
 split
 .rfl
 .split <;> rfl
theorem pT:∀(f:Nat) (p:Array Nat) (k:Nat),PV n p->k+f<=n->Asc lt p k->∃ p',run lt (kas_bin f p k)=p'/\PV n p'/\Asc lt p' (k+f)
 | 0,p,k,h,_,a=>⟨p,rfl,h,a⟩
 | f+1,p,k,h,hk,a=>by
  obtain⟨b,s,r⟩:=im lt n T h (by omega) a k 0 k (by omega) (Nat.le_refl _) (by omega) (λi hi=>by omega) (λi h1 h2=>by omega)
  have A:run lt (kas_bin (f+1) p k)=run lt (kas_bin f (bubble p k (k - run lt (kas_place p k k 0 k))) (k+1)):=by
   show run lt ((kas_place p k k 0 k).bind λl=>kas_bin f (bubble p k (k - l)) (k+1))=_;rw[eG]
  rw[A];generalize run lt (kas_place p k k 0 k)=l at b s r;have d:k<p.size:=by rw[h.sz];omega
  have x:PV n (bubble p k (k - l)):=⟨by rw[bubble_size];exact h.sz,(Array.perm_iff_toList_perm.mp (bubble_perm p k (k - l))).trans h.pm⟩
  have w:Asc lt (bubble p k (k - l)) (k+1):=by
   intro i j q B
   by_cases c1:i=l
   .have o:e (bubble p k (k - l)) i=e p k:=by rw[ke d b,if_pos c1]
    have g:e (bubble p k (k - l)) j=e p (j - 1):=by rw[ke d b,if_neg (by omega),if_pos ⟨by omega,by omega⟩]
    rw[o,g];exact r (j - 1) (by omega) (by omega)
   .by_cases c2:j=l
    .have o:e (bubble p k (k - l)) i=e p i:=by rw[ke d b,if_neg c1,if_neg (by omega)]
     have g:e (bubble p k (k - l)) j=e p k:=by rw[ke d b,if_pos c2]
     rw[o,g];exact s i (by omega)
    .have o:e (bubble p k (k - l)) i=if l<i then e p (i - 1) else e p i:=by
      rw[ke d b,if_neg c1]
      by_cases c:l<i
      .rw[if_pos ⟨c,by omega⟩,if_pos c]
      .rw[if_neg (λz=>c z.1),if_neg c]
     have g:e (bubble p k (k - l)) j=if l<j then e p (j - 1) else e p j:=by
      rw[ke d b,if_neg c2]
      by_cases c:l<j
      .rw[if_pos ⟨c,by omega⟩,if_pos c]
      .rw[if_neg (λz=>c z.1),if_neg c]
     rw[o,g]
     split
     .split
      .exact a _ _ (by omega) (by omega)
      .exact a _ _ (by omega) (by omega)
     .split
      .omega
      .exact a _ _ q (by omega)
  obtain⟨p',u,y,v⟩:=pT f _ (k+1) x (by omega) w;exact⟨p',u,y,by rw[show k+(f+1)=k+1+f by omega];exact v⟩
theorem run_sort(h:2<=n):∃ p,run lt (kas_sort n)=p/\PV n p/\Asc lt p n:=by
 unfold kas_sort;rw[eG]
 have g:PV n (List.toArray (List.range n)):=⟨by simp,by simp⟩
 obtain⟨m,p,i,b,d,q,o⟩:=ku lt n T g h;rw[i];show ∃ a,run lt (if m<n then kas_bin (n - max m 1) p (max m 1) else .ret p)=a/\_;have k:max m 1=m:=by omega
 by_cases c:m<n
 .rw[if_pos c,k]
  obtain⟨a,j,l,f⟩:=pT lt n T (n - m) p m b (by omega) d;exact⟨a,j,l,by rw[show m+(n - m)=n by omega]at f;exact f⟩
 .rw[if_neg c]
  have:m=n:=by omega
  subst this;exact⟨p,rfl,b,d⟩
omit T in
def In{α:Type}:KasT α->Prop
 | .ret _=>True
 | .ask i j k=>i<n/\j<n/\i≠j/\In (k (lt i j))
omit T in
theorem fY{a b:Type}{f:a->KasT b}:∀{t:KasT a},In lt n t->In lt n (f (run lt t))->In lt n (t.bind f)
 | .ret _,_,h=>h
 | .ask i j k,h,h'=>⟨h.1,h.2.1,h.2.2.1,fY h.2.2.2 h'⟩
omit T in
theorem oz{p:Array Nat}(h:PV n p):∀(f m:Nat),1<=m->m+f<=n->In lt n (kas_asc p f m)
 | 0,_,_,_=>trivial
 | f+1,m,h1,h2=>by
  refine⟨by rw[aX];exact h.bd n (by omega),by rw[aX];exact h.bd n (by omega),by rw[aX,aX];exact h.ne n (by omega) (by omega) (by omega),?_⟩;dsimp only
  split
  .exact trivial
  .exact oz h f (m+1) (by omega) (by omega)
omit T in
theorem i6:∀(f:Nat) (p:Array Nat) (m q:Nat),PV n p->1<=m->m+f<=n->In lt n (kas_desc f p m q)
 | 0,_,_,_,_,_,_=>trivial
 | f+1,p,m,q,h,h1,h2=>by
  refine⟨by rw[aX];exact h.bd n (by omega),by rw[aX];exact h.bd n (by omega),by rw[aX,aX];exact h.ne n (by omega) (by omega) (by omega),?_⟩;dsimp only
  split
  .split
   .exact i6 f _ _ _ (h.rev n _ _) (by omega) (by omega)
   .exact i6 f _ _ _ h (by omega) (by omega)
  .refine⟨by rw[aX];exact h.bd n (by omega),by rw[aX];exact h.bd n (by omega),by rw[aX,aX];exact h.ne n (by omega) (by omega) (by omega),?_⟩
   dsimp only
   split
   .exact trivial
   .exact i6 f _ _ _ h (by omega) (by omega)
omit T in
theorem qP{p:Array Nat}{m:Nat}(h:PV n p)(a:1<=m)(b:m<=n):In lt n (kas_tail3 m n p):=fY lt n (oz lt n (h.rev n 0 m) (n - m) m a (by omega)) trivial
theorem m5{p:Array Nat}{m:Nat}(h:PV n p)(u:1<=m)(f:m<n)(a:Dsc lt p (m+1)):In lt n (kas_descPart m n p):=by
 have d:Blk lt p (m+1 - (0+1)) (m+1):=λx y q k r o=>by
  have:x=m:=by omega
  have:y=m:=by omega
  subst x y;cases c:lt (e p m) (e p m) with
  | false=>rfl
  | true=>rw[T.asy _ _ (h.bd n f) (h.bd n f) c]at c;exact absurd c (by decide)
 obtain⟨g,b,i,l,j,v,s,A,w,z⟩:=fF lt n T (n - (m+1)) p (m+1) 0 h (by omega) (by omega) a d;refine fY lt n (i6 lt n _ _ _ _ h (by omega) (by omega)) ?_;rw[l];show In lt n (if i > 0 then kas_tail3 b n (kas_rev g (b - (i+1)) b) else kas_tail3 b n g)
 split
 .exact qP lt n (j.rev n _ _) (by omega) (by omega)
 .exact qP lt n j (by omega) (by omega)
theorem sJ{p:Array Nat}(h:PV n p)(r:2<=n):In lt n (kas_count n p):=by
 refine fY lt n (oz lt n h (n - 1) 1 (by omega) (by omega)) ?_;have l:Asc lt p 1:=λi j a k=>by omega
 obtain⟨d,q,b,g⟩:=iU lt n T h (n - 1) 1 (Nat.le_refl _) (by omega) l;generalize run lt (kas_asc p (n - 1) 1)=m at d q b g
 by_cases c:m=n
 .have:(m == n)=true:=by simpa using c
  rw[if_pos this];exact trivial
 .have:¬(m == n)=true:=by simpa using c
  rw[if_neg this];have f:=T.asy _ _ (h.bd n (by omega)) (h.bd n (by omega)) (g (by omega))
  by_cases c2:m > 1
  .rw[if_pos c2]
   refine⟨by rw[aX];exact h.bd n (by omega),by rw[aX];exact h.bd n (by omega),by rw[aX,aX];exact h.ne n (by omega) (by omega) (by omega),?_⟩;rw[aX,aX];cases c3:lt (e p 0) (e p (m - 1)) with
   | true=>exact trivial
   | false =>
    show In lt n (if false=true then _ else kas_descPart m n (kas_rev p 0 m));rw[if_neg (by decide)];exact m5 lt n T (h.rev n 0 m) (by omega) (by omega) (mw lt n T h d (by omega) b c3 f)
  .rw[if_neg c2]
   have o:m=1:=by omega
   subst o;refine m5 lt n T h (by omega) (by omega) ?_;intro i j a k;have:i=0:=by omega
   have:j=1:=by omega
   subst i j;exact f
omit T in
theorem je{p:Array Nat}{k:Nat}(h:PV n p)(a:k<n):∀(f l r:Nat),r<=k->In lt n (kas_place p k f l r)
 | 0,_,_,_=>trivial
 | f+1,l,r,h2=>by
  show In lt n (if l >= r then .ret l else .ask (p.getD k 0) (p.getD ((l+r)/2) 0) λc=>if c=true then kas_place p k f l ((l+r)/2) else kas_place p k f ((l+r)/2+1) r)
  split
  .exact trivial
  .refine⟨by rw[aX];exact h.bd n a,by rw[aX];exact h.bd n (by omega),by rw[aX,aX];exact h.ne n a (by omega) (by omega),?_⟩
   dsimp only
   split
   .exact je h a f l _ (by omega)
   .exact je h a f _ r h2
omit T in
theorem tL:∀(f:Nat) (p:Array Nat) (k:Nat),PV n p->k+f<=n->In lt n (kas_bin f p k)
 | 0,_,_,_,_=>trivial
 | f+1,p,k,h,hk=>by
  refine fY lt n (je lt n h (by omega) k 0 k (Nat.le_refl _)) ?_;exact tL f _ (k+1) ⟨by rw[bubble_size];exact h.sz,(Array.perm_iff_toList_perm.mp (bubble_perm p k _)).trans h.pm⟩ (by omega)
theorem In_sort(b:2<=n):In lt n (kas_sort n):=by
 have a:PV n (List.toArray (List.range n)):=⟨by simp,by simp⟩
 refine fY lt n (sJ lt n T a b) ?_;obtain⟨m,p,d,c,h,g,f⟩:=ku lt n T a b;rw[d];show In lt n (if m<n then kas_bin (n - max m 1) p (max m 1) else .ret p)
 split
 .exact tL lt n _ _ _ c (by omega)
 .exact trivial
omit T in
theorem wp_run{c:Type}{a:Nat->Nat->(Bool->Shared->Prop)->Shared->Prop}{s:Shared}(b:∀ i j,i<n->j<n->i≠j->∀ C,C (lt i j) s->a i j C s){Q:c->Shared->Prop}:∀ t:KasT c,In lt n t->Q (run lt t) s->t.kasWp a Q s
 | .ret _,_,h=>h
 | .ask i j k,hi,h=>b i j hi.1 hi.2.1 hi.2.2.1 _ (wp_run b (k (lt i j)) hi.2.2.2 h)
end WSrt
namespace L2
open PySem PySem.Spec PyProof.Rows PySem.W
def ord(lt:Nat->Nat->Bool)(n:Nat):List Nat:=if 2<=n then (WSrt.run lt (kas_sort n)).toList else List.range n
theorem uh{lt:Nat->Nat->Bool}{n:Nat}(T:WSrt.Wk lt n):(ord lt n).Perm (List.range n):=by
 unfold ord
 split
 .rename_i h
  obtain⟨p,e,a,b⟩:=WSrt.run_sort lt n T h;rw[e];exact a.pm
 .exact .refl _
theorem wW{lt:Nat->Nat->Bool}{n:Nat}(T:WSrt.Wk lt n):(ord lt n).Pairwise λi j=>lt j i=false:=by
 unfold ord
 split
 .rename_i h
  obtain⟨p,e,a,k⟩:=WSrt.run_sort lt n T h;rw[e,pairwise_iff_getElem];intro i j l d b;have c:j<n:=by rw[Array.length_toList,a.sz]at d;exact d
  have g:=(List.getElem?_eq_some_iff.mp (WSrt.e_list (p:=p) (i:=i) (by rw[a.sz];lia))).2;have f:=(List.getElem?_eq_some_iff.mp (WSrt.e_list (p:=p) (i:=j) (by rw[a.sz];lia))).2;rw[g,f];exact k i j b c
 .match n with
  | 0=>exact List.Pairwise.nil
  | 1=>exact List.pairwise_singleton _ _
  | n+2=>exact absurd (show 2<=n+2 by lia) (by assumption)
section
variable {X:Cx}{pins:List (Addr×Obj)}{σ:St}{H:Hp}{s:Shared}{κ:SortKind}{lt:Nat->Nat->Bool}{KO:Nat->V->Hp->Prop}{xs:List V}{q:Addr}
theorem sh{xs:List V}{vs:List Value}(h:Vals xs vs)(p:List Nat)(b:∀ i∈p,i<xs.length):Vals (p.map λi=>xs.getD i .non) (p.map λi=>vs.getD i Value.none):=by
 induction p with
 | nil=>exact .nil
 | cons i p ih =>
  rw[map_cons,map_cons];refine .cons ?_ (ih λj c=>b j (mem_cons_of_mem _ c));have a:=b i (mem_cons_self ..);obtain⟨u,d,r⟩:=h.get (List.getElem?_eq_getElem a);rw[List.getD,List.getD,List.getElem?_eq_getElem a,d];exact r
end
def DE(h:Heap)(d:Addr)(es:Array DictEntry)(ep:Nat):Prop:=∃ o,h.get? d=some o/\o.ExactDict/\o.data=.dict es ep
theorem DE.on{h h':Heap}{d:Addr}{b:Array DictEntry}{a:Nat}(x:DE h d b a)(k:∀ o,h.get? d=some o->h'.get? d=some o):DE h' d b a:=let ⟨o,e,r⟩:=x;⟨o,k o e,r⟩
theorem DE.lt{h:Heap}{d:Addr}{b:Array DictEntry}{a:Nat}(x:DE h d b a):d<h.objs.size:=let ⟨_,e,_⟩:=x;Heap.lt_size e
theorem DE.ty{s:Shared}{d:Addr}{b:Array DictEntry}{a:Nat}(x:DE s.heap d b a):s.TypeIs (.ref d) "dict" := let ⟨o,e,c,_⟩:=x;⟨o,e,c.1⟩
section
variable {prog:Program}{w:World}{A:Around}{E:Value->Shared->Prop}{s:Shared}{d I:Addr}{es:Array DictEntry}{ep i:Nat}
theorem v4{Q:Value->Shared->Prop}(f:(d == sysModules)=false)(x:DE s.heap d es ep)
  (q:Q (.ref s.heap.objs.size) { s with heap:=s.heap.push { cls:=.type "dict_keyiterator",data:=.fields #[.ref d,.int 0 0,.int es.size 0,.int ep 0] } }):wpAny (model prog w) A (pyIter (.ref d)) Q E s:=by
 have a:=x.ty;obtain⟨h,c,g,b⟩:=id x;refine wpAny_pyIter_slot a F.slot_dict_iter (wpAny_call_entry F.slot_dict_iter a F.entry_dict_iter ?_ (F.args_dict_iter_1 _));unfold Builtin.«dict.__iter__»;refine wpAny_bind ?_;unfold Builtin.Dict.dictSlotNone;refine wpAny_bind (wpAny_notOrdered_dict a (wpAny_pure ?_));show wpAny _ _ (Builtin.Dict.showsAll d >>= _) _ _ _;unfold Builtin.Dict.showsAll;rw[if_neg (λz=>by rw[f]at z;cases z)];refine wpAny_bind (wpAny_pure (wpAny_bind (wpAny_dictEntries c b (wpAny_bind (wpAny_dictEpoch c b ?_)))));refine wpAny_bind (wpAny_newObj_type (wpAny_pure ⟨_,rfl, "dict_keyiterator",_,⟨_,Heap.get?_push_size _ rfl,rfl⟩,F.slot_dict_keyiterator_next.lookup,?_⟩));simpa[rawInt] using q
theorem wJ{Q:Option Value->Shared->Prop}{e:DictEntry}(a:s.heap.IsKeyIter I d i es.size ep)(x:DE s.heap d es ep)(n:es[i]? = some e)
  (q:∀ h',h'.IsKeyIter I d (i+1) es.size ep->Heap.SameBut I s.heap h'->Q (some e.key) { s with heap:=h' }):wpAny (model prog w) A (pyNext (.ref I)) Q E s:=by
 obtain⟨o,g,l,c⟩:=id a;obtain⟨r,k,p,j⟩:=id x;unfold pyNext;refine wpAny_bind (wpAny_attempt (wpAny_callSpecial?_slot (name:=Str.ofString "__next__") a.typeIs F.slot_dict_keyiterator_next (wpAny_call_entry F.slot_dict_keyiterator_next a.typeIs F.entry_dict_keyiterator_next ?_ (F.args_dict_keyiterator_next_1 _))));refine wpAny_bind (wpAny_pure (wpAny_bind (wpAny_bind ?_)))
 first | refine wpAny_bind (wpAny_typeNameOfWhole_keyiter a.typeIs (wpAny_pure ?_)) | refine wpAny_bind (wpAny_typeNameOf_keyiter a.typeIs (wpAny_pure ?_))
 refine wpAny_bind (wpAny_fieldsOf g c ?_);have f:Builtin.Dict_items.ownsTuple "dict_keyiterator" = false:=by decide
 simp only[f,Bool.false_eq_true,if_false];show wpAny _ _ (if (Value.ref d == Value.none)=true then _ else _) _ _ _;rw[if_neg (λz:(Value.ref d == Value.none)=true=>Bool.false_ne_true z)];refine wpAny_bind (wpAny_pure (wpAny_bind (wpAny_dictEntries k j ?_)));rw[if_neg (by simp)];refine wpAny_bind (wpAny_pure (wpAny_bind (wpAny_dictEpoch k j ?_)));rw[if_neg (by simp)];refine wpAny_pure ?_;obtain⟨h,rfl⟩:=Array.getElem?_eq_some_iff.mp n;simp only[show ¬((i:Int)<0) from by lia,if_false,Int.toNat_natCast,Array.getElem?_eq_getElem h];refine wpAny_bind ?_
 first | refine wpAny_bind (wpAny_typeNameOfWhole_keyiter a.typeIs (wpAny_pure ?_)) | refine wpAny_bind (wpAny_typeNameOf_keyiter a.typeIs (wpAny_pure ?_))
 refine wpAny_bind (wpAny_isOneOf_keyiter a.typeIs ?_);show wpAny _ _ (setField (.ref I) 1 (rawInt ((i:Int)+1)) >>= _) _ _ _;refine wpAny_bind (wpAny_setField g c (by simp) ?_)
 have b:(s.heap.update I (Obj.mapFields (·.setIfInBounds 1 (rawInt ((i:Int)+1))))).IsKeyIter I d (i+1) es.size ep:=⟨_,Heap.get?_update_self _ g (Obj.isFreed_of_fields (Obj.data_mapFields c _)),(Obj.cls_mapFields ..).trans l,by rw[Obj.data_mapFields c];simp[rawInt]⟩
 refine wpAny_bind (wpAny_holding (wpAny_bind (wpAny_isOneOf_keyiter (s:={ s with heap:=s.heap.update I (Obj.mapFields (·.setIfInBounds 1 (rawInt ((i:Int)+1)))) }) b.typeIs ?_)));show wpAny _ _ (pure es[i].key) _ _ _;exact wpAny_pure (wpAny_pure ⟨_,rfl,wpAny_pure (q _ b (Heap.SameBut.update ..))⟩)
theorem xQ{Q:Option Value->Shared->Prop}(l:A.handled=none)(c:s.heap.IsKeyIter I d i es.size ep)(x:DE s.heap d es ep)(n:es.size<=i)
  (q:∀ h',Heap.ExtBut I s.heap h'->Q none { s with heap:=h' }):wpAny (model prog w) A (pyNext (.ref I)) Q E s:=by
 obtain⟨p,h,o,j⟩:=id c;obtain⟨u,k,r,g⟩:=id x;unfold pyNext;refine wpAny_bind (wpAny_attempt (wpAny_callSpecial?_slot (name:=Str.ofString "__next__") c.typeIs F.slot_dict_keyiterator_next (wpAny_call_entry F.slot_dict_keyiterator_next c.typeIs F.entry_dict_keyiterator_next ?_ (F.args_dict_keyiterator_next_1 _))));refine wpAny_bind (wpAny_pure (wpAny_bind (wpAny_bind ?_)))
 first | refine wpAny_bind (wpAny_typeNameOfWhole_keyiter c.typeIs (wpAny_pure ?_)) | refine wpAny_bind (wpAny_typeNameOf_keyiter c.typeIs (wpAny_pure ?_))
 refine wpAny_bind (wpAny_fieldsOf h j ?_);have f:Builtin.Dict_items.ownsTuple "dict_keyiterator" = false:=by decide
 simp only[f,Bool.false_eq_true,if_false];show wpAny _ _ (if (Value.ref d == Value.none)=true then _ else _) _ _ _;rw[if_neg (λz:(Value.ref d == Value.none)=true=>Bool.false_ne_true z)];refine wpAny_bind (wpAny_pure (wpAny_bind (wpAny_dictEntries k g ?_)));rw[if_neg (by simp)];refine wpAny_bind (wpAny_pure (wpAny_bind (wpAny_dictEpoch k g ?_)));rw[if_neg (by simp)];refine wpAny_pure ?_;simp only[show ¬((i:Int)<0) from by lia,if_false,Int.toNat_natCast,Array.getElem?_eq_none n];refine wpAny_bind ?_
 first | refine wpAny_bind (wpAny_typeNameOfWhole_keyiter c.typeIs (wpAny_pure ?_)) | refine wpAny_bind (wpAny_typeNameOf_keyiter c.typeIs (wpAny_pure ?_))
 show wpAny _ _ (setField (.ref I) 0 .none >>= _) _ _ _;refine wpAny_bind (wpAny_setField h j (by simp) ?_);show wpAny _ _ (newExc (.type "StopIteration") [] >>= _) _ _ _;refine wpAny_bind ?_;simp only[newExc,newTuple];refine wpAny_bind (wpAny_newObj_type (wpAny_bind (m:=firstArgMember _ _) (wpAny_of_eq (a:=Value.none) (by first | rfl | (simp only[firstArgMember];rfl)) (wpAny_newObj_type ?_ (by size_fits)))) (by size_fits));simp only[raiseNew];refine wpAny_bind (wpAny_handled ?_);rw[show A.in1.handled=none from l];refine wpAny_bind (wpAny_pure (wpAny_throw ?_));refine wpAny_bind (wpAny_isInstance (T := "StopIteration") (b:=true) ⟨_,Heap.get?_push_size _ rfl,rfl⟩ isSubtype_stop ?_);exact wpAny_pure (q _ (((Heap.SameBut.update ..).extBut.push _).push _))
theorem uN(p:A.handled=none)(j:d≠I):Walks prog w A I [I,d] [I] es.size (λi v=>∃ e,es[i]? = some e/\v=e.key) (λi h=>h.IsKeyIter I d i es.size ep/\DE h d es ep) where
 sub:=λb f=>by rw[mem_singleton.mp f];exact mem_cons_self ..
 frame:=λ_ _ _ a n=>⟨a.1.at λo e=>n I (mem_cons_self ..) o e,a.2.on λo e=>n d (by simp) o e⟩
 item:=λi s Q E l a c=>by
  refine wJ a.1 a.2 (Array.getElem?_eq_getElem l) λk q g=>?_
  exact c _ k s.toks ⟨_,Array.getElem?_eq_getElem l,rfl⟩ ⟨q,a.2.on λo e=>g.extBut d o j e⟩ λb o f e=>g.extBut b o (λz=>f (by rw[z];exact mem_cons_self ..)) e
 done:=λs Q E a c=>xQ p a.1 a.2 (Nat.le_refl _) λk g=>c k s.toks λb o f e=>g b o (λz=>f (by rw[z];exact mem_cons_self ..)) e
 self:=λ_ _ _ _ a c=>wpAny_pyIter_keyiter a.1 c
theorem zd(a:(d == sysModules)=false):KdlSrc prog w "dict" d d es.size (λi v=>∃ e,es[i]? = some e/\v=e.key) (λh=>DE h d es ep) where
 type:=λ_ x=>x.ty
 there:=λ_ x=>⟨x.lt,x.lt⟩
 keep:=λ_ _ x b=>x.on λo e=>b d (.inl rfl) o e
 notList:=by decide
 notTuple:=by decide
 hint:=λ_ _ _ _ x q=>kdl_hint_dict x.ty q
 iter:=λ_ _ c x=>⟨_,_,(λ_ _ q=>v4 a x q),uN c (Nat.ne_of_lt x.lt),⟨⟨_,Heap.get?_push_size _ rfl,rfl,rfl⟩,x.on λo e=>Heap.get?_push_of_some _ e⟩⟩
def jk(es:Array DictEntry):List Value:=es.toList.map (·.key)
theorem oA{a:Array Value}(h:ItemsOf (λi v=>∃ e,es[i]? = some e/\v=e.key) a es.size):a.toList=jk es:=by
 obtain⟨g,d⟩:=h;refine List.ext_getElem? λj=>?_
 unfold jk;rw[List.getElem?_map,Array.getElem?_toList,Array.getElem?_toList]
 by_cases c:j<a.size
 .obtain⟨e,b,f⟩:=d j _ (Array.getElem?_eq_getElem c)
  rw[Array.getElem?_eq_getElem c,b,f];rfl
 .rw[Array.getElem?_eq_none (by lia),Array.getElem?_eq_none (by lia)];rfl
theorem o9{Q:List Value->Shared->Prop}(h:A.handled=none)(i:(d == sysModules)=false)(x:DE s.heap d es ep)(g:es.size<=sizeLine)
  (q:∀ h' tk,s.heap.objs.size<h'.objs.size->(∀ b o,s.heap.get? b=some o->h'.get? b=some o)->Q (jk es) { s with heap:=h',toks:=tk }):wpAny (model prog w) A (collect (.ref d)) Q E s:=by
 unfold collect;refine wpAny_bind (wpAny_runValue (codeAny_builtin entry_proto_collect' ?_));show wpAny _ _ (do again (.builtin "list.__iadd__" ⟨[<- newList [],.ref d],[]⟩)) _ _ _;refine wpAny_bind (wpAny_newList (wpAny_pure ⟨Code.quiet_builtin _ (by decide +kernel),codeAny_builtin entry_list_iadd' ?_⟩));have c:=x.lt;refine kdl_extend (R:=λr f=>match r with | Except.ok (Flow.ret v)=>wpAny (model prog w) A (match v with | Value.ref a=>(do let o <- load a;match o.data with | Data.seq xs _=>pure xs.toList | _=>unsupported "internal:collect") | _=>unsupported "internal:collect") Q E f | Except.ok _=>False | Except.error e=>E e f) (s:={ s with heap:=s.heap.push { cls:=.type "list",data:=.seq #[] } }) (zd i) h (x.on λo e=>Heap.get?_push_of_some _ e) s.heap.objs.size (Nat.ne_of_gt c) (Nat.ne_of_gt c) _ 0 (Heap.get?_push_size _ rfl) (λh' tk acc c' hk hS ha=>?_) g
 show wpAny (model prog w) A (do
   let o <- load s.heap.objs.size
   match o.data with
   | .seq xs _=>pure xs.toList
   | _=>unsupported "internal:collect") Q E _
 refine wpAny_bind (wpAny_load hS (wpAny_pure ?_));rw[oA ha];exact q h' tk (Heap.lt_size hS) λb o e=>hk b o (Nat.ne_of_lt (Heap.lt_size e)) (Heap.get?_push_of_some _ e)
end
section
variable {X:Cx}
theorem KT.at{H:Hp}:∀{kvs:List (List Key×V)}{xs:List (List Key×Addr×Value)}{i:Nat}{kv:List Key×V},KT H kvs xs->kvs[i]? = some kv->∃ x,xs[i]? = some x/\H x.2.1=some (.tup (kv.1.map kV))
 | _,_,_,_,.nil,h=>by cases h
 | _,_,0,_,.cons r t,h=>by cases h;exact⟨_,rfl,r.2.1⟩
 | _,_,i+1,_,.cons r t,h=>KT.at (i:=i) t h
theorem km{vs:List Value}(f:Nat->V):∀{o:List Nat},(∀ i∈o,RelV (f i) (vs.getD i Value.none))->Vals (o.map f) (o.map λi=>vs.getD i Value.none)
 | [],_=>.nil
 | i::o,h=>.cons (h i (mem_cons_self ..)) (km f λj a=>h j (mem_cons_of_mem _ a))
end
section
variable {X:Cx}{K:Frag}
theorem Af:OpR X (binaryOp .LShift) (rIC zj λi j=>.int (i*2 ^ j.toNat)):=op_shl.ic
end
end L2
namespace L2
open PySem PySem.Spec PyProof.Rows
section
variable {prog:Program}{w:World}{KT:Type} [DecidableEq KT] {knd:HeapKind prog w KT}{A:Around}{E:Value->Shared->Prop}{s:Shared}{d a:Addr}{xs:List (KT×Addr×Value)}{k:KT}{dflt:Value}
theorem sdH{Q:Value->Shared->Prop}(v:knd.room A)(b:knd.is s.heap k a)(z:s.heap.DictOfH knd d xs)(B:xs.length<=sizeLine)
  (D:∀ p,atKey xs k=some p->Q p.2 { s with toks:=s.toks+knd.draws k })
  (h2:atKey xs k=none->∀ h',h'.DictOfH knd d (storedH xs k a dflt)->Heap.SameBut d s.heap h'->Q dflt { s with heap:=h',toks:=s.toks+knd.draws k }):wpAny (model prog w) A (dictSetDefault d (.ref a) dflt) Q E s:=by
 obtain⟨o,G,C,g,F,c,n,l,q⟩:=z;unfold dictSetDefault;refine wpAny_holding (wpAny_bind (knd.pyHash v b (wpAny_bind (wpAny_dictFind_heap (s:={ s with toks:=s.toks+knd.draws k }) v b g c n l q ?_ ?_))))
 .intro h
  have i:k ∉ xs.map (·.1):=not_mem_keys_of_get h;have f:=atKey_none_of_get h
  refine wpAny_bind (wpAny_rule (wpAny_bind (wpAny_updateDictKeys (hz:=by have e:=size_of_entries n;lia) (s:={ s with toks:=s.toks+knd.draws k }) g c (wpAny_pure (h2 f _ ⟨_,_,C+1,Heap.get?_update_self _ g (Obj.isFreed_of_dict (Obj.data_mapDictKeys c _)),
   F.mapDictKeys _,Obj.data_mapDictKeys c _,?_,?_,?_⟩ (Heap.SameBut.update ..))))))
  .rw[storedH_new f]
   simp[n,entryOfKey]
  .rw[storedH_new f]
   intro x hx
   rcases mem_append.mp hx with hx | hx
   .exact knd.keeps (l x hx) g c (Heap.SameBut.update ..)
   .simp only[mem_singleton]at hx
    subst hx;exact knd.keeps b g c (Heap.SameBut.update ..)
  .rw[storedH_new f]
   rw[map_append,nodup_append];refine⟨q,by simp,?_⟩;intro x hx y r;simp only[map_cons,map_nil,mem_singleton]at r;subst r;exact λe=>i (e ▸ hx)
 .intro j p u
  have f:=atKey_of_get q u;refine wpAny_bind (wpAny_dictEntries (s:={ s with toks:=s.toks+knd.draws k }) g c ?_);rw[entry_at n j,u];exact wpAny_bind (wpAny_rule (wpAny_pure (D p f)))
theorem su(j:(d == sysModules)=false)(b:Value):MeetsIn prog w (Builtin.«dict.setdefault» ⟨[.ref d,.ref a,b],[]⟩) (λA R s=>knd.room A.in1/\∃ k xs,knd.is s.heap k a/\s.heap.DictOfH knd d xs/\xs.length<=sizeLine /\
  (∀ p,atKey xs k=some p->R (.ok (.ret p.2)) { s with toks:=s.toks+knd.draws k })/\(atKey xs k=none->∀ h',h'.DictOfH knd d (storedH xs k a b)->Heap.SameBut d s.heap h'->R (.ok (.ret b)) { s with heap:=h',toks:=s.toks+knd.draws k })) :=
 .of_wp λA R s ⟨l,k,xs,c,f,i,h,g⟩=>by
  unfold Builtin.«dict.setdefault»;refine wpAny_bind ?_;unfold Builtin.Dict.keyAndDefault;refine wpAny_bind (wpAny_notOrdered_dict f.typeIs (show wpAny _ _ (pure (d,Value.ref a,some b)) _ _ s from wpAny_pure ?_));show wpAny _ _ (if (d == sysModules)=true then _ else (dictSetDefault d (.ref a) b >>= _)) _ _ s;rw[if_neg (by rw[j];exact Bool.false_ne_true)];exact wpAny_bind (sdH l c f i (λp n=>wpAny_pure ⟨_,rfl,h p n⟩) λhn h' m' s'=>wpAny_pure ⟨_,rfl,g hn h' m' s'⟩)
end
def Bc(td ty tx:TE):TE:=λσ H Q=>td σ H λx H1=>∃ a,x=.ref a/\IsD H1 a/\ty σ H1 λy H2=>tx σ H2 λz H3=>∃ kvs k b,y=.ref b/\H3 b=some (.tup (k.map kV))/\H3 a=some (.dT kvs)/\kvs.length<sizeLine /\
 (∀ v,eH kvs k=some v->Q v H3)/\(eH kvs k=none->Q z (upd H3 a (.dT (kvs++[(k,z)]))))
section
variable {X:Cx}{o e f:Expr}{apos cpos:Pos}{td ty tx:TE}
theorem yw(hu:X.A.units+1<cLine)(Z:PE X o td)(he:PE X e ty)(W:PE X f tx)(m:M2 X o "setdefault" apos e f cpos):PE X (.Call (.Attribute o "setdefault" apos) [e,f] [] cpos) (Bc td ty tx):=by
 intro g s w H Q I h;refine wpAny_Call_method m.base m.few m.line PySem.F.plainAttrs_dict PySem.F.slot_dict_setdefault PySem.F.type_dict_setdefault (thn (Z g s w H _ I h) λu s1 ⟨x,H1,C,rx,a,O,d,S⟩=>?_);subst O;obtain rfl:u=Value.ref a:=rx;obtain⟨t1,t2,_⟩:=yD C d;refine⟨t1,t2,?_⟩;rw[m.trees]
 refine Calls.callWith_builtin rfl (Calls.evalArgs_plain (Calls.spliced_cons (thn (he g s1 w H1 _ C S) λP s2 ⟨y,H2,I2,R,N⟩ =>
  Calls.spliced_cons (thn (W g s2 w H2 _ I2 N) λfv s3 ⟨z,H3,r,B,i,k,b,ey,G,v,l,L,q4⟩=>Calls.spliced_nil ?_))))
 subst ey;cases(show P=Value.ref b from R);obtain⟨Y,A,K,n,D⟩:=xx r.hok v;have M:K.length<=sizeLine:=by rw[<- Paired.length n];exact Y
 refine call_meetsIn PySem.F.slot_dict_setdefault D.typeIs PySem.F.entry_dict_setdefault (PySem.F.args_dict_setdefault_3 _ _ _) (su (knd:=tupleKind (bZ X.prog X.w)) A fv) ⟨tupleKind_room_in1 hu,k,K,oZ r.hok G,D,M,λp hp=>?_,λhn h' m' s'=>?_⟩
 .have j:=n.val k
  rw[hp]at j;cases q:eH i k with
  | none=>rw[q]at j;exact False.elim j
  | some y'=>rw[q]at j;exact⟨y',H3,r.tok _,j,L y' q⟩
 .have j:=n.val k
  rw[hn]at j
  have q:eH i k=none:=by
   cases q:eH i k with
   | none=>rfl
   | some y'=>rw[q]at j;exact False.elim j
  have hl:(i++[(k,z)]).length<=sizeLine:=by rw[length_append];exact l
  have E:=n.put k G B;rw[sZ z q]at E;obtain⟨ob,es,ep,F,h2,h3,T,_,h5⟩:=m';refine⟨z,_,vT (ob:=.dT (i++[(k,z)])) r (by rw[v];exact True.intro) s' ⟨ob,F⟩ ⟨hl,A,_,E.keeps λc ys ec=>?_,ob,es,ep,F,h2,h3,T,h5⟩,B,q4 q⟩;rw[ag (gG ec v (λz=>nomatch z))];exact ec
end
end L2
namespace L2
open PySem PySem.Spec PyProof.Rows PySem.W
def ii(lt:Nat->Nat->Bool)(n:Nat):List Nat:=ord lt n
theorem iz{lt:Nat->Nat->Bool}{n:Nat}(T:WSrt.Wk lt n):(ii lt n).Perm (List.range n):=uh T
theorem mW{lt:Nat->Nat->Bool}{n:Nat}(T:WSrt.Wk lt n):(ii lt n).Pairwise λi j=>lt j i=false:=wW T
structure Tot(lt:Nat->Nat->Bool)(n:Nat):Prop where
 asy:∀ i j,i<n->j<n->lt i j=true->lt j i=false
 tr:∀ i j k,i<n->j<n->k<n->lt i j=true->lt j k=true->lt i k=true
 tot:∀ i j,i<n->j<n->i≠j->lt i j=false->lt j i=true
section
variable {prog:Program}{w:World}{A:Around}{E:Value->Shared->Prop}{s:Shared}{κ:SortKind}{lt:Nat->Nat->Bool}
theorem yW{ks vs:List Value}(k:ks.length=vs.length)(h2:2<=vs.length)(T:WSrt.Wk lt vs.length)(f:vs.length<64)
  (n:∀ i j,i<vs.length->j<vs.length->i≠j->∀ C,C (lt i j) s->kas_ask prog w A κ ks i j C s){Q:Unit×SortSt->Shared->Prop}
  (h:∀ st,(arrOf st).map (·.2)=List.toArray ((ii lt vs.length).map λi=>vs.getD i Value.none)->failedOf st=none->Q ((),st) s) :
  wpAny (model prog w) A ((sortRuns').run (SortSt.mk' κ (ks.toArray.zip vs.toArray) #[] 7 none)) Q E s:=by
 obtain⟨p,b,r,u⟩:=WSrt.run_sort lt vs.length T h2
 refine wpAny_mono (kat_run (ks:=ks) (vs:=vs) (Q:=λa c=>c=s/\arrOf a=p.map (kas_item (ks.toArray.zip vs.toArray))/\failedOf a=none) (G:=λg c=>g=p/\c=s)
  k h2 f (λg a c x q v l=>⟨l.2,by rw[q,l.1],v⟩) (WSrt.wp_run lt vs.length (λi j hi hj hn C hC=>n i j hi hj hn C hC) _ (WSrt.In_sort lt vs.length T h2) ⟨b,rfl⟩)) ?_ λ_ _ z=>z
 rintro⟨⟨⟩,a⟩ c ⟨rfl,d,o⟩;refine h a ?_ o;rw[kat_snds k d];unfold ii ord;rw[if_pos h2,b]
theorem pH{a:Addr}{vs:List Value}{m:Nat}{κ:SortKind}{lt:Nat->Nat->Bool}{P:PySem.Fin->Shared->Prop}(l:s.heap.get? a=some (seqObj "list" vs.toArray m))(T:WSrt.Wk lt vs.length)(hz:vs.length<16000000)(n:vs.length<64)
  (H:2<=vs.length->∀ g,(∀ b o,b≠a->s.heap.get? b=some o->g.get? b=some o)->∀ Q:SortKind->Shared->Prop,Q κ { s with heap:=g }->wpAny (model prog w) A (keyKind' vs.toArray) Q (λ_ _=>False) { s with heap:=g })
  (B:∀ g,(∀ b o,b≠a->s.heap.get? b=some o->g.get? b=some o)->∀ i j,i<vs.length->j<vs.length->i≠j->∀ C,C (lt i j) { s with heap:=g }->kas_ask prog w A κ vs i j C { s with heap:=g })
  (h:P (.done (.ret .none)) { s with heap:=sortedHeap s.heap a vs (List.toArray ((ii lt vs.length).map λi=>vs.getD i Value.none)) }) :
  wpAny (model prog w) A (Builtin.«list.sort» ⟨[.ref a],[]⟩) P E s:=by
 rw[list_sort_plain];have u:a<s.heap.objs.size:=Heap.lt_size l;refine wpAny_bind (listItems_at l rfl (wpAny_bind (listUpdate_at l rfl ?_)))
 obtain⟨c1,ho1⟩:∃ c1,(s.heap.update a (Obj.mapSeq λ_=>(#[]:Array Value))).get? a=some (seqObj "list" #[] c1):=⟨_,get?_update_seq l λ_=>#[]⟩
 refine wpAny_bind (seqEpoch_at ho1 rfl (wpAny_bind (wpAny_newTuple (wpAny_bind (wpAny_newList (wpAny_holding ?_))))));have c:(((s.heap.update a (Obj.mapSeq λ_=>(#[]:Array Value))).push (seqObj "tuple" vs.toArray 0)).push (seqObj "list" #[] 0)).get? a=some (seqObj "list" #[] c1):=Heap.get?_push_of_some _ (Heap.get?_push_of_some _ ho1);have d:∀ b o,b≠a->s.heap.get? b=some o->(((s.heap.update a (Obj.mapSeq λ_=>(#[]:Array Value))).push (seqObj "tuple" vs.toArray 0)).push (seqObj "list" #[] 0)).get? b=some o:=λb o hb e=>Heap.get?_push_of_some _ (Heap.get?_push_of_some _ (by rw[Heap.get?_update_ne _ _ _ _ hb];exact e))
 show wpAny (model prog w) A _ P E { s with heap:=((s.heap.update a (Obj.mapSeq λ_=>(#[]:Array Value))).push (seqObj "tuple" vs.toArray 0)).push (seqObj "list" #[] 0) };dsimp only
 by_cases h2:vs.toArray.size<2
 .rw[if_pos h2,if_pos h2]
  refine wpAny_bind (wpAny_pure ?_);rw[StateT.run_pure];refine wpAny_bind (wpAny_pure ?_);dsimp only;refine wpAny_bind (seqEpoch_at c rfl (wpAny_bind (listUpdate_at c rfl ?_ (hsz2:=by rw[Array.size_map];show(pairsOf vs).size<=_;rw[pairsOf_size,sizeLine_eq];lia))));simp only[bne_self_eq_false,Bool.false_eq_true,if_false];have r:vs.length<2:=by simpa using h2
  have F:ii lt vs.length=List.range vs.length:=by unfold ii ord;rw[if_neg (by lia)]
  rw[F]at h;have k:=kas_range (vs.toArray.zip vs.toArray);rw[show(vs.toArray.zip vs.toArray).size=vs.length by simp]at k;have q:arrOf (SortSt.mk' general' (vs.toArray.zip vs.toArray) #[] 7 none)=(List.toArray (List.range vs.length)).map (kas_item (vs.toArray.zip vs.toArray)):=k.symm;have D:=(kat_snds (ks:=vs) rfl q).symm;rw[show(List.range vs.length).map (λi=>vs.getD i Value.none)=(List.toArray (List.range vs.length)).toList.map (λi=>vs.getD i Value.none) from rfl,D]at h;exact wpAny_pure h
 .rw[if_neg h2,if_neg h2]
  have r:2<=vs.length:=by simpa using h2
  refine wpAny_bind (wpAny_mono (H r _ d (λf v=>f=κ/\v={ s with heap:=((s.heap.update a (Obj.mapSeq λ_=>(#[]:Array Value))).push (seqObj "tuple" vs.toArray 0)).push (seqObj "list" #[] 0) }) ⟨rfl,rfl⟩) (λf s0 hs=>?_) λ_ _ z=>z.elim);obtain⟨rfl,rfl⟩:=hs;refine wpAny_bind (yW rfl r T n (λi j G I y C x=>B _ d i j G I y C x) λst' hout hf=>?_);dsimp only;have p:(List.toArray ((ii lt vs.length).map λi=>vs.getD i Value.none)).size=vs.length:=by rw[size_toArray,length_map,(iz T).length_eq,length_range]
  rw[hout];refine wpAny_bind (seqEpoch_at c rfl (wpAny_bind (listUpdate_at c rfl ?_ (hsz2:=Nat.le_trans (Nat.le_of_eq p) (by rw[sizeLine_eq];lia)))));rw[hf];simp only[bne_self_eq_false,Bool.false_eq_true,if_false];exact wpAny_pure h
theorem sQ{l:Addr}{vs:List Value}{κ:SortKind}{lt:Nat->Nat->Bool}{Q:Value->Shared->Prop}(u:s.heap.IsList l vs.toArray)(T:WSrt.Wk lt vs.length)(hz:vs.length<16000000)(f:vs.length<64)
  (x:2<=vs.length->∀ g,(∀ b o,s.heap.get? b=some o->g.get? b=some o)->∀ Q:SortKind->Shared->Prop,Q κ { s with heap:=g }->wpAny (model prog w) A.in1.in1 (keyKind' vs.toArray) Q (λ_ _=>False) { s with heap:=g })
  (p:∀ g,(∀ b o,s.heap.get? b=some o->g.get? b=some o)->∀ i j,i<vs.length->j<vs.length->i≠j->∀ C,C (lt i j) { s with heap:=g }->kas_ask prog w A.in1.in1 κ vs i j C { s with heap:=g })
  (h:Q (.ref (s.heap.objs.size+1)) { s with heap:=sortedAll s.heap vs (List.toArray ((ii lt vs.length).map λi=>vs.getD i Value.none)) }) :
  wpAny (model prog w) A (call (.builtin "sorted") [.ref l]) Q E s:=by
 refine Calls.call_function_entry kind_sorted plain_sorted entry_sorted (args_sorted1 _) ?_;unfold Builtin.«sorted»;refine wpAny_bind (m:=checkCount "sorted" 1 1 _) (wpAny_pure (wpAny_bind (collect_list u (wpAny_bind (wpAny_newList ?_)))));have c:((s.heap.push (seqObj "list" #[] 0)).update s.heap.objs.size (Obj.mapSeq (· ++ vs.toArray))).objs.size=s.heap.objs.size+1:=by rw[Heap.size_update,size_push']
 have d:(((s.heap.push (seqObj "list" #[] 0)).update s.heap.objs.size (Obj.mapSeq (· ++ vs.toArray))).push (seqObj "list" vs.toArray 0)).get? (s.heap.objs.size+1)=some (seqObj "list" vs.toArray 0):=by rw[<- c];exact Heap.get?_push_size _ rfl
 have a:∀ b o,s.heap.get? b=some o->(((s.heap.push (seqObj "list" #[] 0)).update s.heap.objs.size (Obj.mapSeq (· ++ vs.toArray))).push (seqObj "list" vs.toArray 0)).get? b=some o:=λb o z=>by
  have q:b<s.heap.objs.size:=Heap.lt_size z;refine Heap.get?_push_of_some _ ?_;rw[Heap.get?_update_ne _ _ _ _ (Nat.ne_of_lt q)];exact Heap.get?_push_of_some _ z
 show wpAny _ _ _ _ _ { s with heap:=((s.heap.push (seqObj "list" #[] 0)).update s.heap.objs.size (Obj.mapSeq (· ++ vs.toArray))).push (seqObj "list" vs.toArray 0) };rw[c];refine wpAny_bind (wpAny_holding (wpAny_call_entry slot_list_sort ⟨_,d,rfl⟩ entry_list_sort (pH (lt:=lt) (κ:=κ) d T hz f (λr g k n v=>x r g (λb o z=>k b o (Nat.ne_of_lt (Nat.lt_succ_of_lt (Heap.lt_size z))) (a b o z)) n v) (λg k=>p g λb o z=>k b o (Nat.ne_of_lt (Nat.lt_succ_of_lt (Heap.lt_size z))) (a b o z)) ⟨_,rfl,?_⟩) (args_list_sort _)));exact wpAny_pure ⟨_,rfl,h⟩
end
end L2
namespace LexM
def aJ:List Int->List Int->Bool
 | [],[]=>false
 | [],_::_=>true
 | _::_,[]=>false
 | x::xs,y::ys=>if x=y then aJ xs ys else decide (x<y)
theorem lb:∀ a,aJ a a=false
 | []=>rfl
 | x::xs=>by rw[aJ,if_pos rfl];exact lb xs
theorem jv:∀ a b,aJ a b=true->aJ b a=false
 | [],[],h=>by cases h
 | [],_::_,_=>rfl
 | _::_,[],h=>by cases h
 | x::xs,y::ys,h=>by
  rw[aJ]at h ⊢
  by_cases e:x=y
  .rw[if_pos e]at h;rw[if_pos e.symm];exact jv xs ys h
  .rw[if_neg e]at h;rw[if_neg (λz=>e z.symm)]
   have:=of_decide_eq_true h;exact decide_eq_false (by omega)
theorem mi:∀ a b,a≠b->aJ a b=true\/aJ b a=true
 | [],[],h=>absurd rfl h
 | [],_::_,_=>.inl rfl
 | _::_,[],_=>.inr rfl
 | x::xs,y::ys,h=>by
  rw[aJ,aJ]
  by_cases e:x=y
  .rw[if_pos e,if_pos e.symm]
   exact mi xs ys λz=>h (by rw[e,z])
  .rw[if_neg e,if_neg (λz=>e z.symm)]
   rcases Int.lt_or_gt_of_ne e with z | z
   .exact .inl (decide_eq_true z)
   .exact .inr (decide_eq_true z)
theorem iC:∀ a b c,aJ a b=true->aJ b c=true->aJ a c=true
 | [],[],_,h,_=>by cases h
 | [],_::_,[],_,h=>by cases h
 | [],_::_,_::_,_,_=>rfl
 | _::_,[],_,h,_=>by cases h
 | _::_,_::_,[],_,h=>by cases h
 | x::xs,y::ys,z::zs,h,k=>by
  rw[aJ]at h k ⊢
  by_cases e:x=y
  .rw[if_pos e]at h
   by_cases e2:y=z
   .rw[if_pos e2]at k;rw[if_pos (e.trans e2)];exact iC xs ys zs h k
   .rw[if_neg e2]at k;rw[if_neg (λq=>e2 (by omega))]
    have:=of_decide_eq_true k;exact decide_eq_true (by omega)
  .rw[if_neg e]at h
   have h:=of_decide_eq_true h
   by_cases e2:y=z
   .rw[if_neg (by omega)];exact decide_eq_true (by omega)
   .rw[if_neg e2]at k
    have k:=of_decide_eq_true k;rw[if_neg (by omega)];exact decide_eq_true (by omega)
end LexM
namespace L2
open PySem PySem.Spec PyProof.Rows PySem.W LexM
def Ti(h:Heap)(x:List Int)(a:Addr):Prop:=∃ o its n,h.get? a=some o/\o.cls=.type "tuple" /\ o.data=.seq its n/\IntsAre its.toList x
section
variable {prog:Program}{w:World}{A:Around}{E:Value->Shared->Prop}{s:Shared}
theorem Ti.ty{x:List Int}{a:Addr}(h:Ti s.heap x a):s.TypeIs (.ref a) "tuple" := by
 obtain⟨o,b,n,d,c,_⟩:=h;exact⟨o,d,c⟩
theorem lB{x y:List Int}{a b:Addr}{P:PySem.Fin->Shared->Prop}(R:Ti s.heap x a)(N:Ti s.heap y b)(h:P (.done (.ret (.bool (aJ x y)))) s) :
  wpAny (model prog w) A (Builtin.«tuple.__lt__» ⟨[.ref a,.ref b],[]⟩) P E s:=by
 have H:=N.ty;obtain⟨Z,C,S,G,_,I,D⟩:=R;obtain⟨X,q,T,L,_,M,K⟩:=N;show wpAny _ _ (isInstance (.ref b) (.type "tuple") >>= _) _ _ s;refine wpAny_bind (wpAny_isInstance H isSubtype_tuple_tuple ?_);simp only[Bool.not_true,Bool.false_eq_true,if_false];refine wpAny_bind (wpAny_tupleItemsOf G I ?_);refine wpAny_bind (wpAny_tupleItemsOf L M ?_);refine wpAny_bind ?_
 refine wpAny_forIn_list _
  (λj r n=>r.1=none/\n=s/\∃ B p f g,j=List.zip f g/\IntsAre f B/\IntsAre g p/\aJ B p=aJ x y/\decide (f.length<g.length)=decide (C.size<q.size))
  _ ?_ ?_ _ _ ⟨rfl,rfl,x,y,C.toList,q.toList,rfl,D,K,rfl,by simp⟩
 .rintro⟨u,v⟩ j r n ⟨F,rfl,B,p,f,g,l,k,i,c,d⟩
  cases k with
  | nil=>simp at l
  | @cons k1 t1 xs'' x'' hx'' =>
   cases i with
   | nil=>simp at l
   | @cons k2 t2 ys'' y'' hy'' =>
    simp only[List.zip_cons_cons,List.cons.injEq,Prod.mk.injEq]at l;obtain⟨⟨rfl,rfl⟩,rfl⟩:=l;refine wpAny_bind (wpAny_eqBool_int ?_)
    by_cases hk:k1=k2
    .subst hk
     rw[show(k1 == k1)=true by simp];simp only[Bool.not_true,Bool.false_eq_true,if_false];refine wpAny_pure ⟨rfl,rfl,x'',y'',xs'',ys'',rfl,hx'',hy'',?_,by simpa using d⟩;rw[<- c,aJ,if_pos rfl]
    .rw[show(k1 == k2)=false by simpa using hk]
     simp only[Bool.not_false,if_true];have Q:decide (k1<k2)=aJ x y:=by rw[<- c,aJ,if_neg hk]
     rw[<- Q]at h;refine wpAny_bind (wpAny_rule ?_);refine wpAny_bind ?_;refine wpAny_mono (show wpAny (model prog w) A (richCompare .Lt (.int k1 t1) (.int k2 t2)) (λv O=>v=.bool (decide (k1<k2))/\O=n) E n from lt_int ⟨rfl,rfl⟩) (λv O hv=>?_) λ_ _ z=>z
     obtain⟨rfl,rfl⟩:=hv;exact wpAny_pure (wpAny_pure h)
 .rintro⟨W,Y⟩ n ⟨F,rfl,B,p,f,g,l,k,i,c,d⟩
  simp only at F;subst F;refine wpAny_pure ?_
  have o:decide (C.size<q.size)=aJ x y:=by
   rw[<- c,<- d];cases k with
   | nil =>
    cases i with
    | nil=>rfl
    | cons _ _ _=>simp[aJ]
   | cons _ _ _ =>
    cases i with
    | nil=>simp[aJ]
    | cons _ _ _=>simp at l
  show P (.done (.ret (.bool (decide (C.size<q.size))))) n;rw[o];exact h
theorem m4{a:Bool}{C:Bool->Shared->Prop}:∀{xs ys:List Value}{x y:List Int}(i:Nat),IntsAre xs x->IntsAre ys y->decide (xs.length<ys.length)=a->C (aJ x y) s->KatLex prog w A true a C (xs.zip ys) i s
 | _,_,_,_,i,.nil,.nil,hf,h=>kat_nil (by rw[<- hf];exact h)
 | _,_,_,_,i,.nil,.cons _ _ _,hf,h=>kat_nil (by rw[<- hf,decide_eq_true (by simp)];exact h)
 | _,_,_,_,i,.cons _ _ _,.nil,hf,h=>kat_nil (by rw[<- hf,decide_eq_false (by simp)];exact h)
 | _,_,_,_,i,.cons p t hx,.cons q t' hy,hf,h=>by
  rw[List.zip_cons_cons];refine kat_cons (wpAny_eqBool_int ?_);rw[aJ]at h
  by_cases e:p=q
  .rw[show(p == q)=true by simpa using e]
   rw[if_pos e]at h;exact kat_yes (m4 (i+1) hx hy (by rw[<- hf];simp) h)
  .rw[show(p == q)=false by simpa using e]
   rw[if_neg e]at h;cases i with
   | zero=>exact kat_no (oneLt_int h)
   | succ i=>exact kat_no (kat_one _ _ (lt_int h))
theorem v6{x y:List Int}{a b:Addr}{C:Bool->Shared->Prop}(l:Ti s.heap x a)(k:Ti s.heap y b)(h:C (aJ x y) s):wpAny (model prog w) A (keyLt' (tuples' true) (.ref a) (.ref b)) C E s:=by
 obtain⟨o,n,p,g,_,d,c⟩:=l;obtain⟨r,u,q,j,_,i,f⟩:=k;exact kat_lt g d j i (m4 0 c f (by simp) h)
theorem vp{x y:List Int}{a b:Addr}{C:Bool->Shared->Prop}(f:A.units<cLine)(c:Ti s.heap x a)(d:Ti s.heap y b)(h:C (aJ x y) s):wpAny (model prog w) A (keyLt' oneType' (.ref a) (.ref b)) C E s:=by
 rw[keyLt'_oneType,oneLt'_eq];simp only[if_true];refine wpAny_bind (wpAny_cRoomFor_or (.inr f) ?_);refine wpAny_bind (wpAny_callSpecialIfBound?_slot c.ty F.slot_tuple_lt (wpAny_call_entry F.slot_tuple_lt c.ty F.entry_tuple_lt (lB c d ⟨_,rfl,?_⟩) (F.args_tuple_lt_2 _ _)));exact wpAny_truthy_bool h
theorem ue{x y:List Int}{a b:Addr}{C:Bool->Shared->Prop}(f:A.units<cLine)(c:Ti s.heap x a)(d:Ti s.heap y b)(h:C (aJ x y) s):wpAny (model prog w) A (keyLt' general' (.ref a) (.ref b)) C E s:=by
 show wpAny _ _ (oneLt' false (.ref a) (.ref b)) _ _ s;refine kat_one _ _ ?_;refine wpAny_richCompare_same_room (op:=.Lt) c.ty d.ty F.slot_tuple_lt (wpAny_call_entry F.slot_tuple_lt c.ty F.entry_tuple_lt (lB c d ⟨_,rfl,(λe=>nomatch e),h⟩) (F.args_tuple_lt_2 _ _)) f
inductive Tis(h:Heap):List Value->List (List Int)->Prop
 | nil:Tis h [] []
 | cons {a:Addr}{x:List Int}{vs:List Value}{gs:List (List Int)}(hx:Ti h x a) (t:Tis h vs gs):Tis h (.ref a::vs) (x::gs)
theorem Tis.len{h:Heap}:∀{vs:List Value}{gs:List (List Int)},Tis h vs gs->vs.length=gs.length
 | _,_,.nil=>rfl
 | _,_,.cons _ t=>by rw[length_cons,length_cons,t.len]
theorem Tis.mem{h:Heap}:∀{vs:List Value}{gs:List (List Int)},Tis h vs gs->∀ v∈vs,∃ a x,v=.ref a/\Ti h x a
 | _,_,.nil,v,hv=>by cases hv
 | _,_,.cons hx t,v,hv=>by
  rcases mem_cons.mp hv with rfl | hv
  .exact⟨_,_,rfl,hx⟩
  .exact t.mem v hv
theorem jw{M:Model}:∀{vs:List Value}{gs:List (List Int)}{Q:List (Option Value)->Shared->Prop},Tis s.heap vs gs->(∀ fs:List (Option Value),fs.length=gs.length->(∀(i:Nat) (x:List Int),gs[i]? = some x->(fs[i]? = some none/\x=[])\/∃(n:Int) (t:Tok) (r:List Int),fs[i]? = some (some (Value.int n t))/\x=n::r)->Q fs s)->wpAny M A (vs.mapM firstOfTuple') Q E s
 | _,_,Q,.nil,h=>by rw[List.mapM_nil];exact wpAny_pure (h [] rfl λi x e=>by cases e)
 | _,_,Q,.cons (a:=a) (x:=x) hx t,h=>by
  obtain⟨o,b,n,d,g,f,c⟩:=hx;rw[List.mapM_cons];refine wpAny_bind ?_;rw[kas_first_eq];refine wpAny_bind (Looks.here (show Looks M s.heap (typeOf (.ref a)) o.cls from(Looks.ld d).andThen .now) ?_);rw[g,if_neg (by first | decide | simp)];refine wpAny_bind (listItems_at d f (wpAny_pure ?_));refine wpAny_bind (jw (Q:=λj k=>wpAny M A (pure (b[0]? :: j)) Q E k) t λfs hl hf=>wpAny_pure (h _ (by rw[length_cons,length_cons,hl]) λi y hy=>?_));cases i with
  | succ i=>exact hf i y hy
  | zero =>
   cases hy;have p:b[0]? = b.toList[0]?:=by simp
   rw[List.getElem?_cons_zero,p];generalize b.toList=l at c;cases c with
   | nil=>exact .inl ⟨rfl,rfl⟩
   | cons n t _=>exact .inr ⟨n,t,_,rfl,rfl⟩
def kJ(gs:List (List Int)):SortKind:=if gs.all (λx=>!x.isEmpty) then tuples' true else if (gs.headD []).isEmpty then oneType' else general'
theorem rh{M:Model}{vs:List Value}{gs:List (List Int)}{Q:SortKind->Shared->Prop}(t:Tis s.heap vs gs)(h2:2<=vs.length)(h:Q (kJ gs) s):wpAny M A (keyKind' vs.toArray) Q E s:=by
 have P:=t.len;rw[kat_kind_eq,mapM_toArray,map_eq_pure_bind];refine wpAny_bind (wpAny_bind (jw t λj B u=>wpAny_pure ?_))
 by_cases ha:gs.all (λx=>!x.isEmpty)=true
 .have G:∀ f∈j,∃(n:Int) (t:Tok),f=some (Value.int n t):=λf l=>by
   obtain⟨i,w⟩:=List.getElem?_of_mem l;have F:i<gs.length:=by rw[<- B];exact(List.getElem?_eq_some_iff.mp w).1
   have z:=List.getElem?_eq_getElem F
   rcases u i _ z with⟨c,d⟩ | ⟨n,t,r,c,d⟩
   .have:=all_eq_true.mp ha _ (List.getElem_mem F)
    rw[d]at this;cases this
   .rw[w]at c
    exact⟨n,t,Option.some.inj c⟩
  rw[kJ,if_pos ha]at h
  obtain⟨k,rfl,C⟩:∃ k:List Value,j=k.map some/\∀ v∈k,∃(n:Int) (t:Tok),v=Value.int n t:=by
   clear u B
   induction j with
   | nil=>exact⟨[],rfl,λv hv=>by cases hv⟩
   | cons f j ih =>
    obtain⟨k,e,C⟩:=ih λg z=>G g (mem_cons_of_mem _ z)
    obtain⟨n,t,rfl⟩:=G f (mem_cons_self ..);refine⟨Value.int n t::k,by rw[e];rfl,λv hv=>?_⟩
    rcases mem_cons.mp hv with rfl | hv
    .exact⟨n,t,rfl⟩
    .exact C v hv
  rw[length_map]at B
  obtain⟨w1,wr,rfl⟩:∃ w1 wr,k=w1::wr:=by
   match k,(show 0<k.length by lia) with
   | w1::wr,_=>exact⟨w1,wr,rfl⟩
  have q:(((w1::wr).map some).toArray.all λx=>x.isSome)=true:=by simp
  rw[if_pos q];refine wpAny_bind (wpAny_rule ?_);have l:(((w1::wr).map some).toArray.filterMap id)=(w1::wr).toArray:=by simp
  rw[l,oneTypeOnly'_eq,mapM_toArray,map_eq_pure_bind];refine wpAny_bind (wpAny_bind (wpAny_bind (kas_mapM (r:=Value.type "int") _ (λv hv H D=>?_) (wpAny_pure ?_))))
  .obtain⟨n,t,rfl⟩:=C v hv
   exact(Looks.of_pure rfl).here D
  .have b:((List.map (λ_=>Value.type "int") (w1::wr)).toArray.all λx=>x == Value.type "int")=true:=by
    simp only[all_toArray,all_map,all_eq_true];intro _ _;exact(by decide:(Value.type "int" == Value.type "int")=true)
   have p:(List.map (λ_=>Value.type "int") (w1::wr)).toArray[0]? = some (Value.type "int"):=by simp
   rw[p];simp only[b,if_true];exact wpAny_pure (wpAny_pure h)
 .have y:(j.toArray.all λx=>x.isSome)=false:=by
   rw[all_toArray];cases hb:j.all λx=>x.isSome with
   | false=>rfl
   | true =>
    refine absurd (all_eq_true.mpr λx K=>?_) ha;obtain⟨i,w⟩:=List.getElem?_of_mem K
    rcases u i x w with⟨c,_⟩ | ⟨n,t,r,_,d⟩
    .have:=all_eq_true.mp hb _ (List.mem_of_getElem? c)
     cases this
    .rw[d];rfl
  rw[y];simp only[Bool.false_eq_true,if_false];rw[kJ,if_neg ha]at h
  obtain⟨g0,gr,rfl⟩:∃ g0 gr,gs=g0::gr:=by
   match gs,(show 0<gs.length by lia) with
   | g0::gr,_=>exact⟨g0,gr,rfl⟩
  have p:j.toArray[0]? = j[0]?:=by simp
  rw[p]
  rcases u 0 g0 rfl with⟨c,d⟩ | ⟨n,O,r,c,d⟩
  .rw[c]
   simp only[Option.bind_some,id_eq,Option.isSome_none,Bool.false_eq_true,if_false];rw[show((g0::gr).headD []).isEmpty=true by rw[d];rfl,if_pos rfl]at h;rw[oneTypeOnly'_eq,mapM_toArray,map_eq_pure_bind]
   obtain⟨v1,vr,rfl⟩:∃ v1 vr,vs=v1::vr:=by
    match vs,(show 0<vs.length by lia) with
    | v1::vr,_=>exact⟨v1,vr,rfl⟩
   refine wpAny_bind (wpAny_bind (wpAny_bind (kas_mapM (r:=Value.type "tuple") _ (λv hv H D=>?_) (wpAny_pure ?_))))
   .obtain⟨a,x,rfl,o,N,n,I,L,_⟩:=t.mem v hv
    refine Looks.here (show Looks M s.heap (typeOf (.ref a)) o.cls from(Looks.ld I).andThen .now) ?_;rw[L];exact D
   .have b:((List.map (λ_=>Value.type "tuple") (v1::vr)).toArray.all λx=>x == Value.type "tuple")=true:=by
     simp only[all_toArray,all_map,all_eq_true];intro _ _;exact(by decide:(Value.type "tuple" == Value.type "tuple")=true)
    have p:(List.map (λ_=>Value.type "tuple") (v1::vr)).toArray[0]? = some (Value.type "tuple"):=by simp
    rw[p];simp only[b,if_true];exact wpAny_pure (wpAny_pure h)
  .rw[c]
   simp only[Option.bind_some,id_eq,Option.isSome_some,if_true];rw[show((g0::gr).headD []).isEmpty=false by rw[d];rfl]at h;exact wpAny_pure h
theorem vY{x y:List Int}{a b:Addr}{gs:List (List Int)}{C:Bool->Shared->Prop}(f:A.units<cLine)(c:Ti s.heap x a)(d:Ti s.heap y b)(h:C (aJ x y) s):wpAny (model prog w) A (keyLt' (kJ gs) (.ref a) (.ref b)) C E s:=by
 unfold kJ
 split
 .exact v6 c d h
 .split
  .exact vp f c d h
  .exact ue f c d h
end
section
variable {X:Cx}
def Row(H:Hp)(a:Addr)(x:List Int):Prop:=H a=some (.tup (x.map V.int))
theorem my:∀{x:List Int}{us:List Value},Vals (x.map V.int) us->IntsAre us x
 | [],us,r=>by cases r;exact .nil
 | n::x,us,r=>by
  cases r with
  | cons r1 r =>
   obtain⟨t,rfl⟩:=r1;exact .cons n t (my r)
theorem lO{P:Program}{w:World}{H:Hp}{h:Heap}(c:HOk P w H h){a:Addr}{x:List Int}(f:Row H a x):Ti h x a:=by
 obtain⟨_,b,i,o,j,g,n,d⟩:=(show ObjOk P w H h a (.tup _) from c a _ f)
 exact⟨o,b.toArray,n,j,g,d,by simpa using my i⟩
end
section
variable {prog:Program}{w:World}{A:Around}{E:Value->Shared->Prop}{s:Shared}{d I:Addr}{es:Array DictEntry}{ep i:Nat}
theorem pp{κ:SortKind}{lt:Nat->Nat->Bool}{Q:Value->Shared->Prop}{vs:List Value}(u:A.handled=none)(B:(d == sysModules)=false)(x:DE s.heap d es ep)(f:jk es=vs)(T:WSrt.Wk lt vs.length)(hz:vs.length<64)
  (D:2<=vs.length->∀ g tk,(∀ b o,s.heap.get? b=some o->g.get? b=some o)->∀ Q:SortKind->Shared->Prop,Q κ { s with heap:=g,toks:=tk }->wpAny (model prog w) A.in1.in1 (keyKind' vs.toArray) Q (λ_ _=>False) { s with heap:=g,toks:=tk })
  (y:∀ g tk,(∀ b o,s.heap.get? b=some o->g.get? b=some o)->∀ i j,i<vs.length->j<vs.length->i≠j->∀ C,C (lt i j) { s with heap:=g,toks:=tk }->kas_ask prog w A.in1.in1 κ vs i j C { s with heap:=g,toks:=tk })
  (h:∀(r:Addr) g tk m,(∀ b o,s.heap.get? b=some o->g.get? b=some o)->s.heap.objs.size<=r->g.get? r=some (seqObj "list" (List.toArray ((ii lt vs.length).map λi=>vs.getD i Value.none)) m)->Q (.ref r) { s with heap:=g,toks:=tk }) :
  wpAny (model prog w) A (call (.builtin "sorted") [.ref d]) Q E s:=by
 have H:vs.length=es.size:=by rw[<- f];unfold jk;rw[length_map,Array.length_toList]
 have G:sizeLine=16777216:=sizeLine_eq;refine Calls.call_function_entry kind_sorted plain_sorted entry_sorted (args_sorted1 _) ?_;unfold Builtin.«sorted»;refine wpAny_bind (m:=checkCount "sorted" 1 1 _) (wpAny_pure (wpAny_bind (o9 u B x (by lia) λk tk l p=>wpAny_bind (wpAny_newList ?_ (by rw[f];lia)))));rw[f];have c:(k.push (seqObj "list" vs.toArray 0)).get? k.objs.size=some (seqObj "list" vs.toArray 0):=Heap.get?_push_size _ rfl
 have a:∀ b o,s.heap.get? b=some o->(k.push (seqObj "list" vs.toArray 0)).get? b=some o/\b≠k.objs.size:=λb o e=>⟨Heap.get?_push_of_some _ (p b o e),Nat.ne_of_lt (Heap.lt_size (p b o e))⟩
 refine wpAny_bind (wpAny_holding (wpAny_call_entry slot_list_sort ⟨_,c,rfl⟩ entry_list_sort (pH (s:={ s with heap:=k.push (seqObj "list" vs.toArray 0),toks:=tk }) (lt:=lt) (κ:=κ) c T (by lia) hz (λz g n q F=>D z g tk (λb o e=>n b o (a b o e).2 (a b o e).1) q F) (λg n=>y g tk λb o e=>n b o (a b o e).2 (a b o e).1) ⟨_,rfl,?_⟩) (args_list_sort _)));obtain⟨m,v⟩:=sortedHeap_at (out:=List.toArray ((ii lt vs.length).map λi=>vs.getD i Value.none)) c;refine wpAny_pure ⟨_,rfl,h k.objs.size _ tk m (λb o e=>?_) (Nat.le_of_lt l) v⟩;rw[sortedHeap_old (a b o e).2 (Heap.lt_size (a b o e).1)];exact(a b o e).1
end
section
variable {X:Cx}
theorem lX(x:List Int):(x.map (Sum.inl:Int->Key)).map kV=x.map V.int:=by rw[map_map];rfl
theorem nQ{gs:List (List Int)}(c:gs.Nodup){n:Nat}(b:n=gs.length):Tot (λi j=>aJ (gs.getD i []) (gs.getD j [])) n:=by
 subst b;refine⟨λi j _ _ h=>jv _ _ h,λi j k _ _ _ h1 h2=>iC _ _ _ h1 h2,λi j h1 h2 b h=>?_⟩
 have a:gs.getD i []≠gs.getD j []:=λe=>by
  have f:gs.getD i []=gs[i]:=by simp[List.getD,h1]
  have d:gs.getD j []=gs[j]:=by simp[List.getD,h2]
  rw[f,d]at e
  rcases Nat.lt_or_gt_of_ne b with z | z
  .exact(pairwise_iff_getElem.mp c i j h1 h2 z) e
  .exact(pairwise_iff_getElem.mp c j i h2 h1 z) e.symm
 rcases mi _ _ a with z | z
 .have h:aJ (gs.getD i []) (gs.getD j [])=false:=h
  rw[h]at z;cases z
 .exact z
theorem qI{gs:List (List Int)}{n:Nat}(U:Tot (λi j=>aJ (gs.getD i []) (gs.getD j [])) n):WSrt.Wk (λi j=>aJ (gs.getD i []) (gs.getD j [])) n :=
 ⟨U.asy,λi j k d g h b a=>by
  cases e:aJ (gs.getD k []) (gs.getD i []) with
  | false=>rfl
  | true =>
   exfalso;have b:aJ (gs.getD j []) (gs.getD i [])=false:=b;have a:aJ (gs.getD k []) (gs.getD j [])=false:=a
   by_cases e1:i=j
   .subst e1;rw[e]at a;cases a
   .have f:=U.tot j i g d (λz=>e1 z.symm) b
    have c:=iC _ _ _ e f
    rw[a]at c;cases c⟩
theorem j6(hc:X.calm=true)(hu:X.A.units+64<cLine):CallR X (.builtin "sorted") (λxs H Q=>∃(p:Addr) (kvs:List (List Key×V)) (gs:List (List Int)),xs=[.ref p]/\H p=some (.dT kvs)/\kvs.length<64/\kvs.map (·.1)=gs.map (λx=>x.map Sum.inl)/\gs.Nodup /\
  ∀ q (o:List Nat) (f:Nat->V),H q=none->o.Perm (List.range gs.length)->(o.Pairwise λi j=>aJ (gs.getD j []) (gs.getD i [])=false)->(∀ i,i<gs.length->∃ b,f i=.ref b/\Row H b (gs.getD i []))->Q (.ref q) (upd H q (.lst (o.map f)))):=by
 intro A s σ H xs us Q I r h;obtain⟨p,kvs,gs,rfl,hp,hz,w,Z,q⟩:=h;obtain⟨u,rfl,rx⟩:=cV r;cases rx;obtain⟨z,nm,xs,B,ob,es,ep,g1,g2,g3,g4,g5,g6⟩:=xx I.hok hp;have lx:kvs.length=xs.length:=Paired.length B;have lg:kvs.length=gs.length:=by have:=congrArg List.length w;rwa [length_map,length_map]at this
 obtain⟨vs,hvs⟩:∃ vs,vs=xs.map λx=>Value.ref x.2.1:=⟨_,rfl⟩
 have ek:jk es=vs:=by unfold jk;rw[g4,map_map,hvs];rfl
 have lv:vs.length=kvs.length:=by rw[hvs,length_map,lx]
 have g:∀ i,i<vs.length->∃ a,vs.getD i Value.none=.ref a/\Row H a (gs.getD i []):=λi c=>by
  obtain⟨kv,hkv⟩:∃ x,kvs[i]? = some x:=⟨_,List.getElem?_eq_getElem (by lia)⟩
  obtain⟨x,hx,hH⟩:=B.at hkv;refine⟨x.2.1,?_,?_⟩
  .rw[hvs,List.getD,List.getElem?_map,hx];rfl
  .have e:=congrArg (λl=>l[i]?) w
   simp only[List.getElem?_map,hkv]at e;have S:i<gs.length:=by lia
   rw[List.getElem?_eq_getElem S]at e;have e:kv.1=gs[i].map Sum.inl:=Option.some.inj e;show H x.2.1=_;rw[hH,e,lX,show gs.getD i []=gs[i] by simp[List.getD,S]]
 have N:∀{d:Heap}{tk:Nat},(∀ b o,s.heap.get? b=some o->d.get? b=some o)->Inv X A σ H { s with heap:=d,toks:=tk }:=λk=>I.kept k
 have U:=nQ Z (n:=vs.length) (by lia);have T:=qI U
 have F:∀{d:Heap},HOk X.prog X.w H d->Tis d vs gs:=λ{d} Y=>by
  have L:∀(vs:List Value) (gs:List (List Int)),vs.length=gs.length->(∀ i,i<vs.length->∃ a,vs.getD i Value.none=.ref a/\Row H a (gs.getD i []))->Tis d vs gs:=by
   intro vs
   induction vs with
   | nil=>intro gs e _;cases gs with | nil=>exact .nil | cons _ _=>cases e
   | cons v vs ih =>
    intro gs e R;cases gs with
    | nil=>cases e
    | cons x gs =>
     obtain⟨a,y,h1⟩:=R 0 (by simp);obtain rfl:v=Value.ref a:=y;exact .cons (lO Y h1) (ih gs (by simpa using e) λi c=>R (i+1) (by simpa using c))
  exact L vs gs (by lia) g
 refine pp (vs:=vs) (κ:=kJ gs) (lt:=λi j=>aJ (gs.getD i []) (gs.getD j [])) (I.ok.hd hc) nm ⟨ob,g1,g2,g3⟩ ek T (by lia) (λh2 d tk k Q' q'=>?_) (λd tk k i j c hj O C hC=>?_) λrr d tk m k big at'=>?_
 .exact rh (F (N (tk:=tk) k).hok) h2 q'
 .have J:=N (tk:=tk) k
  obtain⟨a,ea,oa⟩:=g i c;obtain⟨b,eb,E⟩:=g j hj;unfold kas_ask;rw[ea,eb];exact vY (by show X.A.units+1+1<cLine;lia) (lO J.hok oa) (lO J.hok E) hC
 .have O:H rr=none:=I.hok.fresh big
  have D:=iz T;have W:=mW T;generalize ii (λi j=>aJ (gs.getD i []) (gs.getD j [])) vs.length=o at D W at';have K:sizeLine=16777216:=sizeLine_eq;have G:∀ i∈o,i<vs.length:=λi c=>mem_range.mp (D.mem_iff.mp c)
  let f:Nat->V:=λi=>match vs.getD i Value.none with | .ref a=>.ref a | _=>.non
  have P:∀ i,i<vs.length->∃ a,f i=.ref a/\vs.getD i Value.none=.ref a/\Row H a (gs.getD i []):=λi c=>by
   obtain⟨a,y,M⟩:=g i c;exact⟨a,by show(match vs.getD i Value.none with | .ref a=>V.ref a | _=>.non)=_;rw[y],y,M⟩
  refine⟨.ref rr,_,I.laid (a:=rr) (o:=.lst (o.map f)) (t':=tk) k big ⟨?_,_,m,km (vs:=vs) f λi c=>?_,at'⟩,rfl,q rr o f O (by rw[<- lg,<- lv];exact D) W λi c=>?_⟩
  .rw[length_map,D.length_eq,length_range];lia
  .obtain⟨a,y,e2,_⟩:=P i (G i c)
   rw[y,e2];rfl
  .obtain⟨a,y,_,M⟩:=P i (by lia)
   exact⟨a,y,M⟩
end
section
variable {prog:Program}{w:World}{A:Around}{E:Value->Shared->Prop}{s:Shared}
theorem tR{h:Heap}{x:List Int}{a:Addr}(t:Ti h x a):IsTupleKey (bZ prog w) h (x.map Sum.inl) a:=by
 obtain⟨o,c,n,j,i,g,f⟩:=t
 have d:∀{b:List Value}{x:List Int},IntsAre b x->ItemsAre (bZ prog w) (x.map (Sum.inl:Int->Key)) b:=by
  intro b x h
  induction h with
  | nil=>exact .nil
  | cons n t _ ih=>exact .cons (by show Value.isInt n (.int n t)=true;simp[Value.isInt]) ih
 exact⟨o,c,n,j,i,g,d f⟩
theorem gi:∀{x y:List Int},x.map (Sum.inl:Int->Key)=y.map Sum.inl->x=y
 | [],[],_=>rfl
 | [],_::_,h=>by cases h
 | _::_,[],h=>by cases h
 | a::x,b::y,h=>by
  rw[map_cons,map_cons]at h;injection h with h1 h2
  rw[Sum.inl.inj h1,gi h2]
def Pr(h:Heap)(x:List Int)(a:Addr):Prop:=∃ o its n k u,h.get? a=some o/\o.cls=.type "tuple" /\ o.data=.seq its n/\its.toList=[.ref k,u]/\Ti h x k
theorem vh{x y:List Int}{a b:Addr}{C:Bool->Shared->Prop}(f:A.units<cLine)(q:x≠y)(o:Pr s.heap x a)(n:Pr s.heap y b)(h:C (aJ x y) s):wpAny (model prog w) A (keyLt' (tuples' false) (.ref a) (.ref b)) C E s:=by
 obtain⟨L,K,r,D,B,k,_,j,l,c⟩:=o;obtain⟨G,I,u,v,H,p,_,i,g,d⟩:=n;refine kat_lt k j p i ?_;rw[l,g];refine kat_cons (wpAny_eqBool_tuple (knd:=bZ prog w) f (tR c) (tR d) ?_);rw[decide_eq_false (λz=>q (gi z))];refine kat_no (kat_one _ _ ?_);exact wpAny_richCompare_same_room (op:=.Lt) c.ty d.ty F.slot_tuple_lt (wpAny_call_entry F.slot_tuple_lt c.ty F.entry_tuple_lt (lB c d ⟨_,rfl,(λe=>nomatch e),h⟩) (F.args_tuple_lt_2 _ _)) f
theorem oR{M:Model}{ps:List Addr}{gs:List (List Int)}{Q:SortKind->Shared->Prop}(G:ps.length=gs.length)(D:∀ i a,ps[i]? = some a->Pr s.heap (gs.getD i []) a)(F:0<ps.length)(h:Q (tuples' false) s):wpAny M A (keyKind' (ps.map Value.ref).toArray) Q E s:=by
 have d:∀(ps:List Addr),(∀ a∈ps,∃ x,Pr s.heap x a)->∃ c:List Value,KatTups s.heap (ps.map Value.ref) c/\c.length=ps.length/\∀ v∈c,∃ k x,v=.ref k/\Ti s.heap x k:=by
  intro ps
  induction ps with
  | nil=>intro _;exact⟨[],trivial,rfl,λv hv=>by cases hv⟩
  | cons a ps ih =>
   intro p;obtain⟨c,j,l,f⟩:=ih λb hb=>p b (mem_cons_of_mem _ hb)
   obtain⟨x,o,g,n,k,u,r,q,B,z,t⟩:=p a (mem_cons_self ..);refine⟨.ref k::c,KatTups.cons r q B (by rw[<- Array.getElem?_toList,z];rfl) j,by rw[length_cons,length_cons,l],λv hv=>?_⟩
   rcases mem_cons.mp hv with rfl | hv
   .exact⟨k,x,rfl,t⟩
   .exact f v hv
 obtain⟨c,j,l,f⟩:=d ps λa ha=>by
  obtain⟨i,w⟩:=List.getElem?_of_mem ha;exact⟨_,D i a w⟩
 refine kat_kind (T:=.type "tuple") j (by lia) (λv hv=>?_) (by decide) h;obtain⟨k,x,rfl,o,g,n,C,y,_⟩:=f v hv;rw[<- y];exact(Looks.ld C).andThen .now
end
section
variable {X:Cx}
def rV(H:Hp)(x:List Int)(a:Addr):Prop:=∃ k u,H a=some (.tup [.ref k,u])/\Row H k x
theorem lh{P:Program}{w:World}{H:Hp}{h:Heap}(c:HOk P w H h){a:Addr}{x:List Int}(j:rV H x a):Pr h x a:=by
 obtain⟨k,u,d,g⟩:=j
 obtain⟨_,l,b,o,p,i,n,f⟩:=(show ObjOk P w H h a (.tup _) from c a _ d)
 cases b with
 | cons r1 b =>
  obtain rfl:=(show _=Value.ref k from r1)
  cases b with
  | cons r2 b =>
   cases b;exact⟨o,_,n,k,_,p,i,f,List.toList_toArray,lO c g⟩
theorem jU(hu:X.A.units+64<cLine):CallR X (.builtin "sorted") (λxs H Q=>∃(p:Addr) (ys:List V) (gs:List (List Int)),xs=[.ref p]/\SqL X.K H p ys/\ys.length<64/\PySem.Paired (λy x=>∃ a,y=V.ref a/\rV H x a) ys gs/\gs.Nodup /\
  ∀(q:Addr) (o:List Nat),o.Perm (List.range ys.length)->o.Pairwise (λi j=>aJ (gs.getD j []) (gs.getD i [])=false)->H q=none->Q (.ref q) (upd H q (.lst (o.map λi=>ys.getD i .non)))):=by
 intro k s P H xs us Q I r h;obtain⟨p,ys,gs,rfl,hq,hz,O,B,q⟩:=h;obtain⟨u,rfl,rx⟩:=cV r;cases rx;obtain⟨d,l,R,Z⟩:=I.list hq;have g:d.length=ys.length:=l.length.symm;have W:ys.length=gs.length:=Paired.length O;have U:=nQ B (n:=d.length) (by lia);have T:=qI U
 obtain⟨c,f,hpr⟩:∃ c:List Addr,d=c.map Value.ref/\∀ i a,c[i]? = some a->rV H (gs.getD i []) a:=by
  have K:∀{ys:List V}{d:List Value}{gs:List (List Int)},Vals ys d->PySem.Paired (λy x=>∃ a,y=V.ref a/\rV H x a) ys gs->∃ c:List Addr,d=c.map Value.ref/\∀ i a,c[i]? = some a->rV H (gs.getD i []) a:=by
   intro ys d gs l
   induction l generalizing gs with
   | nil=>intro _;exact⟨[],rfl,λi a e=>by cases e⟩
   | cons r t ih =>
    intro L;cases L with
    | cons h1 L =>
     obtain⟨a,rfl,S⟩:=h1
     obtain rfl:=(show _=Value.ref a from r)
     obtain⟨c,e,f⟩:=ih L;refine⟨a::c,by rw[e];rfl,λi b M=>?_⟩;cases i with
     | zero=>cases M;exact S
     | succ i=>exact f i b M
  exact K l O
 have lp:c.length=d.length:=by rw[f,length_map]
 refine sQ (lt:=λi j=>aJ (gs.getD i []) (gs.getD j [])) (κ:=tuples' false) R.isList T (by lia) (by lia) (λh2 g' kp Q' q'=>?_) (λg' kp i j A hj E C hC=>?_) ?_
 .have J:Inv X k P H { s with heap:=g' }:=I.kept (t':=s.toks) kp
  rw[f];exact oR (gs:=gs) (by lia) (λi a A=>lh J.hok (hpr i a A)) (by lia) q'
 .have J:Inv X k P H { s with heap:=g' }:=I.kept (t':=s.toks) kp
  obtain⟨a,ea⟩:∃ a,c[i]? = some a:=⟨_,List.getElem?_eq_getElem (by lia)⟩
  obtain⟨b,eb⟩:∃ b,c[j]? = some b:=⟨_,List.getElem?_eq_getElem (by lia)⟩
  unfold kas_ask;rw[f,show(c.map Value.ref).getD i Value.none=.ref a by rw[List.getD,List.getElem?_map,ea];rfl,show(c.map Value.ref).getD j Value.none=.ref b by rw[List.getD,List.getElem?_map,eb];rfl];refine vh (by show X.A.units+1+1<cLine;lia) (λe=>?_) (lh J.hok (hpr i a ea)) (lh J.hok (hpr j b eb)) hC;have D:i<gs.length:=by lia
  have F:j<gs.length:=by lia
  rw[show gs.getD i []=gs[i] by simp[List.getD,D],show gs.getD j []=gs[j] by simp[List.getD,F]]at e
  rcases Nat.lt_or_gt_of_ne E with y | y
  .exact(pairwise_iff_getElem.mp B i j D F y) e
  .exact(pairwise_iff_getElem.mp B j i F D y) e.symm
 .have w:=iz T
  have N:=mW T;generalize ii (λi j=>aJ (gs.getD i []) (gs.getD j [])) d.length=o at w N ⊢;obtain⟨e,Y⟩:=sortedAll_at s.heap d (List.toArray (o.map λi=>d.getD i Value.none));have E:H (s.heap.objs.size+1)=none:=I.hok.fresh (Nat.le_succ _);have G:sizeLine=16777216:=sizeLine_eq;have v:=sh l o λi A=>by rw[<- g];exact mem_range.mp (w.mem_iff.mp A)
  rw[g]at w;refine⟨.ref (s.heap.objs.size+1),_,I.laid (a:=s.heap.objs.size+1) (o:=.lst (o.map λi=>ys.getD i .non)) (t':=s.toks) (λb u z=>sortedAll_old z) (Nat.le_succ _) ⟨?_,_,e,v,?_⟩,rfl,q _ _ w N E⟩
  .rw[length_map,w.length_eq,length_range];lia
  .rw[Y]
end
end L2
namespace L2
open PySem PySem.Spec PyProof.Rows
section
variable {X:Cx}{a b c d:Expr}{ta tb tc td:TE}{pos:Pos}
end
section
variable {X:Cx}{o e:Expr}{es:List Expr}{to:TE}{t:TA}{apos cpos:Pos}
theorem pe_m.extend(h:PE X o to)(g:PA X (e::es) t)(c:attributeBase o "extend" X.env (eval o X.env)=eval o X.env:=by rfl)
  (d:((backTo cpos (starEach (e::es) X.env)).all (λx=>!x.1) && (backToKw cpos (keywordEach [] X.env)).all (λx=>x.1.isSome) && decide ((e::es).length+([]:List Keyword).length+(if ([]:List Keyword).isEmpty then 0 else 1)<30))=true:=by rfl)
  (b:(apos.endLine == cpos.line)=true:=by rfl) (f:starEach (e::es) X.env=(false,eval e X.env)::starEach es X.env:=by rfl) (a:(backTo cpos (starEach es X.env)).any (·.1)=false:=by rfl) :
  PE X (.Call (.Attribute o "extend" apos) (e::es) [] cpos) (tBM X.K "list" qj to t):=vj F.plainAttrs_list F.slot_list_extend F.type_list_extend rT h g c d b f a
end
end L2
namespace Du
open FrM
def fr(q:Rat):Int×Int:=(q.num,(q.den:Int))
theorem si(n:Int){d:Nat}(a:d≠0):m8 n (d:Int)=fr (mkRat n d):=by
 unfold m8 fr;rw[Rat.num_mkRat,Rat.den_mkRat,if_neg a,if_neg a];have e:Int.gcd n (d:Int)=d.gcd n.natAbs:=by rw[Int.gcd,Nat.gcd_comm];rfl
 rw[e];rfl
theorem low_div(t:Int){b:Int}(a:0<b):m8 t b=fr ((t:Rat)/(b:Rat)):=by
 obtain⟨d,rfl⟩:=Int.eq_ofNat_of_zero_le (Int.le_of_lt a);rw[si t (by omega),<- Rat.divInt_eq_div,<- Rat.divInt_ofNat]
section
variable {B:Nat}{h c:Rat}
end
end Du
namespace Tb
open FrM Du
inductive Tr where
 | leaf (ns:List Int)
 | die (ps:List (Int×Tr))
def tot(ps:List (Int×Tr)):Int:=(ps.map (·.1)).sum
mutual
def lv:Tr->Nat
 | .leaf _=>1
 | .die ps=>lvs ps
def lvs:List (Int×Tr)->Nat
 | []=>0
 | (_,u)::r=>lv u+lvs r
end
mutual
def sz:Tr->Nat
 | .leaf _=>1
 | .die ps=>szs ps+1
def szs:List (Int×Tr)->Nat
 | []=>0
 | (_,u)::r=>sz u+szs r
end
mutual
def Ok:Tr->Prop
 | .leaf ns=>ns.Nodup/\ns.length<=24
 | .die ps=>ps≠[]/\Oks ps
def Oks:List (Int×Tr)->Prop
 | []=>True
 | (m,u)::r=>1<=m/\Ok u/\Oks r
end
abbrev Way:=List Int×(Int×Int)
mutual
def wl:Tr->Int->Int->List Way
 | .leaf ns,t,b=>[(ns,(t,b))]
 | .die ps,t,b=>wls ps t b (tot ps)
def wls:List (Int×Tr)->Int->Int->Int->List Way
 | [],_,_,_=>[]
 | (m,u)::r,t,b,S=>wls r t b S++wl u (t*m) (b*S)
end
abbrev Ent:=Tr×(Int×Int)
def st:List Ent->List Way
 | []=>[]
 | (u,(t,b))::r=>st r++wl u t b
def stL:List Ent->Nat
 | []=>0
 | (u,_)::r=>stL r+lv u
def stS:List Ent->Nat
 | []=>0
 | (u,_)::r=>stS r+sz u
theorem md:∀(a b:List Ent),st (a++b)=st b++st a
 | [],b=>by simp[st]
 | (u,(t,c))::a,b=>by rw[cons_append,st,md a b,st,append_assoc]
theorem stS_app:∀(a b:List Ent),stS (a++b)=stS a+stS b
 | [],b=>by simp[stS]
 | (u,c)::a,b=>by rw[cons_append,stS,stS_app a b,stS];lia
def kids(ps:List (Int×Tr))(t b S:Int):List Ent:=ps.map λp=>(p.2,(t*p.1,b*S))
theorem qb(t b S:Int):∀ ps:List (Int×Tr),st (kids ps t b S)=wls ps t b S
 | []=>rfl
 | (m,u)::r=>by
  have a:=qb t b S r;unfold kids at *;rw[map_cons,st,a,wls]
theorem stS_kids(t b S:Int):∀ ps:List (Int×Tr),stS (kids ps t b S)=szs ps
 | []=>rfl
 | (m,u)::r=>by
  have a:=stS_kids t b S r;unfold kids at *;rw[map_cons,stS,a,szs];lia
mutual
theorem sP:∀ t:Tr,Ok t->1<=lv t
 | .leaf _,_=>by simp[lv]
 | .die ps,h=>by rw[lv];rw[Ok]at h;exact vE ps h.2 h.1
theorem vE:∀ ps:List (Int×Tr),Oks ps->ps≠[]->1<=lvs ps
 | [],_,h=>absurd rfl h
 | (m,u)::r,h,_=>by rw[Oks]at h;rw[lvs];have:=sP u h.2.1;lia
end
def StOk(s:List Ent):Prop:=∀ e∈s,Ok e.1
theorem qT:∀ s:List Ent,StOk s->s.length<=stL s
 | [],_=>Nat.le_refl _
 | (u,c)::r,h=>by
  have:=qT r λe a=>h e (mem_cons_of_mem _ a)
  have:=sP u (h _ mem_cons_self);rw[stL,length_cons];lia
theorem qk:∀{ps:List (Int×Tr)},Oks ps->∀ p∈ps,1<=p.1/\Ok p.2
 | (m,u)::r,h,p,hp=>by
  rw[Oks]at h
  rcases mem_cons.mp hp with rfl | hp
  .exact⟨h.1,h.2.1⟩
  .exact qk h.2.2 p hp
theorem StOk.kids{ps:List (Int×Tr)}{t b S:Int}(h:Oks ps):StOk (kids ps t b S):=λe a=>by
 obtain⟨p,c,rfl⟩:=mem_map.mp a;exact(qk h p c).2
mutual
theorem wl_len:∀(t:Tr) (a b:Int),(wl t a b).length=lv t
 | .leaf _,_,_=>rfl
 | .die ps,a,b=>by rw[wl,lv];exact qr ps a b _
theorem qr:∀(ps:List (Int×Tr)) (a b S:Int),(wls ps a b S).length=lvs ps
 | [],_,_,_=>rfl
 | (m,u)::r,a,b,S=>by rw[wls,lvs,length_append,qr r,wl_len u];lia
end
structure Wk(t:Tr)(ways:List Way)(s:List Ent):Prop where
 all:ways++st s=wl t 1 1
 ok:StOk s
theorem Wk.start{t:Tr}(h:Ok t):Wk t [] [(t,(1,1))]:=⟨by simp[st],λe a=>by cases mem_singleton.mp a;exact h⟩
theorem Wk.leaf{t:Tr}{c:List Way}{s:List Ent}{d:List Int}{a b:Int}(h:Wk t c (s++[(.leaf d,(a,b))])):Wk t (c++[(d,(a,b))]) s:=by
 refine⟨?_,λe f=>h.ok e (mem_append_left _ f)⟩;have:=h.all;rw[md]at this;rw[append_assoc];exact this
theorem Wk.die{t:Tr}{c:List Way}{s:List Ent}{ps:List (Int×Tr)}{a b:Int}(h:Wk t c (s++[(.die ps,(a,b))])):Wk t c (s++kids ps a b (tot ps)):=by
 have o:=h.ok _ (mem_append_right _ mem_cons_self);rw[Ok]at o;refine⟨?_,λe he=>?_⟩
 .rw[md,qb]
  have:=h.all;rw[md]at this;simpa[st,wl] using this
 .rcases mem_append.mp he with he | he
  .exact h.ok e (mem_append_left _ he)
  .exact StOk.kids o.2 e he
theorem ul:∀ s:List Ent,(st s).length=stL s
 | []=>rfl
 | (u,(a,b))::r=>by rw[st,stL,length_append,ul r,wl_len]
theorem Wk.few{t:Tr}{a:List Way}{s:List Ent}(h:Wk t a s):a.length+s.length<=lv t:=by
 have e:=congrArg List.length h.all;rw[length_append,ul,wl_len]at e;have:=qT s h.ok;lia
theorem Wk.done{t:Tr}{a:List Way}(h:Wk t a []):a=wl t 1 1:=by have:=h.all;simpa[st] using this
abbrev Rws:=List (List Int×Rat)
def da(W:Rws)(k:List Int):Rat:=((W.filter λw=>decide (w.1=k)).map (·.2)).sum
theorem jx{k:List Int}:da [] k=0:=rfl
theorem be{w:List Int×Rat}{W:Rws}{k:List Int}:da (w::W) k=(if w.1=k then w.2 else 0)+da W k:=by
 unfold da;rw[filter_cons]
 by_cases h:w.1=k
 .rw[if_pos (decide_eq_true h),if_pos h,map_cons,sum_cons]
 .rw[if_neg (by simp[h]),if_neg h];grind
theorem rX{A B:Rws}{k:List Int}(h:A.Perm B):da A k=da B k:=by
 induction h with
 | nil=>rfl
 | cons x _ ih=>rw[be,be,ih]
 | swap x y l=>rw[be,be,be,be];grind
 | trans _ _ a b=>rw[a,b]
theorem m7{W:Rws}{k:List Int}(h:k ∉ W.map (·.1)):da W k=0:=by
 induction W with
 | nil=>rfl
 | cons w W ih =>
  rw[map_cons,mem_cons,not_or]at h;rw[be,if_neg (λe=>h.1 e.symm),ih h.2];grind
def fe(k:List Int)(m:Rat):Rws->Rws
 | []=>[(k,m)]
 | x::r=>if x.1=k then (k,x.2+m)::r else x::fe k m r
def NdR(st:Rws):Prop:=(st.map (·.1)).Nodup
theorem iq(k:List Int)(m:Rat):∀ st:Rws,(fe k m st).map (·.1)=if k∈st.map (·.1) then st.map (·.1) else st.map (·.1)++[k]
 | []=>by simp[fe]
 | x::r=>by
  rw[fe]
  by_cases c:x.1=k
  .rw[if_pos c];simp[c]
  .rw[if_neg c,map_cons,iq k m r,map_cons]
   have a:¬k=x.1:=λe=>c e.symm
   by_cases d:k∈r.map (·.1)
   .rw[if_pos d,if_pos (mem_cons_of_mem _ d)]
   .rw[if_neg d,if_neg (by simp only[mem_cons,not_or];exact⟨a,d⟩)];rfl
theorem NdR.add{k:List Int}{m:Rat}{d:Rws}(h:NdR d):NdR (fe k m d):=by
 unfold NdR at *;rw[iq]
 split
 .exact h
 .rename_i n
  exact nodup_append.mpr ⟨h,by simp,λa f b c e=>n (by rw[mem_singleton]at c;rw[<- c,<- e];exact f)⟩
theorem mV{k a:List Int}{m:Rat}:∀{st:Rws},da (fe k m st) a=da st a+if k=a then m else 0
 | []=>by rw[fe,be,jx];grind
 | x::r=>by
  rw[fe]
  by_cases c:x.1=k
  .rw[if_pos c,be,be]
   show(if k=a then x.2+m else 0)+da r a=_
   rw[c];split <;> grind
  .rw[if_neg c,be,be,mV];grind
def oy(W:Rws):Rws:=W.foldl (λst w=>fe w.1 w.2 st) []
theorem rO(a:Rws):∀(W:Rws) (k:List Int),da (W.foldl (λa w=>fe w.1 w.2 a) a) k=da a k+da W k:=by
 intro W
 induction W generalizing a with
 | nil=>intro k;rw[List.foldl_nil,jx];grind
 | cons w W ih=>intro k;rw[foldl_cons,ih,mV,be];grind
theorem rM(W:Rws)(k:List Int):da (oy W) k=da W k:=by
 unfold oy;rw[rO,jx];grind
theorem sI(a:Rws)(h:NdR a):∀ W:Rws,NdR (W.foldl (λa w=>fe w.1 w.2 a) a):=by
 intro W
 induction W generalizing a with
 | nil=>exact h
 | cons w W ih=>exact ih _ h.add
theorem qo(W:Rws):NdR (oy W):=sI [] nodup_nil W
theorem pk(b:Rws):∀(W:Rws) (k:List Int),k∈(W.foldl (λb w=>fe w.1 w.2 b) b).map (·.1)↔k∈b.map (·.1)\/k∈W.map (·.1):=by
 intro W
 induction W generalizing b with
 | nil=>intro k;simp
 | cons w W ih =>
  intro k;rw[foldl_cons,ih,iq,map_cons,mem_cons]
  split
  .rename_i h
   constructor
   .rintro(a | a)
    .exact .inl a
    .exact .inr (.inr a)
   .rintro(a | a | a)
    .exact .inl a
    .exact .inl (by rw[a];exact h)
    .exact .inr a
  .rw[mem_append,mem_singleton]
   constructor
   .rintro((a | a) | a)
    .exact .inl a
    .exact .inr (.inl a)
    .exact .inr (.inr a)
   .rintro(a | a | a)
    .exact .inl (.inl a)
    .exact .inl (.inr a)
    .exact .inr a
theorem adds_keys(W:Rws)(k:List Int):k∈(oy W).map (·.1)↔k∈W.map (·.1):=by
 unfold oy;rw[pk];simp
theorem tQ{b:Rws}(a:NdR b):∀ x∈b,da b x.1=x.2:=by
 induction b with
 | nil=>intro x hx;cases hx
 | cons y r ih =>
  intro x hx;unfold NdR at a;rw[map_cons,nodup_cons]at a;rw[be]
  rcases mem_cons.mp hx with rfl | hx
  .rw[if_pos rfl,m7 a.1];grind
  .have e:=ih a.2 x hx
   rw[if_neg (λz=>a.1 (by rw[z];exact mem_map.mpr ⟨x,hx,rfl⟩)),e];grind
abbrev Grp:=List (List Int×List (Int×Int))
def pushG(k:List Int)(c:Int×Int):Grp->Grp
 | []=>[(k,[c])]
 | x::r=>if x.1=k then (k,x.2++[c])::r else x::pushG k c r
def grp(W:List Way):Grp:=W.foldl (λg w=>pushG w.1 w.2 g) []
def qv(c:Int×Int):Rat:=(c.1:Rat)/(c.2:Rat)
def sumQ(l:List (Int×Int)):Rat:=(l.map qv).sum
def rat(g:Grp):Rws:=g.map λx=>(x.1,sumQ x.2)
def toR(W:List Way):Rws:=W.map λw=>(w.1,qv w.2)
theorem mU(k:List Int)(c:Int×Int):∀ g:Grp,rat (pushG k c g)=fe k (qv c) (rat g)
 | []=>by
  show [(k,sumQ [c])]=[(k,qv c)];unfold sumQ;simp only[map_cons,map_nil,sum_cons,sum_nil];have:qv c+0=qv c:=by grind
  rw[this]
 | x::r=>by
  rw[pushG]
  by_cases h:x.1=k
  .rw[if_pos h]
   show(k,sumQ (x.2++[c]))::rat r=fe k (qv c) ((x.1,sumQ x.2)::rat r);rw[fe,if_pos h];have:sumQ (x.2++[c])=sumQ x.2+qv c:=by unfold sumQ;rw[map_append,List.sum_append];simp only[map_cons,map_nil,sum_cons,sum_nil];grind
   rw[this]
  .rw[if_neg h]
   show(x.1,sumQ x.2)::rat (pushG k c r)=fe k (qv c) ((x.1,sumQ x.2)::rat r);rw[fe,if_neg h,mU k c r]
theorem tE(g:Grp):∀ W:List Way,rat (W.foldl (λg w=>pushG w.1 w.2 g) g)=(toR W).foldl (λst w=>fe w.1 w.2 st) (rat g):=by
 intro W
 induction W generalizing g with
 | nil=>rfl
 | cons w W ih =>
  rw[foldl_cons,ih,mU];rfl
theorem rat_grp(W:List Way):rat (grp W)=oy (toR W):=tE [] W
theorem grp_snoc{W:List Way}{i:Nat}{w:Way}(h:W[i]? = some w):grp (W.take (i+1))=pushG w.1 w.2 (grp (W.take i)):=by
 unfold grp;rw[take_add_one,h,List.foldl_append];rfl
mutual
def wf:Tr->Rat->Rws
 | .leaf ns,q=>[(ns,q)]
 | .die ps,q=>wfs ps q (tot ps)
def wfs:List (Int×Tr)->Rat->Int->Rws
 | [],_,_=>[]
 | (m,u)::r,q,S=>wf u (q*((m:Rat)/(S:Rat)))++wfs r q S
end
theorem yx{a b m S:Int}(g:b≠0)(d:S≠0):qv (a*m,b*S)=qv (a,b)*((m:Rat)/(S:Rat)):=by
 unfold qv;have c:(b:Rat)≠0:=by exact_mod_cast g
 have f:(S:Rat)≠0:=by exact_mod_cast d
 simp only[Rat.intCast_mul]
 grind
theorem ql:∀{ps:List (Int×Tr)},Oks ps->(ps.length:Int)<=tot ps
 | [],_=>by simp[tot]
 | (m,u)::r,h=>by
  rw[Oks]at h;have:=ql h.2.2;unfold tot at *;rw[map_cons,sum_cons,length_cons];have:=h.1;show((r.length+1:Nat):Int)<=m+_;lia
mutual
theorem xA:∀(t:Tr) (a b:Int),Ok t->0<b->(toR (wl t a b)).Perm (wf t (qv (a,b)))
 | .leaf ns,a,b,_,_=>by rw[wl,wf];exact .refl _
 | .die ps,a,b,h,hb=>by
  rw[Ok]at h;rw[wl,wf];have:=ql h.2;have:0<ps.length:=List.length_pos_iff.mpr h.1;exact tm ps a b (tot ps) h.2 hb (by lia)
theorem tm:∀(ps:List (Int×Tr)) (a b S:Int),Oks ps->0<b->0<S->(toR (wls ps a b S)).Perm (wfs ps (qv (a,b)) S)
 | [],_,_,_,_,_,_=>by rw[wls,wfs];exact .refl _
 | (m,u)::r,a,b,S,h,hb,hS=>by
  rw[Oks]at h;rw[wls,wfs];have e:toR (wls r a b S++wl u (a*m) (b*S))=toR (wls r a b S)++toR (wl u (a*m) (b*S)):=by unfold toR;rw[map_append]
  rw[e,<- yx (by lia) (by lia)];exact(List.perm_append_comm).trans ((xA u _ _ h.2.1 (Int.mul_pos hb hS)).append (tm r a b S h.2.2 hb hS))
end
end Tb
namespace Tb
open FrM Du LexM
def so(l:List Int):List Int:=l.mergeSort (λa b=>decide (a<=b))
theorem so_perm(l:List Int):(so l).Perm l:=List.mergeSort_perm l _
theorem tY(l:List Int):(so l).Pairwise (·<=·):=by
 have h:=List.pairwise_mergeSort (le:=λ(a b:Int)=>decide (a<=b)) (by intro a b c h1 h2;simp at *;lia) (by intro a b;simp;lia) l;exact h.imp λh=>by simpa using h
theorem pE:∀{a b:List Int},a.Perm b->a.Pairwise (·<=·)->b.Pairwise (·<=·)->a=b
 | [],b,p,_,_=>(List.nil_perm.mp p).symm ▸ rfl
 | x::a,[],p,_,_=>absurd p.length_eq (by simp)
 | x::a,y::b,p,h1,h2=>by
  rw[pairwise_cons]at h1 h2
  have e:x=y:=by
   have c:x∈y::b:=p.mem_iff.mp mem_cons_self;have d:y∈x::a:=p.mem_iff.mpr mem_cons_self
   rcases mem_cons.mp c with z | z
   .exact z
   .rcases mem_cons.mp d with z' | z'
    .exact z'.symm
    .have:=h2.1 x z
     have:=h1.1 y z';lia
  subst e;rw[pE (List.perm_cons x |>.mp p) h1.2 h2.2]
theorem so_uniq{a l:List Int}(h:a.Perm l)(s:a.Pairwise (·<=·)):a=so l:=pE (h.trans (so_perm l).symm) s (tY l)
def kW(W:List Way):List Way:=W.map λw=>(so w.1,w.2)
def kR(W:Rws):Rws:=W.map λw=>(so w.1,w.2)
theorem y9(W:List Way):toR (kW W)=kR (toR W):=by unfold toR kW kR;rw[map_map,map_map];rfl
def kt(t:Tr):Rws:=kR (wf t 1)
theorem qa{t:Tr}(h:Ok t):(toR (kW (wl t 1 1))).Perm (kt t):=by
 rw[y9];have:=xA t 1 1 h (by decide);have e:qv (1,1)=1:=by unfold qv;grind
 rw[e]at this;exact this.map _
structure IsTab(W R:Rws):Prop where
 pm:R.Perm (oy W)
 up:(R.map (·.1)).Pairwise λa b=>aJ a b=true
theorem qH:∀{a b:List (List Int)},(a.Pairwise λx y=>aJ x y=true)->(b.Pairwise λx y=>aJ x y=true)->(∀ x,x∈a↔x∈b)->a=b
 | [],[],_,_,_=>rfl
 | [],y::b,_,_,h=>absurd ((h y).mpr mem_cons_self) (by simp)
 | x::a,[],_,_,h=>absurd ((h x).mp mem_cons_self) (by simp)
 | x::a,y::b,h1,h2,h=>by
  rw[pairwise_cons]at h1 h2
  have e:x=y:=by
   rcases mem_cons.mp ((h x).mp mem_cons_self) with z | z
   .exact z
   .rcases mem_cons.mp ((h y).mpr mem_cons_self) with z' | z'
    .exact z'.symm
    .have d:=jv _ _ (h2.1 x z)
     rw[h1.1 y z']at d;cases d
  subst e
  have:a=b:=qH h1.2 h2.2 λz=>by
   have c:=h z;rw[mem_cons,mem_cons]at c
   constructor
   .intro m
    rcases c.mp (.inr m) with e | e
    .have:=h1.1 z m;rw[e,lb]at this;cases this
    .exact e
   .intro m
    rcases c.mpr (.inr m) with e | e
    .have:=h2.1 z m;rw[e,lb]at this;cases this
    .exact e
  rw[this]
theorem IsTab.keys{W R:Rws}(h:IsTab W R)(k:List Int):k∈R.map (·.1)↔k∈W.map (·.1):=by
 rw[<- adds_keys W k];exact(h.pm.map _).mem_iff
theorem IsTab.val{W R:Rws}(h:IsTab W R){x:List Int×Rat}(a:x∈R):x.2=da W x.1:=by
 rw[<- rM,tQ (qo W) x (h.pm.mem_iff.mp a)]
theorem IsTab.eqv{W R:Rws}(h:IsTab W R):R=(R.map (·.1)).map λk=>(k,da W k):=by
 rw[map_map]
 have:∀ x∈R,x=((λk=>(k,da W k)) ∘ λx=>x.1) x:=λx hx=>by
  show x=(x.1,da W x.1);rw[<- h.val hx]
 conv=>lhs;rw[<- map_id R]
 exact map_congr_left this
theorem tab_of{g:Rws}{o:List Nat}(r:NdR g)(l:o.Perm (List.range g.length))(q:o.Pairwise λi j=>aJ ((g.map (·.1)).getD j []) ((g.map (·.1)).getD i [])=false) :
  (o.map λi=>g.getD i ([],0)).Perm g/\((o.map λi=>g.getD i ([],0)).map (·.1)).Pairwise λa b=>aJ a b=true:=by
 constructor
 .have e:(List.range g.length).map (λi=>g.getD i ([],0))=g:=by
   apply List.ext_getElem
   .simp
   .intro i n s
    rw[List.getElem_map,List.getElem_range,List.getD,List.getElem?_eq_getElem s];rfl
  have:=l.map λi=>g.getD i ([],0)
  rw[e]at this;exact this
 .have A:o.Nodup:=l.nodup_iff.mpr nodup_range
  rw[map_map,pairwise_map];have d:=q.and A;refine List.Pairwise.imp_of_mem (λ{i j} u x h=>?_) d;have f:i<g.length:=mem_range.mp (l.mem_iff.mp u);have k:j<g.length:=mem_range.mp (l.mem_iff.mp x);have B:(g.map (·.1)).getD i []=(g.getD i ([],0)).1:=by simp[List.getD,f]
  have w:(g.map (·.1)).getD j []=(g.getD j ([],0)).1:=by simp[List.getD,k]
  rw[B,w]at h
  have v:(g.getD i ([],0)).1≠(g.getD j ([],0)).1:=λe=>by
   have p:(g.map (·.1))[i]'(by simpa using f)=(g.map (·.1))[j]'(by simpa using k):=by
    simp[List.getD,f,k]at e;simpa using e
   have c:∀ i j (f:i<(g.map (·.1)).length) (k:j<(g.map (·.1)).length),i<j->(g.map (·.1))[i]≠(g.map (·.1))[j]:=pairwise_iff_getElem.mp r
   rcases Nat.lt_trichotomy i j with y | y | y
   .exact c i j _ _ y p
   .exact h.2 y
   .exact c j i _ _ y p.symm
  rcases mi _ _ v with z | z
  .exact z
  .have n:=h.1
   rw[z]at n;cases n
abbrev sm(W:Rws):Rat:=(W.map (·.2)).sum
def pm(p:List Int->Bool)(W:Rws):Rat:=(W.map λx=>if p x.1=true then x.2 else 0).sum
theorem vS{W:Rws}{k:List Int}:da W k=pm (λy=>decide (y=k)) W:=by
 induction W with
 | nil=>rfl
 | cons w W ih =>
  rw[be,ih];have e:pm (λy=>decide (y=k)) (w::W)=(if decide (w.1=k)=true then w.2 else 0)+pm (λy=>decide (y=k)) W:=by unfold pm;rw[map_cons,sum_cons]
  rw[e]
  by_cases h:w.1=k
  .rw[if_pos h,if_pos (decide_eq_true h)]
  .rw[if_neg h,if_neg (by simp[h])]
mutual
def dn:Tr->Nat
 | .leaf _=>1
 | .die ps=>(tot ps).toNat*dns ps
def dns:List (Int×Tr)->Nat
 | []=>1
 | (_,u)::r=>dn u*dns r
end
structure Ch(D:Int)(c:Int×Int):Prop where
 t0:0<=c.1
 le:c.1<=c.2
 b0:0<c.2
 dv:c.2 ∣ D
theorem lcm_step{r n D:Int}(s:0<r)(f:0<n)(q:r ∣ D)(h2:n ∣ D):0<r/(Int.gcd r n:Int)*n/\r ∣ r/(Int.gcd r n:Int)*n/\n ∣ r/(Int.gcd r n:Int)*n/\r/(Int.gcd r n:Int)*n ∣ D:=by
 have w:0<Int.gcd r n:=Int.gcd_pos_of_ne_zero_right _ (by lia);have v:(0:Int)<(Int.gcd r n:Int):=by lia
 obtain⟨c,d⟩:=Int.gcd_dvd_left (a:=r) (b:=n);obtain⟨e,p⟩:=Int.gcd_dvd_right (a:=r) (b:=n)
 have u:r/(Int.gcd r n:Int)=c:=by
  have:=Int.mul_ediv_cancel_left c (show(Int.gcd r n:Int)≠0 by lia);rw[<- d]at this;exact this
 have j:0<c:=by
  rcases Int.lt_or_le 0 c with h | h
  .exact h
  .have:=Int.mul_nonpos_of_nonneg_of_nonpos (Int.le_of_lt v) h;lia
 rw[u];refine⟨Int.mul_pos j f,⟨e,?_⟩,⟨c,Int.mul_comm _ _⟩,?_⟩
 .rw[d]
  conv=>lhs;rw[p]
  generalize (Int.gcd r n:Int)=g;rw[<- Int.mul_assoc,Int.mul_comm c g]
 .have l:(Int.lcm r n:Int) ∣ D:=by
   have:=Nat.lcm_dvd (Int.natAbs_dvd_natAbs.mpr q) (Int.natAbs_dvd_natAbs.mpr h2);exact Int.natAbs_dvd_natAbs.mp (by rw[Int.natAbs_natCast];exact this)
  have k:(Int.lcm r n:Int)=c*n:=by
   have:=Int.gcd_mul_lcm r n
   have o:(Int.gcd r n:Int)*(Int.lcm r n:Int)=r*n:=by
    have h:((Int.gcd r n*Int.lcm r n:Nat):Int)=((r*n).natAbs:Int):=by rw[this,Int.natAbs_mul]
    rw[Int.natCast_mul]at h;have:=Int.mul_pos s f;lia
   have i:(Int.gcd r n:Int)*(Int.lcm r n:Int)=(Int.gcd r n:Int)*(c*n):=by
    rw[o,<- Int.mul_assoc,<- d]
   exact Int.eq_of_mul_eq_mul_left (by lia) i
  rw[<- k];exact l
theorem wD{L t b:Int}(f:0<L)(d:0<b)(h:b ∣ L):((t*(L/b):Int):Rat)=qv (t,b)*(L:Rat):=by
 obtain⟨c,rfl⟩:=h;rw[Int.mul_ediv_cancel_left c (by lia)];have a:(b:Rat)≠0:=by have:b≠0:=(by lia);exact_mod_cast this
 unfold qv
 push_cast
 grind
theorem top_sum{L:Int}(a:0<L):∀{fs:List (Int×Int)},(∀ f∈fs,0<f.2/\f.2 ∣ L)->(((fs.map λf=>f.1*(L/f.2)).sum:Int):Rat)=sumQ fs*(L:Rat)
 | [],_=>by show((0:Int):Rat)=0*_;grind
 | f::fs,h=>by
  have c:=wD (t:=f.1) a (h f mem_cons_self).1 (h f mem_cons_self).2;have b:=top_sum a λx d=>h x (mem_cons_of_mem _ d)
  rw[map_cons,sum_cons,Rat.intCast_add,c,b];have e:sumQ (f::fs)=qv (f.1,f.2)+sumQ fs:=by unfold sumQ;rw[map_cons,sum_cons]
  rw[e]
  grind
theorem low_tops{L T:Int}{q:Rat}(b:0<L)(e:(T:Rat)=q*(L:Rat)):m8 T L=fr q:=by
 rw[low_div T b,e];have a:(L:Rat)≠0:=by have:L≠0:=(by lia);exact_mod_cast this
 congr 1
 grind
def Lm2:Nat:=2 ^ 2720
theorem bt_of{D:Nat}{i:Int}(c:0<D)(a:D<=Lm2)(b:0<=i)(h:i<=(D:Int)):Bt 2721 i:=by
 unfold Bt;have e:(2:Nat) ^ 2721=Lm2*2:=by unfold Lm2;exact Nat.pow_succ 2 2720
 rw[e];have:0<Lm2:=by unfold Lm2;exact Nat.pow_pos (by decide)
 lia
theorem ch_bt{D:Nat}{c:Int×Int}(b:0<D)(a:D<=Lm2)(h:Ch (D:Int) c):Bt 2721 c.1/\Bt 2721 c.2:=by
 have:=Int.le_of_dvd (by lia) h.dv;have:=h.le;have:=h.b0;exact⟨bt_of b a h.t0 (by lia),bt_of b a (by lia) (by lia)⟩
mutual
def Dp:Nat->Tr->Prop
 | _,.leaf ns=>ns.Nodup/\ns.length<=6
 | 0,.die _=>False
 | d+1,.die ps=>1<=ps.length/\ps.length<=4/\Dps d ps
def Dps:Nat->List (Int×Tr)->Prop
 | _,[]=>True
 | d,(m,u)::r=>1<=m/\m<=1000000000/\Dp d u/\Dps d r
end
theorem ot{k:List Int}{c:Int×Int}:∀ g:Grp,(pushG k c g).length<=g.length+1
 | []=>by rw[pushG];simp
 | y::r=>by
  rw[pushG]
  split
  .simp
  .rw[length_cons,length_cons];have:=ot (k:=k) (c:=c) r;lia
def Gk(W:List Way)(n:Nat)(g:Grp):Prop:=g.length<=n/\∀ x∈g,x.2.length<=n/\∀ c∈x.2,∃ w∈W,w.2=c
theorem Gk.push{W:List Way}{n:Nat}{g:Grp}(h:Gk W n g){w:Way}(b:w∈W):Gk W (n+1) (pushG w.1 w.2 g):=by
 refine⟨Nat.le_trans (ot g) (by have:=h.1;lia),λx hx=>?_⟩
 have f:∀ g:Grp,(∀ x∈g,x.2.length<=n/\∀ c∈x.2,∃ w∈W,w.2=c)->∀ x∈pushG w.1 w.2 g,x.2.length<=n+1/\∀ c∈x.2,∃ w∈W,w.2=c:=by
  intro g
  induction g with
  | nil=>intro _ x hx;rw[pushG]at hx;rw[mem_singleton.mp hx];exact⟨by simp,λc hc=>⟨w,b,(mem_singleton.mp hc).symm⟩⟩
  | cons y r ih =>
   intro h x hx;rw[pushG]at hx;have a:=h y mem_cons_self
   split at hx
   .rcases mem_cons.mp hx with rfl | hx
    .refine⟨by rw[length_append];have:=a.1;simp;lia,λc hc=>?_⟩
     rcases mem_append.mp hc with hc | hc
     .exact a.2 c hc
     .exact⟨w,b,(mem_singleton.mp hc).symm⟩
    .have:=h x (mem_cons_of_mem _ hx);exact⟨by lia,this.2⟩
   .rcases mem_cons.mp hx with rfl | hx
    .exact⟨by have:=a.1;lia,a.2⟩
    .exact ih (λz d=>h z (mem_cons_of_mem _ d)) x hx
 exact f g h.2 x hx
theorem grp_gk(W:List Way):∀ i,i<=W.length->Gk W i (grp (W.take i))
 | 0,_=>⟨Nat.le_refl _,λx a=>by cases a⟩
 | i+1,h=>by
  obtain⟨w,hw⟩:∃ w,W[i]? = some w:=⟨_,List.getElem?_eq_getElem (by lia)⟩
  rw[grp_snoc hw];exact(grp_gk W i (by lia)).push (List.mem_of_getElem? hw)
theorem rat_keys(g:Grp):(rat g).map (·.1)=g.map (·.1):=by unfold rat;rw[map_map];rfl
theorem grp_nd(W:List Way):NdR (rat (grp W)):=by rw[rat_grp];exact qo _
theorem kW_len(t:Tr):(kW (wl t 1 1)).length=lv t:=by unfold kW;rw[length_map,wl_len]
theorem kW_get{W:List Way}{i:Nat}{w:Way}(h:W[i]? = some w):(kW W)[i]? = some (so w.1,w.2):=by unfold kW;rw[List.getElem?_map,h];rfl
theorem y8(A B:Rws):kR (A++B)=kR A++kR B:=by unfold kR;rw[map_append]
mutual
def bnd:Tr->(List Int->Tr)->Tr
 | .leaf ns,g=>g (so ns)
 | .die ps,g=>.die (wK ps g)
def wK:List (Int×Tr)->(List Int->Tr)->List (Int×Tr)
 | [],_=>[]
 | (m,u)::r,g=>(m,bnd u g)::wK r g
end
mutual
def Dq:Nat->Tr->Prop
 | _,.leaf ns=>ns.Nodup/\ns.length<=12
 | 0,.die _=>False
 | d+1,.die ps=>1<=ps.length/\ps.length<=4/\Dqs d ps
def Dqs:Nat->List (Int×Tr)->Prop
 | _,[]=>True
 | d,(m,u)::r=>1<=m/\m<=1000000000/\Dq d u/\Dqs d r
end
mutual
def Lb:Tr->Prop
 | .leaf ns=>ns.length<=12
 | .die ps=>Lbs ps
def Lbs:List (Int×Tr)->Prop
 | []=>True
 | (_,u)::r=>Lb u/\Lbs r
end
mutual
def Par(o:Int):Tr->Prop
 | .leaf ns=>(∀ x∈ns,x % 2=o)/\ns.length<=6/\ns.Nodup
 | .die ps=>zG o ps
def zG(o:Int):List (Int×Tr)->Prop
 | []=>True
 | (_,u)::r=>Par o u/\zG o r
end
mutual
def Lq:Tr->Prop
 | .leaf ns=>ns.length<=6
 | .die ps=>Lqs ps
def Lqs:List (Int×Tr)->Prop
 | []=>True
 | (_,u)::r=>Lq u/\Lqs r
end
theorem Ax{a:List Int}(h:a.Nodup):(so a).Nodup:=(so_perm a).nodup_iff.mpr h
mutual
theorem n0:∀(t:Tr) (c q:Rat),wf t (c*q)=(wf t q).map λx=>(x.1,c*x.2)
 | .leaf ns,c,q=>by rw[wf,wf];rfl
 | .die ps,c,q=>by rw[wf,wf];exact kh ps c q _
theorem kh:∀(ps:List (Int×Tr)) (c q:Rat) (S:Int),wfs ps (c*q) S=(wfs ps q S).map λx=>(x.1,c*x.2)
 | [],c,q,S=>by rw[wfs,wfs];rfl
 | (m,u)::r,c,q,S=>by
  rw[wfs,wfs,map_append,<- n0 u,<- kh r];have e:c*q*((m:Rat)/(S:Rat))=c*(q*((m:Rat)/(S:Rat))):=by grind
  rw[e]
end
theorem yL{W R c:Rws}(h:IsTab W R)(f:(c.map (·.1)).Pairwise λa b=>aJ a b=true)(i:∀ k,k∈c.map (·.1)↔k∈W.map (·.1))(g:∀ x∈c,x.2=da W x.1):c=R:=by
 have e:c.map (·.1)=R.map (·.1):=qH f h.up λk=>by rw[i,h.keys]
 have d:c=(c.map (·.1)).map λk=>(k,da W k):=by
  rw[map_map]
  have:∀ x∈c,x=((λk=>(k,da W k)) ∘ λx=>x.1) x:=λx hx=>by
   show x=(x.1,da W x.1);rw[<- g x hx]
  conv=>lhs;rw[<- map_id c]
  exact map_congr_left this
 rw[d,h.eqv,e]
end Tb
namespace Tu
end Tu
namespace Tb
open FrM Du LexM Tu
def fl(qs:List (Int×List Int)):Tr:=.die (qs.map λz=>(z.1,.leaf z.2))
mutual
def Dk:Nat->Tr->Prop
 | _,.leaf ns=>ns.Nodup/\ns.length<=24
 | 0,.die _=>False
 | d+1,.die ps=>1<=ps.length/\ps.length<=1000/\Dks d ps
def Dks:Nat->List (Int×Tr)->Prop
 | _,[]=>True
 | d,(m,u)::r=>1<=m/\m<=1000000000/\Dk d u/\Dks d r
end
theorem dk_part{d:Nat}{ps:List (Int×Tr)}(h:Dks d ps):∀{p:Int×Tr},p∈ps->1<=p.1/\p.1<=1000000000/\Dk d p.2:=by
 induction ps with
 | nil=>intro p hp;cases hp
 | cons x r ih =>
  intro p hp;obtain⟨m,u⟩:=x;rw[Dks]at h
  rcases mem_cons.mp hp with rfl | hp
  .exact⟨h.1,h.2.1,h.2.2.1⟩
  .exact ih h.2.2.2 hp
theorem pW(p:List Int->Bool)(x:List Int×Rat)(W:Rws):pm p (x::W)=(if p x.1=true then x.2 else 0)+pm p W:=by unfold pm;rw[map_cons,sum_cons]
theorem uf{t:Tr}{W R c:Rws}(h:Ok t)(e:kt t=W)(f:IsTab (toR (kW (wl t 1 1))) R)(d:(c.map (·.1)).Pairwise λa b=>aJ a b=true)(i:∀ k,k∈c.map (·.1)↔k∈W.map (·.1))(g:∀ x∈c,x.2=da W x.1):c=R:=by
 have p:=e ▸ qa h;exact yL f d (λk=>(i k).trans (p.map _).mem_iff.symm) λx hx=>by rw[g x hx,rX p]
end Tb
namespace Tb
open FrM Du LexM
structure Hd(held:List Int)(n:Nat):Prop where
 nd:held.Nodup
 lt:∀ x∈held,0<=x/\x<(n:Int)
 len:held.length<=n
theorem oM:∀{ps:List (Int×Tr)},(∀ p∈ps,1<=p.1/\Ok p.2)->Oks ps
 | [],_=>by rw[Oks];trivial
 | (m,u)::r,h=>by
  have:=h _ mem_cons_self;rw[Oks];exact⟨this.1,this.2,oM λp a=>h p (mem_cons_of_mem _ a)⟩
def Ex(p:List Int->Bool)(t:Tr):Rat:=pm p (kt t)
theorem zc(p:List Int->Bool)(A B:Rws):pm p (A++B)=pm p A+pm p B:=by unfold pm;rw[map_append,List.sum_append]
theorem mO(p:List Int->Bool)(c:Rat):∀ W:Rws,pm p (kR (W.map λx=>(x.1,c*x.2)))=c*pm p (kR W)
 | []=>by show(0:Rat)=c*0;grind
 | x::W=>by
  have a:kR ((x::W).map λx=>(x.1,c*x.2))=(so x.1,c*x.2)::kR (W.map λx=>(x.1,c*x.2)):=rfl;have b:kR (x::W)=(so x.1,x.2)::kR W:=rfl;rw[a,b,pW,pW,mO p c W];show(if p (so x.1)=true then c*x.2 else 0)+_=c*((if p (so x.1)=true then x.2 else 0)+_)
  split <;> grind
theorem zy(p:List Int->Bool)(t:Tr)(q:Rat):pm p (kR (wf t q))=q*Ex p t:=by
 have e:wf t q=wf t (q*1):=by rw[Rat.mul_one]
 rw[e,n0,mO];rfl
def qZ(p:List Int->Bool)(S:Int)(ps:List (Int×Tr)):Rat:=(ps.map λx=>(x.1:Rat)/(S:Rat)*Ex p x.2).sum
theorem sX(p:List Int->Bool)(S:Int):∀ ps:List (Int×Tr),pm p (kR (wfs ps 1 S))=qZ p S ps
 | []=>by rw[wfs];rfl
 | (m,u)::r=>by
  rw[wfs,y8,zc,zy,sX p S r];unfold qZ;rw[map_cons,sum_cons,Rat.one_mul]
theorem wm(p:List Int->Bool)(a:List Int):Ex p (.leaf a)=if p (so a)=true then 1 else 0:=by
 unfold Ex kt;rw[wf];show(if p (so a)=true then (1:Rat) else 0)+0=_
 grind
def fac:Nat->Nat
 | 0=>1
 | n+1=>(n+1)*fac n
theorem fT:∀ n,0<fac n
 | 0=>by decide
 | n+1=>by rw[fac];exact Nat.mul_pos (by lia) (fT n)
def fq(n:Nat):Rat:=((fac n:Nat):Rat)
theorem qV(n:Nat):fq n≠0:=by
 unfold fq;have:=fT n;have:fac n≠0:=by lia
 exact_mod_cast this
structure Sb(S:List Int)(m N:Nat):Prop where
 up:S.Pairwise (· < ·)
 lt:∀ x∈S,0<=x/\x<(N:Int)
 len:S.length=m
theorem Sb.nd{S:List Int}{m N:Nat}(h:Sb S m N):S.Nodup:=h.up.imp λ{a b} w e=>by rw[e]at w;lia
theorem uR:∀{l m:List Int},l.Nodup->(∀ x∈l,x∈m)->l.length<=m.length
 | [],_,_,_=>Nat.zero_le _
 | x::l,m,nd,h=>by
  obtain⟨d,c⟩:=nodup_cons.mp nd;have b:=h x mem_cons_self
  have:=uR (m:=m.erase x) c λy a=>by
   have f:y≠x:=λe=>d (by rw[<- e];exact a)
   exact(List.mem_erase_of_ne f).mpr (h y (mem_cons_of_mem _ a))
  rw[List.length_erase_of_mem b]at this;have:=length_pos_of_mem b;rw[length_cons];lia
theorem mh{l m:List Int}(a:l.Nodup)(h2:m.Nodup)(h:∀ x,x∈l↔x∈m):l.Perm m:=(List.perm_ext_iff_of_nodup a h2).mpr h
def ch:Nat->Nat->Nat
 | _,0=>1
 | 0,_+1=>0
 | n+1,k+1=>ch n k+ch n (k+1)
theorem ch_zero(n:Nat):ch n 0=1:=by cases n <;> rfl
theorem lY:∀ n k:Nat,ch n (n+k+1)=0
 | 0,k=>by rw[Nat.zero_add];rfl
 | n+1,k=>by
  have e:n+1+k+1=(n+k+1)+1:=by lia
  rw[e,ch,lY n k,show n+k+1+1=n+(k+1)+1 by lia,lY n (k+1)]
theorem fH:∀ k s:Nat,ch (k+s) k*(fac k*fac s)=fac (k+s)
 | 0,s=>by rw[ch_zero,Nat.zero_add];show 1*(1*fac s)=fac s;lia
 | k+1,0=>by
  have e:ch (k+1) (k+1)=ch k k+ch k (k+1):=rfl;have b:=lY k 0;rw[Nat.add_zero]at b;have a:=fH k 0;rw[Nat.add_zero]at a ⊢;have d:fac 0=1:=rfl;rw[d,Nat.mul_one]at a;rw[e,b,Nat.add_zero,d,Nat.mul_one,show fac (k+1)=(k+1)*fac k from rfl,Nat.mul_left_comm,a]
 | k+1,s+1=>by
  have e:k+1+(s+1)=(k+(s+1))+1:=by lia
  have a:=fH k (s+1);have c:=fH (k+1) s;rw[e,ch,show fac (k+(s+1)+1)=(k+(s+1)+1)*fac (k+(s+1)) from rfl,Nat.add_mul];have f:k+1+s=k+(s+1):=by lia
  rw[f]at c
  have h:ch (k+(s+1)) k*(fac (k+1)*fac (s+1))=(k+1)*fac (k+(s+1)):=by
   rw[<- a,fac];rw[Nat.mul_assoc,Nat.mul_left_comm]
  have g:ch (k+(s+1)) (k+1)*(fac (k+1)*fac (s+1))=(s+1)*fac (k+(s+1)):=by
   rw[<- c,show fac (s+1)=(s+1)*fac s from rfl];rw[Nat.mul_left_comm (fac (k+1)),Nat.mul_left_comm]
  rw[h,g,<- Nat.add_mul,show k+1+(s+1)=k+(s+1)+1 by lia]
theorem uk(k s:Nat):0<ch (k+s) k:=by
 have h:=fH k s;have:=fT (k+s)
 rcases Nat.eq_zero_or_pos (ch (k+s) k) with z | z
 .rw[z,Nat.zero_mul]at h;lia
 .exact z
theorem ch_step(k s:Nat):ch (k+1+s) k*(s+1)=ch (k+1+s) (k+1)*(k+1):=by
 have a:=fH k (s+1);have c:=fH (k+1) s;have e:k+(s+1)=k+1+s:=by lia
 rw[e]at a;have p:0<fac k*fac s:=Nat.mul_pos (fT k) (fT s);refine Nat.eq_of_mul_eq_mul_right p ?_
 have b:ch (k+1+s) k*(s+1)*(fac k*fac s)=fac (k+1+s):=by
  rw[<- a,show fac (s+1)=(s+1)*fac s from rfl,Nat.mul_assoc,Nat.mul_left_comm (fac k)]
 have d:ch (k+1+s) (k+1)*(k+1)*(fac k*fac s)=fac (k+1+s):=by
  rw[<- c,show fac (k+1)=(k+1)*fac k from rfl,Nat.mul_assoc,Nat.mul_assoc]
 rw[b,d]
theorem ch_le(n:Nat):∀ k,ch n k<=2 ^ n:=by
 induction n with
 | zero =>
  intro k;cases k with
  | zero=>decide
  | succ k=>exact Nat.zero_le _
 | succ n ih =>
  intro k;cases k with
  | zero=>rw[ch_zero];exact Nat.one_le_two_pow
  | succ k=>rw[ch,Nat.pow_succ];have:=ih k;have:=ih (k+1);lia
def SL(many few:Nat):Nat->List (List Int)
 | 0=>[[]]
 | k+1=>((SL many few k).filter λx=>decide (x.length<few)).map (· ++ [(k:Int)])++(SL many few k).filter λx=>decide (few<=x.length+(many - k - 1))
structure Su(x:List Int)(many few k:Nat):Prop where
 up:x.Pairwise (· < ·)
 lt:∀ y∈x,0<=y/\y<(k:Int)
 le:x.length<=few
 en:few<=x.length+(many - k)
theorem tU{f i:Nat}:∀{k:Nat},k<=f->i<=f->∀ x,x∈SL f i k↔Su x f i k
 | 0,_,hf,x=>by
  rw[SL,mem_singleton]
  constructor
  .rintro rfl;exact⟨.nil,λy g=>(nomatch g),Nat.zero_le _,by show i<=0+(f - 0);lia⟩
  .intro h
   cases x with
   | nil=>rfl
   | cons y r=>have:=h.lt y mem_cons_self;lia
 | k+1,hk,hf,x=>by
  have q:=λy=>tU (k:=k) (by lia) hf y
  rw[SL,mem_append,mem_map,mem_filter,decide_eq_true_eq,q]
  constructor
  .rintro(⟨y,g,rfl⟩ | ⟨h,A⟩)
   .rw[mem_filter,decide_eq_true_eq,q]at g
    obtain⟨⟨a,b,c,d⟩,e⟩:=g;refine⟨List.pairwise_append.mpr ⟨a,by simp,λu l v s=>?_⟩,λu l=>?_,?_,?_⟩
    .rw[mem_singleton.mp s];exact(b u l).2
    .rcases mem_append.mp l with h | h
     .have:=b u h;push_cast;lia
     .rw[mem_singleton.mp h];push_cast;lia
    .rw[length_append,length_singleton];lia
    .rw[length_append,length_singleton];lia
   .exact⟨h.up,λu l=>by have:=h.lt u l;push_cast;lia,h.le,by lia⟩
  .intro h
   by_cases c:(k:Int)∈x
   .left
    have p:x≠[]:=List.ne_nil_of_mem c;have e:=List.dropLast_concat_getLast p;have o:=h.up;rw[<- e,List.pairwise_append]at o
    have j:x.getLast p=(k:Int):=by
     have z:=(h.lt _ (List.getLast_mem p)).2;rw[<- e]at c
     rcases mem_append.mp c with w | w
     .have:=o.2.2 _ w _ mem_cons_self
      push_cast at z;lia
     .exact(mem_singleton.mp w).symm
    have B:x.length=x.dropLast.length+1:=by rw[List.length_dropLast];have:=length_pos_of_mem (List.getLast_mem p);lia
    refine⟨x.dropLast,?_,by rw[j]at e;exact e⟩;rw[mem_filter,decide_eq_true_eq,q];refine⟨⟨o.1,λy g=>?_,by have:=h.le;lia,by have:=h.en;lia⟩,by have:=h.le;lia⟩;have a:=o.2.2 y g _ mem_cons_self;rw[j]at a;exact⟨(h.lt y (List.dropLast_subset _ g)).1,a⟩
   .right
    refine⟨⟨h.up,λy g=>?_,h.le,by have:=h.en;lia⟩,by have:=h.en;lia⟩;have:=h.lt y g;have n:y≠(k:Int):=λw=>c (w ▸ g)
    push_cast at this
    lia
theorem mf{w:Way}:∀{ps:List (Int×Tr)}{a b S:Int},w∈wls ps a b S->∃ p∈ps,w∈wl p.2 (a*p.1) (b*S)
 | [],a,b,S,h=>by rw[wls]at h;cases h
 | (m,u)::r,a,b,S,h=>by
  rw[wls]at h
  rcases mem_append.mp h with h | h
  .obtain⟨p,d,c⟩:=mf h
   exact⟨p,mem_cons_of_mem _ d,c⟩
  .exact⟨_,mem_cons_self,h⟩
theorem o7{d:Nat}:∀{ps:List (Int×Tr)},(∀ p∈ps,1<=p.1/\p.1<=1000000000/\Dk d p.2)->Dks d ps
 | [],_=>by rw[Dks];trivial
 | (m,u)::r,h=>by
  have:=h _ mem_cons_self;rw[Dks];exact⟨this.1,this.2.1,this.2.2,o7 λp a=>h p (mem_cons_of_mem _ a)⟩
theorem lS{w:List Int×Rat}:∀{ps:List (Int×Tr)}{q:Rat}{S:Int},w∈wfs ps q S->∃ p∈ps,∃ q',w∈wf p.2 q'
 | [],q,S,h=>by rw[wfs]at h;cases h
 | (m,u)::r,q,S,h=>by
  rw[wfs]at h
  rcases mem_append.mp h with h | h
  .exact⟨_,mem_cons_self,_,h⟩
  .obtain⟨p,b,q',a⟩:=lS h
   exact⟨p,mem_cons_of_mem _ b,q',a⟩
theorem Ai{l:List Int}(d:l.Nodup)(c:l.Pairwise (·<=·)):l.Pairwise (· < ·):=(c.and d).imp λ{a b} ⟨x,y⟩=>by lia
def rng(m:Nat):List Int:=(List.range m).map λ(k:Nat)=>(k:Int)
theorem sR(m:Nat):Hd (rng m) m:=⟨pairwise_map.mpr (nodup_range.imp λ{a b} n e=>n (by lia)),λx hx=>by obtain⟨k,hk,rfl⟩:=mem_map.mp hx;have:=mem_range.mp hk;show 0<=(k:Int)/\(k:Int)<_;lia,by unfold rng;simp⟩
theorem rng_len(m:Nat):(rng m).length=m:=by unfold rng;simp
theorem mem_rng{m:Nat}{x:Int}:x∈rng m↔0<=x/\x<(m:Int):=by
 unfold rng;rw[mem_map]
 constructor
 .rintro⟨k,c,rfl⟩;have:=mem_range.mp c;lia
 .rintro⟨a,b⟩;exact⟨x.toNat,mem_range.mpr (by lia),by lia⟩
def cL(ps:List Int)(go:Int->Tr):Tr:=if ps.length=1 then go (ps.headD 0) else .die (ps.map λx=>(1,go x))
def wo(ps:List Int)(x:Int):List Int:=ps.filter λy=>!decide (y=x)
def pN:Nat->Nat->List Int->Nat->List Int->List Int->Tr
 | 0,_,_,_,_,tk=>.leaf tk
 | w+1,c1,P1,c2,P2,tk =>
  if c2=0 then cL P1 λx=>pN w (c1 - 1) (wo P1 x) c2 P2 (tk++[x])
  else if c1=0 then cL P2 λx=>pN w c1 P1 (c2 - 1) (wo P2 x) (tk++[x])
  else .die [((c1:Int),cL P1 λx=>pN w (c1 - 1) (wo P1 x) c2 P2 (tk++[x])),((c2:Int),cL P2 λx=>pN w c1 P1 (c2 - 1) (wo P2 x) (tk++[x]))]
def pF1(w c1:Nat)(P1:List Int)(c2:Nat)(P2 tk:List Int):Tr:=cL P1 λx=>pN w (c1 - 1) (wo P1 x) c2 P2 (tk++[x])
def pF2(w c1:Nat)(P1:List Int)(c2:Nat)(P2 tk:List Int):Tr:=cL P2 λx=>pN w c1 P1 (c2 - 1) (wo P2 x) (tk++[x])
theorem pN_zero(c1:Nat)(P1:List Int)(c2:Nat)(P2 tk:List Int):pN 0 c1 P1 c2 P2 tk=.leaf tk:=by rw[pN]
theorem pN_succ(w c1:Nat)(P1:List Int)(c2:Nat)(P2 tk:List Int):pN (w+1) c1 P1 c2 P2 tk=if c2=0 then pF1 w c1 P1 c2 P2 tk else if c1=0 then pF2 w c1 P1 c2 P2 tk else .die [((c1:Int),pF1 w c1 P1 c2 P2 tk),((c2:Int),pF2 w c1 P1 c2 P2 tk)]:=by rw[pN];rfl
theorem tZ(p:List Int->Bool)(ps:List (Int×Tr)):Ex p (.die ps)=qZ p (tot ps) ps:=by
 unfold Ex kt;rw[wf,sX]
theorem nR(p:List Int->Bool)(S:Int)(go:Int->Tr):∀ ps:List Int,qZ p S (ps.map λx=>((1:Int),go x))=(ps.map λx=>Ex p (go x)).sum/(S:Rat)
 | []=>by show(0:Rat)=0/_;grind
 | x::ps=>by
  have a:=nR p S go ps;unfold qZ at a ⊢;rw[map_cons,map_cons,sum_cons,a,map_cons,sum_cons];show((1:Int):Rat)/_*_+_=_
  grind
theorem pO(go:Int->Tr)(ps:List Int):tot (ps.map λx=>((1:Int),go x))=(ps.length:Int):=by
 unfold tot;rw[map_map,show((λx:Int×Tr=>x.1) ∘ λx=>((1:Int),go x))=λ_=>(1:Int) from rfl,List.map_const',List.sum_replicate_int];simp
theorem ud(p:List Int->Bool)(go:Int->Tr)(ps:List Int):Ex p (cL ps go)=(ps.map λx=>Ex p (go x)).sum/((ps.length:Nat):Rat):=by
 unfold cL
 split
 .rename_i h
  obtain⟨x,rfl⟩:=length_eq_one_iff.mp h;show Ex p (go x)=(Ex p (go x)+0)/((1:Nat):Rat);have:((1:Nat):Rat)=1:=rfl;rw[this]
  grind
 .rw[tZ,pO,nR]
  rfl
theorem Aa(p:List Int->Bool){w c1:Nat}{P1:List Int}{c2:Nat}{P2 tk:List Int}(h:0<c1+c2):Ex p (pN (w+1) c1 P1 c2 P2 tk)=(((c1:Nat):Rat)*Ex p (pF1 w c1 P1 c2 P2 tk)+((c2:Nat):Rat)*Ex p (pF2 w c1 P1 c2 P2 tk))/((c1+c2:Nat):Rat):=by
 have n:((c1+c2:Nat):Rat)≠0:=by have:c1+c2≠0:=(by lia);exact_mod_cast this
 rw[pN_succ]
 split
 .rename_i e
  subst e;have z:((0:Nat):Rat)=0:=rfl;rw[Nat.add_zero]at n ⊢;rw[z]
  grind
 .split
  .rename_i e
   subst e;have z:((0:Nat):Rat)=0:=rfl;rw[Nat.zero_add]at n ⊢;rw[z]
   grind
  .rw[tZ]
   unfold qZ
   have t:tot [((c1:Int),pF1 w c1 P1 c2 P2 tk),((c2:Int),pF2 w c1 P1 c2 P2 tk)]=((c1+c2:Nat):Int):=by
    unfold tot;simp
   rw[t,map_cons,map_cons,map_nil,sum_cons,sum_cons,sum_nil];show((c1:Nat):Rat)/((c1+c2:Nat):Rat)*_+(((c2:Nat):Rat)/((c1+c2:Nat):Rat)*_+0)=_
   grind
def ff:Nat->Nat->Rat
 | _,0=>1
 | n,k+1=>((n:Nat):Rat)*ff (n - 1) k
def gS(c1 s1 c2 s2 a b:Nat):Rat:=ff c1 a*ff c2 b*ff (a+b) (a+b)/(ff s1 a*ff s2 b*ff (c1+c2) (a+b))
theorem jK:∀(k n:Nat),k<=n->ff n k≠0
 | 0,n,_=>by rw[ff];decide
 | k+1,n,h=>by
  rw[ff];have:=jK k (n - 1) (by lia);have z:((n:Nat):Rat)≠0:=by have:n≠0:=(by lia);exact_mod_cast this
  intro e
  rcases Rat.mul_eq_zero.mp e with e | e
  .exact z e
  .exact this e
theorem yd{c1 d c2 s2 a b:Nat}(l:a<=d)(i:b<=s2)(v:a+b<=c1+c2)(q:1<=a)(r:1<=c1) :
  ((c1:Nat):Rat)*(((a:Nat):Rat)*gS (c1 - 1) (d - 1) c2 s2 (a - 1) b/((d:Nat):Rat))/((c1+c2:Nat):Rat)*((a+b:Nat):Rat)=((a:Nat):Rat)*gS c1 d c2 s2 a b:=by
 obtain⟨k,rfl⟩:∃ k,a=k+1:=⟨a - 1,by lia⟩
 obtain⟨c,rfl⟩:∃ c,c1=c+1:=⟨c1 - 1,by lia⟩
 obtain⟨s,rfl⟩:∃ s,d=s+1:=⟨d - 1,by lia⟩
 unfold gS;rw[Nat.add_sub_cancel,Nat.add_sub_cancel,Nat.add_sub_cancel];have h:ff (c+1) (k+1)=((c+1:Nat):Rat)*ff c k:=by rw[ff,Nat.add_sub_cancel]
 have f:ff (s+1) (k+1)=((s+1:Nat):Rat)*ff s k:=by rw[ff,Nat.add_sub_cancel]
 have g:ff (c+1+c2) (k+1+b)=((c+1+c2:Nat):Rat)*ff (c+c2) (k+b):=by rw[show k+1+b=(k+b)+1 by lia,ff,show c+1+c2 - 1=c+c2 by lia]
 have j:ff (k+1+b) (k+1+b)=((k+1+b:Nat):Rat)*ff (k+b) (k+b):=by rw[show k+1+b=(k+b)+1 by lia,ff,Nat.add_sub_cancel]
 rw[h,f,g,j];have n:=jK k s (by lia);have o:=jK b s2 i;have p:=jK (k+b) (c+c2) (by lia);have u:((s+1:Nat):Rat)≠0:=by have:s+1≠0:=(by lia);exact_mod_cast this
 have w:((c+1+c2:Nat):Rat)≠0:=by have:c+1+c2≠0:=(by lia);exact_mod_cast this
 generalize ((s+1:Nat):Rat)=x1 at *;generalize ((c+1+c2:Nat):Rat)=x2 at *;generalize ((k+1+b:Nat):Rat)=x3 at *;generalize ((c+1:Nat):Rat)=x4 at *;generalize ((k+1:Nat):Rat)=x5 at *;generalize ff s k=y1 at *;generalize ff s2 b=y2 at *;generalize ff (c+c2) (k+b)=y3 at *;generalize ff c k=y4 at *;generalize ff c2 b=y5 at *;generalize ff (k+b) (k+b)=y6 at *
 grind
theorem pQ(c1 c c2 s2 a b:Nat):gS c1 c c2 s2 a b=gS c2 s2 c1 c b a:=by
 unfold gS;rw[Nat.add_comm b a,Nat.add_comm c2 c1,Rat.mul_comm (ff c2 b) (ff c1 a),Rat.mul_comm (ff s2 b) (ff c a)]
theorem xF{c1 c c2 s2 a b:Nat}(g:a<=c)(f:b<=s2)(d:a+b<=c1+c2) :
  ((c1:Nat):Rat)*(((a:Nat):Rat)*gS (c1 - 1) (c - 1) c2 s2 (a - 1) b/((c:Nat):Rat))/((c1+c2:Nat):Rat)*((a+b:Nat):Rat)=((a:Nat):Rat)*gS c1 c c2 s2 a b:=by
 by_cases ha:a=0
 .subst ha
  have z:((0:Nat):Rat)=0:=rfl;rw[z]
  grind
 .by_cases hc:c1=0
  .subst hc
   obtain⟨k,rfl⟩:∃ k,a=k+1:=⟨a - 1,by lia⟩
   have z:((0:Nat):Rat)=0:=rfl
   have e:gS 0 c c2 s2 (k+1) b=0:=by
    unfold gS;rw[show ff 0 (k+1)=0 by rw[ff,z,Rat.zero_mul]]
    grind
   rw[e,z]
   grind
  .exact yd g f d (by lia) (by lia)
def cn(S P:List Int):Nat:=(P.filter λx=>decide (x∈S)).length
theorem iG(S P:List Int):cn S P<=P.length:=length_filter_le _ _
theorem lR{P:List Int}{x:Int}(a:P.Nodup)(h:x∈P):P.Perm (x::wo P x):=by
 have e:wo P x=P.erase x:=by
  unfold wo;rw[a.erase_eq_filter];refine List.filter_congr λy _=>?_
  by_cases c:y=x <;> simp[c]
 rw[e];exact List.perm_cons_erase h
theorem vy{S P Q:List Int}(h:P.Perm Q):cn S P=cn S Q:=(h.filter _).length_eq
theorem wb{S P:List Int}{x:Int}(h:x∈S):cn S (x::P)=cn S P+1:=by
 unfold cn;rw[filter_cons,if_pos (decide_eq_true h),length_cons]
theorem xq{S P:List Int}{x:Int}(b:P.Nodup)(h:x∈P)(a:x∈S):cn S (wo P x)=cn S P - 1:=by
 have:=vy (S:=S) (lR b h);rw[wb a]at this;lia
theorem d7{P:List Int}{x:Int}(a:P.Nodup)(h:x∈P):(wo P x).length=P.length - 1:=by
 have:=(lR a h).length_eq;rw[length_cons]at this;lia
theorem oB(S:List Int)(v:Rat):∀ P:List Int,(P.map λx=>if x∈S then v else 0).sum=((cn S P:Nat):Rat)*v
 | []=>by show(0:Rat)=((0:Nat):Rat)*v;have z:((0:Nat):Rat)=0:=rfl;rw[z];grind
 | x::P=>by
  rw[map_cons,sum_cons,oB S v P];unfold cn;rw[filter_cons]
  by_cases c:x∈S
  .rw[if_pos c,if_pos (decide_eq_true c),length_cons]
   push_cast
   grind
  .rw[if_neg c,if_neg (by simpa using c)]
   grind
def Cnd(S tk P1 P2:List Int):Prop:=(∀ x∈tk,x∈S)/\∀ x∈S,x∈tk\/x∈P1\/x∈P2
theorem gW{S tk P1 P2:List Int}(c:S.Nodup)(d:(tk++(P1++P2)).Nodup)(h:Cnd S tk P1 P2):S.length=tk.length+(cn S P1+cn S P2):=by
 have p:S.Perm ((tk++(P1++P2)).filter λx=>decide (x∈S)):=by
  refine mh c (d.filter _) λx=>?_
  rw[mem_filter,mem_append,mem_append,decide_eq_true_eq];exact⟨λa=>⟨h.2 x a,a⟩,λa=>a.2⟩
 have e:=p.length_eq;rw[filter_append,filter_append,length_append,length_append]at e;have b:(tk.filter λx=>decide (x∈S))=tk:=List.filter_eq_self.mpr λx a=>decide_eq_true (h.1 x a)
 rw[b]at e;exact e
theorem iS{S tk P1 P2:List Int}{x:Int}(g:x∈P1):Cnd S (tk++[x]) (wo P1 x) P2↔x∈S/\Cnd S tk P1 P2:=by
 unfold Cnd wo
 constructor
 .rintro⟨b,d⟩
  have f:=b x (mem_append_right _ (mem_singleton.mpr rfl));refine⟨f,λy a=>b y (mem_append_left _ a),λy a=>?_⟩
  rcases d y a with h | h | h
  .rcases mem_append.mp h with h | h
   .exact .inl h
   .rw[mem_singleton.mp h];exact .inr (.inl g)
  .exact .inr (.inl (mem_filter.mp h).1)
  .exact .inr (.inr h)
 .rintro⟨f,b,d⟩
  refine⟨λy a=>?_,λy a=>?_⟩
  .rcases mem_append.mp a with h | h
   .exact b y h
   .rw[mem_singleton.mp h];exact f
  .by_cases c:y=x
   .rw[c];exact .inl (mem_append_right _ (mem_singleton.mpr rfl))
   .rcases d y a with h | h | h
    .exact .inl (mem_append_left _ h)
    .exact .inr (.inl (mem_filter.mpr ⟨h,by simp[c]⟩))
    .exact .inr (.inr h)
theorem nP{S tk P1 P2:List Int}:Cnd S tk P1 P2↔Cnd S tk P2 P1:=⟨λh=>⟨h.1,λx hx=>(h.2 x hx).imp id Or.symm⟩,λh=>⟨h.1,λx hx=>(h.2 x hx).imp id Or.symm⟩⟩
theorem mj{S tk P1 P2:List Int}{x:Int}(a:x∈P2):Cnd S (tk++[x]) P1 (wo P2 x)↔x∈S/\Cnd S tk P1 P2:=by
 rw[nP,iS a,nP]
theorem kZ{tk P1 P2:List Int}{x:Int}(a:(tk++(P1++P2)).Nodup)(c:x∈P1):(tk++[x]++(wo P1 x++P2)).Nodup:=by
 have b:P1.Nodup:=(nodup_append.mp (nodup_append.mp a).2.1).1;refine(List.Perm.nodup_iff ?_).mp a;rw[append_assoc];exact(((lR b c).append_right P2).append_left tk)
theorem iT{tk P1 P2:List Int}(a:(tk++(P1++P2)).Nodup):(tk++(P2++P1)).Nodup:=(List.Perm.nodup_iff (List.perm_append_comm.append_left tk)).mp a
open Classical in
theorem lK{S:List Int}(f:S.Pairwise (· < ·)):∀(w:Nat){c1 c2:Nat}{P1 P2 tk:List Int},(tk++(P1++P2)).Nodup->S.length=tk.length+w->w<=c1+c2 ->
  Ex (λk=>decide (k=S)) (pN w c1 P1 c2 P2 tk)=if Cnd S tk P1 P2 then gS c1 P1.length c2 P2.length (cn S P1) (cn S P2) else 0
 | 0,c1,c2,P1,P2,tk,nd,hl,hw=>by
  have i:S.Nodup:=f.imp λ{a b} h e=>by rw[e]at h;lia
  rw[pN_zero,wm];have s:tk.Nodup:=(nodup_append.mp nd).1
  have e:so tk=S↔Cnd S tk P1 P2:=by
   constructor
   .intro e
    rw[<- e];exact⟨λx d=>(so_perm tk).mem_iff.mpr d,λx d=>.inl ((so_perm tk).mem_iff.mp d)⟩
   .intro h
    have q:=gW i nd h
    have p:tk.Perm S:=by
     refine mh s i λx=>⟨h.1 x,λd=>?_⟩
     rcases h.2 x d with w | w | w
     .exact w
     .have:0<cn S P1:=length_pos_of_mem (mem_filter.mpr ⟨w,decide_eq_true d⟩)
      lia
     .have:0<cn S P2:=length_pos_of_mem (mem_filter.mpr ⟨w,decide_eq_true d⟩)
      lia
    exact(so_uniq p.symm (f.imp λ{a b} w=>by lia)).symm
  by_cases c:Cnd S tk P1 P2
  .have q:=gW i nd c
   rw[if_pos (decide_eq_true (e.mpr c)),if_pos c,show cn S P1=0 by lia,show cn S P2=0 by lia];unfold gS;rw[ff,ff,ff,ff,ff,ff]
   grind
  .rw[if_neg (λz=>c (e.mp (of_decide_eq_true z))),if_neg c]
 | w+1,c1,c2,P1,P2,tk,nd,hl,hw=>by
  have i:S.Nodup:=f.imp λ{a b} h e=>by rw[e]at h;lia
  have j:P1.Nodup:=(nodup_append.mp (nodup_append.mp nd).2.1).1;have o:P2.Nodup:=(nodup_append.mp (nodup_append.mp nd).2.1).2.1;rw[Aa _ (by lia)]
  have l:((c1:Nat):Rat)*Ex (λk=>decide (k=S)) (pF1 w c1 P1 c2 P2 tk)=((c1:Nat):Rat)*(((cn S P1:Nat):Rat)*(if Cnd S tk P1 P2 then gS (c1 - 1) (P1.length - 1) c2 P2.length (cn S P1 - 1) (cn S P2) else 0)/((P1.length:Nat):Rat)):=by
   by_cases z:c1=0
   .subst z
    have z:((0:Nat):Rat)=0:=rfl;rw[z,Rat.zero_mul,Rat.zero_mul]
   .unfold pF1
    rw[ud]
    have:(P1.map λx=>Ex (λk=>decide (k=S)) (pN w (c1 - 1) (wo P1 x) c2 P2 (tk++[x])))=P1.map λx=>if x∈S then (if Cnd S tk P1 P2 then gS (c1 - 1) (P1.length - 1) c2 P2.length (cn S P1 - 1) (cn S P2) else 0) else 0:=by
     refine map_congr_left λx d=>?_
     rw[lK f w (kZ nd d) (by rw[length_append];show _=tk.length+1+w;lia) (by lia)]
     by_cases xs:x∈S
     .rw[if_pos xs,d7 j d,xq j d xs]
      by_cases c:Cnd S tk P1 P2
      .rw[if_pos c,if_pos ((iS d).mpr ⟨xs,c⟩)]
      .rw[if_neg c,if_neg (λz=>c ((iS d).mp z).2)]
     .rw[if_neg xs,if_neg (λz=>xs ((iS d).mp z).1)]
    rw[this,oB]
  have r:((c2:Nat):Rat)*Ex (λk=>decide (k=S)) (pF2 w c1 P1 c2 P2 tk)=((c2:Nat):Rat)*(((cn S P2:Nat):Rat)*(if Cnd S tk P1 P2 then gS (c2 - 1) (P2.length - 1) c1 P1.length (cn S P2 - 1) (cn S P1) else 0)/((P2.length:Nat):Rat)):=by
   by_cases z:c2=0
   .subst z
    have z:((0:Nat):Rat)=0:=rfl;rw[z,Rat.zero_mul,Rat.zero_mul]
   .unfold pF2
    rw[ud]
    have:(P2.map λx=>Ex (λk=>decide (k=S)) (pN w c1 P1 (c2 - 1) (wo P2 x) (tk++[x])))=P2.map λx=>if x∈S then (if Cnd S tk P1 P2 then gS (c2 - 1) (P2.length - 1) c1 P1.length (cn S P2 - 1) (cn S P1) else 0) else 0:=by
     refine map_congr_left λx d=>?_
     rw[lK f w (iT (kZ (iT nd) d)) (by rw[length_append];show _=tk.length+1+w;lia) (by lia)]
     by_cases xs:x∈S
     .rw[if_pos xs,d7 o d,xq o d xs,pQ]
      by_cases c:Cnd S tk P1 P2
      .rw[if_pos c,if_pos ((mj d).mpr ⟨xs,c⟩)]
      .rw[if_neg c,if_neg (λz=>c ((mj d).mp z).2)]
     .rw[if_neg xs,if_neg (λz=>xs ((mj d).mp z).1)]
    rw[this,oB]
  rw[l,r]
  by_cases c:Cnd S tk P1 P2
  .have q:=gW i nd c
   rw[if_pos c,if_pos c,if_pos c];have B:=xF (c1:=c1) (c2:=c2) (iG S P1) (iG S P2) (by lia);have u:=xF (c1:=c2) (c2:=c1) (iG S P2) (iG S P1) (by lia);rw[<- pQ c1 P1.length c2 P2.length,Nat.add_comm (cn S P2) (cn S P1),Nat.add_comm c2 c1]at u;have v:cn S P1+cn S P2=w+1:=by lia
   have C:((cn S P1+cn S P2:Nat):Rat)≠0:=by have:cn S P1+cn S P2≠0:=(by lia);exact_mod_cast this
   have A:((cn S P1+cn S P2:Nat):Rat)=((cn S P1:Nat):Rat)+((cn S P2:Nat):Rat):=by push_cast;rfl
   generalize gS (c1 - 1) (P1.length - 1) c2 P2.length (cn S P1 - 1) (cn S P2)=u1 at *;generalize gS (c2 - 1) (P2.length - 1) c1 P1.length (cn S P2 - 1) (cn S P1)=u2 at *;generalize gS c1 P1.length c2 P2.length (cn S P1) (cn S P2)=g at *;generalize ((c1:Nat):Rat)*(((cn S P1:Nat):Rat)*u1/((P1.length:Nat):Rat))=X1 at *;generalize ((c2:Nat):Rat)*(((cn S P2:Nat):Rat)*u2/((P2.length:Nat):Rat))=X2 at *;generalize ((cn S P1+cn S P2:Nat):Rat)=n at *;generalize ((cn S P1:Nat):Rat)=n1' at *;generalize ((cn S P2:Nat):Rat)=n2' at *;have y:((c1+c2:Nat):Rat)≠0:=by have:c1+c2≠0:=(by lia);exact_mod_cast this
   generalize ((c1+c2:Nat):Rat)=N at *;clear l r
   grind
  .rw[if_neg c,if_neg c,if_neg c]
   grind
theorem xj:∀ k s:Nat,ff (k+s) k*fq s=fq (k+s)
 | 0,s=>by rw[ff,Nat.zero_add,Rat.one_mul]
 | k+1,s=>by
  have a:=xj k s;rw[ff,show k+1+s - 1=k+s by lia,Rat.mul_assoc,a,show k+1+s=(k+s)+1 by lia];unfold fq;rw[fac]
  push_cast
  rfl
theorem uq:∀ n k:Nat,ff n (n+k+1)=0
 | 0,k=>by rw[ff];have z:((0:Nat):Rat)=0:=rfl;rw[z,Rat.zero_mul]
 | n+1,k=>by rw[show n+1+k+1=(n+k+1)+1 by lia,ff,Nat.add_sub_cancel,uq n k,Rat.mul_zero]
theorem jF(n k:Nat):ff n k=((ch n k:Nat):Rat)*fq k:=by
 by_cases h:k<=n
 .obtain⟨s,rfl⟩:∃ s,n=k+s:=⟨n - k,by lia⟩
  have b:=xj k s
  have a:((ch (k+s) k:Nat):Rat)*(fq k*fq s)=fq (k+s):=by
   unfold fq;rw[<- fH k s]
   push_cast
   rfl
  have c:=qV s
  grind
 .obtain⟨j,rfl⟩:∃ j,k=n+j+1:=⟨k - n - 1,by lia⟩
  rw[uq,lY];have z:((0:Nat):Rat)=0:=rfl;rw[z,Rat.zero_mul]
theorem v9(n:Nat):ch n n=1:=by
 have h:=fH n 0;rw[Nat.add_zero]at h;have e:fac 0=1:=rfl;rw[e,Nat.mul_one]at h;have p:=fT n;exact Nat.eq_of_mul_eq_mul_right p (by rw[h,Nat.one_mul])
theorem zp{c1 c c2 s2 a b:Nat}(h:a<=c)(i:b<=s2)(j:a+b<=c1+c2):gS c1 c c2 s2 a b=((ch c1 a*ch c2 b:Nat):Rat)/((ch c a*ch s2 b*ch (c1+c2) (a+b):Nat):Rat):=by
 unfold gS;have d:=jK a c h;have f:=jK b s2 i;have g:=jK (a+b) (c1+c2) j;rw[jF c1,jF c2,jF (a+b),v9,jF c a,jF s2 b,jF (c1+c2)];rw[jF]at d f g;have k:=qV a;have p:=qV b;have r:=qV (a+b);have o:((1:Nat):Rat)=1:=rfl;rw[o]
 push_cast
 generalize ((ch c1 a:Nat):Rat)=x1 at *;generalize ((ch c2 b:Nat):Rat)=x2 at *;generalize ((ch c a:Nat):Rat)=x3 at *;generalize ((ch s2 b:Nat):Rat)=x4 at *;generalize ((ch (c1+c2) (a+b):Nat):Rat)=x5 at *;generalize fq a=y1 at *;generalize fq b=y2 at *;generalize fq (a+b)=y3 at *;have l:x3≠0:=λe=>d (by rw[e,Rat.zero_mul])
 have q:x4≠0:=λe=>f (by rw[e,Rat.zero_mul])
 have n:x5≠0:=λe=>g (by rw[e,Rat.zero_mul])
 clear d f g
 grind
def Iv(w c s:Nat):Prop:=s=c\/w<=s
structure Pv(w c1:Nat)(P1:List Int)(c2:Nat)(P2 tk:List Int):Prop where
 nd:(tk++(P1++P2)).Nodup
 i1:Iv w c1 P1.length
 i2:Iv w c2 P2.length
 all:w<=c1+c2
 few:tk.length+w<=24
theorem Pv.n1{w c1:Nat}{P1:List Int}{c2:Nat}{P2 tk:List Int}(h:Pv w c1 P1 c2 P2 tk):P1.Nodup:=(nodup_append.mp (nodup_append.mp h.nd).2.1).1
theorem Pv.n2{w c1:Nat}{P1:List Int}{c2:Nat}{P2 tk:List Int}(h:Pv w c1 P1 c2 P2 tk):P2.Nodup:=(nodup_append.mp (nodup_append.mp h.nd).2.1).2.1
theorem Pv.one{w c1:Nat}{P1:List Int}{c2:Nat}{P2 tk:List Int}(h:Pv (w+1) c1 P1 c2 P2 tk)(c:0<c1){x:Int}(a:x∈P1):Pv w (c1 - 1) (wo P1 x) c2 P2 (tk++[x]):=by
 have b:=d7 h.n1 a;have d:=length_pos_of_mem a;have:=h.all;have:=h.few;refine⟨kZ h.nd a,?_,?_,by lia,by rw[length_append];show tk.length+1+w<=24;lia⟩
 .rcases h.i1 with e | e
  .exact .inl (by lia)
  .exact .inr (by lia)
 .rcases h.i2 with e | e
  .exact .inl e
  .exact .inr (by lia)
theorem Pv.two{w c1:Nat}{P1:List Int}{c2:Nat}{P2 tk:List Int}(h:Pv (w+1) c1 P1 c2 P2 tk)(c:0<c2){x:Int}(a:x∈P2):Pv w c1 P1 (c2 - 1) (wo P2 x) (tk++[x]):=by
 have b:=d7 h.n2 a;have d:=length_pos_of_mem a;have:=h.all;have:=h.few;refine⟨iT (kZ (iT h.nd) a),?_,?_,by lia,by rw[length_append];show tk.length+1+w<=24;lia⟩
 .rcases h.i1 with e | e
  .exact .inl e
  .exact .inr (by lia)
 .rcases h.i2 with e | e
  .exact .inl (by lia)
  .exact .inr (by lia)
theorem Pv.ne1{w c1:Nat}{P1:List Int}{c2:Nat}{P2 tk:List Int}(h:Pv (w+1) c1 P1 c2 P2 tk)(a:0<c1):0<P1.length:=by
 rcases h.i1 with e | e <;> lia
theorem Pv.ne2{w c1:Nat}{P1:List Int}{c2:Nat}{P2 tk:List Int}(h:Pv (w+1) c1 P1 c2 P2 tk)(a:0<c2):0<P2.length:=by
 rcases h.i2 with e | e <;> lia
theorem fB{w c1:Nat}{P1:List Int}{c2:Nat}{P2 tk:List Int}(h:Pv (w+1) c1 P1 c2 P2 tk){M:Tr->Prop}(a:0<c1->c2=0->M (pF1 w c1 P1 c2 P2 tk))(b:c1=0->0<c2->M (pF2 w c1 P1 c2 P2 tk))(c:0<c1->0<c2->M (.die [((c1:Int),pF1 w c1 P1 c2 P2 tk),((c2:Int),pF2 w c1 P1 c2 P2 tk)])):M (pN (w+1) c1 P1 c2 P2 tk):=by
 have:=h.all;rw[pN_succ]
 split
 .exact a (by lia) (by assumption)
 .split
  .exact b (by assumption) (by lia)
  .exact c (by lia) (by lia)
theorem eh{P:List Int}{go:Int->Tr}{M:Tr->Prop}(a:∀ x∈P,P.length=1->M (go x))(b:P.length≠1->M (.die (P.map λx=>((1:Int),go x)))):M (cL P go):=by
 unfold cL
 split
 .rename_i h
  obtain⟨x,rfl⟩:=length_eq_one_iff.mp h;exact a x (mem_singleton.mpr rfl) h
 .exact b (by assumption)
theorem sO{P:List Int}{go:Int->Tr}(b:0<P.length)(h:∀ x∈P,Ok (go x)):Ok (cL P go):=by
 refine eh (M:=Ok) (λx a _=>h x a) λ_=>?_
 rw[Ok];refine⟨λe=>by have:=congrArg List.length e;rw[length_map]at this;rw[this]at b;exact absurd b (by decide),oM λp hp=>?_⟩;obtain⟨x,a,rfl⟩:=mem_map.mp hp;exact⟨Int.le_refl 1,h x a⟩
theorem p8:∀(w:Nat){c1 c2:Nat}{P1 P2 tk:List Int},Pv w c1 P1 c2 P2 tk->Ok (pN w c1 P1 c2 P2 tk)
 | 0,c1,c2,P1,P2,tk,h=>by rw[pN_zero,Ok];exact⟨(nodup_append.mp h.nd).1,by have:=h.few;lia⟩
 | w+1,c1,c2,P1,P2,tk,h=>by
  have d:0<c1->Ok (pF1 w c1 P1 c2 P2 tk):=λc=>sO (h.ne1 c) λx hx=>p8 w (h.one c hx)
  have f:0<c2->Ok (pF2 w c1 P1 c2 P2 tk):=λc=>sO (h.ne2 c) λx hx=>p8 w (h.two c hx)
  refine fB h (M:=Ok) (λa _=>d a) (λ_ b=>f b) λa b=>?_
  rw[Ok];refine⟨by simp,oM λp hp=>?_⟩
  rcases mem_cons.mp hp with rfl | hp
  .exact⟨by show(1:Int)<=(c1:Int);lia,d a⟩
  .rw[mem_singleton.mp hp]
   exact⟨by show(1:Int)<=(c2:Int);lia,f b⟩
mutual
theorem qG:∀(d:Nat) (t:Tr),Dk d t->Dk (d+1) t
 | _,.leaf _,h=>by rw[Dk]at h ⊢;exact h
 | 0,.die _,h=>by rw[Dk]at h;exact h.elim
 | d+1,.die ps,h=>by rw[Dk]at h ⊢;exact⟨h.1,h.2.1,uF d ps h.2.2⟩
theorem uF:∀(d:Nat) (ps:List (Int×Tr)),Dks d ps->Dks (d+1) ps
 | _,[],_=>by rw[Dks];trivial
 | d,(m,u)::r,h=>by rw[Dks]at h ⊢;exact⟨h.1,h.2.1,qG d u h.2.2.1,uF d r h.2.2.2⟩
end
theorem tO{P:List Int}{go:Int->Tr}{d:Nat}(b:0<P.length)(c:P.length<=1000)(h:∀ x∈P,Dk d (go x)):Dk (d+1) (cL P go):=by
 refine eh (M:=Dk (d+1)) (λx a _=>qG d _ (h x a)) λ_=>?_
 rw[Dk,length_map];refine⟨b,c,o7 λp f=>?_⟩;obtain⟨x,a,rfl⟩:=mem_map.mp f;exact⟨Int.le_refl 1,by show(1:Int)<=_;decide,h x a⟩
theorem sE:∀(w:Nat){c1 c2:Nat}{P1 P2 tk:List Int},Pv w c1 P1 c2 P2 tk->P1.length<=24->P2.length<=24->c1<=300->c2<=300->Dk (2*w) (pN w c1 P1 c2 P2 tk)
 | 0,c1,c2,P1,P2,tk,h,_,_,_,_=>by rw[pN_zero,Dk];exact⟨(nodup_append.mp h.nd).1,by have:=h.few;lia⟩
 | w+1,c1,c2,P1,P2,tk,h,l1,l2,b1,b2=>by
  have d:0<c1->Dk (2*w+1) (pF1 w c1 P1 c2 P2 tk):=λc=>tO (h.ne1 c) (by lia) λx hx=>sE w (h.one c hx) (by rw[d7 h.n1 hx];lia) l2 (by lia) b2
  have f:0<c2->Dk (2*w+1) (pF2 w c1 P1 c2 P2 tk):=λc=>tO (h.ne2 c) (by lia) λx hx=>sE w (h.two c hx) l1 (by rw[d7 h.n2 hx];lia) b1 (by lia)
  rw[show 2*(w+1)=2*w+1+1 by lia];refine fB h (M:=Dk (2*w+1+1)) (λa _=>qG _ _ (d a)) (λ_ b=>qG _ _ (f b)) λa b=>?_
  rw[Dk];refine⟨by simp,by simp,o7 λp hp=>?_⟩
  rcases mem_cons.mp hp with rfl | hp
  .exact⟨by show(1:Int)<=(c1:Int);lia,by show(c1:Int)<=1000000000;lia,d a⟩
  .rw[mem_singleton.mp hp]
   exact⟨by show(1:Int)<=(c2:Int);lia,by show(c2:Int)<=1000000000;lia,f b⟩
theorem p9{k:Nat}:∀{ps:List (Int×Tr)},(∀ p∈ps,lv p.2<=k)->lvs ps<=ps.length*k
 | [],_=>by rw[lvs];exact Nat.zero_le _
 | (m,u)::r,h=>by
  have a:=h _ mem_cons_self;have c:=p9 (ps:=r) λp b=>h p (mem_cons_of_mem _ b)
  have a:lv u<=k:=a;rw[lvs,length_cons,Nat.add_mul,Nat.one_mul];lia
theorem ur{P:List Int}{go:Int->Tr}{k:Nat}(h:∀ x∈P,lv (go x)<=k):lv (cL P go)<=P.length*k:=by
 refine eh (M:=λt=>lv t<=P.length*k) (λx hx e=>by rw[e,Nat.one_mul];exact h x hx) λ_=>?_
 rw[lv];have:=p9 (k:=k) (ps:=P.map λx=>((1:Int),go x)) λp hp=>by obtain⟨x,hx,rfl⟩:=mem_map.mp hp;exact h x hx
 rw[length_map]at this;exact this
theorem vd{K:Nat}:∀(w:Nat){c1 c2:Nat}{P1 P2 tk:List Int},Pv w c1 P1 c2 P2 tk->P1.length+P2.length<=K->lv (pN w c1 P1 c2 P2 tk)<=K ^ w
 | 0,c1,c2,P1,P2,tk,h,_=>by rw[pN_zero,lv];exact Nat.le_refl 1
 | w+1,c1,c2,P1,P2,tk,h,hk=>by
  have d:0<c1->lv (pF1 w c1 P1 c2 P2 tk)<=P1.length*K ^ w:=λc=>ur λx hx=>vd w (h.one c hx) (by rw[d7 h.n1 hx];lia)
  have f:0<c2->lv (pF2 w c1 P1 c2 P2 tk)<=P2.length*K ^ w:=λc=>ur λx hx=>vd w (h.two c hx) (by rw[d7 h.n2 hx];lia)
  have e:(P1.length+P2.length)*K ^ w<=K ^ (w+1):=by
   rw[Nat.pow_succ,Nat.mul_comm (K ^ w) K];exact Nat.mul_le_mul_right _ hk
  rw[Nat.add_mul]at e;refine fB h (M:=λt=>lv t<=K ^ (w+1)) (λa _=>by have:=d a;lia) (λ_ b=>by have:=f b;lia) λa b=>?_
  have:=d a;have:=f b;rw[lv,lvs,lvs,lvs];lia
def Dpo:Nat->Nat->Nat
 | 0,_=>1
 | w+1,N=>N*(6*Dpo w (N - 1))
theorem qW:∀(w N:Nat),w<=N->0<Dpo w N
 | 0,N,_=>Nat.one_pos
 | w+1,N,h=>by
  rw[Dpo];exact Nat.mul_pos (by lia) (Nat.mul_pos (by decide) (qW w (N - 1) (by lia)))
structure Cb(E:Int)(c:Int×Int):Prop where
 t0:0<=c.1
 le:c.1<=c.2
 b0:0<c.2
 dv:c.2 ∣ E
theorem nZ{P:List Int}{go:Int->Tr}{a b E:Int}(j:P.length<=3)(i:0<=a)(g:a<=b)(h2:0<b)(h:∀ x∈P,∀ b':Int,0<b'->a<=b'->b' ∣ b*6->∀ w∈wl (go x) a b',Cb E w.2):∀ w∈wl (cL P go) a b,Cb E w.2:=by
 refine eh (M:=λt=>∀ w∈wl t a b,Cb E w.2) (λx d _=>h x d b h2 g ⟨6,rfl⟩) λ_=>?_
 intro w c;rw[wl,pO]at c;obtain⟨p,f,c⟩:=mf c;obtain⟨x,d,rfl⟩:=mem_map.mp f;have f:=length_pos_of_mem d;rw[show a*(1:Int)=a by lia]at c;refine h x d _ (Int.mul_pos h2 (by lia)) ?_ ?_ w c
 .have:b*1<=b*(P.length:Int):=Int.mul_le_mul_of_nonneg_left (by lia) (by lia)
  lia
 .refine Int.mul_dvd_mul (Int.dvd_refl b) ?_
  have:P.length=1\/P.length=2\/P.length=3:=by lia
  rcases this with e | e | e <;> rw[e] <;> decide
theorem lZ:∀(w:Nat){c1 c2:Nat}{P1 P2 tk:List Int},Pv w c1 P1 c2 P2 tk->P1.length<=3->P2.length<=3->∀{a b E:Int},0<=a->a<=b->0<b->b*(Dpo w (c1+c2):Nat) ∣ E->∀ v∈wl (pN w c1 P1 c2 P2 tk) a b,Cb E v.2
 | 0,c1,c2,P1,P2,tk,h,_,_,a,b,E,h0,h1,h2,hE=>by
  intro v f;rw[pN_zero,wl]at f;rw[mem_singleton.mp f];have e:b*((Dpo 0 (c1+c2):Nat):Int)=b:=by rw[Dpo];show b*1=b;lia
  rw[e]at hE;exact⟨h0,h1,h2,hE⟩
 | w+1,c1,c2,P1,P2,tk,h,l1,l2,a,b,E,h0,h1,h2,hE=>by
  have u:=h.all;have C:((Dpo (w+1) (c1+c2):Nat):Int)=((c1+c2:Nat):Int)*(6*((Dpo w (c1+c2 - 1):Nat):Int)):=by rw[Dpo];push_cast;rfl
  rw[C]at hE
  have z:∀{g d:Int},0<c1->0<=g->g<=d->0<d->d ∣ b*((c1+c2:Nat):Int)->∀ v∈wl (pF1 w c1 P1 c2 P2 tk) g d,Cb E v.2:=λ{g d} q k o r l=>nZ l1 k o r λx hx b2 r0 r1 r2=>lZ w (h.one q hx) (by rw[d7 h.n1 hx];lia) l2 k r1 r0 (by
   rw[show c1 - 1+c2=c1+c2 - 1 by lia];refine Int.dvd_trans ?_ hE;have:b2*((Dpo w (c1+c2 - 1):Nat):Int) ∣ (b*((c1+c2:Nat):Int))*6*((Dpo w (c1+c2 - 1):Nat):Int):=Int.mul_dvd_mul (Int.dvd_trans r2 (Int.mul_dvd_mul l (Int.dvd_refl 6))) (Int.dvd_refl _);rw[show b*(((c1+c2:Nat):Int)*(6*((Dpo w (c1+c2 - 1):Nat):Int)))=(b*((c1+c2:Nat):Int))*6*((Dpo w (c1+c2 - 1):Nat):Int) by rw[Int.mul_assoc,Int.mul_assoc]]
   exact this)
  have s:∀{g d:Int},0<c2->0<=g->g<=d->0<d->d ∣ b*((c1+c2:Nat):Int)->∀ v∈wl (pF2 w c1 P1 c2 P2 tk) g d,Cb E v.2:=λ{g d} q k o r l=>nZ l2 k o r λx hx b2 r0 r1 r2=>lZ w (h.two q hx) l1 (by rw[d7 h.n2 hx];lia) k r1 r0 (by
   rw[show c1+(c2 - 1)=c1+c2 - 1 by lia];refine Int.dvd_trans ?_ hE;have:b2*((Dpo w (c1+c2 - 1):Nat):Int) ∣ (b*((c1+c2:Nat):Int))*6*((Dpo w (c1+c2 - 1):Nat):Int):=Int.mul_dvd_mul (Int.dvd_trans r2 (Int.mul_dvd_mul l (Int.dvd_refl 6))) (Int.dvd_refl _);rw[show b*(((c1+c2:Nat):Int)*(6*((Dpo w (c1+c2 - 1):Nat):Int)))=(b*((c1+c2:Nat):Int))*6*((Dpo w (c1+c2 - 1):Nat):Int) by rw[Int.mul_assoc,Int.mul_assoc]]
   exact this)
  refine fB h (M:=λt=>∀ v∈wl t a b,Cb E v.2) (λx _=>z x h0 h1 h2 ⟨_,rfl⟩) (λ_ x=>s x h0 h1 h2 ⟨_,rfl⟩) λx y v f=>?_
  have t:tot [((c1:Int),pF1 w c1 P1 c2 P2 tk),((c2:Int),pF2 w c1 P1 c2 P2 tk)]=((c1+c2:Nat):Int):=by unfold tot;simp
  rw[wl,t]at f;obtain⟨p,hp,f⟩:=mf f;have B:(0:Int)<((c1+c2:Nat):Int):=by lia
  have i:∀ c:Int,0<=c->c<=((c1+c2:Nat):Int)->0<=a*c/\a*c<=b*((c1+c2:Nat):Int):=λc A j=>⟨Int.mul_nonneg h0 A,Int.mul_le_mul h1 j A (by lia)⟩
  rcases mem_cons.mp hp with rfl | hp
  .obtain⟨j,n⟩:=i (c1:Int) (by lia) (by lia)
   exact z x j n (Int.mul_pos h2 B) (Int.dvd_refl _) v f
  .rw[mem_singleton.mp hp]at f
   obtain⟨j,n⟩:=i (c2:Int) (by lia) (by lia);exact s y j n (Int.mul_pos h2 B) (Int.dvd_refl _) v f
theorem zo{w c1 c2:Nat}{P1 P2 tk:List Int}(h:Pv w c1 P1 c2 P2 tk)(d:P1.length<=3)(f:P2.length<=3):∀ v∈wl (pN w c1 P1 c2 P2 tk) 1 1,Ch ((Dpo w (c1+c2):Nat):Int) v.2:=λv c=>by
 have:=lZ w h d f (a:=1) (b:=1) (E:=((Dpo w (c1+c2):Nat):Int)) (by decide) (by decide) (by decide) (by rw[Int.one_mul];exact Int.dvd_refl _) v c;exact⟨this.t0,this.le,this.b0,this.dv⟩
theorem vq{P:List Int}{go:Int->Tr}{q:Rat}{v:List Int×Rat}(h:v∈wf (cL P go) q):∃ x∈P,∃ q',v∈wf (go x) q':=by
 refine eh (P:=P) (go:=go) (M:=λt=>v∈wf t q->∃ x∈P,∃ q',v∈wf (go x) q') (λx a _ h=>⟨x,a,q,h⟩) (λ_ h=>?_) h;rw[wf]at h;obtain⟨p,c,q',b⟩:=lS h;obtain⟨x,a,rfl⟩:=mem_map.mp c;exact⟨x,a,q',b⟩
theorem sH:∀(w:Nat){c1 c2:Nat}{P1 P2 tk:List Int}{q:Rat},Pv w c1 P1 c2 P2 tk->∀ v∈wf (pN w c1 P1 c2 P2 tk) q,v.1.Nodup/\v.1.length=tk.length+w/\∀ x∈v.1,x∈tk\/x∈P1\/x∈P2
 | 0,c1,c2,P1,P2,tk,q,h,v,c=>by
  rw[pN_zero,wf]at c;rw[mem_singleton.mp c];exact⟨(nodup_append.mp h.nd).1,rfl,λx f=>.inl f⟩
 | w+1,c1,c2,P1,P2,tk,q,h,v,c=>by
  have o:0<c1->∀ d,v∈wf (pF1 w c1 P1 c2 P2 tk) d->v.1.Nodup/\v.1.length=tk.length+(w+1)/\∀ x∈v.1,x∈tk\/x∈P1\/x∈P2:=λl d c=>by
   obtain⟨x,f,r,c⟩:=vq c;obtain⟨j,g,k⟩:=sH w (h.one l f) v c;refine⟨j,by rw[g,length_append];show tk.length+1+w=_;lia,λy i=>?_⟩
   rcases k y i with z | z | z
   .rcases mem_append.mp z with z | z
    .exact .inl z
    .rw[mem_singleton.mp z];exact .inr (.inl f)
   .exact .inr (.inl (mem_filter.mp z).1)
   .exact .inr (.inr z)
  have n:0<c2->∀ d,v∈wf (pF2 w c1 P1 c2 P2 tk) d->v.1.Nodup/\v.1.length=tk.length+(w+1)/\∀ x∈v.1,x∈tk\/x∈P1\/x∈P2:=λl d c=>by
   obtain⟨x,f,r,c⟩:=vq c;obtain⟨j,g,k⟩:=sH w (h.two l f) v c;refine⟨j,by rw[g,length_append];show tk.length+1+w=_;lia,λy i=>?_⟩
   rcases k y i with z | z | z
   .rcases mem_append.mp z with z | z
    .exact .inl z
    .rw[mem_singleton.mp z];exact .inr (.inr f)
   .exact .inr (.inl z)
   .exact .inr (.inr (mem_filter.mp z).1)
  refine fB h (M:=λt=>v∈wf t q->v.1.Nodup/\v.1.length=tk.length+(w+1)/\∀ x∈v.1,x∈tk\/x∈P1\/x∈P2) (λa _ h=>o a q h) (λ_ b h=>n b q h) (λa b c=>?_) c;rw[wf]at c;obtain⟨p,hp,d,c⟩:=lS c
  rcases mem_cons.mp hp with rfl | hp
  .exact o a d c
  .rw[mem_singleton.mp hp]at c
   exact n b d c
def rnf(s n:Nat):List Int:=(List.range n).map λ(k:Nat)=>(s:Int)+(k:Int)
theorem mem_rnf{s n:Nat}{x:Int}:x∈rnf s n↔(s:Int)<=x/\x<(s:Int)+(n:Int):=by
 unfold rnf;rw[mem_map]
 constructor
 .rintro⟨k,c,rfl⟩;have:=mem_range.mp c;lia
 .rintro⟨a,b⟩;exact⟨(x - s).toNat,mem_range.mpr (by lia),by lia⟩
theorem rnf_len(s n:Nat):(rnf s n).length=n:=by unfold rnf;simp
theorem yO(s n:Nat):(rnf s n).Nodup:=pairwise_map.mpr (nodup_range.imp λ{a b} h e=>h (by lia))
theorem tj(s n:Nat):(rng s++rnf s n).Nodup:=by
 rw[nodup_append];refine⟨(sR s).nd,yO s n,λa c b d e=>?_⟩;have:=mem_rng.mp c;have:=mem_rnf.mp d;lia
def pS(w c1 s1 c2 s2:Nat):Tr:=pN w c1 (rng s1) c2 (rnf s1 s2) []
structure Pq(w c1 s1 c2 s2:Nat):Prop where
 i1:Iv w c1 s1
 i2:Iv w c2 s2
 all:w<=c1+c2
 few:w<=24
 l1:s1<=c1
 l2:s2<=c2
theorem Pq.pv{w c1 a c2 s2:Nat}(h:Pq w c1 a c2 s2):Pv w c1 (rng a) c2 (rnf a s2) [] :=
 ⟨by rw[nil_append];exact tj a s2,by rw[rng_len];exact h.i1,by rw[rnf_len];exact h.i2,h.all,by show 0+w<=24;have:=h.few;lia⟩
theorem vm{S:List Int}{s:Nat}{N:Nat}{w:Nat}(h:Sb S w N):cn S (rng s)=(S.filter λx=>decide (x<(s:Int))).length:=by
 refine(mh ((sR s).nd.filter _) (h.nd.filter _) λx=>?_).length_eq;rw[mem_filter,mem_filter,mem_rng,decide_eq_true_eq,decide_eq_true_eq];exact⟨λ⟨a,b⟩=>⟨b,a.2⟩,λ⟨a,b⟩=>⟨⟨(h.lt x a).1,b⟩,a⟩⟩
theorem lD{S:List Int}{w a s2:Nat}(h:Sb S w (a+s2)):Cnd S [] (rng a) (rnf a s2):=by
 refine⟨(λx b=>by cases b),λx b=>?_⟩;have:=h.lt x b
 by_cases c:x<(a:Int)
 .exact .inr (.inl (mem_rng.mpr ⟨this.1,c⟩))
 .exact .inr (.inr (mem_rnf.mpr ⟨by lia,by have:=this.2;push_cast at this;lia⟩))
def shr(w c1 s1 c2 s2:Nat)(S:List Int):Rat:=((ch c1 (S.filter λx=>decide (x<(s1:Int))).length*ch c2 (w - (S.filter λx=>decide (x<(s1:Int))).length):Nat):Rat)/((ch s1 (S.filter λx=>decide (x<(s1:Int))).length*ch s2 (w - (S.filter λx=>decide (x<(s1:Int))).length)*ch (c1+c2) w:Nat):Rat)
theorem qE{w c1 a c2 s2:Nat}(h:Pq w c1 a c2 s2){S:List Int}(b:Sb S w (a+s2)):da (kt (pS w c1 a c2 s2)) S=shr w c1 a c2 s2 S/\shr w c1 a c2 s2 S≠0:=by
 have e:=lK b.up w (c1:=c1) (c2:=c2) h.pv.nd (by show _=0+w;rw[b.len];lia) h.all;have c:=gW b.nd h.pv.nd (lD b);rw[b.len]at c;have c:w=0+(cn S (rng a)+cn S (rnf a s2)):=c;have g:=iG S (rng a);have f:=iG S (rnf a s2);rw[rng_len]at g;rw[rnf_len]at f;have l:=vm (s:=a) b;have j:cn S (rnf a s2)=w - (S.filter λx=>decide (x<(a:Int))).length:=by lia
 have d:=h.all;have r:(S.filter λx=>decide (x<(a:Int))).length+(w - (S.filter λx=>decide (x<(a:Int))).length)=w:=by lia
 have i:Ex (λk=>decide (k=S)) (pN w c1 (rng a) c2 (rnf a s2) [])=shr w c1 a c2 s2 S:=by
  rw[e];have:=lD b;rw[if_pos this,rng_len,rnf_len,zp g f (by lia),l,j];unfold shr;rw[r]
 refine⟨?_,?_⟩
 .rw[vS]
  exact i
 .have p:∀ n k:Nat,k<=n->((ch n k:Nat):Rat)≠0:=λn k y=>by
   have:=uk k (n - k);rw[show k+(n - k)=n by lia]at this
   have:ch n k≠0:=(by lia)
   exact_mod_cast this
  have:=h.l1;have:=h.l2;have q:=p c1 (S.filter λx=>decide (x<(a:Int))).length (by lia);have o:=p c2 (w - (S.filter λx=>decide (x<(a:Int))).length) (by lia);have v:=p a (S.filter λx=>decide (x<(a:Int))).length (by lia);have u:=p s2 (w - (S.filter λx=>decide (x<(a:Int))).length) (by lia);have A:=p (c1+c2) w (by lia);unfold shr
  push_cast
  generalize ((ch c1 (S.filter λx=>decide (x<(a:Int))).length:Nat):Rat)=x1 at *;generalize ((ch c2 (w - (S.filter λx=>decide (x<(a:Int))).length):Nat):Rat)=x2 at *;generalize ((ch a (S.filter λx=>decide (x<(a:Int))).length:Nat):Rat)=x3 at *;generalize ((ch s2 (w - (S.filter λx=>decide (x<(a:Int))).length):Nat):Rat)=x4 at *;generalize ((ch (c1+c2) w:Nat):Rat)=x5 at *;clear e i c;intro z;have:x1*x2=0:=by grind
  rcases Rat.mul_eq_zero.mp this with e | e
  .exact q e
  .exact o e
theorem qy{w c1 a c2 s2:Nat}(h:Pq w c1 a c2 s2){k:List Int}(b:k∈(kt (pS w c1 a c2 s2)).map (·.1)):Sb k w (a+s2):=by
 unfold kt kR at b;rw[map_map]at b;obtain⟨v,i,rfl⟩:=mem_map.mp b;obtain⟨c,d,f⟩:=sH w h.pv v i;refine⟨Ai (Ax c) (tY v.1),λx g=>?_,?_⟩
 .rcases f x ((so_perm v.1).mem_iff.mp g) with z | z | z
  .cases z
  .have:=mem_rng.mp z;push_cast;lia
  .have:=mem_rnf.mp z;push_cast;lia
 .show(so v.1).length=_
  rw[(so_perm v.1).length_eq,d];show 0+w=w;lia
theorem pS_tab{w c1 d c2 s2:Nat}(h:Pq w c1 d c2 s2){R c:Rws}(l:IsTab (toR (kW (wl (pS w c1 d c2 s2) 1 1))) R)(i:(c.map (·.1)).Pairwise λa b=>aJ a b=true)(g:∀ k,k∈c.map (·.1)↔Sb k w (d+s2))(o:∀ x∈c,x.2=shr w c1 d c2 s2 x.1):c=R:=by
 refine uf (p8 w h.pv) rfl l i (λk=>?_) λx hx=>?_
 .rw[g k]
  constructor
  .intro f
   apply Classical.byContradiction;intro j;have z:=m7 j;obtain⟨n,p⟩:=qE h f;exact p (by rw[<- n];exact z)
  .exact qy h
 .have f:=(g x.1).mp (mem_map.mpr ⟨x,hx,rfl⟩)
  rw[o x hx];exact(qE h f).1.symm
end Tb
namespace My
open PySem L2 FrM
def top(i:Nat):Stmt:=PySem.Challenge.pw_fewspeak_k68_pots_poured.main.body.getD i (.Pass ⟨0,0,0,0⟩)
abbrev aG:Stmt:=bP (top 3) 0
abbrev aH:Stmt:=top 7
abbrev aL:Stmt:=top 8
abbrev dc:Stmt:=top 9
abbrev dj:Stmt:=top 10
abbrev bU:Stmt:=top 14
abbrev bi:Stmt:=top 15
abbrev cv:Stmt:=top 16
abbrev aP:Stmt:=bP (top 20) 0
abbrev aT:Stmt:=bP (top 20) 1
abbrev bI:Stmt:=bP (top 20) 2
abbrev bq:Stmt:=bP (top 20) 3
abbrev bf:Stmt:=bP (top 20) 4
abbrev aU:Stmt:=bP (top 21) 0
abbrev aY:Stmt:=bP (top 21) 1
abbrev bX:Stmt:=bP (top 21) 2
abbrev bD:Stmt:=bP (top 21) 3
abbrev bH:Stmt:=bP (top 21) 4
abbrev bF:Stmt:=bP (top 21) 5
abbrev aO:Stmt:=top 22
abbrev dq:Stmt:=top 23
abbrev cm:Stmt:=top 24
abbrev dw:Stmt:=top 25
abbrev aV:Stmt:=bP (top 29) 0
abbrev cg:Stmt:=bP (top 29) 1
abbrev aK:Stmt:=bP (top 29) 2
abbrev bW:Stmt:=bP (top 29) 3
abbrev bh:Stmt:=bP (top 29) 4
abbrev bG:Stmt:=top 30
abbrev bp:Stmt:=top 31
abbrev cM:Stmt:=top 32
abbrev bc:Stmt:=top 33
abbrev bM:Stmt:=top 34
abbrev aZ:Stmt:=top 35
abbrev ci:Stmt:=top 36
abbrev cQ:Stmt:=top 37
abbrev cU:Stmt:=top 38
abbrev d9:Stmt:=top 39
abbrev bE:Stmt:=top 41
abbrev di:Stmt:=top 42
abbrev bJ:Stmt:=top 43
abbrev bV:Stmt:=top 44
abbrev db:Stmt:=top 45
abbrev du:Stmt:=top 46
abbrev cN:Stmt:=top 47
abbrev cO:Stmt:=top 48
abbrev cq:Stmt:=top 49
abbrev bK:Stmt:=top 50
abbrev cz:Stmt:=top 51
abbrev bj:Stmt:=top 52
abbrev gM:Stmt:=top 53
theorem fS{N P:List Str}{f:Scope}(a:f.kind=.function)(b:f.isCoroutine=false)(c:f.isGenerator=false)(d:N.take P.length=P)(h:N.Nodup/\(∀ x∈P,f.names.lookup x = some .local \/ f.names.lookup x = some .cell)/\∀ y∈f.names,y.2≠.free):FnScope N P f:=⟨a,b,c,h.1,d,h.2.1,h.2.2⟩
theorem gm:FnScope ["self","place"] ["self","place"] (ac aG):=fS rfl rfl rfl rfl (by decide +kernel)
theorem sc_j:FnScope ["one","other"] ["one","other"] (ac aH):=fS rfl rfl rfl rfl (by decide +kernel)
theorem sc_p:FnScope ["numbers","found","number"] ["numbers"] (ac aL):=fS rfl rfl rfl rfl (by decide +kernel)
theorem sc_S:FnScope ["top","bottom","divisor"] ["top","bottom"] (ac dc):=fS rfl rfl rfl rfl (by decide +kernel)
theorem sc_ab:FnScope ["fractions","bottom"] ["fractions"] (ac dj):=fS rfl rfl rfl rfl (by decide +kernel)
theorem mK:FnScope ["thing","low","high"] ["thing","low","high"] (ac bU):=fS rfl rfl rfl rfl (by decide +kernel)
theorem jT:FnScope ["text","signs","most"] ["text","signs","most"] (ac bi):=fS rfl rfl rfl rfl (by decide +kernel)
theorem oW:FnScope ["thing"] ["thing"] (ac cv):=fS rfl rfl rfl rfl (by decide +kernel)
theorem ip:FnScope ["self","kept"] ["self","kept"] (ac aP):=fS rfl rfl rfl rfl (by decide +kernel)
theorem iR:FnScope ["self"] ["self"] (ac aT):=fS rfl rfl rfl rfl (by decide +kernel)
theorem me:FnScope ["self"] ["self"] (ac bI):=fS rfl rfl rfl rfl (by decide +kernel)
theorem j7:FnScope ["self"] ["self"] (ac bq):=fS rfl rfl rfl rfl (by decide +kernel)
theorem jY:FnScope ["self"] ["self"] (ac bf):=fS rfl rfl rfl rfl (by decide +kernel)
theorem iM:FnScope ["self","parts"] ["self","parts"] (ac aU):=fS rfl rfl rfl rfl (by decide +kernel)
theorem jo:FnScope ["self"] ["self"] (ac aY):=fS rfl rfl rfl rfl (by decide +kernel)
theorem mH:FnScope ["self"] ["self"] (ac bX):=fS rfl rfl rfl rfl (by decide +kernel)
theorem lH:FnScope ["self"] ["self"] (ac bD):=fS rfl rfl rfl rfl (by decide +kernel)
theorem lU:FnScope ["self"] ["self"] (ac bH):=fS rfl rfl rfl rfl (by decide +kernel)
theorem sc_r:FnScope ["self","throw","number","last","many","make"] ["self","throw"] (ac bF):=fS rfl rfl rfl rfl (by decide +kernel)
theorem iu:FnScope ["node","throw"] ["node","throw"] (ac aO):=fS rfl rfl rfl rfl (by decide +kernel)
theorem sc_Z:FnScope ["node","throws","here","place","throw"] ["node","throws"] (ac dq):=fS rfl rfl rfl rfl (by decide +kernel)
theorem sc_K:FnScope ["node","ways","ahead","here","top","bottom","sides"] ["node"] (ac cm):=fS rfl rfl rfl rfl (by decide +kernel)
theorem sc_W:FnScope ["node","found","kept","chance"] ["node"] (ac dw):=fS rfl rfl rfl rfl (by decide +kernel)
theorem iO:FnScope ["self","most"] ["self","most"] (ac aV):=fS rfl rfl rfl rfl (by decide +kernel)
theorem oj:FnScope ["self","thing","throw"] ["self","thing","throw"] (ac cg):=fS rfl rfl rfl rfl (by decide +kernel)
theorem gI:FnScope ["self"] ["self"] (ac aK):=fS rfl rfl rfl rfl (by decide +kernel)
theorem mR:FnScope ["self"] ["self"] (ac bW):=fS rfl rfl rfl rfl (by decide +kernel)
theorem jZ:FnScope ["self"] ["self"] (ac bh):=fS rfl rfl rfl rfl (by decide +kernel)
theorem lW:FnScope ["held","most","thing","throw"] ["held","most","thing","throw"] (ac bG):=fS rfl rfl rfl rfl (by decide +kernel)
theorem j0:FnScope ["one","other"] ["one","other"] (ac bp):=fS rfl rfl rfl rfl (by decide +kernel)
theorem sc_J:FnScope ["one","other","firsts","seconds","wanted"] ["one","other"] (ac cM):=fS rfl rfl rfl rfl (by decide +kernel)
abbrev fA:Expr:=(zI (zq (vR (sA (uI bc 3)) 0) 0) 1)
def bu:LamD:=mP ((("pour_node" : Str) ++ ".<locals>.") ++ "<lambda>") fA
abbrev fu:Expr:=(zI (zq (vR (sA (uI bc 3)) 0) 1) 1)
def bv:LamD:=mP ((("pour_node" : Str) ++ ".<locals>.") ++ "<lambda>") fu
theorem lr:FnScope ["wanted","one","other","taken"] ["wanted","one","other","taken"] (ac bc):=fS rfl rfl rfl rfl (by decide +kernel)
abbrev gt:Expr:=(vR (sA (uI bM 0)) 1)
def cu:LamD:=mP ((("from_one" : Str) ++ ".<locals>.") ++ "<lambda>") gt
theorem sc_i:FnScope ["wanted","one","other","taken"] ["wanted","one","other","taken"] (ac bM):=fS rfl rfl rfl rfl (by decide +kernel)
abbrev eZ:Expr:=(vR (sA (uI aZ 0)) 1)
def bO:LamD:=mP ((("from_other" : Str) ++ ".<locals>.") ++ "<lambda>") eZ
theorem sc_d:FnScope ["wanted","one","other","taken"] ["wanted","one","other","taken"] (ac aZ):=fS rfl rfl rfl rfl (by decide +kernel)
theorem oC:FnScope ["pot","place"] ["pot","place"] (ac ci):=fS rfl rfl rfl rfl (by decide +kernel)
theorem rF:FnScope ["places","go"] ["places","go"] (ac cQ):=fS rfl rfl rfl rfl (by decide +kernel)
abbrev jB:Expr:=(sA (uI cU 0))
def ld_going_1:LamD:=mP ((("going" : Str) ++ ".<locals>.") ++ "<lambda>") jB
theorem tI:FnScope ["go","place"] ["go","place"] (ac cU):=fS rfl rfl rfl rfl (by decide +kernel)
theorem sc_V:FnScope ["one","other","kept","things","pot"] ["one","other","kept"] (ac d9):=fS rfl rfl rfl rfl (by decide +kernel)
theorem lu:FnScope ["_law_script","_law_k"] ["_law_script","_law_k"] (ac bE):=fS rfl rfl rfl rfl (by decide +kernel)
theorem sc_aa:FnScope ["_law_cell","_law_k","_law_number"] ["_law_cell","_law_k"] (ac di):=fS rfl rfl rfl rfl (by decide +kernel)
theorem sc_z:FnScope ["_law_cell","_law_digits","_law_bases","_law_numbers_here","_law_k","_law_base"] ["_law_cell","_law_digits","_law_bases"] (ac bJ):=fS rfl rfl rfl rfl (by decide +kernel)
theorem sc_u:FnScope ["_law_many","_law_few","_law_found","_law_k"] ["_law_many","_law_few"] (ac bV):=fS rfl rfl rfl rfl (by decide +kernel)
theorem sc_G:FnScope ["_law_most","_law_many","_law_first","_law_signs","_law_pot_here","_law_k"] ["_law_most","_law_many","_law_first"] (ac db):=fS rfl rfl rfl rfl (by decide +kernel)
theorem sc_T:FnScope ["_law_most","_law_came","_law_stock","_law_whole","_law_found","_law_bits","_law_kept","_law_one","_law_other","_law_top","_law_bottom"] ["_law_most","_law_came"] (ac du):=fS rfl rfl rfl rfl (by decide +kernel)
theorem sc_M:FnScope ["_law_most","_law_came","_law_numbers_here","_law_stock","_law_left","_law_open_ones","_law_kept","_law_throws","_law_side","_law_place"] ["_law_most","_law_came","_law_numbers_here"] (ac cN):=fS rfl rfl rfl rfl (by decide +kernel)
theorem sc_U:FnScope ["_law_one","_law_other","_law_kept","_law_things","_law_due_here","_law_came","_law_found","_law_full"] ["_law_one","_law_other","_law_kept"] (ac cO):=fS rfl rfl rfl rfl (by decide +kernel)
theorem sc_O:FnScope ["_law_node","_law_most","_law_came","_law_side","_law_stock"] ["_law_node","_law_most","_law_came"] (ac cq):=fS rfl rfl rfl rfl (by decide +kernel)
theorem sc_y:FnScope ["_law_one","_law_other","_law_words"] ["_law_one","_law_other"] (ac bK):=fS rfl rfl rfl rfl (by decide +kernel)
theorem sc_P:FnScope ["_law_one","_law_other","_law_kept","_law_found","_law_things","_law_came"] ["_law_one","_law_other","_law_kept"] (ac cz):=fS rfl rfl rfl rfl (by decide +kernel)
theorem sc_A:FnScope ["_law_most","_law_first","_law_second","_law_refused_here","_law_one","_law_other"] ["_law_most","_law_first","_law_second"] (ac bj):=fS rfl rfl rfl rfl (by decide +kernel)
theorem sc_ac:FnScope ["_law_script","_law_digits","_law_most","_law_wide","_law_first","_law_second","_law_far","_law_one","_law_other","_law_node","_law_cell","_law_throws","_law_kept"] ["_law_script"] (ac gM):=fS rfl rfl rfl rfl (by decide +kernel)
def fo(K:Frag)(D C:Addr):Option Bool:=mroIn K D (.ref C)
set_option genInjectivity false in
set_option genSizeOf false in
structure Ad where
 f_j:Addr
 d_j:FuncData
 f_p:Addr
 d_p:FuncData
 f_S:Addr
 d_S:FuncData
 f_ab:Addr
 d_ab:FuncData
 f_E:Addr
 d_E:FuncData
 f_I:Addr
 d_I:FuncData
 f_X:Addr
 d_X:FuncData
 f_s:Addr
 d_s:FuncData
 f_Z:Addr
 d_Z:FuncData
 f_K:Addr
 d_K:FuncData
 f_W:Addr
 d_W:FuncData
 f_N:Addr
 d_N:FuncData
 f_C:Addr
 d_C:FuncData
 f_J:Addr
 d_J:FuncData
 f_e:Addr
 d_e:FuncData
 f_i:Addr
 d_i:FuncData
 f_d:Addr
 d_d:FuncData
 f_Q:Addr
 d_Q:FuncData
 f_R:Addr
 d_R:FuncData
 f_D:Addr
 d_D:FuncData
 f_V:Addr
 d_V:FuncData
 f_H:Addr
 d_H:FuncData
 f_aa:Addr
 d_aa:FuncData
 f_z:Addr
 d_z:FuncData
 f_u:Addr
 d_u:FuncData
 f_G:Addr
 d_G:FuncData
 f_T:Addr
 d_T:FuncData
 f_M:Addr
 d_M:FuncData
 f_U:Addr
 d_U:FuncData
 f_O:Addr
 d_O:FuncData
 f_y:Addr
 d_y:FuncData
 f_P:Addr
 d_P:FuncData
 f_A:Addr
 d_A:FuncData
 f_ac:Addr
 d_ac:FuncData
 c_L:Addr
 c_a:Addr
 i_a:Addr
 e_a:FuncData
 c_m:Addr
 c_n:Addr
 c_Y:Addr
 c_g:Addr
 i_g:Addr
 e_g:FuncData
 c_k:Addr
 i_k:Addr
 e_k:FuncData
 c_c:Addr
 i_c:Addr
 e_c:FuncData
 x_v:Addr
 y_v:FuncData
 v_Pot_come:Value
 x_h:Addr
 y_h:FuncData
 x_f:Addr
 y_f:FuncData
 x_l:Addr
 y_l:FuncData
 x_o:Addr
 y_o:FuncData
 x_B:Addr
 y_B:FuncData
 x_F:Addr
 y_F:FuncData
 x_t:Addr
 y_t:FuncData
 x_x:Addr
 y_x:FuncData
 x_q:Addr
 y_q:FuncData
 x_w:Addr
 y_w:FuncData
 x_r:Addr
 y_r:FuncData
 x_b:Addr
 y_b:FuncData
 lc_d:Addr
 lp_d:Addr
 lc_D:Addr
 lp_D:Addr
 lc_i:Addr
 lp_i:Addr
 lc_e:Addr
 lp_e:Addr
abbrev d5:List (Pos×Str):=[(va eZ,((("from_other" : Str) ++ ".<locals>.") ++ "<lambda>"))]
theorem j2:(d5).Pairwise λx y=>¬(x.1.line=y.1.line/\x.1.col=y.1.col):=by decide +kernel
abbrev jf:List (Pos×Str):=[(va jB,((("going" : Str) ++ ".<locals>.") ++ "<lambda>"))]
theorem tP:(jf).Pairwise λx y=>¬(x.1.line=y.1.line/\x.1.col=y.1.col):=by decide +kernel
abbrev fJ:List (Pos×Str):=[(va gt,((("from_one" : Str) ++ ".<locals>.") ++ "<lambda>"))]
theorem mt:(fJ).Pairwise λx y=>¬(x.1.line=y.1.line/\x.1.col=y.1.col):=by decide +kernel
abbrev eO:List (Pos×Str):=[(va fA,((("pour_node" : Str) ++ ".<locals>.") ++ "<lambda>")),(va fu,((("pour_node" : Str) ++ ".<locals>.") ++ "<lambda>"))]
theorem gJ:(eO).Pairwise λx y=>¬(x.1.line=y.1.line/\x.1.col=y.1.col):=by decide +kernel
def tabs(a:Ad):oe:=[(a.lp_d,d5),(a.lp_D,jf),(a.lp_i,fJ),(a.lp_e,eO)]
theorem jS(a:Ad):(a.lp_d,d5)∈tabs a:=(.head _)
theorem uL(a:Ad):(a.lp_D,jf)∈tabs a:=(.tail _ (.head _))
theorem mL(a:Ad):(a.lp_i,fJ)∈tabs a:=(.tail _ (.tail _ (.head _)))
theorem gX(a:Ad):(a.lp_e,eO)∈tabs a:=(.tail _ (.tail _ (.tail _ (.head _))))
structure Txt(K:Frag)(mg:Str->Option Value)(a:Ad):Prop where
 lcd_d:a.d_d.code=.ref a.lc_d
 lch_d:codeHdIn K a.lc_d a.lp_d=true
 lcd_D:a.d_D.code=.ref a.lc_D
 lch_D:codeHdIn K a.lc_D a.lp_D=true
 lcd_i:a.d_i.code=.ref a.lc_i
 lch_i:codeHdIn K a.lc_i a.lp_i=true
 lcd_e:a.d_e.code=.ref a.lc_e
 lch_e:codeHdIn K a.lc_e a.lp_e=true
 tnd:((tabs a).map (·.1)).Nodup
 F_j:Fun K "greatest_divisor" "greatest_divisor" aH a.f_j a.d_j
 B_j:Binds K a.d_j ["one","other"] []
 m_j:mg "greatest_divisor" = some (.ref a.f_j)
 F_p:Fun K "least_multiple" "least_multiple" aL a.f_p a.d_p
 B_p:Binds K a.d_p ["numbers"] []
 m_p:mg "least_multiple" = some (.ref a.f_p)
 F_S:Fun K "share" "share" dc a.f_S a.d_S
 B_S:Binds K a.d_S ["top","bottom"] []
 m_S:mg "share" = some (.ref a.f_S)
 F_ab:Fun K "total" "total" dj a.f_ab a.d_ab
 B_ab:Binds K a.d_ab ["fractions"] []
 m_ab:mg "total" = some (.ref a.f_ab)
 F_E:Fun K "is_whole" "is_whole" bU a.f_E a.d_E
 B_E:Binds K a.d_E ["thing","low","high"] []
 m_E:mg "is_whole" = some (.ref a.f_E)
 F_I:Fun K "is_made_of" "is_made_of" bi a.f_I a.d_I
 B_I:Binds K a.d_I ["text","signs","most"] []
 m_I:mg "is_made_of" = some (.ref a.f_I)
 F_X:Fun K "is_name" "is_name" cv a.f_X a.d_X
 B_X:Binds K a.d_X ["thing"] []
 m_X:mg "is_name" = some (.ref a.f_X)
 F_s:Fun K "can_be_thrown" "can_be_thrown" aO a.f_s a.d_s
 B_s:Binds K a.d_s ["node","throw"] []
 m_s:mg "can_be_thrown" = some (.ref a.f_s)
 F_Z:Fun K "drawn" "drawn" dq a.f_Z a.d_Z
 B_Z:Binds K a.d_Z ["node","throws"] []
 m_Z:mg "drawn" = some (.ref a.f_Z)
 F_K:Fun K "ways_of" "ways_of" cm a.f_K a.d_K
 B_K:Binds K a.d_K ["node"] []
 m_K:mg "ways_of" = some (.ref a.f_K)
 F_W:Fun K "table" "table" dw a.f_W a.d_W
 B_W:Binds K a.d_W ["node"] []
 m_W:mg "table" = some (.ref a.f_W)
 F_N:Fun K "held_with" "held_with" bG a.f_N a.d_N
 B_N:Binds K a.d_N ["held","most","thing","throw"] []
 m_N:mg "held_with" = some (.ref a.f_N)
 F_C:Fun K "need_alike" "need_alike" bp a.f_C a.d_C
 B_C:Binds K a.d_C ["one","other"] []
 m_C:mg "need_alike" = some (.ref a.f_C)
 F_J:Fun K "poured" "poured" cM a.f_J a.d_J
 B_J:Binds K a.d_J ["one","other"] []
 m_J:mg "poured" = some (.ref a.f_J)
 F_e:Fun K "pour_node" "pour_node" bc a.f_e a.d_e
 B_e:Binds K a.d_e ["wanted","one","other","taken"] []
 m_e:mg "pour_node" = some (.ref a.f_e)
 F_i:Fun K "from_one" "from_one" bM a.f_i a.d_i
 B_i:Binds K a.d_i ["wanted","one","other","taken"] []
 m_i:mg "from_one" = some (.ref a.f_i)
 F_d:Fun K "from_other" "from_other" aZ a.f_d a.d_d
 B_d:Binds K a.d_d ["wanted","one","other","taken"] []
 m_d:mg "from_other" = some (.ref a.f_d)
 F_Q:Fun K "without" "without" ci a.f_Q a.d_Q
 B_Q:Binds K a.d_Q ["pot","place"] []
 m_Q:mg "without" = some (.ref a.f_Q)
 F_R:Fun K "any_of" "any_of" cQ a.f_R a.d_R
 B_R:Binds K a.d_R ["places","go"] []
 m_R:mg "any_of" = some (.ref a.f_R)
 F_D:Fun K "going" "going" cU a.f_D a.d_D
 B_D:Binds K a.d_D ["go","place"] []
 m_D:mg "going" = some (.ref a.f_D)
 F_V:Fun K "into" "into" d9 a.f_V a.d_V
 B_V:Binds K a.d_V ["one","other","kept"] []
 m_V:mg "into" = some (.ref a.f_V)
 F_H:Fun K "_law_cell_at" "_law_cell_at" bE a.f_H a.d_H
 B_H:Binds K a.d_H ["_law_script","_law_k"] []
 m_H:mg "_law_cell_at" = some (.ref a.f_H)
 F_aa:Fun K "_law_mix" "_law_mix" di a.f_aa a.d_aa
 B_aa:Binds K a.d_aa ["_law_cell","_law_k"] []
 m_aa:mg "_law_mix" = some (.ref a.f_aa)
 F_z:Fun K "_law_numbers" "_law_numbers" bJ a.f_z a.d_z
 B_z:Binds K a.d_z ["_law_cell","_law_digits","_law_bases"] []
 m_z:mg "_law_numbers" = some (.ref a.f_z)
 F_u:Fun K "_law_choose" "_law_choose" bV a.f_u a.d_u
 B_u:Binds K a.d_u ["_law_many","_law_few"] []
 m_u:mg "_law_choose" = some (.ref a.f_u)
 F_G:Fun K "_law_pot" "_law_pot" db a.f_G a.d_G
 B_G:Binds K a.d_G ["_law_most","_law_many","_law_first"] []
 m_G:mg "_law_pot" = some (.ref a.f_G)
 F_T:Fun K "_law_due" "_law_due" du a.f_T a.d_T
 B_T:Binds K a.d_T ["_law_most","_law_came"] []
 m_T:mg "_law_due" = some (.ref a.f_T)
 F_M:Fun K "_law_gone" "_law_gone" cN a.f_M a.d_M
 B_M:Binds K a.d_M ["_law_most","_law_came","_law_numbers_here"] []
 m_M:mg "_law_gone" = some (.ref a.f_M)
 F_U:Fun K "_law_into" "_law_into" cO a.f_U a.d_U
 B_U:Binds K a.d_U ["_law_one","_law_other","_law_kept"] []
 m_U:mg "_law_into" = some (.ref a.f_U)
 F_O:Fun K "_law_parts" "_law_parts" cq a.f_O a.d_O
 B_O:Binds K a.d_O ["_law_node","_law_most","_law_came"] []
 m_O:mg "_law_parts" = some (.ref a.f_O)
 F_y:Fun K "_law_refused" "_law_refused" bK a.f_y a.d_y
 B_y:Binds K a.d_y ["_law_one","_law_other"] []
 m_y:mg "_law_refused" = some (.ref a.f_y)
 F_P:Fun K "_law_apart" "_law_apart" cz a.f_P a.d_P
 B_P:Binds K a.d_P ["_law_one","_law_other","_law_kept"] []
 m_P:mg "_law_apart" = some (.ref a.f_P)
 F_A:Fun K "_law_too_many" "_law_too_many" bj a.f_A a.d_A
 B_A:Binds K a.d_A ["_law_most","_law_first","_law_second"] []
 m_A:mg "_law_too_many" = some (.ref a.f_A)
 F_ac:Fun K "law" "law" gM a.f_ac a.d_ac
 m_ac:mg "law" = some (.ref a.f_ac)
 g_LETTERS:∃ u,mg "LETTERS" = some u/\RelV (.str "abcdefghijklmnopqrstuvwxyz") u
 g_MOST_LETTERS:∃ u,mg "MOST_LETTERS" = some u/\RelV (.int 8) u
 g_MOST_WAYS:∃ u,mg "MOST_WAYS" = some u/\RelV (.int 4096) u
 g_MOST_KEPT:∃ u,mg "MOST_KEPT" = some u/\RelV (.int 24) u
 g_MOST_COME:∃ u,mg "MOST_COME" = some u/\RelV (.int 300) u
 mc_a:mg "NoThrow" = some (.ref a.c_a)
 kc_NoThrow:keepIn K (.ref a.c_a)=true
 xc_a:XCls K a.c_a
 xh_a:XHd K a.c_a
 xi_NoThrow:xIn K a.c_a (some (.ref a.i_a))=true
 fn_NoThrow:isFn K (.ref a.i_a)=true
 Fi_a:Fun K "__init__" "NoThrow.__init__" aG a.i_a a.e_a
 Bi_a:Binds K a.e_a ["self","place"] []
 sx_NoThrow_place:∃ cd,XSet K a.c_a "place" cd
 mc_m:mg "TooMany" = some (.ref a.c_m)
 kc_TooMany:keepIn K (.ref a.c_m)=true
 xc_m:XCls K a.c_m
 xh_m:XHd K a.c_m
 xi_TooMany:xIn K a.c_m none=true
 mc_n:mg "NoThing" = some (.ref a.c_n)
 kc_NoThing:keepIn K (.ref a.c_n)=true
 xc_n:XCls K a.c_n
 xh_n:XHd K a.c_n
 xi_NoThing:xIn K a.c_n none=true
 mc_g:mg "Told" = some (.ref a.c_g)
 cl_g:Cls K a.c_g
 mk_g:Mk K a.c_g a.i_g
 Fi_g:Fun K "__init__" "Told.__init__" aP a.i_g a.e_g
 Bi_g:Binds K a.e_g ["self","kept"] []
 na_Told_rising:NoAttr K a.c_g "rising"
 mt_l:Meth K a.c_g "is_told" a.x_l
 mt_B:Meth K a.c_g "kept" a.x_B
 mt_t:Meth K a.c_g "sides" a.x_t
 mt_q:Meth K a.c_g "parts" a.x_q
 mc_k:mg "Die" = some (.ref a.c_k)
 cl_k:Cls K a.c_k
 mk_k:Mk K a.c_k a.i_k
 Fi_k:Fun K "__init__" "Die.__init__" aU a.i_k a.e_k
 Bi_k:Binds K a.e_k ["self","parts"] []
 na_Die_makes:NoAttr K a.c_k "makes"
 mt_o:Meth K a.c_k "is_told" a.x_o
 mt_F:Meth K a.c_k "kept" a.x_F
 mt_x:Meth K a.c_k "sides" a.x_x
 mt_w:Meth K a.c_k "parts" a.x_w
 mt_r:Meth K a.c_k "after" a.x_r
 mc_c:mg "Pot" = some (.ref a.c_c)
 cl_c:Cls K a.c_c
 mk_c:Mk K a.c_c a.i_c
 Fi_c:Fun K "__init__" "Pot.__init__" aV a.i_c a.e_c
 Bi_c:Binds K a.e_c ["self","most"] []
 na_Pot_most:NoAttr K a.c_c "most"
 na_Pot_seen:NoAttr K a.c_c "seen"
 na_Pot_held:NoAttr K a.c_c "held"
 mt_v:Meth K a.c_c "come" a.x_v
 mt_h:Meth K a.c_c "next_sides" a.x_h
 mt_f:Meth K a.c_c "things" a.x_f
 mt_b:Meth K a.c_c "came" a.x_b
 F_v:FunD K "come" "Pot.come" cg a.x_v a.y_v
 B_v:Binds K a.y_v ["self","thing","throw"] []
 F_h:Fun K "next_sides" "Pot.next_sides" aK a.x_h a.y_h
 B_h:Binds K a.y_h ["self"] []
 F_f:Fun K "things" "Pot.things" bh a.x_f a.y_f
 B_f:Binds K a.y_f ["self"] []
 F_l:Fun K "is_told" "Told.is_told" aT a.x_l a.y_l
 B_l:Binds K a.y_l ["self"] []
 F_o:Fun K "is_told" "Die.is_told" aY a.x_o a.y_o
 B_o:Binds K a.y_o ["self"] []
 F_B:Fun K "kept" "Told.kept" bI a.x_B a.y_B
 B_B:Binds K a.y_B ["self"] []
 F_F:Fun K "kept" "Die.kept" bX a.x_F a.y_F
 B_F:Binds K a.y_F ["self"] []
 F_t:Fun K "sides" "Told.sides" bq a.x_t a.y_t
 B_t:Binds K a.y_t ["self"] []
 F_x:Fun K "sides" "Die.sides" bD a.x_x a.y_x
 B_x:Binds K a.y_x ["self"] []
 F_q:Fun K "parts" "Told.parts" bf a.x_q a.y_q
 B_q:Binds K a.y_q ["self"] []
 F_w:Fun K "parts" "Die.parts" bH a.x_w a.y_w
 B_w:Binds K a.y_w ["self"] []
 F_r:Fun K "after" "Die.after" bF a.x_r a.y_r
 B_r:Binds K a.y_r ["self","throw"] []
 F_b:Fun K "came" "Pot.came" bW a.x_b a.y_b
 B_b:Binds K a.y_b ["self"] []
 tt:fo K a.c_n a.c_n=some true
 tm2:fo K a.c_m a.c_m=some true
 z_abs:mg "abs" = none
 z_all:mg "all" = none
 z_bool:mg "bool" = none
 z_enumerate:mg "enumerate" = none
 z_int:mg "int" = none
 z_isinstance:mg "isinstance" = none
 z_len:mg "len" = none
 z_list:mg "list" = none
 z_min:mg "min" = none
 z_range:mg "range" = none
 z_sorted:mg "sorted" = none
 z_str:mg "str" = none
 z_sum:mg "sum" = none
 z_tuple:mg "tuple" = none
 bl:∀(s:Shared) (u:Value),BindsTo s a.d_ac ⟨[u],[]⟩ [("_law_script",u)]
def qK(ns:List Int)(k:Int):Int:=if k<(ns.length:Int) then ns.getD k.toNat 0 else 0
inductive spCell(K:Frag)(vs:List V)(H:Hp)(Q:VK)(_E:XK):Prop
 | mk(p:Addr)(ns:List Int)(k:Int)(h0:vs=[.ref p,.int k])(h1:SqL K H p (ns.map V.int))(h2:ns.length<=63)(h3:0<=k)(h4:k<=1000)(h5:Q (.int (qK ns k)) H):spCell K vs H Q _E
inductive spMix(vs:List V)(H:Hp)(Q:VK)(_E:XK):Prop
 | mk(c k:Int)(h0:vs=[.int c,.int k])(h1:0<=k)(h2:k<=1000)(h3:∀ r:Int,0<=r->Q (.int r) H):spMix vs H Q _E
inductive spLaw(K:Frag)(ts:List Addr)(vs:List V)(H:Hp)(Q:VK)(_E:XK):Prop
 | mk(p:Addr)(ns:List Int)(h0:vs=[.ref p])(h1:SqL K H p (ns.map V.int))(h2:ns.length<=63)(h3:(∀ P∈ts,H P=some (.tbl #[])))(h4:∀ H',Q (.bl true) H'):spLaw K ts vs H Q _E
theorem law_start{K:Frag}{c:List Addr}{H:Hp}{a:Addr}{b:List Int}(g:b.length<=63)(f:∀ P∈c,H P=some (.tbl #[]))(d:SqL K H a (b.map V.int)):spLaw K c [.ref a] H (λv _=>v=.bl true) λ_ _ _=>False:=⟨a,b,rfl,d,g,f,λ_=>rfl⟩
abbrev Below:List Int->List Int->Prop:=PySem.Paired (λb v=>0<=v/\v<b)
theorem Below.snoc{b v:Int}(r:0<=v/\v<b):∀{bs ns:List Int},Below bs ns->Below (bs++[b]) (ns++[v])
 | _,_,.nil=>.cons r .nil
 | _,_,.cons q t=>.cons q (Below.snoc r t)
inductive spNumbers(K:Frag)(vs:List V)(H:Hp)(Q:VK)(_E:XK):Prop
 | mk(c:Int)(d:Bool)(p:Addr)(bs:List Int)(h0:vs=[.int c,.bl d,.ref p])(h1:H p=some (.lst (bs.map V.int)))(h2:bs.length<=100)(h3:(∀ b∈bs,1<=b/\b<=1000000))(h4:∀ H' l ns,Same H H'->H l=none->H' l=some (.lst (ns.map V.int))->Below bs ns->Q (.ref l) H'):spNumbers K vs H Q _E
theorem b8(x y:V):[x,y].length<=sizeLine:=by show 2<=sizeLine;decide
def eY(t:Str):Bool:=decide (1<=t.cps.size/\t.cps.size<=8) && t.cps.toList.all λc=>decide (97<=c/\c<=122)
inductive spMade(vs:List V)(H:Hp)(Q:VK)(_E:XK):Prop
 | mk(t:Str)(h0:vs=[.str t,.str "abcdefghijklmnopqrstuvwxyz",.int 8])(h1:t.length<=sizeLine)(h2:∀ H',Same H H'->Q (.bl (eY t)) H'):spMade vs H Q _E
inductive Kd | i (n:Int) | s (t:Str) | o
inductive Thg(H:Hp):V->Kd->Prop
 | int (i:Int):Thg H (.int i) (.i i)
 | str (t:Str) (h:t.length<=100) (h2:∀ c∈t.cps.toList,c<128):Thg H (.str t) (.s t)
 | bl (b:Bool):Thg H (.bl b) .o
 | non:Thg H .non .o
 | lst (p:Addr) (xs:List V) (e:H p=some (.lst xs)):Thg H (.ref p) .o
 | tup (p:Addr) (xs:List V) (e:H p=some (.tup xs)):Thg H (.ref p) .o
 | dK (p:Addr) (e:H p=some (.dK [])):Thg H (.ref p) .o
theorem Thg.same{H a:Hp}{x:V}{o:Kd}(s:Same H a)(h:Thg H x o):Thg a x o:=by
 cases h with
 | int i=>exact .int i
 | str t h h2=>exact .str t h h2
 | bl b=>exact .bl b
 | non=>exact .non
 | lst p xs e=>exact .lst p xs (s _ _ e)
 | tup p xs e=>exact .tup p xs (s _ _ e)
 | dK p e=>exact .dK p (s _ _ e)
def inK(lo hi:Int):Kd->Bool
 | .i n=>decide (lo<=n/\n<=hi)
 | _=>false
def nmK:Kd->Bool
 | .s t=>eY t
 | _=>false
inductive spWhole(vs:List V)(H:Hp)(Q:VK)(_E:XK):Prop
 | mk(x:V)(lo hi:Int)(k:Kd)(h0:vs=[x,.int lo,.int hi])(h1:Thg H x k)(h2:Q (.bl (inK lo hi k)) H):spWhole vs H Q _E
inductive spName(vs:List V)(H:Hp)(Q:VK)(_E:XK):Prop
 | mk(x:V)(k:Kd)(h0:vs=[x])(h1:Thg H x k)(h2:∀ H',Same H H'->Q (.bl (nmK k)) H'):spName vs H Q _E
structure PotAt(a:Ad)(H:Hp)(x h:Addr)(m n:Int)(ts:List Str):Prop where
 at_:∃ dx,H x=some (.ins a.c_c dx [("most",.int m),("seen",.int n),("held",.ref h)])
 held:H h=some (.lst (ts.map V.str))
theorem PotAt.same{a:Ad}{H b:Hp}{x h:Addr}{m n:Int}{c:List Str}(s:Same H b)(p:PotAt a H x h m n c):PotAt a b x h m n c:=⟨let ⟨dx,e⟩:=p.at_;⟨dx,s _ _ e⟩,s _ _ p.held⟩
def SB(x:Addr)(H H':Hp):Prop:=∀ b o,b≠x->H b=some o->H' b=some o
def Okp(m n:Int)(ts:List Str):Prop:=1<=m/\m<=24/\0<=n/\n<=300/\(ts.length:Int)=(if n<m then n else m)
def sides(m n:Int):Int:=if n<m then 1 else n+1
def iN{α:Type}(m:Int)(xs:List α)(t:α)(th:Int):List α:=if (xs.length:Int)<m then xs++[t] else if th<m then xs.set th.toNat t else xs
def nxt(m:Int)(ts:List Str)(t:Str)(th:Int):List Str:=iN m ts t th
theorem wG{a c:Type}(f:a->c)(m:Int)(xs:List a)(t:a)(b:Int):iN m (xs.map f) (f t) b=(iN m xs t b).map f:=by
 unfold iN;rw[length_map]
 split
 .rw[map_append];rfl
 .split
  .rw[List.map_set]
  .rfl
inductive spHeld(vs:List V)(H:Hp)(Q:VK)(_E:XK):Prop
 | mk(h:Addr)(m th:Int)(t:V)(xs:List V)(h0:vs=[.ref h,.int m,t,.int th])(h1:H h=some (.lst xs))(h2:xs.length<=24)(h3:m<=24)(h4:0<=th)(h5:((xs.length:Int)<m\/(xs.length:Int)=m))(h6:∀ H' h',Same H H'->H' h'=some (.lst (iN m xs t th))->(h'=h\/H h'=none)->Q (.ref h') H'):spHeld vs H Q _E
inductive spSides(a:Ad)(vs:List V)(H:Hp)(Q:VK)(_E:XK):Prop
 | mk(x h:Addr)(m n:Int)(ts:List Str)(h0:vs=[.ref x])(h1:PotAt a H x h m n ts)(h2:Q (.int (sides m n)) H):spSides a vs H Q _E
inductive spThings(a:Ad)(vs:List V)(H:Hp)(Q:VK)(_E:XK):Prop
 | mk(x h:Addr)(m n:Int)(ts:List Str)(h0:vs=[.ref x])(h1:PotAt a H x h m n ts)(h2:∀ H' r,Same H H'->H r=none->H' r=some (.lst (ts.map V.str))->Q (.ref r) H'):spThings a vs H Q _E
inductive spCame(a:Ad)(vs:List V)(H:Hp)(Q:VK)(_E:XK):Prop
 | mk(x h:Addr)(m n:Int)(ts:List Str)(h0:vs=[.ref x])(h1:PotAt a H x h m n ts)(h2:Q (.int n) H):spCame a vs H Q _E
inductive spI1(c:Addr)(f1:Str)(vs:List V)(H:Hp)(Q:VK)(_E:XK):Prop
 | mk(x:Addr)(m:Int)(h0:vs=[.ref x,.int m])(h1:H x=some (.ext (XD0 x c)))(h2:∀ dx,H dx=none->dx≠x->Q .non (upd (upd H dx (.ext (XDct dx [(f1,.int m)]))) x (.ext (XD1 x c dx)))):spI1 c f1 vs H Q _E
theorem wC{c:Addr}{a:Str}:∀ vs H Q E,spI1 c a vs H Q E->vs.length<=100:=by
 rintro _ _ _ _ ⟨_,_,rfl,_⟩;exact(by decide:2<=100)
section
variable {P:Program}{w:World}{K:Frag}{mg:Str->Option Value}{base:Heap}{a:Ad}
theorem wv(T:Txt K mg a):FnOk P w K mg base CX0 1 a.f_H a.d_H ["_law_script","_law_k"] (spCell K):=by
 refine T.F_H.ok lu (λi H Q E h=>?_) (λcdv A outer s H i Q E hr h=>?_)
 .obtain⟨p,b,k,rfl,_⟩:=h;rfl
 .obtain⟨p,b,k,rfl,f,o,l,n,q⟩:=h
  refine⟨_,(af (ba (aM j3 (vr 1) (av aQ rfl T.z_len cf (aa (vr 0) ae)) (au _)) (ak (ax (aI aB (vr 0) (vr 1) (λ_ _=>rfl)))) aD) (ak (ax ah))),qu ?_⟩;intro g;refine⟨b.map V.int,.inl f,?_⟩;rw[length_map];unfold qK at q;refine Ba (λc=>?_) (λc=>?_)
  .have d:k<(b.length:Int):=of_decide_eq_true c
   rw[if_pos d]at q;refine .inl ⟨p,_,k,.int (b.getD k.toNat 0),rfl,rfl,f,?_,q⟩;have e:((k.toNat:Nat):Int)=k:=by omega
   rw[<- e];refine dH ?_;have j:k.toNat<b.length:=by omega
   rw[e];simp[List.getElem?_map,List.getD,j]
  .have d:¬k<(b.length:Int):=λz=>c (decide_eq_true z)
   rw[if_neg d]at q;exact q
theorem za(T:Txt K mg a):FnOk P w K mg base CX0 1 a.f_aa a.d_aa ["_law_cell","_law_k"] spMix:=by
 refine T.F_aa.ok sc_aa (λf H Q E h=>?_) (λcdv A outer s H f Q E hr h=>?_)
 .obtain⟨c,k,rfl,_⟩:=h;rfl
 .obtain⟨c,k,rfl,g,j,q⟩:=h
  refine⟨_,(af (aw (i:=2) sc_aa.nd rfl (Or.inl rfl) (ar dD (ar cY (ar b7 (ar b7 (ar dD (vr 0) ah) (ar cY ah (vr 1))) ah) ah) ah)) (af (aw (i:=2) sc_aa.nd rfl (Or.inl rfl) (ar dD (ar cY (vr 2) (vr 2)) ah)) (ak (ax (ar dD (ar cY (vr 2) (ar b7 (vr 2) ah)) ah))))),iE ?_⟩;intro b d;exact⟨cp,clB,crB,cp,clB (by omega) (by omega),cp,clB (by omega) (by omega),cp,q _ (by omega)⟩
theorem pj(T:Txt K mg a):FnOk P w K mg base CX0 2 a.f_z a.d_z ["_law_cell","_law_digits","_law_bases"] (spNumbers K):=by
 have z:FnOk P w K mg base CX0 1 _ _ _ spMix:=za T;refine T.F_z.ok sc_z (λvs H Q E h=>?_) (λcdv A outer s H vs Q E hr h=>?_)
 .obtain⟨c,d,p,j,rfl,_⟩:=h;rfl
 .obtain⟨c,d,n,j,rfl,I,Z,L,q⟩:=h
  refine⟨_,(af (aw (i:=3) sc_z.nd rfl (Or.inl rfl) (aR ae)) (af (fK PassesOwn.never rfl (qR rfl T.z_enumerate (aa (vr 2) ae)) (gA rfl (aE (ay (i:=4) sc_z.nd rfl (Or.inl rfl)) (aE (ay (i:=5) sc_z.nd rfl (Or.inl rfl)) cJ))) (ak (ba (dR (vr 1)) (af (bA (pe_m.append (vr 3) (aa (ar dD (vr 0) (vr 5)) ae))) (ak (aw (i:=0) sc_z.nd rfl (Or.inl rfl) (ar fR (vr 0) (vr 5))))) (ak (bA (pe_m.append (vr 3) (aa (ar dD (aq z hr rfl T.m_aa T.F_aa.kp T.B_aa .nil ao (aa (vr 0) (aa (ar b7 ah (vr 4)) ae))) (vr 5)) ae))))))) (ak (ax (vr 3))))),iE ?_⟩;intro al ab;have sl:sizeLine=16777216:=sizeLine_eq;refine⟨Nat.zero_le _,λp G=>?_⟩;have W:n≠p:=aF I G
  let Pw1:PvS:=λi F k=>i<=j.length/\∃(l:Int) (f:List Int) (D y:Option V),Same H k/\k p=some (.lst (f.map V.int))/\Below (j.take i) f/\F=[some (.int l),some (.bl d),some (.ref n),some (.ref p),D,y]
  refine⟨n,_,rfl,by rw[ag W];exact I,mM (a:=n) (xs:=j.map V.int) Pw1 ⟨Nat.zero_le _,c,[],none,none,Same.new G,ad,by rw[take_zero];exact .nil,rfl⟩ (λi F k h=>by obtain⟨_,_,_,_,_,B,_⟩:=h;exact B _ _ I) ?_ ?_⟩
  .rintro i x F k R N ⟨hi,l,f,D,y,B,S,C,rfl⟩ O
   have u:i<j.length:=by have:=(List.getElem?_eq_some_iff.mp N).1;rw[length_map]at this;exact this
   obtain⟨b,hbi⟩:∃ b,j[i]? = some b:=⟨_,List.getElem?_eq_getElem u⟩
   have ex:x=.int b:=by rw[List.getElem?_map,hbi]at N;cases N;rfl
   subst ex;obtain⟨b0,b1⟩:=L b (List.mem_of_getElem? hbi);have et:j.take (i+1)=j.take i++[b]:=by rw[take_add_one,hbi];rfl
   have nl:f.length=i:=by rw[<- Paired.length C,length_take];omega
   have Y:(f.map V.int).length<sizeLine:=by rw[length_map];omega
   have X:Same k (upd k R (.tup [.int (i:Nat),.int b])):=Same.new O;have g:=X _ _ S;have em:∀ v:Int,(f.map V.int)++[V.int v]=(f++[v]).map V.int:=λv=>by rw[map_append];rfl
   refine⟨R,_,rfl,SqT.of ad,rfl,_,_,rfl,_,_,rfl,rfl,?_⟩;generalize upd k R (.tup [.int (i:Nat),.int b])=H2 at X g
   obtain⟨ns0,hns0⟩:∃ ns0,ns0=f.map V.int:=⟨_,rfl⟩
   have o:∀(M v:Int),0<=v->v<b->i+1<=j.length/\∃(l:Int) (f:List Int) (D y:Option V),Same H (upd H2 p (.lst (ns0++[V.int v])))/\(upd H2 p (.lst (ns0++[V.int v]))) p=some (.lst (f.map V.int))/\Below (j.take (i+1)) f/\[some (V.int M),some (.bl d),some (.ref n),some (.ref p),some (.int (i:Nat)),some (.int b)]=[some (.int l),some (.bl d),some (.ref n),some (.ref p),D,y]:=λM v v0 v1 =>
    ⟨u,M,f++[v],_,_,(B.trans X).put G,by rw[<- em,<- hns0];exact ad,by rw[et];exact C.snoc ⟨v0,v1⟩,rfl⟩
   cases d with
   | true =>
    refine⟨.inl ⟨rfl,_,SqL.of g⟩,⟨cp (by omega),⟨p,_,_,rfl,rfl,g,Y,⟨cdB (by omega) (show Bt 30 b by unfold Bt;omega),?_⟩⟩⟩⟩;rw[<- hns0];exact o _ _ (Int.emod_nonneg _ (by omega)) (Int.emod_lt_of_pos _ (by omega))
   | false =>
    refine⟨.inl ⟨rfl,_,SqL.of g⟩,⟨l,_,rfl,by omega,by omega,λr r0=>⟨cp (by omega),⟨p,_,_,rfl,rfl,g,Y,?_⟩⟩⟩⟩;rw[<- hns0];exact o _ _ (Int.emod_nonneg _ (by omega)) (Int.emod_lt_of_pos _ (by omega))
  .rintro F k ⟨_,l,f,D,y,B,S,C,rfl⟩
   rw[length_map,take_of_length_le (Nat.le_refl _)]at C;exact q _ p f B G S C
theorem wy(T:Txt K mg a):FnOk P w K mg base CX0 1 a.f_I a.d_I ["text","signs","most"] spMade:=by
 refine T.F_I.ok jT (λp H Q E h=>?_) (λcdv A outer s H p Q E hr h=>?_)
 .obtain⟨t,rfl,_⟩:=h;rfl
 .obtain⟨t,rfl,r,q⟩:=h
  refine⟨_,(ak (ax (iJ (pR sx sx ah (av aQ rfl T.z_len cf (aa (vr 0) ae)) (vr 2)) (gB (av (rk rfl) rfl T.z_all yC (aa (cE rfl (N:=["sign","signs"]) (ix:=[none,some 1]) ⟨rfl,rfl,rfl,rfl,⟨rfl,rfl,rfl,trivial⟩⟩ (b9 (vr 0)) ⟨λC s H j=>ay (i:=0) (show List.Nodup (["sign","signs"]:List Str) by decide +kernel) rfl (Or.inl rfl),λC s H j=>ce,λC s H j=>(bz Ae (vr 0) (vr 1) (by with_unfolding_all rfl))⟩) ae)))))),?_⟩
  have k:∀ b,Same H b->¬(1<=t.cps.size/\t.cps.size<=8)->Q (.bl false) b:=λb e c=>by
   have:=q b e;unfold eY at this;rw[decide_eq_false c]at this;exact this
  refine⟨r,?_⟩;refine ifC (λf=>?_) (λf=>(k H (Same.refl H) λz=>f (by show(1:Int)<=((t.cps.size:Nat):Int);omega)));refine ifC (λg=>?_) (λg=>k H (Same.refl H) λz=>g (by show((t.cps.size:Nat):Int)<=8;omega))
  have c:1<=t.cps.size/\t.cps.size<=8:=⟨by have:(1:Int)<=((t.cps.size:Nat):Int):=f;omega,by have:((t.cps.size:Nat):Int)<=8:=g;omega⟩
  intro D l;refine uZ (λi d b=>b=upd H D (.lst d)/\d=(t.cps.toList.take i).map λc=>V.bl (decide (97<=c/\c<=122))) ⟨rfl,rfl⟩ (λi d b ⟨e,_⟩=>by rw[e];exact ad) ?_ ?_
  .rintro i c d b P v ⟨rfl,rfl⟩ o
   refine⟨⟨rfl,trivial⟩,?_⟩;have u:t.cps.toList[i]? = some c:=by simpa using v
   refine⟨ad,?_,o _ _ ⟨vz,?_⟩⟩
   .rw[length_map,length_take]
    have:sizeLine=16777216:=sizeLine_eq;have:t.cps.toList.length=t.cps.size:=by simp
    omega
   .rw[take_add_one,u,map_append]
    show _=_++[V.bl (decide (97<=c/\c<=122))]
    congr 2
    show V.bl (!(Builtin.Str.occurrences _ _ 0 _ 1).isEmpty)=_;rw[PySem.StrLaws.found_one]
    congr 1
    rw[Bool.eq_iff_iff,decide_eq_true_eq,decide_eq_true_eq];exact jV c
  .rintro d b ⟨rfl,rfl⟩
   refine⟨D,_,t.cps.toList.map λc=>decide (97<=c/\c<=122),rfl,SqL.of ad,?_,?_⟩
   .rw[map_map,take_of_length_le (by simp)]
    rfl
   .have n:(t.cps.toList.map λc=>decide (97<=c/\c<=122)).all id=eY t:=by
     unfold eY;rw[decide_eq_true c,Bool.true_and,all_map];rfl
    rw[n];exact q _ (Same.new l)
theorem ji(T:Txt K mg a):FnOk P w K mg base CX0 1 a.f_E a.d_E ["thing","low","high"] spWhole:=by
 refine T.F_E.ok mK (λg H Q E h=>?_) (λcdv A outer s H g Q E hr h=>?_)
 .obtain⟨x,d,f,o,rfl,_⟩:=h;rfl
 .obtain⟨x,d,f,o,rfl,c,q⟩:=h
  refine⟨_,(ak (ax (iJ (av jH rfl T.z_isinstance d8 (aa (vr 0) (aa (lV (v:=.ty "int") rfl T.z_int gw rfl) ae))) (iJ (zR (av jH rfl T.z_isinstance d8 (aa (vr 0) (aa (lV (v:=.ty "bool") rfl T.z_bool vZ rfl) ae)))) (gB (pR sx sx (vr 1) (vr 0) (vr 2))))))),?_⟩;cases c with
  | int i =>
   refine⟨_,_,_,true,rfl,rfl,.int i,rfl,?_⟩;refine⟨_,_,_,false,rfl,rfl,.int i,rfl,?_⟩;exact yt (Q:=λv=>Q v H) q
  | bl b=>exact⟨_,_,_,true,rfl,rfl,.bl b,rfl,⟨_,_,_,true,rfl,rfl,.bl b,rfl,q⟩⟩
  | non=>exact⟨_,_,_,false,rfl,rfl,.non,rfl,q⟩
  | str t h h2=>exact⟨_,_,_,false,rfl,rfl,.str t,rfl,q⟩
  | lst p xs e=>exact⟨_,_,_,false,rfl,rfl,.lst e,rfl,q⟩
  | tup p xs e=>exact⟨_,_,_,false,rfl,rfl,.tup e,rfl,q⟩
  | dK p e=>exact⟨_,_,_,false,rfl,rfl,.dK e,rfl,q⟩
theorem vG(T:Txt K mg a):FnOk P w K mg base CX0 2 a.f_X a.d_X ["thing"] spName:=by
 have c:FnOk P w K mg base CX0 1 _ _ _ spMade:=wy T;refine T.F_X.ok oW (λf H Q E h=>?_) (λcdv A outer s H f Q E hr h=>?_)
 .obtain⟨x,k,rfl,_⟩:=h;rfl
 .obtain⟨x,k,rfl,d,q⟩:=h
  refine⟨_,(ak (ax (iJ (av jH rfl T.z_isinstance d8 (aa (vr 0) (aa (lV (v:=.ty "str") rfl T.z_str yN rfl) ae))) (gB (aq c hr rfl T.m_I T.F_I.kp T.B_I .nil ao (aa (vr 0) (aa (kH rfl T.g_LETTERS) (aa (kH rfl T.g_MOST_LETTERS) ae)))))))),?_⟩;have g:sizeLine=16777216:=sizeLine_eq;cases d with
  | int i=>exact⟨_,_,_,false,rfl,rfl,.int i,rfl,q _ (Same.refl H)⟩
  | bl b=>exact⟨_,_,_,false,rfl,rfl,.bl b,rfl,q _ (Same.refl H)⟩
  | non=>exact⟨_,_,_,false,rfl,rfl,.non,rfl,q _ (Same.refl H)⟩
  | str t h h2=>exact⟨_,_,_,true,rfl,rfl,.str t,rfl,⟨t,rfl,by omega,q⟩⟩
  | lst p xs e=>exact⟨_,_,_,false,rfl,rfl,.lst e,rfl,q _ (Same.refl H)⟩
  | tup p xs e=>exact⟨_,_,_,false,rfl,rfl,.tup e,rfl,q _ (Same.refl H)⟩
  | dK p e=>exact⟨_,_,_,false,rfl,rfl,.dK e,rfl,q _ (Same.refl H)⟩
theorem gL(T:Txt K mg a):FnOk P w K mg base CX0 1 a.x_h a.y_h ["self"] (spSides a):=by
 refine T.F_h.ok gI (λf H Q E h=>?_) (λcdv A outer s H f Q E hr h=>?_)
 .obtain⟨x,h,m,n,g,rfl,_⟩:=h;rfl
 .obtain⟨x,h,m,n,g,rfl,⟨⟨d,b⟩,i⟩,q⟩:=h
  refine⟨_,(ak (ax (u9 (aM j3 (bN (vr 0) rfl) (bN (vr 0) rfl) (au _)) ah (ar b7 (bN (vr 0) rfl) ah)))),?_⟩;refine⟨x,_,d,_,_,rfl,b,T.cl_c,T.na_Pot_seen,rfl,?_⟩;refine⟨x,_,d,_,_,rfl,b,T.cl_c,T.na_Pot_most,rfl,?_⟩;unfold sides at q;refine ifC (λc=>?_) (λc=>?_)
  .rw[if_pos c]at q;exact q
  .rw[if_neg c]at q
   exact⟨x,_,d,_,_,rfl,b,T.cl_c,T.na_Pot_seen,rfl,q⟩
theorem fW(T:Txt K mg a):FnOk P w K mg base CX0 1 a.x_f a.y_f ["self"] (spThings a):=by
 refine T.F_f.ok jZ (λf H Q E h=>?_) (λcdv A outer s H f Q E b h=>?_)
 .obtain⟨x,h,m,n,i,rfl,_⟩:=h;rfl
 .obtain⟨x,h,m,n,i,rfl,⟨⟨g,d⟩,c⟩,q⟩:=h
  refine⟨_,(ak (ax (aN eU rfl T.z_list fN (aa (bN (vr 0) rfl) ae)))),?_⟩;refine⟨x,_,g,_,_,rfl,d,T.cl_c,T.na_Pot_held,rfl,?_⟩;exact⟨h,_,rfl,.inl (SqL.of c),λr b=>q _ r (Same.new b) b ad⟩
theorem gR(T:Txt K mg a):FnOk P w K mg base CX0 1 a.x_b a.y_b ["self"] (spCame a):=by
 refine T.F_b.ok mR (λc H Q E h=>?_) (λcdv A outer s H c Q E hr h=>?_)
 .obtain⟨x,h,m,n,f,rfl,_⟩:=h;rfl
 .obtain⟨x,h,m,n,f,rfl,⟨⟨d,b⟩,g⟩,q⟩:=h
  refine⟨_,(ak (ax (bN (vr 0) rfl))),?_⟩;exact⟨x,_,d,_,_,rfl,b,T.cl_c,T.na_Pot_seen,rfl,q⟩
theorem gE(T:Txt K mg a):FnOk P w K mg base CX0 1 a.i_a a.e_a ["self","place"] (spI1 a.c_a "place"):=by
 refine T.Fi_a.ok gm (λf H Q E h=>?_) (λcdv A outer s H f Q E hr h=>?_)
 .obtain⟨x,m,rfl,_⟩:=h;rfl
 .obtain⟨x,m,rfl,d,q⟩:=h
  obtain⟨c,j⟩:=T.sx_NoThrow_place;refine⟨_,(ak (wV (vr 0) (vr 1) rfl)),?_⟩;exact⟨x,a.c_a,c,rfl,j,.inl ⟨d,λg i b=>q g i b⟩⟩
theorem wx(T:Txt K mg a):FnOk P w K mg base CX0 1 a.f_N a.d_N ["held","most","thing","throw"] spHeld:=by
 refine T.F_N.ok lW (λG H Q E h=>?_) (λcdv A outer s H G Q E hr h=>?_)
 .obtain⟨h,m,l,t,b,rfl,_⟩:=h;rfl
 .obtain⟨h,m,l,t,b,rfl,j,M,Y,t0,N,q⟩:=h
  refine⟨_,(af (ba (aM j3 (av aQ rfl T.z_len cf (aa (vr 0) ae)) (vr 1) (au _)) (ak (ax (ar dL (vr 0) (aR (aa (vr 2) ae))))) aD) (af (ba (aM j3 (vr 3) (vr 1) (au _)) (ak (ax (ar dL (ar dL (gH i7 (vr 0) lT (gO (vr 3))) (aR (aa (vr 2) ae))) (gH i7 (vr 0) (gO (ar b7 (vr 3) ah)) lT)))) aD) (ak (ax (vr 0))))),iE ?_⟩;intro S O;have Z:sizeLine=16777216:=sizeLine_eq;unfold iN at q;refine⟨_,.inl (SqL.of j),?_⟩;refine ifC (λc=>?_) (λc=>?_)
  .rw[if_pos c]at q
   refine⟨(by decide:1<=sizeLine),λy f=>?_⟩;have n:=Same.new (o:=.lst [t]) f;refine⟨h,y,_,_,rfl,rfl,n _ _ j,ad,by show _+1<=_;omega,λr d=>?_⟩;refine q _ r (n.trans (Same.new d)) ?_ (.inr (n.free d));rw[ad]
  .rw[if_neg c]at q
   refine ifC (λp=>?_) (λp=>?_)
   .rw[if_pos p]at q
    have B:l.toNat<b.length:=by have z1:l<m:=p;have z2:¬((b.length:Int)<m):=c;omega
    obtain⟨k,rfl⟩:∃ k:Nat,l=(k:Int):=⟨l.toNat,by omega⟩
    have X:k<b.length:=by omega
    refine⟨_,rfl,h,_,rfl,SqL.of j,λy f=>?_⟩;have F:dY b none (some (k:Int))=b.take k:=rP _ k (by omega);rw[F];have n:=Same.new (o:=.lst (b.take k)) f;refine⟨(by decide:1<=sizeLine),λr d=>?_⟩;have z:=Same.new (o:=.lst [t]) d;refine⟨y,r,_,_,rfl,rfl,z _ _ ad,ad,by rw[length_take];show _+1<=_;omega,λR v=>?_⟩;have I:=Same.new (o:=.lst (b.take k++[t])) v;have g:=(n.trans z).trans I;refine⟨_,rfl,h,_,rfl,SqL.of (g _ _ j),λW x=>?_⟩;have C:dY b (some ((k:Int)+1)) none=b.drop (k+1):=kj b (k+1);rw[C];have u:=Same.new (o:=.lst (b.drop (k+1))) x;refine⟨R,W,_,_,rfl,rfl,u _ _ ad,ad,by rw[length_append,length_take,length_drop];show _+1+_<=_;omega,λL i=>?_⟩;refine q _ L ((g.trans u).trans (Same.new i)) ?_ (.inr ((g.trans u).free i));have D:b.set k t=b.take k++[t]++b.drop (k+1):=by rw[List.set_eq_take_append_cons_drop,if_pos X,append_assoc];rfl
    rw[ad,show((k:Int)).toNat=k from rfl,D]
   .rw[if_neg p]at q
    exact q _ h (Same.refl H) j (.inl rfl)
end
def wX(a:Ad)(H:Hp)(E:XK):Prop:=∀ H',Same H H'->E (.ref a.c_n) none H'
def Al(a:Ad)(H:Hp)(E:XK):Prop:=∀ H',Same H H'->E (.ref a.c_m) none H'
def AK(a:Ad)(H:Hp)(E:XK):Prop:=∀ H' dx,Same H H'->H' dx=some (.ext (XDct dx [("place",.int 0)]))->E (.ref a.c_a) (some dx) H'
def txK:Kd->Str
 | .s t=>t
 | _ => ""
def inI:Kd->Int
 | .i n=>n
 | _=>0
def sK(a:Ad):Sp:=λvs H Q E=>∃(x h:Addr) (m n:Int) (ts:List Str) (v u:V) (k j:Kd),vs=[.ref x,v,u]/\PotAt a H x h m n ts/\Okp m n ts/\Thg H v k/\Thg H u j/\(nmK k=false->wX a H E)/\(nmK k=true->n=300->Al a H E)/\(nmK k=true->n<300->inK 0 (sides m n - 1) j=false->AK a H E)/\(nmK k=true->n<300->inK 0 (sides m n - 1) j=true->∀ H' h',SB x H H'->PotAt a H' x h' m (n+1) (nxt m ts (txK k) (inI j))->(h'=h\/H h'=none)->Q .non H')
def qf(a:Ad):Sp:=λvs H Q _=>∃(x dx:Addr) (m:Int),vs=[.ref x,.int m]/\H x=some (.ins a.c_c dx [])/\1<=m/\m<=24/\∀ H' h,(∀ b o,b≠x->H b=some o->H' b=some o)->H h=none->PotAt a H' x h m 0 []->Q .non H'
section
variable {P:Program}{w:World}{K:Frag}{mg:Str->Option Value}{base:Heap}{a:Ad}
theorem xJ{a:Ad}{H:Hp}{E:XK}{c:Addr}{f:Hp}(s:Same f H)(q:∀ H',Same f H'->E (.ref c) none H'):∀ x,H x=none->E (.ref c) none (untr (upd H x (.ext (XD0 x c))) x):=λx g=>q _ λb o e=>by
 have d:b≠x:=λz=>by have:=s _ _ e;rw[z,g]at this;cases this
 rw[bC d,ag d];exact s _ _ e
theorem iV(T:Txt K mg a):FnOk P w K mg base (CXG P w) 4 a.x_v a.y_v ["self","thing","throw"] (sK a):=by
 have L:FnOk P w K mg base CX0 3 _ _ _ _:=(vG T).mono (by decide);have N:FnOk P w K mg base CX0 3 _ _ _ _:=(ji T).mono (by decide);have S:FnOk P w K mg base CX0 3 _ _ _ _:=(wx T).mono (by decide);have I:FnOk P w K mg base CX0 3 _ _ _ _:=(gL T).mono (by decide);have M:FnOk P w K mg base CX0 2 _ _ _ _:=(gE T).mono (by decide);refine T.F_v.okG oj (λvs H Q E h=>?_) (λcdv A outer s H vs Q E hr h=>?_)
 .obtain⟨x,h,m,n,R,v,u,k,j,rfl,_⟩:=h;rfl
 .obtain⟨x,h,m,n,R,v,u,k,j,rfl,hp,ok,tv,Y,q1,q2,q3,q4⟩:=h
  refine⟨_,(af (ba (dF (dR (aq L hr rfl T.m_X T.F_X.kp T.B_X .nil ao (aa (vr 1) ae)))) (ak (cI T.xc_n T.xh_n (gZ T.xi_NoThing T.kc_NoThing rfl T.mc_n))) aD) (af (ba (aM vC (bN (vr 0) rfl) (kH rfl T.g_MOST_COME) (au _)) (ak (cI T.xc_m T.xh_m (gZ T.xi_TooMany T.kc_TooMany rfl T.mc_m))) aD) (af (ba (dF (dR (aq N hr rfl T.m_E T.F_E.kp T.B_E .nil ao (aa (vr 2) (aa ah (aa (ar gv (ap (vr 0) T.cl_c T.mt_h I hr T.B_h .nil ao) ah) ae)))))) (ak (cI T.xc_a T.xh_a (lC T.xi_NoThrow T.kc_NoThrow T.fn_NoThrow M hr rfl T.mc_a T.Bi_a (aa ah ae) wC))) aD) (af (fj (vr 0) (aq S hr rfl T.m_N T.F_N.kp T.B_N .nil ao (aa (bN (vr 0) rfl) (aa (bN (vr 0) rfl) (aa (vr 1) (aa (vr 2) ae))))) rfl) (ak (rH (vr 0) ah yX)))))),qD ?_⟩;intro as ab an al;refine⟨v,k,rfl,tv,λH1 d=>?_⟩;have D:=hp.same d;obtain⟨⟨p,f⟩,O⟩:=id D;obtain⟨o1,o2,o3,o4,o5⟩:=id ok;cases e1:nmK k with
  | false =>
   intro y q;refine⟨y,none,_,rfl,ad,λh z=>z,d.free q,q1 e1 _ λb o e=>?_⟩;have g:b≠y:=λz=>by have:=d _ _ e;rw[z,q]at this;cases this
   rw[bC g,ag g];exact d _ _ e
  | true =>
   refine⟨x,_,p,_,_,rfl,f,T.cl_c,T.na_Pot_seen,rfl,?_⟩;refine ifC (λc=>?_) (λc=>?_)
   .have F:n=300:=by have z:n >= 300:=c;lia
    intro y q;refine⟨y,none,_,rfl,ad,λh z=>z,d.free q,q2 e1 F _ λb o e=>?_⟩;have g:b≠y:=λz=>by have:=d _ _ e;rw[z,q]at this;cases this
    rw[bC g,ag g];exact d _ _ e
   .have F:n<300:=by have z:¬n >= 300:=c;lia
    refine⟨x,p,_,rfl,f,rfl,⟨x,h,m,n,R,rfl,D,?_⟩⟩;refine⟨u,0,_,j,rfl,Y.same d,?_⟩;cases e2:inK 0 (sides m n - 1) j with
    | false =>
     intro y q;refine⟨y,0,rfl,ad,λG Z r=>⟨rfl,y,some G,_,rfl,ad,λh z=>z,d.free q,?_⟩⟩;have W:H1 G=none:=by rw[ag r]at Z;exact Z
     refine q3 e1 F e2 _ G (λb o e=>?_) ?_
     .have C:=d _ _ e
      have g:b≠y:=λz=>by rw[z,q]at C;cases C
      have b2:b≠G:=λz=>by rw[z,W]at C;cases C
      rw[bC g,ag g,ag b2,ag g];exact C
     .rw[bC r,ag r]
      exact ad
    | true =>
     obtain⟨i,rfl⟩:∃ i,j=.i i:=by cases j with | i n=>exact⟨n,rfl⟩ | s t=>cases e2 | o=>cases e2
     obtain⟨t,rfl⟩:∃ t,k=.s t:=by cases k with | s t=>exact⟨t,rfl⟩ | i n=>cases e1 | o=>cases e1
     cases Y;cases tv;have hi:0<=i/\i<=sides m n - 1:=of_decide_eq_true e2;refine⟨x,_,p,_,_,rfl,f,T.cl_c,T.na_Pot_held,rfl,?_⟩;refine⟨x,_,p,_,_,rfl,f,T.cl_c,T.na_Pot_most,rfl,?_⟩;refine⟨h,m,i,.str t,R.map V.str,rfl,O,by rw[length_map];split at o5 <;> lia,o2,hi.1,by rw[length_map];split at o5 <;> lia,λH2 h' s2 l hf=>?_⟩;rw[wG]at l;have B:=s2 _ _ f;have nx:h'≠x:=λz=>by rw[z,B]at l;cases l
     refine⟨x,_,p,_,rfl,B,T.cl_c,T.na_Pot_held,by show 3<1000;decide,?_⟩;refine⟨x,_,p,_,_,rfl,ad,T.cl_c,T.na_Pot_seen,rfl,?_⟩;refine⟨_,_,rfl,rfl,⟨p,_,ad,by show 3<1000;decide,?_⟩⟩;refine q4 e1 F e2 _ h' (λb o X e=>?_) ⟨⟨p,ad⟩,?_⟩ ?_
     .rw[ag X,ag X];exact s2 _ _ (d _ _ e)
     .rw[ag nx,ag nx];exact l
     .rcases hf with hf | hf
      .exact .inl hf
      .exact .inr (d.free hf)
theorem pi(T:Txt K mg a):FnOk P w K mg base CX0 3 a.i_c a.e_c ["self","most"] (qf a):=by
 have g:FnOk P w K mg base CX0 2 _ _ _ _:=(ji T).mono (by decide);refine T.Fi_c.ok iO (λu H Q E h=>?_) (λcdv A outer s H u Q E hr h=>?_)
 .obtain⟨x,c,m,rfl,_⟩:=h;rfl
 .obtain⟨x,c,m,rfl,r,v,j,q⟩:=h
  refine⟨_,(af (ba (dF (dR (aq g hr rfl T.m_E T.F_E.kp T.B_E .nil ao (aa (vr 1) (aa ah (aa (kH rfl T.g_MOST_KEPT) ae)))))) (ak uB) aD) (af (fj (vr 0) (vr 1) rfl) (af (fj (vr 0) ah rfl) (ak (fj (vr 0) (aR ae) rfl))))),jz ?_⟩;intro y n p;refine⟨_,1,24,_,rfl,.int m,?_⟩;have e:inK 1 24 (.i m)=true:=decide_eq_true ⟨v,j⟩;rw[e];refine⟨x,_,c,_,rfl,r,T.cl_c,T.na_Pot_most,by decide,?_⟩;refine⟨x,_,c,_,rfl,ad,T.cl_c,T.na_Pot_seen,by show 1<1000;decide,?_⟩;refine⟨Nat.zero_le _,λh d=>?_⟩;have f:x≠h:=λz=>by rw[<- z,ad]at d;cases d
  refine⟨x,_,c,_,rfl,by rw[ag f];exact ad,T.cl_c,T.na_Pot_held,by show 2<1000;decide,?_⟩;have k:H h=none:=by rw[ag (Ne.symm f),ag (Ne.symm f)]at d;exact d
  refine q _ h (λb o i e=>?_) k ⟨⟨c,ad⟩,by rw[ag (Ne.symm f)];exact ad⟩;have l:b≠h:=λz=>by rw[z,k]at e;cases e
  rw[ag i,ag l,ag i,ag i];exact e
end
open Tb (Tr)
inductive spNA(a:Ad)(vs:List V)(H:Hp)(Q:VK)(E:XK):Prop
 | mk(x h y h2:Addr)(m n m2 n2:Int)(ts ts2:List Str)(h0:vs=[.ref x,.ref y])(h1:PotAt a H x h m n ts)(h2:PotAt a H y h2 m2 n2 ts2)(h3:(m=m2->Q .non H))(h4:(m≠m2->wX a H E)):spNA a vs H Q E
section
variable {P:Program}{w:World}{K:Frag}{mg:Str->Option Value}{base:Heap}{a:Ad}
theorem mQ(T:Txt K mg a):FnOk P w K mg base (CXG P w) 1 a.f_C a.d_C ["one","other"] (spNA a):=by
 refine T.F_C.okG j0 (λu H Q E h=>?_) (λcdv A outer s H u Q E hr h=>?_)
 .obtain⟨x,h,y,o,m,n,c,l,B,d,rfl,_⟩:=h;rfl
 .obtain⟨x,h,y,o,m,n,c,l,B,d,rfl,C,f,q,v⟩:=h
  refine⟨_,(ak (ba (aM nE (bN (vr 0) rfl) (bN (vr 1) rfl) (au _)) (ak (cI T.xc_n T.xh_n (gZ T.xi_NoThing T.kc_NoThing rfl T.mc_n))) aD)),?_⟩;obtain⟨⟨r,p⟩,_⟩:=id C;obtain⟨⟨k,j⟩,_⟩:=id f;refine⟨x,_,r,_,_,rfl,p,T.cl_c,T.na_Pot_most,rfl,?_⟩;refine⟨y,_,k,_,_,rfl,j,T.cl_c,T.na_Pot_most,rfl,?_⟩;refine ifB (λz=>?_) λz=>?_
  .have z:(!decide (m=c))=true:=z
   have g:m≠c:=λe=>by rw[decide_eq_true e]at z;cases z
   exact λi b=>⟨i,none,_,rfl,ad,λh z=>z,b,xJ (a:=a) (Same.refl H) (v g) i b⟩
  .have z:(!decide (m=c))=false:=z
   have g:m=c:=Classical.byContradiction λe=>by rw[decide_eq_false e]at z;cases z
   exact q g
end
open Tb (Tr)
inductive spInto(a:Ad)(K:Frag)(vs:List V)(H:Hp)(Q:VK)(E:XK):Prop
 | mk(x h y h2 lk:Addr)(m n m2 n2:Int)(ts ts2:List Str)(ks:List Int)(h0:vs=[.ref x,.ref y,.ref lk])(h1:PotAt a H x h m n ts)(h2:PotAt a H y h2 m2 n2 ts2)(h3:1<=m)(h4:m<=24)(h5:ts.length<=24)(h6:ts2.length<=24)(h7:SqT K H lk (ks.map V.int))(h8:ks.length<=24)(h9:(∀ k∈ks,0<=k/\k<((ts++ts2).length:Int)))(h10:(m≠m2->wX a H E))(h11:(m=m2->300<n+n2->Al a H E))(h12:(m=m2->n+n2<=300->∀ H' z hz,Same H H'->H z=none->H hz=none->PotAt a H' z hz m (n+n2) (ks.map λk=>(ts++ts2).getD k.toNat "")->Q (.ref z) H')):spInto a K vs H Q E
theorem fX{H:Hp}{x dx:Addr}{C:Addr}(d:H x=none)(a:H dx=none):Same H (upd (upd H dx (.own x)) x (.ins C dx [])):=λb o e=>by
 have c:b≠x:=λz=>by rw[z,d]at e;cases e
 have f:b≠dx:=λz=>by rw[z,a]at e;cases e
 rw[ag c,ag f];exact e
section
variable {P:Program}{w:World}{K:Frag}{mg:Str->Option Value}{base:Heap}{a:Ad}
theorem iY(T:Txt K mg a):FnOk P w K mg base (CXG P w) 5 a.f_V a.d_V ["one","other","kept"] (spInto a K):=by
 have a3:FnOk P w K mg base (CXG P w) 4 _ _ _ (spNA a):=(mQ T).mono (by decide);have a1:FnOk P w K mg base CX0 3 _ _ _ _:=(pi T).mono (by decide);have F:FnOk P w K mg base CX0 4 _ _ _ _:=(gR T).mono (by decide);have S:FnOk P w K mg base CX0 4 _ _ _ _:=(fW T).mono (by decide);refine T.F_V.okG sc_V (λvs H Q E h=>?_) (λcdv A outer s H vs Q E hr h=>?_)
 .obtain⟨x,h,y,O,lk,m,n,Y,l,g,d,L,rfl,_⟩:=h;rfl
 .obtain⟨x,h,y,O,lk,m,n,Y,l,g,d,L,rfl,hp,r,m1,a2,l1,l2,hk,a9,as,q1,q2,q3⟩:=h
  have al:sizeLine=16777216:=sizeLine_eq;refine⟨_,(af (bA (aq a3 hr rfl T.m_C T.F_C.kp T.B_C .nil pG (aa (vr 0) (aa (vr 1) ae)))) (af (ba (aM jX (ar b7 (ap (vr 0) T.cl_c T.mt_b F hr T.B_b .nil ao) (ap (vr 1) T.cl_c T.mt_b F hr T.B_b .nil ao)) (kH rfl T.g_MOST_COME) (au _)) (ak (cI T.xc_m T.xh_m (gZ T.xi_TooMany T.kc_TooMany rfl T.mc_m))) aD) (af (aw (i:=3) sc_V.nd rfl (Or.inr rfl) (ar dL (ap (vr 0) T.cl_c T.mt_f S hr T.B_f .nil ao) (ap (vr 1) T.cl_c T.mt_f S hr T.B_f .nil ao))) (af (aw (i:=4) sc_V.nd rfl (Or.inl rfl) (eN T.mk_c a1 hr rfl T.mc_c T.Bi_c .nil ao (aa (bN (vr 0) rfl) ae))) (af (fj (vr 4) (ar b7 (ap (vr 0) T.cl_c T.mt_b F hr T.B_b .nil ao) (ap (vr 1) T.cl_c T.mt_b F hr T.B_b .nil ao)) rfl) (af (fj (vr 4) (cE rfl (N:=["place","things"]) (ix:=[none,some 3]) ⟨rfl,rfl,rfl,rfl,⟨rfl,rfl,rfl,trivial⟩⟩ (b9 (vr 2)) ⟨λC s H fp=>ay (i:=0) (show List.Nodup (["place","things"]:List Str) by decide +kernel) rfl (Or.inl rfl),λC s H fp=>ce,λC s H fp=>(aI (i8 (K:=K) rfl) (vr 1) (vr 0) (λ_ _=>rfl))⟩) rfl) (ak (ax (vr 4))))))))),tD ?_⟩;intro bl a6 a' bm a8 a7;obtain⟨⟨dx,hx⟩,_⟩:=id hp;obtain⟨⟨dy,hy⟩,_⟩:=id r;refine⟨x,h,y,O,m,n,Y,l,g,d,rfl,hp,r,λem=>?_,λnm=>q1 nm⟩;refine⟨x,dx,_,rfl,hx,rfl,⟨x,h,m,n,g,rfl,hp,⟨y,dy,_,rfl,hy,rfl,⟨y,O,Y,l,d,rfl,r,?_⟩⟩⟩⟩;refine ifC (λc=>?_) λc=>?_
  .have c':300<n+l:=c
   exact λy3 ab=>⟨y3,none,_,rfl,ad,λh z=>z,ab,xJ (a:=a) (Same.refl H) (q2 em c') y3 ab⟩
  have c':n+l<=300:=by have z:¬300<n+l:=c;lia
  refine⟨x,dx,_,rfl,hx,rfl,⟨x,h,m,n,g,rfl,hp,λH1 r1 s1 f1 a5=>⟨y,dy,_,rfl,s1 _ _ hy,rfl,⟨y,O,Y,l,d,rfl,r.same s1,λH2 r2 s2 f2 hr2=>⟨r1,r2,_,_,rfl,rfl,s2 _ _ a5,hr2,by rw[length_map,length_map];lia,λr3 fr3=>?_⟩⟩⟩⟩⟩;have s3:=(s1.trans s2).trans (Same.new (o:=.lst (g.map V.str++d.map V.str)) fr3);have B:(upd H2 r3 (.lst (g.map V.str++d.map V.str))) r3=some (.lst ((g++d).map V.str)):=by rw[ad,map_append]
  generalize upd H2 r3 (.lst (g.map V.str++d.map V.str))=H3 at s3 B;refine⟨x,_,dx,_,_,rfl,s3 _ _ hx,T.cl_c,T.na_Pot_most,rfl,λz dz fz an nz=>⟨z,dz,m,rfl,ad,m1,a2,λH4 h4 fr4 fh4 pot4=>⟨rfl,?_⟩⟩⟩;have s4:Same H3 H4:=λb o e=>fr4 b o (λw=>by rw[w,fz]at e;cases e) (fX (C:=a.c_c) fz an b o e)
  have p:=s3.trans s4;have I:H z=none:=s3.free fz;obtain⟨⟨f,a0⟩,bg⟩:=id pot4;refine⟨x,dx,_,rfl,p _ _ hx,rfl,⟨x,h,m,n,g,rfl,hp.same p,⟨y,dy,_,rfl,p _ _ hy,rfl,⟨y,O,Y,l,d,rfl,r.same p,?_⟩⟩⟩⟩;refine⟨z,_,f,_,rfl,a0,T.cl_c,T.na_Pot_seen,by show 3<1000;decide,?_⟩;have q:Same H (upd H4 z (.ins a.c_c f (d6 "seen" (.int (n+l)) [("most",.int m),("seen",.int 0),("held",.ref h4)]))):=p.put I;have G:(upd H4 z (.ins a.c_c f (d6 "seen" (.int (n+l)) [("most",.int m),("seen",.int 0),("held",.ref h4)]))) z=some (.ins a.c_c f [("most",.int m),("seen",.int (n+l)),("held",.ref h4)]):=ad;have zr:r3≠z:=λe=>by rw[e,fz]at B;cases B
  have R:(upd H4 z (.ins a.c_c f (d6 "seen" (.int (n+l)) [("most",.int m),("seen",.int 0),("held",.ref h4)]))) r3=some (.lst ((g++d).map V.str)):=by rw[ag zr];exact s4 _ _ B
  generalize upd H4 z (.ins a.c_c f (d6 "seen" (.int (n+l)) [("most",.int m),("seen",.int 0),("held",.ref h4)]))=H5 at q G R;refine .inr ⟨⟨_,q.sqT hk⟩,λD M=>?_⟩;have zD:z≠D:=λe=>by rw[<- e,G]at M;cases M
  let Pw1:PvL:=λi zs W=>(i<=L.length)/\Same H5 W/\W D=some (.lst zs)/\zs=((L.take i).map λk=>(g++d).getD k.toNat "").map V.str
  refine nj (K:=K) (a:=lk) (xs:=L.map V.int) Pw1 ⟨Nat.zero_le _,Same.new M,ad,rfl⟩ (λi ys W h=>(q.trans h.2.1).sqT hk) (λi ys W h=>h.2.2.1) ?_ ?_
  .rintro i v zs W P' Z ⟨hi,X,u,rfl⟩ hP
   rw[List.getElem?_map]at Z;cases hw:L[i]? with
   | none=>rw[hw]at Z;cases Z
   | some k =>
    rw[hw]at Z;cases Z;have a4:i<L.length:=(List.getElem?_eq_some_iff.mp hw).1;obtain⟨k0,k1⟩:=as k (List.mem_of_getElem? hw)
    obtain⟨j,rfl⟩:∃ j:Nat,k=(j:Int):=⟨k.toNat,by lia⟩
    have jl:j<(g++d).length:=by lia
    have gj:(g++d)[j]? = some ((g++d).getD j ""):=by rw[List.getD,List.getElem?_eq_getElem jl];rfl
    refine⟨⟨rfl,trivial⟩,.inl ⟨r3,_,_,_,rfl,rfl,SqL.of (X _ _ R),dH (by rw[List.getElem?_map,gj];rfl),u,by rw[length_map,length_map,length_take];lia,hP _ _ ⟨a4,X.put M,ad,?_⟩⟩⟩;rw[take_add_one,hw];simp
  .rintro zs H6 ⟨_,X,u,rfl⟩
   rw[length_map,take_length]at u;refine⟨z,_,f,_,rfl,X _ _ G,T.cl_c,T.na_Pot_held,by show 3<1000;decide,?_⟩;exact q3 em c' _ z D ((q.trans X).put I) I (q.free M) ⟨⟨f,ad⟩,by rw[ag (Ne.symm zD)];exact u⟩
end
open Tb (Tr)
inductive spWo(vs:List V)(H:Hp)(Q:VK)(_E:XK):Prop
 | mk(p l:Addr)(c:Int)(ps:List Int)(x:Int)(h0:vs=[.ref p,.int x])(h1:H p=some (.tup [.int c,.ref l]))(h2:H l=some (.lst (ps.map V.int)))(h3:ps.length<=24)(h4:∀ H' q l',Same H H'->H q=none->H l'=none->H' q=some (.tup [.int (c - 1),.ref l'])->H' l'=some (.lst ((Tb.wo ps x).map V.int))->Q (.ref q) H'):spWo vs H Q _E
theorem qS{ps:List Int}{x y:Int}{i:Nat}(h:ps[i]? = some y):Tb.wo (ps.take (i+1)) x=Tb.wo (ps.take i) x++if y=x then [] else [y]:=by
 unfold Tb.wo;rw[take_add_one,h,filter_append]
 by_cases c:y=x <;> simp[c]
section
variable {P:Program}{w:World}{K:Frag}{mg:Str->Option Value}{base:Heap}{a:Ad}
theorem jA(T:Txt K mg a):FnOk P w K mg base CX0 1 a.f_Q a.d_Q ["pot","place"] spWo:=by
 refine T.F_Q.ok oC (λM H Q E h=>?_) (λcdv A outer s H M Q E hr h=>?_)
 .obtain⟨p,l,c,f,x,rfl,_⟩:=h;rfl
 .obtain⟨p,l,c,f,x,rfl,G,I,O,q⟩:=h
  have g:sizeLine=16777216:=sizeLine_eq;refine⟨_,(ak (ax (cK (aa (ar gv (aI aB (vr 0) ah (λ_ _=>rfl)) ah) (aa (cE rfl (N:=["left","place"]) (ix:=[none,some 1]) ⟨rfl,rfl,rfl,rfl,⟨rfl,rfl,rfl,trivial⟩⟩ (b9 (aI aB (vr 0) ah (λ_ _=>rfl))) ⟨λC s H fp=>ay (i:=0) (show List.Nodup (["left","place"]:List Str) by decide +kernel) rfl (Or.inl rfl),λC s H fp=>kN (aM nE (vr 0) (vr 1) (au _)),λC s H fp=>(vr 0)⟩) ae))))),?_⟩;refine .inr (.inl ⟨p,_,_,_,rfl,rfl,SqT.of G,aC 0 rfl rfl,?_⟩);refine .inr (.inl ⟨p,_,_,_,rfl,rfl,SqT.of G,aC 1 rfl rfl,.inl ⟨⟨_,SqL.of I⟩,λD u=>?_⟩⟩)
  let Pw1:PvL:=λi r k=>(i<=f.length)/\Same H k/\k D=some (.lst r)/\r=(Tb.wo (f.take i) x).map V.int
  refine bL (K:=K) (a:=l) (xs:=f.map V.int) Pw1 ⟨Nat.zero_le _,Same.new u,ad,rfl⟩ (λi R k h=>SqL.of (h.2.1 _ _ I)) (λi R k h=>h.2.2.1) ?_ ?_
  .rintro i y r k W n ⟨Y,o,b,rfl⟩ F
   rw[List.getElem?_map]at n;cases hw:f[i]? with
   | none=>rw[hw]at n;cases n
   | some v =>
    rw[hw]at n;cases n;have j:i<f.length:=(List.getElem?_eq_some_iff.mp hw).1;have S:(Tb.wo (f.take i) x).length<=24:=Nat.le_trans (length_filter_le _ _) (by rw[length_take];lia);refine⟨⟨rfl,trivial⟩,ifB (λz=>?_) λz=>?_⟩
    .have z:(!decide (v=x))=true:=z
     have B:v≠x:=λe=>by rw[decide_eq_true e]at z;cases z
     refine⟨b,by rw[length_map];lia,F _ _ ⟨j,o.put u,ad,?_⟩⟩;rw[qS hw,if_neg B,map_append];rfl
    .have z:(!decide (v=x))=false:=z
     have B:v=x:=Classical.byContradiction λe=>by rw[decide_eq_false e]at z;cases z
     refine F _ _ ⟨j,o,b,?_⟩;rw[qS hw,if_pos B,append_nil]
  .rintro r X ⟨_,o,b,rfl⟩
   rw[length_map,take_length]at b;refine⟨by rw[g];exact show(2:Nat)<=_ by decide,λL d=>?_⟩;exact q _ L D (o.trans (Same.new d)) (o.free d) u ad (Same.new d _ _ b)
end
open Tb (Tr pN cL wo Pv)
theorem az{d f:Type}{r c:d->f->Prop}(h:∀ a b,r a b->c a b):∀{as:List d}{bs:List f},Paired r as bs->Paired c as bs
 | _,_,.nil=>.nil
 | _,_,.cons x t=>.cons (h _ _ x) (az h t)
theorem dP{c d:Type}{r:c->d->Prop}{a:c}{b:d}(h:r a b):∀{as:List c}{bs:List d},Paired r as bs->Paired r (as++[a]) (bs++[b])
 | _,_,.nil=>.cons h .nil
 | _,_,.cons x t=>.cons x (dP h t)
theorem bx{b a:Type}{r:b->a->Prop}:∀{as:List b}{bs:List a}{i:Nat}{y:a},Paired r as bs->bs[i]? = some y->∃ x,as[i]? = some x/\r x y
 | _,_,_,_,.nil,h=>by cases h
 | _,_,0,_,.cons r _,h=>⟨_,rfl,by cases h;exact r⟩
 | _,_,i+1,_,.cons _ t,h=>bx (i:=i) t h
def Srt(ns kept:List Int):Prop:=ns.Perm kept/\ns.Pairwise (·<=·)
def IsTold(a:Ad)(H:Hp)(v:V)(kept:List Int):Prop:=∃ x dx t ns,v=.ref x/\H x=some (.ins a.c_g dx [("rising",.ref t)])/\H t=some (.tup (ns.map V.int))/\Srt ns kept
def IsLam(H:Hp)(d:LamD)(fv:List Str)(v:V)(vals:List V):Prop:=∃ f c clos,v=.ref f/\H f=some (.ext (hV f d clos c))/\H c=some (.ext (eX c d.qual))/\clos.map (·.1)=fv/\(clos.map (·.2)).Nodup/\CellsAt H clos vals
theorem dh{H a:Hp}(s:SameT H a):∀{clos:List (Str×Addr)}{vals:List V},CellsAt H clos vals->CellsAt a clos vals
 | _,_,.nil=>.nil
 | _,_,.cons r t=>.cons (s.at r) (dh s t)
theorem IsLam.t{H i:Hp}{d:LamD}{g:List Str}{v:V}{a:List V}(s:SameT H i)(h:IsLam H d g v a):IsLam i d g v a:=by
 obtain⟨f,c,b,n,k,j,o,p,l⟩:=h;exact⟨f,c,b,n,s.at k,s.at j,o,p,dh s l⟩
theorem IsTold.t{a:Ad}{H c:Hp}{v:V}{b:List Int}(s:SameT H c)(h:IsTold a H v b):IsTold a c v b:=by
 obtain⟨x,k,t,f,i,g,d,j⟩:=h;exact⟨x,k,t,f,i,s.at g,s.at d,j⟩
inductive spToldI(a:Ad)(vs:List V)(H:Hp)(Q:VK)(_E:XK):Prop
 | mk(x dx l:Addr)(ns:List Int)(h0:vs=[.ref x,.ref l])(h1:H x=some (.ins a.c_g dx []))(h2:(H l=some (.lst (ns.map V.int))\/H l=some (.tup (ns.map V.int))))(h3:ns.length<64)(h4:∀ H' t ns',(∀ b o,b≠x->H b=some o->H' b=some o)->H' x=some (.ins a.c_g dx [("rising",.ref t)])->H' t=some (.tup (ns'.map V.int))->Srt ns' ns->Q .non H'):spToldI a vs H Q _E
inductive spDieI(a:Ad)(vs:List V)(H:Hp)(Q:VK)(_E:XK):Prop
 | mk(x dx l:Addr)(xs:List V)(h0:vs=[.ref x,.ref l])(h1:H x=some (.ins a.c_k dx []))(h2:H l=some (.lst xs))(h3:∀ H' t,H t=none->(∀ b o,b≠x->H b=some o->H' b=some o)->H' x=some (.ins a.c_k dx [("makes",.ref t)])->H' t=some (.lst xs)->Q .non H'):spDieI a vs H Q _E
theorem dX{b c:Type}{r:b->c->Prop}{a:List b}{x:b}{i:Nat}{ys:List c}{y:c}(h:Paired r (a.take i) ys)(e:a[i]? = some x)(q:r x y):Paired r (a.take (i+1)) (ys++[y]):=by
 rw[take_add_one,e];exact dP q h
def Bad(H:Hp)(Bd:List Addr):Prop:=∀ b∈Bd,∃ ys,H b=some (.lst ys)
theorem Bad.t{H a:Hp}{c:List Addr}(s:SameT H a)(h:Bad H c):Bad a c:=λb d=>let ⟨ys,e⟩:=h b d;⟨ys,s.at e⟩
theorem bw{H c:Hp}{a:List Addr}(s:SameT H c):SameT (untrs H a) (untrs c a):=λb o e=>by
 by_cases hb:b∈a
 .rw[eA hb]at e;cases e
 .rw[bb hb]at e ⊢;exact s b o e
theorem aA{H:Hp}{a:List Addr}{b:Addr}{o:HO}(e:untrs H a b=some o):b ∉ a/\H b=some o:=by
 by_cases hb:b∈a
 .rw[eA hb]at e;cases e
 .rw[bb hb]at e;exact⟨hb,e⟩
theorem dA{H:Hp}{a:List Addr}:SameT (untrs H a) H:=λb o e=>⟨λ_=>(aA e).2,o,(aA e).2⟩
theorem bY{H:Hp}{d:List Addr}{b:Addr}{o:HO}(a:Bad H d)(e:H b=some o)(n:∀ ys,o≠.lst ys):untrs H d b=some o:=by
 rw[bb λz=>?_]
 .exact e
 .obtain⟨ys,c⟩:=a b z
  rw[e]at c;exact n ys (Option.some.inj c)
theorem gQ{H:Hp}{o:List Addr}(a:Bad H o){d:LamD}{n:List Str}{f:V}{k:List V}(h:IsLam H d n f k):IsLam (untrs H o) d n f k:=by
 obtain⟨p,c,b,q,j,l,g,i,s⟩:=h;refine⟨p,c,b,q,bY a j (λ_ z=>nomatch z),bY a l (λ_ z=>nomatch z),g,i,?_⟩;clear j l g i
 induction s with
 | nil=>exact .nil
 | cons r _ ih=>exact .cons (bY a r (λ_ z=>nomatch z)) ih
theorem rN{a:Ad}{H:Hp}{f:List Addr}(b:Bad H f){u:V}{d:List Int}(h:IsTold a H u d):IsTold a (untrs H f) u d:=by
 obtain⟨x,l,t,c,j,i,g,k⟩:=h;exact⟨x,l,t,c,j,bY b i (λ_ z=>nomatch z),bY b g (λ_ z=>nomatch z),k⟩
theorem eM{H:Hp}{d:List Addr}(c:Bad H d){a:List (Str×Addr)}{b:List V}(h:CellsAt H a b):CellsAt (untrs H d) a b:=by
 induction h with
 | nil=>exact .nil
 | cons r _ ih=>exact .cons (bY c r (λ_ z=>nomatch z)) ih
theorem cX(H:Hp)(a c:List Addr):untrs (untrs H a) c=untrs (untrs H c) a:=by
 funext b
 unfold untrs
 split <;> split <;> rfl
theorem cw(H:Hp):untrs H []=H:=by funext b;exact bb (by simp)
theorem jm{H:Hp}{f:List Addr}{a:List (Str×Addr)}{c:List V}(h:CellsAt H a c)(d:Bad H f):Bad (untrs H (a.map (·.2))) f:=λb g=>let ⟨ys,e⟩:=d b g;⟨ys,bR h e λv z=>nomatch z⟩
theorem eC{H:Hp}{a:List Addr}{b:Addr}{o:HO}(f:b∈a):SameT (untrs H a) (untrs (upd H b o) a):=λc u e=>by
 obtain⟨n,d⟩:=aA e;have:untrs (upd H b o) a c=some u:=by rw[bb n,ag (λz=>n (by rw[z];exact f))];exact d
 exact⟨λ_=>this,u,this⟩
theorem kn{H d:Hp}{b:List Addr}{D:Addr}(s:SameT H d)(h:H D=none):SameT (untrs H b) (untrs d (D::b)):=λc u e=>by
 obtain⟨n,a⟩:=aA e
 have f:c ∉ D::b:=λz=>by
  rcases mem_cons.mp z with z | z
  .rw[z,h]at a;cases a
  .exact n z
 rw[bb f];exact s c u a
theorem kg{H:Hp}{a:List Addr}{D:Addr}:SameT (untrs H (D::a)) (untrs H a):=λc u e=>by
 obtain⟨n,b⟩:=aA e;have:untrs H a c=some u:=by rw[bb (λz=>n (mem_cons_of_mem _ z))];exact b
 exact⟨λ_=>this,u,this⟩
theorem LamOk.mono{P:Program}{w:World}{K:Frag}{mg:Str->Option Value}{a:Heap}{j k:Nat}{d:LamD}{l ps:List Str}{sp:List V->Sp}(L:LamOk P w K mg a j d l ps sp)(h:j<=k):LamOk P w K mg a k d l ps sp:=λA b s H f c g n o i Q E p=>L A b s H f c g n o i Q E (p.mono h)
theorem TabsOk.untrs{b:oe}{H:Hp}{a:List (Str×Addr)}{d:List V}(h:TabsOk b H)(f:CellsAt H a d):TabsOk b (untrs H (a.map (·.2))):=λq j=>by
 obtain⟨k,i,g,n⟩:=h q j;exact⟨k,bR f i (λv z=>nomatch z),g,λl hl=>(n l hl).imp id λ⟨c,x,y⟩=>⟨c,x,bR f y λv=>lA⟩⟩
theorem nB{H d c:Hp}{a:List (Str×Addr)}(s:SameT (untrs H (a.map (·.2))) d)(f:Same d c)(g:∀ p∈a,c p.2=H p.2):SameT H c:=λb o e=>by
 by_cases hb:b∈a.map (·.2)
 .obtain⟨p,h,rfl⟩:=mem_map.mp hb
  rw[g p h,e];exact⟨λ_=>rfl,o,rfl⟩
 .exact(s.trans f.t) b o (by rw[bb hb];exact e)
theorem LamOkC.mono{P:Program}{w:World}{K:Frag}{mg:Str->Option Value}{a:Heap}{j k:Nat}{d:LamD}{l ps:List Str}{sp:List (Str×Addr)->List V->Sp}(L:LamOkC P w K mg a j d l ps sp)(h:j<=k):LamOkC P w K mg a k d l ps sp:=λA b s H f c g n o i Q E p=>L A b s H f c g n o i Q E (p.mono h)
abbrev fvP:List Str:=["wanted","taken","other","one"]
abbrev fvG:List Str:=["place","go"]
structure Pd where
 c1:Nat
 P1:List Int
 c2:Nat
 P2:List Int
 tk:List Int
def Pd.one(x:Pd)(p:Int):Pd:=⟨x.c1 - 1,wo x.P1 p,x.c2,x.P2,x.tk++[p]⟩
def Pd.two(x:Pd)(p:Int):Pd:=⟨x.c1,x.P1,x.c2 - 1,wo x.P2 p,x.tk++[p]⟩
def Pd.tr(x:Pd)(w:Nat):Tr:=pN w x.c1 x.P1 x.c2 x.P2 x.tk
def Pd.f1(x:Pd)(w:Nat):Tr:=cL x.P1 λp=>(x.one p).tr w
def Pd.f2(x:Pd)(w:Nat):Tr:=cL x.P2 λp=>(x.two p).tr w
structure Pd.Ok(x:Pd)(w:Nat):Prop where
 pv:Pv w x.c1 x.P1 x.c2 x.P2 x.tk
 l1:x.P1.length<=24
 l2:x.P2.length<=24
 m1:x.c1<=300
 m2:x.c2<=300
theorem xi(ps:List Int)(p:Int):(wo ps p).length<=ps.length:=length_filter_le _ _
theorem Pd.Ok.one{x:Pd}{w:Nat}(h:x.Ok (w+1))(a:0<x.c1){p:Int}(b:p∈x.P1):(x.one p).Ok w:=⟨h.pv.one a b,Nat.le_trans (xi _ _) h.l1,h.l2,Nat.le_trans (Nat.sub_le _ _) h.m1,h.m2⟩
theorem Pd.Ok.two{x:Pd}{w:Nat}(h:x.Ok (w+1))(a:0<x.c2){p:Int}(b:p∈x.P2):(x.two p).Ok w:=⟨h.pv.two a b,h.l1,Nat.le_trans (xi _ _) h.l2,h.m1,Nat.le_trans (Nat.sub_le _ _) h.m2⟩
def mz(w c1 c2:Nat):Nat:=if w=0 then 0 else (if c1=0 then 0 else 1)+if c2=0 then 0 else 1
theorem gz(w c1 c2:Nat):mz w c1 c2<=2:=by
 unfold mz
 split
 .lia
 .split <;> split <;> lia
theorem yR{w c1 c2 s j:Nat}(i:Tb.Iv (w+1) c1 s)(a:0<c1)(h:mz (w+1) c1 c2<=j+1)(e:s=1):mz w (c1 - 1) c2<=j:=by
 unfold mz at *;have i:s=c1\/w+1<=s:=i;rw[if_neg (by lia),if_neg (show ¬c1=0 by lia)]at h
 by_cases z:w=0
 .rw[if_pos z];lia
 .rw[if_neg z,if_pos (show c1 - 1=0 by lia)];lia
theorem uK{w c1 c2 s j:Nat}(i:Tb.Iv (w+1) c2 s)(a:0<c2)(h:mz (w+1) c1 c2<=j+1)(e:s=1):mz w c1 (c2 - 1)<=j:=by
 unfold mz at *;have i:s=c2\/w+1<=s:=i;rw[if_neg (by lia),if_neg (show ¬c2=0 by lia)]at h
 by_cases z:w=0
 .rw[if_pos z];lia
 .rw[if_neg z,if_pos (show c2 - 1=0 by lia)];lia
theorem qd{w c1 c2:Nat}(h:mz (w+1) c1 c2<=0):c1=0/\c2=0:=by
 unfold mz at h;rw[if_neg (by lia)]at h
 constructor
 .by_cases z:c1=0
  .exact z
  .rw[if_neg z]at h;lia
 .by_cases z:c2=0
  .exact z
  .rw[if_neg z]at h;lia
def PtT(H:Hp)(v:V)(c:Nat)(ps:List Int):Prop:=∃ p l,v=.ref p/\H p=some (.tup [.int (c:Nat),.ref l])/\H l=some (.lst (ps.map V.int))
theorem PtT.t{H a:Hp}{v:V}{c:Nat}{ps:List Int}(s:SameT H a)(h:PtT H v c ps):PtT a v c ps:=let ⟨p,l,e,h1,h2⟩:=h;⟨p,l,e,s.at h1,s.at h2⟩
def LsT(H:Hp)(v:V)(ps:List Int):Prop:=∃ l,v=.ref l/\H l=some (.lst (ps.map V.int))
theorem LsT.t{H a:Hp}{v:V}{ps:List Int}(s:SameT H a)(h:LsT H v ps):LsT a v ps:=let ⟨l,e,h1⟩:=h;⟨l,e,s.at h1⟩
structure Pw(H:Hp)(v1 v2 vt:V)(w:Nat)(x:Pd):Prop where
 h1:PtT H v1 x.c1 x.P1
 h2:PtT H v2 x.c2 x.P2
 ht:LsT H vt x.tk
 ok:x.Ok w
theorem Pw.t{H c:Hp}{a b d:V}{w:Nat}{x:Pd}(s:SameT H c)(h:Pw H a b d w x):Pw c a b d w x:=⟨h.h1.t s,h.h2.t s,h.ht.t s,h.ok⟩
theorem Pw.un{H:Hp}{a:List (Str×Addr)}{c:List V}(b:CellsAt H a c){f g d:V}{w:Nat}{x:Pd}(h:Pw H f g d w x):Pw (untrs H (a.map (·.2))) f g d w x:=by
 obtain⟨⟨B,u,o,q,s⟩,⟨r,y,n,p,j⟩,⟨l,A,k⟩,i⟩:=h;exact⟨⟨B,u,o,bR b q (λv z=>nomatch z),bR b s λv z=>nomatch z⟩,⟨r,y,n,bR b p (λv z=>nomatch z),bR b j λv z=>nomatch z⟩,⟨l,A,bR b k λv z=>nomatch z⟩,i⟩
def IsGo(j:Nat)(H:Hp)(go:V)(g:Int->Tr)(ps:List Int):Prop:=∃ v1 v2 vt w x,Pw H v1 v2 vt (w+1) x/\((IsLam H cu fvP go [.int ((w+1:Nat):Int),vt,v2,v1]/\0<x.c1/\ps=x.P1/\g=(λp=>(x.one p).tr w)/\(ps.length=1->mz w (x.c1 - 1) x.c2<=j))\/(IsLam H bO fvP go [.int ((w+1:Nat):Int),vt,v2,v1]/\0<x.c2/\ps=x.P2/\g=(λp=>(x.two p).tr w)/\(ps.length=1->mz w x.c1 (x.c2 - 1)<=j)))
theorem IsGo.t{j:Nat}{H a:Hp}{go:V}{g:Int->Tr}{ps:List Int}(s:SameT H a)(h:IsGo j H go g ps):IsGo j a go g ps:=by
 obtain⟨b,f,d,w,x,c,h⟩:=h;exact⟨b,f,d,w,x,c.t s,h.imp (λh=>⟨h.1.t s,h.2⟩) λh=>⟨h.1.t s,h.2⟩⟩
theorem IsGo.up{j:Nat}{H:Hp}{go:V}{g:Int->Tr}{ps:List Int}(h:IsGo j H go g ps):IsGo 2 H go g ps:=by
 obtain⟨a,d,c,w,x,b,h⟩:=h;exact⟨a,d,c,w,x,b,h.imp (λh=>⟨h.1,h.2.1,h.2.2.1,h.2.2.2.1,λ_=>gz _ _ _⟩) λh=>⟨h.1,h.2.1,h.2.2.1,h.2.2.2.1,λ_=>gz _ _ _⟩⟩
theorem IsGo.few{j:Nat}{H:Hp}{go:V}{g:Int->Tr}{ps:List Int}(h:IsGo j H go g ps):1<=ps.length/\ps.length<=24:=by
 obtain⟨c,f,d,w,x,a,⟨_,b,rfl,_⟩ | ⟨_,b,rfl,_⟩⟩:=h
 .exact⟨a.ok.pv.ne1 b,a.ok.l1⟩
 .exact⟨a.ok.pv.ne2 b,a.ok.l2⟩
def IsMk(H:Hp)(f:V)(t:Tr):Prop:=(∃ v1 v2 vt w x,Pw H v1 v2 vt (w+1) x/\((IsLam H bu fvP f [.int ((w+1:Nat):Int),vt,v2,v1]/\0<x.c1/\t=x.f1 w)\/(IsLam H bv fvP f [.int ((w+1:Nat):Int),vt,v2,v1]/\0<x.c2/\t=x.f2 w))) \/
 ∃ f' c clos go p g ps,f=.ref f'/\H f'=some (.ext (hV f' ld_going_1 clos c))/\H c=some (.ext (eX c ld_going_1.qual))/\clos.map (·.1)=fvG/\(clos.map (·.2)).Nodup/\CellsAt H clos [.int p,go]/\IsGo 2 (untrs H (clos.map (·.2))) go g ps/\p∈ps/\t=g p
theorem IsMk.t{H b:Hp}{f:V}{t:Tr}(s:SameT H b)(h:IsMk H f t):IsMk b f t:=by
 rcases h with⟨d,n,k,w,x,i,h⟩ | ⟨l,c,a,B,p,g,A,r,o,j,v,z,q,u,y⟩
 .exact .inl ⟨d,n,k,w,x,i.t s,h.imp (λh=>⟨h.1.t s,h.2⟩) λh=>⟨h.1.t s,h.2⟩⟩
 .exact .inr ⟨l,c,a,B,p,g,A,r,s.at o,s.at j,v,z,dh s q,u.t (bw s),y⟩
def NdR(H:Hp)(pt:Int×Tr)(y:V):Prop:=∃ q f,y=.ref q/\H q=some (.tup [.int pt.1,f])/\1<=pt.1/\IsMk H f pt.2
theorem NdR.t{H b:Hp}(s:SameT H b)(a:Int×Tr)(y:V)(h:NdR H a y):NdR b a y:=by
 obtain⟨q,f,g,d,c,i⟩:=h;exact⟨q,f,g,s.at d,c,i.t s⟩
def IsNd(a:Ad)(H:Hp)(v:V):Tr->Prop
 | .leaf ns=>IsTold a H v ns
 | .die ps=>∃ x dx l ys,v=.ref x/\H x=some (.ins a.c_k dx [("makes",.ref l)])/\H l=some (.lst ys)/\Paired (NdR H) ps ys/\1<=ps.length/\ps.length<=5000
theorem IsNd.t{a:Ad}{H b:Hp}{v:V}(s:SameT H b):∀{t:Tr},IsNd a H v t->IsNd a b v t
 | .leaf _,h=>IsTold.t s h
 | .die _,h=>by
  obtain⟨x,i,l,k,f,d,c,g,j⟩:=h;exact⟨x,i,l,k,f,s.at d,s.at c,az (NdR.t s) g,j⟩
def Res(a:Ad)(H:Hp)(Bd:List Addr)(t:Tr)(Q:VK):Prop:=∀ H' u,SameT H H'->TabsOk (tabs a) H'->IsNd a (untrs H' Bd) u t->Q u H'
inductive spPN(j:Nat)(a:Ad)(vs:List V)(H:Hp)(Q:VK)(_E:XK):Prop
 | mk(v1 v2 vt:V)(w:Nat)(x:Pd)(Bd:List Addr)(h0:vs=[.int (w:Nat),v1,v2,vt])(h1:Bad H Bd)(h2:Pw (untrs H Bd) v1 v2 vt w x)(h3:mz w x.c1 x.c2<=j)(h4:TabsOk (tabs a) H)(h5:Res a H Bd (x.tr w) Q):spPN j a vs H Q _E
inductive spF1(j:Nat)(a:Ad)(vs:List V)(H:Hp)(Q:VK)(_E:XK):Prop
 | mk(v1 v2 vt:V)(w:Nat)(x:Pd)(Bd:List Addr)(h0:vs=[.int ((w+1:Nat):Int),v1,v2,vt])(h1:Bad H Bd)(h2:Pw (untrs H Bd) v1 v2 vt (w+1) x)(h3:0<x.c1)(h4:mz (w+1) x.c1 x.c2<=j)(h5:TabsOk (tabs a) H)(h6:Res a H Bd (x.f1 w) Q):spF1 j a vs H Q _E
inductive spF2(j:Nat)(a:Ad)(vs:List V)(H:Hp)(Q:VK)(_E:XK):Prop
 | mk(v1 v2 vt:V)(w:Nat)(x:Pd)(Bd:List Addr)(h0:vs=[.int ((w+1:Nat):Int),v1,v2,vt])(h1:Bad H Bd)(h2:Pw (untrs H Bd) v1 v2 vt (w+1) x)(h3:0<x.c2)(h4:mz (w+1) x.c1 x.c2<=j)(h5:TabsOk (tabs a) H)(h6:Res a H Bd (x.f2 w) Q):spF2 j a vs H Q _E
inductive spAny(j:Nat)(a:Ad)(vs:List V)(H:Hp)(Q:VK)(_E:XK):Prop
 | mk(l:Addr)(go:V)(g:Int->Tr)(ps:List Int)(Bd:List Addr)(h0:vs=[.ref l,go])(h1:Bad H Bd)(h2:untrs H Bd l=some (.lst (ps.map V.int)))(h3:IsGo j (untrs H Bd) go g ps)(h4:TabsOk (tabs a) H)(h5:Res a H Bd (cL ps g) Q):spAny j a vs H Q _E
def yF(j:Nat)(a:Ad):List V->Sp:=λvals vs H Q _=>∃(v1 v2 vt:V) (w:Nat) (x:Pd) (p:Int) (Bd:List Addr),vals=[.int ((w+1:Nat):Int),vt,v2,v1]/\vs=[.int p]/\Bad H Bd/\Pw (untrs H Bd) v1 v2 vt (w+1) x/\0<x.c1/\p∈x.P1/\mz w (x.c1 - 1) x.c2<=j/\TabsOk (tabs a) H/\Res a H Bd ((x.one p).tr w) Q
def yQ(j:Nat)(a:Ad):List V->Sp:=λvals vs H Q _=>∃(v1 v2 vt:V) (w:Nat) (x:Pd) (p:Int) (Bd:List Addr),vals=[.int ((w+1:Nat):Int),vt,v2,v1]/\vs=[.int p]/\Bad H Bd/\Pw (untrs H Bd) v1 v2 vt (w+1) x/\0<x.c2/\p∈x.P2/\mz w x.c1 (x.c2 - 1)<=j/\TabsOk (tabs a) H/\Res a H Bd ((x.two p).tr w) Q
inductive spGoing(a:Ad)(vs:List V)(H:Hp)(Q:VK)(_E:XK):Prop
 | mk(go:V)(p:Int)(g:Int->Tr)(ps:List Int)(Bd:List Addr)(h0:vs=[go,.int p])(h1:Bad H Bd)(h2:IsGo 2 (untrs H Bd) go g ps)(h3:p∈ps)(h4:TabsOk (tabs a) H)(h5:∀ H' f,SameT H H'->TabsOk (tabs a) H'->IsMk (untrs H' Bd) f (g p)->Q f H'):spGoing a vs H Q _E
def v7(a:Ad):List V->Sp:=λvals vs H Q _=>∃(v1 v2 vt:V) (w:Nat) (x:Pd) (Bd:List Addr),vals=[.int ((w+1:Nat):Int),vt,v2,v1]/\vs=[]/\Bad H Bd/\Pw (untrs H Bd) v1 v2 vt (w+1) x/\0<x.c1/\TabsOk (tabs a) H/\Res a H Bd (x.f1 w) Q
def vw(a:Ad):List V->Sp:=λvals vs H Q _=>∃(v1 v2 vt:V) (w:Nat) (x:Pd) (Bd:List Addr),vals=[.int ((w+1:Nat):Int),vt,v2,v1]/\vs=[]/\Bad H Bd/\Pw (untrs H Bd) v1 v2 vt (w+1) x/\0<x.c2/\TabsOk (tabs a) H/\Res a H Bd (x.f2 w) Q
def wE(a:Ad):List (Str×Addr)->List V->Sp:=λcl vals vs H Q _=>∃(go:V) (p:Int) (g:Int->Tr) (ps:List Int) (Bd:List Addr),vals=[.int p,go]/\vs=[]/\Bad H Bd/\IsGo 2 (untrs (untrs H Bd) (cl.map (·.2))) go g ps/\p∈ps/\TabsOk (tabs a) H/\Res a H Bd (g p) Q
theorem lsO:LamScope cu fvP ["place"]:=⟨rfl,rfl,rfl,by decide +kernel,by decide +kernel,by decide +kernel,by decide +kernel,by decide +kernel⟩
theorem lsT:LamScope bO fvP ["place"]:=⟨rfl,rfl,rfl,by decide +kernel,by decide +kernel,by decide +kernel,by decide +kernel,by decide +kernel⟩
theorem lsP:LamScope bu fvP []:=⟨rfl,rfl,rfl,by decide +kernel,by decide +kernel,by decide +kernel,by decide +kernel,by decide +kernel⟩
theorem lsQ:LamScope bv fvP []:=⟨rfl,rfl,rfl,by decide +kernel,by decide +kernel,by decide +kernel,by decide +kernel,by decide +kernel⟩
theorem lsG:LamScope ld_going_1 fvG []:=⟨rfl,rfl,rfl,by decide +kernel,by decide +kernel,by decide +kernel,by decide +kernel,by decide +kernel⟩
theorem dQ{H:Hp}{d:List Addr}{b:Addr}{o:HO}(a:Bad H d)(f:H b=none){c:Hp}(h:c b=some o):untrs c d b=some o:=by
 rw[bb λz=>?_]
 .exact h
 .obtain⟨g,e⟩:=a b z
  rw[f]at e;cases e
theorem nd4(n:Nat):[n+1,n+1+1+1+1,n+1+1+1,n+1+1].Nodup:=by simp[nodup_cons];lia
section
variable {P:Program}{w:World}{K:Frag}{mg:Str->Option Value}{base:Heap}{a:Ad}
theorem vQ(T:Txt K mg a):FnOk P w K mg base CX0 1 a.i_g a.e_g ["self","kept"] (spToldI a):=by
 refine T.Fi_g.ok ip (λB H Q E h=>?_) (λcdv A outer s H B Q E hr h=>?_)
 .obtain⟨x,j,l,g,rfl,_⟩:=h;rfl
 .obtain⟨x,j,l,g,rfl,i,C,r,q⟩:=h
  refine⟨_,(ak (fj (vr 0) (aN dZ rfl T.z_tuple gU (aa (av gp rfl T.z_sorted fV (aa (vr 1) ae)) ae)) rfl)),?_⟩;refine⟨l,g,rfl,C.imp SqL.of SqT.of,r,λp c F u y=>?_⟩;have k:=Same.new (o:=.lst (c.map V.int)) y;refine⟨p,_,rfl,.inl ⟨SqL.of ad,λt f=>?_⟩⟩;have D:=Same.new (o:=.tup (c.map V.int)) f;have d:=k.trans D;have v:t≠x:=λz=>by rw[z,k _ _ i]at f;cases f
  refine⟨x,a.c_g,j,[],rfl,d _ _ i,T.cl_g,T.na_Told_rising,(by decide),?_⟩;exact q _ t c (λb o n e=>by rw[ag n];exact d _ _ e) ad (by rw[ag v];exact ad) ⟨F,u⟩
theorem tq(T:Txt K mg a):FnOk P w K mg base CX0 1 a.i_k a.e_k ["self","parts"] (spDieI a):=by
 refine T.Fi_k.ok iM (λk H Q E h=>?_) (λcdv A outer s H k Q E hr h=>?_)
 .obtain⟨x,g,l,d,rfl,_⟩:=h;rfl
 .obtain⟨x,g,l,d,rfl,f,p,q⟩:=h
  refine⟨_,(ak (fj (vr 0) (aN eU rfl T.z_list fN (aa (vr 1) ae)) rfl)),?_⟩;refine⟨l,d,rfl,.inl (SqL.of p),λt c=>?_⟩;have i:=Same.new (o:=.lst d) c;have j:t≠x:=λz=>by rw[z,f]at c;cases c
  refine⟨x,a.c_k,g,[],rfl,i _ _ f,T.cl_k,T.na_Die_makes,(by decide),?_⟩;exact q _ t c (λb o n e=>by rw[ag n];exact i _ _ e) ad (by rw[ag j];exact ad)
theorem made{a d:Hp}{x dx:Addr}{h f:HO}(c:a x=none)(g:a dx=none)(k:∀ b o,b≠x->(upd (upd a dx h) x f) b=some o->d b=some o):Same a d:=λb o e=>by
 refine k b o (aF e c) ?_;rw[ag (aF e c),ag (aF e g)];exact e
end
open Tb (Tr pN cL wo Pv)
section
variable {P:Program}{w:World}{K:Frag}{mg:Str->Option Value}{base:Heap}{a:Ad}
theorem ja(T:Txt K mg a){j k:Nat}(hk:1<=k)(ab:FnOk P w K mg base CX0 k a.f_e a.d_e ["wanted","one","other","taken"] (spPN j a)):LamOk P w K mg base (k+1) cu fvP ["place"] (yF j a):=by
 have al:FnOk P w K mg base CX0 k _ _ _ spWo:=(jA T).mono hk;refine lJ lsO (λpm as g c us hl=>match us,hl with | [_],_=>rfl) (λvals vs H Q E h=>?_) (λA outer s H f c g vals vs Q E hr hfv ca h=>?_)
 .obtain⟨v1,v2,vt,w,x,p,Bd,rfl,rfl,_⟩:=h;rfl
 .obtain⟨v1,v2,vt,n,x,p,Bd,rfl,rfl,C,hw,hc,hp,hj,hT,q⟩:=h
  have l:sizeLine=16777216:=sizeLine_eq;refine⟨_,(aq ab hr rfl T.m_e T.F_e.kp T.B_e .nil ao (aa (ar gv (vr 1) ah) (aa (aq al hr rfl T.m_Q T.F_Q.kp T.B_Q .nil ao (aa (vr 4) (aa (vr 0) ae))) (aa (vr 3) (aa (ar dL (vr 2) (aR (aa (vr 0) ae))) ae))))),?_⟩;have r:=hw.un (eM C ca);rw[cX]at r;have b:=jm ca C;have G:=TabsOk.untrs hT ca;generalize hU:untrs H (g.map (·.2))=U at r b G;obtain⟨⟨p1,l1,rfl,a1,b1⟩,h2,⟨lt,rfl,a3⟩,M⟩:=r;have N:=M.one hc hp;have tl:x.tk.length<=24:=by have:=M.pv.few;lia
  refine⟨p1,l1,_,x.P1,p,rfl,(aA a1).2,(aA b1).2,M.l1,λU1 q1 z s1 O Z S W=>?_⟩;have an:=b.t s1.t;refine⟨by rw[l];exact show(1:Nat)<=_ by decide,λR Y=>?_⟩;have L:=Same.new (o:=.lst [.int p]) Y;have B:=ad (H:=U1) (a:=R) (o:=.lst [.int p]);generalize upd U1 R (.lst [.int p])=U2 at L B;have i:=s1.trans L;refine⟨lt,R,_,_,rfl,rfl,i _ _ (aA a3).2,B,by rw[length_map];show _+1<=_;lia,λF v=>?_⟩;have I:=Same.new (o:=.lst (x.tk.map V.int++[.int p])) v;have D:(upd U2 F (.lst (x.tk.map V.int++[.int p]))) F=some (.lst ((x.tk++[p]).map V.int)):=by rw[ad,map_append];rfl
  generalize upd U2 F (.lst (x.tk.map V.int++[.int p]))=U3 at I D;have d:=i.trans I;have y:=b.t d.t;refine⟨.ref q1,v2,.ref F,n,x.one p,Bd,by show [V.int (((n+1:Nat):Int) - 1),_,_,_]=_;rw[show(((n+1:Nat):Int) - 1)=(n:Int) by lia],y,⟨⟨q1,z,rfl,?_,?_⟩,h2.t (bw d.t),⟨F,rfl,dQ (b.t i.t) v D⟩,N⟩,hj,G.same d,λH' u t' X hN=>λH3 s3' hc3=>?_⟩
  .show _=some (HO.tup [.int ((x.c1 - 1:Nat):Int),.ref z])
   rw[dQ b O ((L.trans I) _ _ S),show((x.c1 - 1:Nat):Int)=(x.c1:Int) - 1 by lia]
  .exact dQ b Z ((L.trans I) _ _ W)
  .rw[<- hU]at d
   exact q _ _ (nB (d.t.trans t') s3' hc3) (X.same s3') (hN.t (bw s3'.t))
theorem iX(T:Txt K mg a){j k:Nat}(hk:1<=k)(ab:FnOk P w K mg base CX0 k a.f_e a.d_e ["wanted","one","other","taken"] (spPN j a)):LamOk P w K mg base (k+1) bO fvP ["place"] (yQ j a):=by
 have al:FnOk P w K mg base CX0 k _ _ _ spWo:=(jA T).mono hk;refine lJ lsT (λpm as g c us hl=>match us,hl with | [_],_=>rfl) (λvals vs H Q E h=>?_) (λA outer s H f c g vals vs Q E hr hfv ca h=>?_)
 .obtain⟨v1,v2,vt,w,x,p,Bd,rfl,rfl,_⟩:=h;rfl
 .obtain⟨v1,v2,vt,n,x,p,Bd,rfl,rfl,C,hw,hc,hp,hj,hT,q⟩:=h
  have l:sizeLine=16777216:=sizeLine_eq;refine⟨_,(aq ab hr rfl T.m_e T.F_e.kp T.B_e .nil ao (aa (ar gv (vr 1) ah) (aa (vr 4) (aa (aq al hr rfl T.m_Q T.F_Q.kp T.B_Q .nil ao (aa (vr 3) (aa (vr 0) ae))) (aa (ar dL (vr 2) (aR (aa (vr 0) ae))) ae))))),?_⟩;have r:=hw.un (eM C ca);rw[cX]at r;have b:=jm ca C;have G:=TabsOk.untrs hT ca;generalize hU:untrs H (g.map (·.2))=U at r b G;obtain⟨h2,⟨p1,l1,rfl,a1,b1⟩,⟨lt,rfl,a3⟩,M⟩:=r;have N:=M.two hc hp;have tl:x.tk.length<=24:=by have:=M.pv.few;lia
  refine⟨p1,l1,_,x.P2,p,rfl,(aA a1).2,(aA b1).2,M.l2,λU1 q1 z s1 O Z S W=>?_⟩;have an:=b.t s1.t;refine⟨by rw[l];exact show(1:Nat)<=_ by decide,λR Y=>?_⟩;have L:=Same.new (o:=.lst [.int p]) Y;have B:=ad (H:=U1) (a:=R) (o:=.lst [.int p]);generalize upd U1 R (.lst [.int p])=U2 at L B;have i:=s1.trans L;refine⟨lt,R,_,_,rfl,rfl,i _ _ (aA a3).2,B,by rw[length_map];show _+1<=_;lia,λF v=>?_⟩;have I:=Same.new (o:=.lst (x.tk.map V.int++[.int p])) v;have D:(upd U2 F (.lst (x.tk.map V.int++[.int p]))) F=some (.lst ((x.tk++[p]).map V.int)):=by rw[ad,map_append];rfl
  generalize upd U2 F (.lst (x.tk.map V.int++[.int p]))=U3 at I D;have d:=i.trans I;have y:=b.t d.t;refine⟨v1,.ref q1,.ref F,n,x.two p,Bd,by show [V.int (((n+1:Nat):Int) - 1),_,_,_]=_;rw[show(((n+1:Nat):Int) - 1)=(n:Int) by lia],y,⟨h2.t (bw d.t),⟨q1,z,rfl,?_,?_⟩,⟨F,rfl,dQ (b.t i.t) v D⟩,N⟩,hj,G.same d,λH' u t' X hN=>λH3 s3' hc3=>?_⟩
  .show _=some (HO.tup [.int ((x.c2 - 1:Nat):Int),.ref z])
   rw[dQ b O ((L.trans I) _ _ S),show((x.c2 - 1:Nat):Int)=(x.c2:Int) - 1 by lia]
  .exact dQ b Z ((L.trans I) _ _ W)
  .rw[<- hU]at d
   exact q _ _ (nB (d.t.trans t') s3' hc3) (X.same s3') (hN.t (bw s3'.t))
theorem uu(T:Txt K mg a)(S:Bm mg base):FnOk P w K mg base CX0 1 a.f_D a.d_D ["go","place"] (spGoing a):=by
 refine T.F_D.okF T.lcd_D tI (by decide +kernel) (λN H Q E h=>?_) (λA outer s H N Q E hr h=>?_)
 .obtain⟨C,p,g,B,f,rfl,_⟩:=h;rfl
 .obtain⟨C,p,g,B,f,rfl,j,O,hp,Y,q⟩:=h
  refine⟨_,(uv (jP (d:=ld_going_1) rfl T.lch_D S rfl (by with_unfolding_all rfl) rfl (uL a) (.head _) T.tnd tP)),?_⟩;refine⟨Y,λW L Z x r n1 n k=>λH3 s3 hc hf=>?_⟩;have c:=(j.t x).t s3.t;have X:=hc 1 _ _ _ rfl rfl (by with_unfolding_all rfl);have M:=hc 0 _ _ _ rfl rfl (by with_unfolding_all rfl);have F:=hf "place" _ (by with_unfolding_all rfl);have G:=hf "go" _ (by with_unfolding_all rfl);refine q _ _ (x.trans s3.t) (r.same s3) (.inr ⟨W,L,_,C,p,g,B,rfl,bY c (s3 _ _ n) (λ_ z=>nomatch z),bY c (s3 _ _ k) (λ_ z=>nomatch z),rfl,by simp,.cons (bY c X λ_ z=>nomatch z) (.cons (bY c M λ_ z=>nomatch z) .nil),?_,hp,rfl⟩);have l:=O.t (bw x);refine l.t λb o e=>?_
  obtain⟨I,i⟩:=aA e;have R:untrs H3 f b=some o:=by rw[bb I];exact s3 _ _ i
  have:∀{v:List Addr},(∀ y∈v,Z y=none)->untrs (untrs H3 f) v b=some o:=λ{v} u=>by
   rw[bb λz=>?_]
   .exact R
   .rw[u b z]at i;cases i
  refine⟨λ_=>this ?_,o,this ?_⟩ <;>
  .intro y D
   simp only[map_cons,map_nil,mem_cons,not_mem_nil,or_false]at D
   rcases D with rfl | rfl
   .exact F
   .exact G
end
open Tb (Tr pN cL wo Pv)
theorem pY(p:Int)(g:Int->Tr):cL [p] g=g p:=if_pos rfl
theorem jO{ps:List Int}(h:ps.length≠1)(g:Int->Tr):cL ps g=.die (ps.map λx=>((1:Int),g x)):=by unfold cL;rw[if_neg h]
section
variable {P:Program}{w:World}{K:Frag}{mg:Str->Option Value}{base:Heap}{a:Ad}
theorem jg(T:Txt K mg a)(hB:Bm mg base){j k:Nat}(hk:1<=k)(Y:LamOk P w K mg base (k+1) cu fvP ["place"] (yF j a))(W:LamOk P w K mg base (k+1) bO fvP ["place"] (yQ j a)):FnOk P w K mg base CX0 (k+1+1) a.f_R a.d_R ["places","go"] (spAny j a):=by
 have a0:FnOk P w K mg base CX0 k _ _ _ (spDieI a):=(tq T).mono hk;have a2:FnOk P w K mg base CX0 (k+1) _ _ _ (spGoing a):=(uu T hB).mono (by lia);refine T.F_R.ok rF (λvs H Q E h=>?_) (λcdv A outer s H vs Q E hr h=>?_)
 .obtain⟨l,go,g,d,B,rfl,_⟩:=h;rfl
 .obtain⟨l,go,g,d,B,rfl,F,hl,hg,hT,q⟩:=h
  have a7:sizeLine=16777216:=sizeLine_eq;have u:=(aA hl).2;obtain⟨bm,bn⟩:=hg.few;refine⟨_,(af (ba (aM eE (av aQ rfl T.z_len cf (aa (vr 0) ae)) ah (au _)) (ak (ax (PE.or (gK (vr 1) Y hr (aa (aI aB (vr 0) ah (λ_ _=>rfl)) ae)) (gK (vr 1) W hr (aa (aI aB (vr 0) ah (λ_ _=>rfl)) ae))))) aD) (ak (ax (eN T.mk_k a0 hr rfl T.mc_k T.Bi_k .nil ao (aa (cE rfl (N:=["place","go"]) (ix:=[none,some 1]) ⟨rfl,rfl,rfl,rfl,⟨rfl,rfl,rfl,trivial⟩⟩ (b9 (vr 0)) ⟨λC s H fp=>ay (i:=0) (show List.Nodup (["place","go"]:List Str) by decide +kernel) rfl (Or.inl rfl),λC s H fp=>ce,λC s H fp=>(cK (aa ah (aa (aq a2 hr rfl T.m_D T.F_D.kp T.B_D .nil ao (aa (vr 1) (aa (vr 0) ae))) ae)))⟩) ae))))),qu ?_⟩;intro bl;refine⟨_,.inl (SqL.of u),?_⟩;rw[length_map];refine ifC (λc=>?_) λc=>?_
  .have c:d.length=1:=by have z:((d.length:Nat):Int)=1:=c;lia
   obtain⟨p,rfl⟩:=length_eq_one_iff.mp c;rw[pY]at q;obtain⟨v1,v2,vt,n,x,h0,⟨⟨f,c,cl,rfl,k2,k3,k4,k5,k6⟩,v,e1,rfl,hj⟩ | ⟨⟨f,c,cl,rfl,k2,k3,k4,k5,k6⟩,v,e1,rfl,hj⟩⟩:=hg
   .exact .inl ⟨⟨f,_,cl,c,rfl,(aA k2).2⟩,.inl ⟨l,_,_,_,rfl,rfl,SqL.of u,aC 0 rfl rfl,λ_ _ _ _ _ e=>e,f,c,cl,_,rfl,(aA k2).2,(aA k3).2,k4,k5,dh dA k6,v1,v2,vt,n,x,p,B,rfl,rfl,F,h0,v,by rw[<- e1];exact mem_cons_self,hj rfl,hT,q⟩⟩
   .exact .inr ⟨⟨f,_,cl,c,rfl,(aA k2).2⟩,.inl ⟨l,_,_,_,rfl,rfl,SqL.of u,aC 0 rfl rfl,λ_ _ _ _ _ e=>e,f,c,cl,_,rfl,(aA k2).2,(aA k3).2,k4,k5,dh dA k6,v1,v2,vt,n,x,p,B,rfl,rfl,F,h0,v,by rw[<- e1];exact mem_cons_self,hj rfl,hT,q⟩⟩
  have c:d.length≠1:=λe=>c (by show((d.length:Nat):Int)=1;lia)
  rw[jO c]at q;refine .inl ⟨⟨_,SqL.of u⟩,λD hD=>?_⟩;have ext:∀{r:Hp},TabsOk (tabs a) r->∀{ys:List V}{as:List V},r D=some (.lst ys)->TabsOk (tabs a) (upd r D (.lst as)):=λa5 ys as e=>a5.put (λd z=>by rw[e]at z;cases z) λφ z=>by rw[e]at z;cases z
  have I:(d.map λx=>((1:Int),g x)).length=d.length:=length_map _
  let Pw1:PvL:=λi S r=>SameT H r/\TabsOk (tabs a) r/\r D=some (.lst S)/\i<=d.length/\Paired (NdR (untrs r (D::B))) ((d.map λx=>((1:Int),g x)).take i) S
  refine bL (K:=K) (a:=l) (xs:=d.map V.int) Pw1
   ⟨(Same.new hD).t,hT.same (Same.new hD),ad,Nat.zero_le _,.nil⟩ (λi ys r h=>SqL.of (h.1.at u)) (λi ys r h=>h.2.2.1) ?_ ?_
  .rintro i y S r P' hy ⟨Z,X,L,hi,v⟩ a6
   rw[List.getElem?_map]at hy
   obtain⟨p,hp,rfl⟩:∃ p,d[i]? = some p/\V.int p=y:=by
    cases e:d[i]? with
    | none=>rw[e]at hy;cases hy
    | some p=>rw[e]at hy;cases hy;exact⟨p,rfl,rfl⟩
   have a1:i<d.length:=(List.getElem?_eq_some_iff.mp hp).1
   have R:Bad r (D::B):=λb hb=>by
    rcases mem_cons.mp hb with rfl | hb
    .exact⟨_,L⟩
    .exact F.t Z b hb
   refine⟨⟨rfl,trivial⟩,?_⟩;refine⟨go,p,g,d,D::B,rfl,R,hg.up.t (kn Z hD),List.mem_of_getElem? hp,X,λH2 f2 t2 a9 a3=>?_⟩;have a8:=t2.at L;refine⟨b8 _ _,λq2 a'=>?_⟩;have s3:=Same.new (o:=.tup [.int 1,f2]) a';have an:=s3 _ _ a8;have zl:S.length<=i:=by rw[<- v.length,length_take];lia
   have al:Bad H2 (D::B):=R.t t2;have c3:SameT (untrs H2 (D::B)) (untrs (upd (upd H2 q2 (.tup [.int 1,f2])) D (.lst (S++[.ref q2]))) (D::B)):=(bw s3.t).trans (eC mem_cons_self);refine⟨an,by lia,a6 _ _ ⟨(Z.trans (t2.trans s3.t)).put hD,ext (a9.same s3) an,ad,a1,dX (az (NdR.t ((bw t2).trans c3)) v) (x:=((1:Int),g p)) (by rw[List.getElem?_map,hp];rfl) ⟨q2,f2,rfl,?_,Int.le_refl 1,a3.t c3⟩⟩⟩;exact(eC (o:=.lst (S++[.ref q2])) mem_cons_self).at (bY (al.t s3.t) ad (λ_ z=>nomatch z))
  rintro S H1 ⟨Z,X,L,hi,v⟩;rw[length_map,<- I,take_length]at v;have zl:S.length=d.length:=by rw[<- v.length,I]
  have a4:=az (NdR.t kg) v;have M:=F.t Z;intro x2 G ab O bg;have s9:Same H1 (upd (upd H1 G (.own x2)) x2 (.ins a.c_k G [])):=λb o e=>by rw[ag (aF e ab),ag (aF e O)];exact e
  refine⟨x2,G,D,_,rfl,ad,s9 _ _ L,λH6 l6 fl k g1 g2=>⟨rfl,?_⟩⟩;have s6:=made ab O k;refine q _ _ (Z.trans s6.t) (X.same s6) ?_;exact⟨x2,G,l6,_,rfl,bY (M.t s6.t) g1 (λ_ z=>nomatch z),dQ M (s9.free fl) g2,az (NdR.t (bw s6.t)) a4,by rw[I];lia,by rw[I];lia⟩
theorem pL(T:Txt K mg a)(N:Bm mg base){j k:Nat}(o:FnOk P w K mg base CX0 k a.f_R a.d_R ["places","go"] (spAny j a)):FnOk P w K mg base CX0 (k+1) a.f_i a.d_i ["wanted","one","other","taken"] (spF1 (j+1) a):=by
 refine T.F_i.okL T.lcd_i sc_i (by decide +kernel) (λG H Q E h=>?_) (λA outer s H G Q E hr h=>?_)
 .obtain⟨D,z,v,n,x,y,rfl,_⟩:=h;rfl
 .obtain⟨D,z,v,n,x,y,rfl,g,p,c,Y,R,q⟩:=h
  refine⟨_,(qm sc_i.nd (by decide +kernel) o hr rfl T.m_R T.F_R.kp T.B_R .nil (aa (aI aB (vr 1) ah (λ_ _=>rfl)) (aa (jP (d:=cu) rfl T.lch_i N rfl (by with_unfolding_all rfl) rfl (mL a) (.head _) T.tnd mt) ae))),?_⟩;obtain⟨Z,X,rfl,I,M⟩:=id p.h1;refine .inr (.inl ⟨Z,_,_,_,rfl,rfl,SqT.of (aA I).2,aC 1 rfl rfl,?_⟩);refine⟨R,λB F H2 W r n1 l i=>λH3 s3 hc=>?_⟩;have f:=W.trans s3.t;have b:=g.t f;have S:=hc 0 _ _ _ rfl rfl (by with_unfolding_all rfl);have O:=hc 1 _ _ _ rfl rfl (by with_unfolding_all rfl);have L:=hc 2 _ _ _ rfl rfl (by with_unfolding_all rfl);have C:=hc 3 _ _ _ rfl rfl (by with_unfolding_all rfl);refine⟨X,.ref B,_,x.P1,y,rfl,b,(bw f).at M,⟨_,z,v,n,x,p.t (bw f),.inl ⟨gQ b ⟨B,F,_,rfl,s3 _ _ l,s3 _ _ i,rfl,nd4 _,.cons S (.cons C (.cons L (.cons O .nil)))⟩,c,rfl,rfl,λe=>yR p.ok.pv.i1 c Y e⟩⟩,r.same s3,λH' u t' hT' hN=>q _ _ (f.trans t') hT' hN⟩
theorem qB(T:Txt K mg a)(N:Bm mg base){j k:Nat}(o:FnOk P w K mg base CX0 k a.f_R a.d_R ["places","go"] (spAny j a)):FnOk P w K mg base CX0 (k+1) a.f_d a.d_d ["wanted","one","other","taken"] (spF2 (j+1) a):=by
 refine T.F_d.okL T.lcd_d sc_d (by decide +kernel) (λG H Q E h=>?_) (λA outer s H G Q E hr h=>?_)
 .obtain⟨z,F,v,n,x,y,rfl,_⟩:=h;rfl
 .obtain⟨z,F,v,n,x,y,rfl,g,p,c,Y,R,q⟩:=h
  refine⟨_,(qm sc_d.nd (by decide +kernel) o hr rfl T.m_R T.F_R.kp T.B_R .nil (aa (aI aB (vr 2) ah (λ_ _=>rfl)) (aa (jP (d:=bO) rfl T.lch_d N rfl (by with_unfolding_all rfl) rfl (jS a) (.head _) T.tnd j2) ae))),?_⟩;obtain⟨Z,X,rfl,I,M⟩:=id p.h2;refine .inr (.inl ⟨Z,_,_,_,rfl,rfl,SqT.of (aA I).2,aC 1 rfl rfl,?_⟩);refine⟨R,λB D H2 W r n1 l i=>λH3 s3 hc=>?_⟩;have f:=W.trans s3.t;have b:=g.t f;have S:=hc 0 _ _ _ rfl rfl (by with_unfolding_all rfl);have O:=hc 1 _ _ _ rfl rfl (by with_unfolding_all rfl);have L:=hc 2 _ _ _ rfl rfl (by with_unfolding_all rfl);have C:=hc 3 _ _ _ rfl rfl (by with_unfolding_all rfl);refine⟨X,.ref B,_,x.P2,y,rfl,b,(bw f).at M,⟨z,_,v,n,x,p.t (bw f),.inr ⟨gQ b ⟨B,D,_,rfl,s3 _ _ l,s3 _ _ i,rfl,nd4 _,.cons S (.cons C (.cons L (.cons O .nil)))⟩,c,rfl,rfl,λe=>uK p.ok.pv.i2 c Y e⟩⟩,r.same s3,λH' u t' hT' hN=>q _ _ (f.trans t') hT' hN⟩
theorem pZ(T:Txt K mg a)(hB:Bm mg base){j k:Nat}(hk:1<=k)(bt:FnOk P w K mg base CX0 (k+1) a.f_i a.d_i ["wanted","one","other","taken"] (spF1 j a))(bl:FnOk P w K mg base CX0 (k+1) a.f_d a.d_d ["wanted","one","other","taken"] (spF2 j a)):FnOk P w K mg base CX0 (k+1+1) a.f_e a.d_e ["wanted","one","other","taken"] (spPN j a):=by
 have bT:FnOk P w K mg base CX0 k _ _ _ (spToldI a):=(vQ T).mono hk;have bm:FnOk P w K mg base CX0 k _ _ _ (spDieI a):=(tq T).mono hk;refine T.F_e.okL T.lcd_e lr (by decide +kernel) (λvs H Q E h=>?_) (λA outer s H vs Q E hr h=>?_)
 .obtain⟨v1,v2,vt,n,x,G,rfl,_⟩:=h;rfl
 .obtain⟨v1,v2,vt,n,x,G,rfl,g,u,hj,hT,q⟩:=h
  have a9:sizeLine=16777216:=sizeLine_eq;refine⟨_,(kY (ba (aM eE (vr 0) ah (au _)) (ak (ax (eN T.mk_g bT hr rfl T.mc_g T.Bi_g .nil ao (aa (vr 3) ae)))) aD) (kY (ba (aM eE (aI aB (vr 2) ah (λ_ _=>rfl)) ah (au _)) (ak (ax (aq bt hr rfl T.m_i T.F_i.kp T.B_i .nil ao (aa (vr 0) (aa (vr 1) (aa (vr 2) (aa (vr 3) ae))))))) aD) (kY (ba (aM eE (aI aB (vr 1) ah (λ_ _=>rfl)) ah (au _)) (ak (ax (aq bl hr rfl T.m_d T.F_d.kp T.B_d .nil ao (aa (vr 0) (aa (vr 1) (aa (vr 2) (aa (vr 3) ae))))))) aD) (uv (eN T.mk_k bm hr rfl T.mc_k T.Bi_k .nil ao (aa (aR (aa (cK (aa (aI aB (vr 1) ah (λ_ _=>rfl)) (aa (jP (d:=bu) rfl T.lch_e hB rfl (by with_unfolding_all rfl) rfl (gX a) (.head _) T.tnd gJ) ae))) (aa (cK (aa (aI aB (vr 2) ah (λ_ _=>rfl)) (aa (jP (d:=bv) rfl T.lch_e hB rfl (by with_unfolding_all rfl) rfl (gX a) (.tail _ (.head _)) T.tnd gJ) ae))) ae))) ae)))))),?_⟩;obtain⟨M,l1,rfl,a1,b1⟩:=id u.h1;obtain⟨O,l2,rfl,a2,b2⟩:=id u.h2;obtain⟨lt,rfl,a3⟩:=id u.ht;have W:=(aA a1).2;have an:=(aA a2).2;have b3:=u.ok.pv.few;refine ifC (λc=>?_) λc=>?_
  .have c:n=0:=by have z:((n:Nat):Int)=0:=c;lia
   subst c;intro y p hy i a8;have s9:Same H (upd (upd H p (.own y)) y (.ins a.c_g p [])):=λb o e=>by rw[ag (aF e hy),ag (aF e i)];exact e
   refine⟨y,p,lt,x.tk,rfl,ad,.inl (s9 _ _ (aA a3).2),by lia,λH' t br k g1 g2 g3=>⟨rfl,?_⟩⟩;have sm:=made hy i k;refine q _ _ sm.t (hT.same sm) ?_;rw[Pd.tr,Tb.pN_zero];exact rN (g.t sm.t) ⟨y,p,t,br,rfl,g1,g2,g3⟩
  have c:n≠0:=λe=>c (by show((n:Nat):Int)=0;lia)
  obtain⟨m,rfl⟩:∃ m,n=m+1:=⟨n - 1,by lia⟩
  rw[Pd.tr,Tb.pN_succ]at q;have b0:=u.ok.pv.all;refine .inr (.inl ⟨O,_,_,_,rfl,rfl,SqT.of an,aC 0 rfl rfl,ifC (λB=>?_) λB=>?_⟩)
  .have B:x.c2=0:=by have z:((x.c2:Nat):Int)=0:=B;lia
   rw[if_pos B]at q;exact⟨.ref M,.ref O,.ref lt,m,x,G,rfl,g,u,by lia,hj,hT,q⟩
  have B:x.c2≠0:=λe=>B (by show((x.c2:Nat):Int)=0;lia)
  rw[if_neg B]at q;refine .inr (.inl ⟨M,_,_,_,rfl,rfl,SqT.of W,aC 0 rfl rfl,ifC (λC=>?_) λC=>?_⟩)
  .have C:x.c1=0:=by have z:((x.c1:Nat):Int)=0:=C;lia
   rw[if_pos C]at q;exact⟨.ref M,.ref O,.ref lt,m,x,G,rfl,g,u,by lia,hj,hT,q⟩
  have C:x.c1≠0:=λe=>C (by show((x.c1:Nat):Int)=0;lia)
  rw[if_neg C]at q;refine .inr (.inl ⟨M,_,_,_,rfl,rfl,SqT.of W,aC 0 rfl rfl,?_⟩);refine⟨hT,λI d1 H2 t2 bB n1 a6 bn=>?_⟩;refine⟨b8 _ _,λN a5=>?_⟩;have Z:=Same.new (o:=.tup [.int (x.c1:Nat),.ref I]) a5;have al:=ad (H:=H2) (a:=N) (o:=.tup [.int (x.c1:Nat),.ref I]);generalize upd H2 N (.tup [.int (x.c1:Nat),.ref I])=H3 at Z al;have t3:=t2.trans Z.t;refine .inr (.inl ⟨O,_,_,_,rfl,rfl,SqT.of (t3.at an),aC 0 rfl rfl,?_⟩);refine⟨bB.same Z,λL d2 H4 t4 bg n2 a0 a'=>?_⟩;refine⟨b8 _ _,λF a7=>?_⟩;have s5:=Same.new (o:=.tup [.int (x.c2:Nat),.ref L]) a7;have R:=ad (H:=H4) (a:=F) (o:=.tup [.int (x.c2:Nat),.ref L]);generalize upd H4 F (.tup [.int (x.c2:Nat),.ref L])=H5 at s5 R;refine⟨b8 _ _,λl0 a4=>?_⟩;have s6:=Same.new (o:=.lst [.ref N,.ref F]) a4;have as:=ad (H:=H5) (a:=l0) (o:=.lst [.ref N,.ref F]);generalize upd H5 l0 (.lst [.ref N,.ref F])=H6 at s6 as;intro y p hy i a8;have s0:Same H6 (upd (upd H6 p (.own y)) y (.ins a.c_k p [])):=λb o e=>by rw[ag (aF e hy),ag (aF e i)];exact e
  refine⟨y,p,l0,_,rfl,ad,s0 _ _ as,λH7 l fl k g1 g2=>⟨rfl,λH8 s8 hc=>?_⟩⟩;have s7:=made hy i k;have bS:=s7.trans s8;have ab:=s6.trans bS;have r:=s5.trans ab;have Y:=t4.trans r.t;have D:=Z.t.trans Y;have v:=t2.trans D;have cW:=hc 0 _ _ _ rfl rfl (by with_unfolding_all rfl);have cA:=hc 1 _ _ _ rfl rfl (by with_unfolding_all rfl);have cB:=hc 2 _ _ _ rfl rfl (by with_unfolding_all rfl);have cT:=hc 3 _ _ _ rfl rfl (by with_unfolding_all rfl);have f:=g.t v;have X:Bad H6 G:=g.t (t2.trans (Z.t.trans (t4.trans (s5.t.trans s6.t))));have S:=u.t (bw v);have L1:IsLam (untrs H8 G) bu fvP (.ref I) [.int ((m+1:Nat):Int),.ref lt,.ref O,.ref M]:=gQ f ⟨I,d1,_,rfl,D.at a6,D.at bn,rfl,nd4 _,.cons cW (.cons cT (.cons cB (.cons cA .nil)))⟩;have bo:IsLam (untrs H8 G) bv fvP (.ref L) [.int ((m+1:Nat):Int),.ref lt,.ref O,.ref M]:=gQ f ⟨L,d2,_,rfl,r _ _ a0,r _ _ a',rfl,nd4 _,.cons cW (.cons cT (.cons cB (.cons cA .nil)))⟩;refine q _ _ v (bg.same r) ⟨y,p,l,_,rfl,bY f (s8 _ _ g1) (λ_ z=>nomatch z),dQ X (s0.free fl) (s8 _ _ g2),?_,by show 1<=2;decide,by show 2<=5000;decide⟩;exact .cons ⟨N,.ref I,rfl,bY f (Y.at al) (λ_ z=>nomatch z),by show 1<=(x.c1:Int);lia,.inl ⟨_,_,_,m,x,S,.inl ⟨L1,by lia,rfl⟩⟩⟩ (.cons ⟨F,.ref L,rfl,bY f (ab _ _ R) (λ_ z=>nomatch z),by show 1<=(x.c2:Int);lia,.inl ⟨_,_,_,m,x,S,.inr ⟨bo,by lia,rfl⟩⟩⟩ .nil)
theorem nY(T:Txt K mg a)(b:Bm mg base):∀ j,FnOk P w K mg base CX0 (4*j+4) a.f_e a.d_e ["wanted","one","other","taken"] (spPN j a)
 | 0=>pZ (k:=2) T b (by decide) ⟨λc H Q E h=>by obtain⟨v1,v2,vt,n,x,Bd,rfl,_⟩:=h;rfl,λ_ _ _ _ _ _ _ _ _ _ _ _ _ h=>by obtain⟨v1,v2,vt,n,x,Bd,rfl,_,_,hc,hj,_⟩:=h;have:=qd hj;lia⟩ ⟨λc H Q E h=>by obtain⟨v1,v2,vt,n,x,Bd,rfl,_⟩:=h;rfl,λ_ _ _ _ _ _ _ _ _ _ _ _ _ h=>by obtain⟨v1,v2,vt,n,x,Bd,rfl,_,_,hc,hj,_⟩:=h;have:=qd hj;lia⟩
 | j+1=>by
  have G:=nY T b j;have A:=jg (k:=4*j+4) T b (by lia) (ja T (by lia) G) (iX T (by lia) G);exact pZ (k:=4*j+6) T b (by lia) (pL T b A) (qB T b A)
end
open Tb (Tr pN cL wo Pv)
def spV(u:V):Sp:=λvs H Q _=>∃ v,vs=[v]/\Q u H
def yj(a:Ad):Sp:=λvs H Q _=>∃ x dx t,vs=[.ref x]/\H x=some (.ins a.c_g dx [("rising",.ref t)])/\Q (.ref t) H
def RawR(H:Hp)(pt:Int×V)(y:V):Prop:=∃ q,y=.ref q/\H q=some (.tup [.int pt.1,pt.2])/\1<=pt.1
theorem RawR.t{H b:Hp}(s:SameT H b)(a:Int×V)(y:V)(h:RawR H a y):RawR b a y:=by
 obtain⟨q,f,d,c⟩:=h;exact⟨q,f,s.at d,c⟩
def IsRaw(a:Ad)(H:Hp)(v:V)(rs:List (Int×V)):Prop:=∃ x dx l ys,v=.ref x/\H x=some (.ins a.c_k dx [("makes",.ref l)])/\H l=some (.lst ys)/\Paired (RawR H) rs ys/\1<=rs.length/\rs.length<=5000
theorem IsRaw.t{a:Ad}{H c:Hp}{v:V}{b:List (Int×V)}(s:SameT H c)(h:IsRaw a H v b):IsRaw a c v b:=by
 obtain⟨x,j,l,o,g,f,d,i,n,k⟩:=h;exact⟨x,j,l,o,g,s.at f,s.at d,az (RawR.t s) i,n,k⟩
def zb:Sp:=λvs H Q _=>∃ v,vs=[v]/\∀ l,H l=none->Q (.ref l) (upd H l (.lst []))
def o8(rs:List (Int×V)):Int:=(rs.map (·.1)).sum
def wU(a:Ad):Sp:=λvs H Q _=>∃ v rs,vs=[v]/\IsRaw a H v rs/\∀ H',Same H H'->Q (.int (o8 rs)) H'
def PrR(H:Hp)(p:Int×Tr)(r:Int×V):Prop:=p.1=r.1/\1<=p.1/\IsMk H r.2 p.2
theorem lG{a:Ad}{H:Hp}{v:V}{b:List Int}(h:IsNd a H v (.leaf b)):IsTold a H v b:=h
theorem kU{a:Ad}{H:Hp}{v:V}{ps:List (Int×Tr)}(h:IsNd a H v (.die ps)):∃ rs,IsRaw a H v rs/\Paired (PrR H) ps rs:=by
 obtain⟨x,o,l,b,rfl,n,s,i,A,q⟩:=h
 have c:∀{ps:List (Int×Tr)}{b:List V},Paired (NdR H) ps b->∃ rs:List (Int×V),Paired (RawR H) rs b/\Paired (PrR H) ps rs:=by
  intro ps b h
  induction h with
  | nil=>exact⟨[],.nil,.nil⟩
  | @cons pt y ps b r _ ih =>
   obtain⟨rs,u,z⟩:=ih;obtain⟨p,f,j,w,g,B⟩:=r;exact⟨(pt.1,f)::rs,.cons ⟨p,j,w,g⟩ u,.cons ⟨rfl,g,B⟩ z⟩
 obtain⟨rs,k,d⟩:=c i;have:rs.length=ps.length:=d.length.symm;exact⟨rs,⟨x,o,l,b,rfl,n,s,k,by lia,by lia⟩,d⟩
theorem qA{H:Hp}{ps:List (Int×Tr)}{a:List (Int×V)}(h:Paired (PrR H) ps a):o8 a=Tb.tot ps:=by
 induction h with
 | nil=>rfl
 | cons r _ ih =>
  unfold o8 Tb.tot at *;rw[map_cons,map_cons,sum_cons,sum_cons,ih,r.1]
def rMk(a:Ad)(f:V)(H:Hp)(Q:VK):Prop:=vL bu fvP (v7 a) f [] H Q\/vL bv fvP (vw a) f [] H Q\/pM ld_going_1 fvG (wE a) f [] H Q
theorem kK{a:Ad}{H:Hp}{d:List Addr}{f:V}{t:Tr}{Q:VK}(h:IsMk (untrs H d) f t)(b:Bad H d)(u:TabsOk (tabs a) H)(q:Res a H d t Q):rMk a f H Q:=by
 rcases h with⟨z,A,y,n,x,w,⟨⟨k,c,l,rfl,s,o,i,j,r⟩,v,rfl⟩ | ⟨⟨k,c,l,rfl,s,o,i,j,r⟩,v,rfl⟩⟩ | ⟨k,c,l,C,p,g,B,rfl,s,o,i,j,r,D,E,rfl⟩
 .exact .inl ⟨k,c,l,_,rfl,(aA s).2,(aA o).2,i,j,dh dA r,z,A,y,n,x,d,rfl,rfl,b,w,v,u,q⟩
 .exact .inr (.inl ⟨k,c,l,_,rfl,(aA s).2,(aA o).2,i,j,dh dA r,z,A,y,n,x,d,rfl,rfl,b,w,v,u,q⟩)
 .exact .inr (.inr ⟨k,c,l,_,rfl,(aA s).2,(aA o).2,i,j,dh dA r,C,p,g,B,d,rfl,rfl,b,D,E,u,q⟩)
def PartN(a:Ad)(H:Hp)(pt:Int×Tr)(z:V):Prop:=∃ q u,z=.ref q/\H q=some (.tup [.int pt.1,u])/\IsNd a H u pt.2
theorem PartN.t{a:Ad}{H c:Hp}(s:SameT H c)(b:Int×Tr)(z:V)(h:PartN a H b z):PartN a c b z:=by
 obtain⟨q,u,g,f,d⟩:=h;exact⟨q,u,g,s.at f,d.t s⟩
def yr(a:Ad):Sp:=λvs H Q _=>∃ v ps Bd,vs=[v]/\Bad H Bd/\IsNd a (untrs H Bd) v (.die ps)/\TabsOk (tabs a) H/\∀ H' D zs,SameT H H'->TabsOk (tabs a) H'->H D=none->H' D=some (.lst zs)->Paired (PartN a (untrs H' Bd)) ps zs->Q (.ref D) H'
section
variable {P:Program}{w:World}{K:Frag}{mg:Str->Option Value}{base:Heap}{a:Ad}
theorem xk(T:Txt K mg a)(l:Bm mg base):LamOk P w K mg base 12 bu fvP [] (v7 a):=by
 have y:=nY (P:=P) (w:=w) T l 1;have i:FnOk P w K mg base CX0 11 _ _ _ (spF1 2 a):=pL T l (jg (k:=8) T l (by decide) (ja T (by decide) y) (iX T (by decide) y));refine lJ lsP (λN L g c B G=>match B,G with | [],_=>rfl) (λvals vs H Q E h=>?_) (λA outer s H f c g vals vs Q E hr hfv ca h=>?_)
 .obtain⟨r,v,o,n,x,p,rfl,rfl,_⟩:=h;rfl
 .obtain⟨r,v,o,n,x,p,rfl,rfl,b,C,I,F,q⟩:=h
  refine⟨_,(aq i hr rfl T.m_i T.F_i.kp T.B_i .nil ao (aa (vr 0) (aa (vr 3) (aa (vr 2) (aa (vr 1) ae))))),?_⟩;have d:=C.un (eM b ca);rw[cX]at d;exact⟨r,v,o,n,x,p,rfl,jm ca b,d,I,gz _ _ _,TabsOk.untrs F ca,λM u D j z=>λH3 s3 hc3=>q _ _ (nB D s3 hc3) (j.same s3) (z.t (bw s3.t))⟩
theorem xI(T:Txt K mg a)(j:Bm mg base):LamOk P w K mg base 12 bv fvP [] (vw a):=by
 have y:=nY (P:=P) (w:=w) T j 1;have l:FnOk P w K mg base CX0 11 _ _ _ (spF2 2 a):=qB T j (jg (k:=8) T j (by decide) (ja T (by decide) y) (iX T (by decide) y));refine lJ lsQ (λN L g c B G=>match B,G with | [],_=>rfl) (λvals vs H Q E h=>?_) (λA outer s H f c g vals vs Q E hr hfv ca h=>?_)
 .obtain⟨r,v,o,n,x,p,rfl,rfl,_⟩:=h;rfl
 .obtain⟨r,v,o,n,x,p,rfl,rfl,b,C,I,F,q⟩:=h
  refine⟨_,(aq l hr rfl T.m_d T.F_d.kp T.B_d .nil ao (aa (vr 0) (aa (vr 3) (aa (vr 2) (aa (vr 1) ae))))),?_⟩;have d:=C.un (eM b ca);rw[cX]at d;exact⟨r,v,o,n,x,p,rfl,jm ca b,d,I,gz _ _ _,TabsOk.untrs F ca,λM u D i z=>λH3 s3 hc3=>q _ _ (nB D s3 hc3) (i.same s3) (z.t (bw s3.t))⟩
theorem xn(T:Txt K mg a)(hB:Bm mg base):LamOkC P w K mg base 14 ld_going_1 fvG [] (wE a):=by
 have X:=nY (P:=P) (w:=w) T hB 2;have j:LamOk P w K mg base 13 cu fvP ["place"] (yF 2 a):=ja T (by decide) X;have i:LamOk P w K mg base 13 bO fvP ["place"] (yQ 2 a):=iX T (by decide) X;refine pF lsG (λpm ab b c us hl=>match us,hl with | [],_=>rfl) (λl vals vs H Q E h=>?_) (λA outer s H f c b vals vs Q E hr hfv ca h=>?_)
 .obtain⟨go,p,g,Z,z,rfl,rfl,_⟩:=h;rfl
 .obtain⟨go,p,g,Z,z,rfl,rfl,D,I,Y,hT,q⟩:=h
  refine⟨_,(PE.or (gK (vr 1) j hr (aa (vr 0) ae)) (gK (vr 1) i hr (aa (vr 0) ae))),?_⟩;rw[cX]at I;have d:=jm ca D;have k:=TabsOk.untrs hT ca;have G:Res a (untrs H (b.map (·.2))) z (g p) (λv R=>∀ H3,Same R H3->(∀ p∈b,H3 p.2=H p.2)->Q v H3):=λR u t' hT' hN=>λH3 s3 hc3=>q _ _ (nB t' s3 hc3) (hT'.same s3) (hN.t (bw s3.t))
  generalize untrs H (b.map (·.2))=U at I d k G;obtain⟨S,W,O,n,x,N,⟨⟨r,o,l,rfl,y,F,B,C,L⟩,M,rfl,rfl,_⟩ | ⟨⟨r,o,l,rfl,y,F,B,C,L⟩,M,rfl,rfl,_⟩⟩:=I
  .exact .inl ⟨⟨r,_,l,o,rfl,(aA y).2⟩,λ_ _ _ _ _ e=>e,r,o,l,_,rfl,(aA y).2,(aA F).2,B,C,dh dA L,S,W,O,n,x,p,z,rfl,rfl,d,N,M,Y,gz _ _ _,k,G⟩
  .exact .inr ⟨⟨r,_,l,o,rfl,(aA y).2⟩,λ_ _ _ _ _ e=>e,r,o,l,_,rfl,(aA y).2,(aA F).2,B,C,dh dA L,S,W,O,n,x,p,z,rfl,rfl,d,N,M,Y,gz _ _ _,k,G⟩
theorem sG(T:Txt K mg a):FnOk P w K mg base CX0 1 a.x_l a.y_l ["self"] (spV (.bl true)):=by
 refine T.F_l.ok iR (λb H Q E h=>?_) (λcdv A outer s H b Q E hr h=>?_)
 .obtain⟨v,rfl,_⟩:=h;rfl
 .obtain⟨v,rfl,q⟩:=h
  exact⟨_,(ak (ax dG)),q⟩
theorem tJ(T:Txt K mg a):FnOk P w K mg base CX0 1 a.x_t a.y_t ["self"] (spV (.int 0)):=by
 refine T.F_t.ok j7 (λb H Q E h=>?_) (λcdv A outer s H b Q E hr h=>?_)
 .obtain⟨v,rfl,_⟩:=h;rfl
 .obtain⟨v,rfl,q⟩:=h
  exact⟨_,(ak (ax ah)),q⟩
theorem wZ(T:Txt K mg a):FnOk P w K mg base CX0 1 a.x_B a.y_B ["self"] (yj a):=by
 refine T.F_B.ok me (λd H Q E h=>?_) (λcdv A outer s H d Q E hr h=>?_)
 .obtain⟨x,b,t,rfl,_⟩:=h;rfl
 .obtain⟨x,b,t,rfl,c,q⟩:=h
  exact⟨_,(ak (ax (bN (vr 0) rfl))),x,_,b,_,_,rfl,c,T.cl_g,T.na_Told_rising,rfl,q⟩
theorem uW(T:Txt K mg a):FnOk P w K mg base CX0 1 a.x_o a.y_o ["self"] (spV (.bl false)):=by
 refine T.F_o.ok jo (λb H Q E h=>?_) (λcdv A outer s H b Q E hr h=>?_)
 .obtain⟨v,rfl,_⟩:=h;rfl
 .obtain⟨v,rfl,q⟩:=h
  exact⟨_,(ak (ax dG)),q⟩
theorem xp(T:Txt K mg a):FnOk P w K mg base CX0 1 a.x_F a.y_F ["self"] (spV .non):=by
 refine T.F_F.ok mH (λb H Q E h=>?_) (λcdv A outer s H b Q E hr h=>?_)
 .obtain⟨v,rfl,_⟩:=h;rfl
 .obtain⟨v,rfl,q⟩:=h
  exact⟨_,(ak (ax xZ)),q⟩
theorem xD(T:Txt K mg a):FnOk P w K mg base CX0 1 a.x_q a.y_q ["self"] zb:=by
 refine T.F_q.ok jY (λc H Q E h=>?_) (λcdv A outer s H c Q E hr h=>?_)
 .obtain⟨v,rfl,_⟩:=h;rfl
 .obtain⟨v,rfl,q⟩:=h
  exact⟨_,(ak (ax (aR ae))),Nat.zero_le _,λl b=>q l b⟩
theorem tw(T:Txt K mg a):FnOk P w K mg base CX0 1 a.x_x a.y_x ["self"] (wU a):=by
 refine T.F_x.ok lH (λO H Q E h=>?_) (λcdv A outer s H O Q E hr h=>?_)
 .obtain⟨v,d,rfl,_⟩:=h;rfl
 .obtain⟨v,d,rfl,⟨x,R,l,k,rfl,W,I,B,L,X⟩,q⟩:=h
  have u:sizeLine=16777216:=sizeLine_eq;refine⟨_,(ak (ax (av (ck rfl) rfl T.z_sum d4 (aa (cE rfl (N:=["many","make"]) (ix:=[none,none]) ⟨rfl,rfl,rfl,rfl,trivial⟩ (b9 (bN (vr 0) rfl)) ⟨λC s H F=>(fU (K:=K) (n:=2) rfl rfl (aE (ay (i:=0) (show List.Nodup (["many","make"]:List Str) by decide +kernel) rfl (Or.inl rfl)) (aE (ay (i:=1) (show List.Nodup (["many","make"]:List Str) by decide +kernel) rfl (Or.inl rfl)) cJ))),λC s H F=>ce,λC s H F=>(vr 0)⟩) ae)))),?_⟩;refine⟨x,_,R,_,_,rfl,W,T.cl_k,T.na_Die_makes,rfl,.inl ⟨⟨_,SqL.of I⟩,λD z=>?_⟩⟩
  let Pw1:PvL:=λi j c=>Same H c/\c D=some (.lst j)/\i<=d.length/\j=((d.take i).map (·.1)).map V.int
  refine bL (K:=K) (a:=l) (xs:=k) Pw1 ⟨Same.new z,ad,Nat.zero_le _,rfl⟩ (λi k c h=>SqL.of (h.1 _ _ I)) (λi k c h=>h.2.1) ?_ ?_
  .rintro i y j c Y S ⟨g,b,Z,rfl⟩ r
   obtain⟨⟨G,t⟩,f,M,rfl,p,_⟩:=bx B S;have o:i<d.length:=(List.getElem?_eq_some_iff.mp f).1;refine⟨M,_,rfl,SqT.of (g _ _ p),rfl,_,_,rfl,_,_,rfl,rfl,trivial,b,by rw[length_map,length_map,length_take];lia,r _ _ ⟨g.put z,ad,o,?_⟩⟩;rw[take_add_one,f];simp
  .rintro j c ⟨g,b,_,rfl⟩
   rw[show k.length=d.length from B.length.symm,take_length]at b;exact⟨D,_,rfl,SqL.of b,q _ g⟩
theorem xz(T:Txt K mg a)(hB:Bm mg base):FnOk P w K mg base CX0 16 a.x_w a.y_w ["self"] (yr a):=by
 have S:LamOk P w K mg base 15 bu fvP [] (v7 a):=LamOk.mono (xk T hB) (by decide);have al:LamOk P w K mg base 15 bv fvP [] (vw a):=LamOk.mono (xI T hB) (by decide);have Y:LamOkC P w K mg base 15 ld_going_1 fvG [] (wE a):=LamOkC.mono (xn T hB) (by decide);refine T.F_w.ok lU (λvs H Q E h=>?_) (λcdv A outer s H vs Q E hr h=>?_)
 .obtain⟨v,G,R,rfl,_⟩:=h;rfl
 .obtain⟨v,G,R,rfl,a3,a8,hT,q⟩:=h
  have a6:sizeLine=16777216:=sizeLine_eq;obtain⟨rs,⟨x,dx,l,F,rfl,hx,hl,j,bl,bm⟩,W⟩:=kU a8;have rl:rs.length=G.length:=W.length.symm;have a0:F.length=rs.length:=j.length.symm;have hx:=(aA hx).2;have hl:=(aA hl).2;refine⟨_,(ak (ax (cE rfl (N:=["many","make"]) (ix:=[none,none]) ⟨rfl,rfl,rfl,rfl,trivial⟩ (b9 (bN (vr 0) rfl)) ⟨λC s H fp=>(fU (K:=K) (n:=2) rfl rfl (aE (ay (i:=0) (show List.Nodup (["many","make"]:List Str) by decide +kernel) rfl (Or.inl rfl)) (aE (ay (i:=1) (show List.Nodup (["many","make"]:List Str) by decide +kernel) rfl (Or.inl rfl)) cJ))),λC s H fp=>ce,λC s H fp=>(cK (aa (vr 0) (aa (PE.or (fO (vr 1) S hr) (PE.or (fO (vr 1) al hr) (gy (vr 1) Y hr))) ae)))⟩))),?_⟩;refine⟨x,_,dx,_,_,rfl,hx,T.cl_k,T.na_Die_makes,rfl,.inl ⟨⟨_,SqL.of hl⟩,λD L=>?_⟩⟩;have ext:∀{d:Hp},TabsOk (tabs a) d->∀{F:List V}{an:List V},d D=some (.lst F)->TabsOk (tabs a) (upd d D (.lst an)):=λa5 F an e=>a5.put (λG z=>by rw[e]at z;cases z) λφ z=>by rw[e]at z;cases z
  let Pw2:PvL:=λi p d=>SameT H d/\TabsOk (tabs a) d/\d D=some (.lst p)/\i<=G.length/\Paired (PartN a (untrs d (D::R))) (G.take i) p
  refine bL (K:=K) (a:=l) (xs:=F) Pw2
   ⟨(Same.new L).t,hT.same (Same.new L),ad,Nat.zero_le _,.nil⟩ (λi F d h=>SqL.of (h.1.at hl)) (λi F d h=>h.2.2.1) ?_ ?_
  .rintro i y p d P' hy ⟨I,r,g,hi,hc⟩ a7
   obtain⟨⟨M,f⟩,a4,q1,rfl,B,m0⟩:=bx j hy;obtain⟨⟨c,t⟩,Z,e9,_,a2⟩:=bx W a4;have e9:c=M:=e9;subst e9;have B:=(aA B).2;have as:i<G.length:=(List.getElem?_eq_some_iff.mp Z).1
   have k:Bad d (D::R):=λb hb=>by
    rcases mem_cons.mp hb with rfl | hb
    .exact⟨_,g⟩
    .exact a3.t I b hb
   refine⟨q1,_,rfl,SqT.of (I.at B),rfl,_,_,rfl,_,_,rfl,rfl,trivial,?_⟩;refine kK (a2.t (kn I L)) k r λH2 u t2 a9 hu=>?_
   have a':=t2.at g;refine⟨by show 2<=sizeLine;decide,λq2 bg=>?_⟩;have X:=Same.new (o:=.tup [.int c,u]) bg;have ab:=X _ _ a';have yl:p.length<=5000:=by rw[<- hc.length,length_take];lia
   have a1:=(I.trans t2).trans X.t;have O:=(k.t t2).t X.t;have c3:SameT (untrs H2 (D::R)) (untrs (upd (upd H2 q2 (.tup [.int c,u])) D (.lst (p++[.ref q2]))) (D::R)):=(bw X.t).trans (eC mem_cons_self);refine⟨ab,by lia,a7 _ _ ⟨a1.put L,ext (a9.same X) ab,ad,as,dX (az (PartN.t ((bw t2).trans c3)) hc) Z ⟨q2,u,rfl,?_,hu.t c3⟩⟩⟩;exact(eC (o:=.lst (p++[.ref q2])) mem_cons_self).at (bY O ad (λ_ z=>nomatch z))
  .rintro p d ⟨I,r,g,hi,hc⟩
   rw[a0,rl,take_length]at hc;exact q d D p I r L g (az (PartN.t kg) hc)
end
open Tb (Tr Ent Way bnd wK Dk Dks)
theorem zu{H a:Hp}{D:Addr}(s:SameT H a)(h:H D=none):SameT H (untr a D):=λb o e=>by
 rw[bC (aF e h)];exact s b o e
theorem yg{H a:Hp}{D:Addr}(s:SameT H a):SameT (untr H D) (untr a D):=λb o e=>by
 by_cases hb:b=D
 .rw[hb,dJ]at e;cases e
 .rw[bC hb]at e ⊢
  exact s b o e
def bd(d:Nat):Nat:=43*(24 - d)+2
def EntR(a:Ad)(H:Hp)(e:Ent)(y:V):Prop:=∃ q v d,y=.ref q/\H q=some (.tup [v,.int e.2.1,.int e.2.2])/\IsNd a H v e.1/\Dk d e.1/\d<=24/\Bt (bd d) e.2.1/\Bt (bd d) e.2.2/\0<e.2.2
theorem EntR.t{a:Ad}{H b:Hp}(s:SameT H b)(e:Ent)(y:V)(h:EntR a H e y):EntR a b e y:=by
 obtain⟨q,v,d,g,f,c,i⟩:=h;exact⟨q,v,d,g,s.at f,c.t s,i⟩
def WayR(H:Hp)(w:Way)(y:V):Prop:=∃ q kt ct ns,y=.ref q/\H q=some (.tup [.ref kt,.ref ct])/\H kt=some (.tup (ns.map V.int))/\Srt ns w.1/\H ct=some (.tup [.int w.2.1,.int w.2.2])/\Bt 1100 w.2.1/\Bt 1100 w.2.2/\0<w.2.2
theorem WayR.t{H a:Hp}(s:SameT H a)(w:Way)(y:V)(h:WayR H w y):WayR a w y:=by
 obtain⟨q,l,c,d,g,f,b,i,k,j⟩:=h;exact⟨q,l,c,d,g,s.at f,s.at b,i,s.at k,j⟩
def RefMT(a:Ad)(H:Hp)(E:XK):Prop:=∀ H',SameT H H'->TabsOk (tabs a) H'->E (.ref a.c_m) none H'
def t8(a:Ad):Sp:=λvs H Q E=>∃ v d t,vs=[v]/\IsNd a H v t/\Dk d t/\d<=24/\Tb.Ok t/\TabsOk (tabs a) H/\(Tb.lv t<=4096->∀ H' l zs,SameT H H'->TabsOk (tabs a) H'->H l=none->H' l=some (.lst zs)->Paired (WayR H') (Tb.wl t 1 1) zs->Q (.ref l) H')/\(4096<Tb.lv t->RefMT a H E)
theorem yY{a:Ad}{H d:Hp}{E:XK}{c:Addr}(t:SameT H d)(j:TabsOk (tabs a) d)(q:∀ H',SameT H H'->TabsOk (tabs a) H'->E (.ref c) none H'):∀ z,d z=none->∃ x dct φ,V.ref z=.ref x/\(upd d z (.ext (XD0 z c))) x=some (.ext φ)/\(∀ h,φ h->XU x c dct h)/\H x=none/\E (.ref c) dct (untr (upd d z (.ext (XD0 z c))) x):=λz f=>by
 have g:Same d (untr (upd d z (.ext (XD0 z c))) z):=λb o e=>by
  have i:b≠z:=λy=>by rw[y,f]at e;cases e
  rw[bC i,ag i];exact e
 exact⟨z,none,_,rfl,ad,λh y=>y,t.free f,q _ (t.trans g.t) (j.same g)⟩
def cut2(H:Hp)(l m:Addr):Hp:=untrs H [l,m]
theorem g7{H:Hp}{l m b:Addr}{o:HO}(h:cut2 H l m b=some o):b≠l/\b≠m/\H b=some o:=by
 obtain⟨n,e⟩:=aA h;exact⟨λz=>n (by rw[z];simp),λz=>n (by rw[z];simp),e⟩
theorem g9{H:Hp}{l m b:Addr}{o:HO}(c:b≠l)(a:b≠m)(h:H b=some o):cut2 H l m b=some o:=by
 unfold cut2;rw[bb (by simp[c,a])];exact h
theorem SameT.cut2{H a:Hp}{l m:Addr}(s:SameT H a):SameT (cut2 H l m) (My.cut2 a l m):=bw s
theorem oX{H:Hp}{l m:Addr}{o:HO}:SameT (cut2 H l m) (cut2 (upd H l o) l m):=eC (by simp)
theorem yU{H:Hp}{l m:Addr}{o:HO}:SameT (cut2 H l m) (cut2 (upd H m o) l m):=eC (by simp)
theorem nH{H:Hp}{l m:Addr}:SameT (cut2 H l m) H:=dA
theorem yA{H a:Hp}{l m:Addr}(s:SameT H a)(d:H l=none)(h2:H m=none):SameT H (cut2 a l m):=λb o e=>by
 have c:b ∉ [l,m]:=λz=>by
  rcases mem_cons.mp z with z | z
  .rw[z,d]at e;cases e
  .rw[mem_singleton.mp z,h2]at e;cases e
 unfold cut2;rw[bb c];exact s b o e
theorem iD{d c:Type}{r:d->c->Prop}:∀{as:List d}{bs:List c},Paired r as bs->bs≠[]->∃ as' a bs' b,as=as'++[a]/\bs=bs'++[b]/\Paired r as' bs'/\r a b
 | _,_,.nil,h=>absurd rfl h
 | _,_,.cons (a:=a) (b:=b) x (.nil),_=>⟨[],_,[],_,rfl,rfl,.nil,x⟩
 | _,_,.cons x (.cons y t),_=>by
  obtain⟨as',a,bs',b,g,f,j,i⟩:=iD (.cons y t) (by simp);exact⟨_::as',a,_::bs',b,by rw[g];rfl,by rw[f];rfl,.cons x j,i⟩
theorem cut_sub{H:Hp}{D:Addr}:SameT (untr H D) H:=λb a e=>by
 by_cases hb:b=D
 .rw[hb,dJ]at e;cases e
 .rw[bC hb]at e
  exact SameT.refl b a e
theorem rQ{H:Hp}{l m b:Addr}(h:H b=none):cut2 H l m b=none:=by
 cases e:cut2 H l m b with
 | none=>rfl
 | some o=>rw[(g7 e).2.2]at h;cases h
theorem sT{H:Hp}{l m D:Addr}{o:HO}:SameT (untr (cut2 H l m) D) (untr (cut2 (upd H D o) l m) D):=λb a e=>by
 by_cases hb:b=D
 .rw[hb,dJ]at e;cases e
 .rw[bC hb]at e
  obtain⟨d,c,h⟩:=g7 e;have:untr (cut2 (upd H D o) l m) D b=some a:=by rw[bC hb];exact g9 d c (by rw[ag hb];exact h)
  exact⟨λ_=>this,a,this⟩
theorem kq{b a:Type}{r:b->a->Prop}{c:List b}{ds:List a}(h2:Paired r c ds):∀{as:List b}{bs:List a},Paired r as bs->Paired r (as++c) (bs++ds)
 | _,_,.nil=>h2
 | _,_,.cons x t=>.cons x (kq h2 t)
theorem ui:∀{d:Nat}{ps:List (Int×Tr)},Dks d ps->(ps.length:Int)<=Tb.tot ps/\Tb.tot ps<=(ps.length:Int)*1000000000
 | _,[],_=>by simp[Tb.tot]
 | d,(m,u)::r,h=>by
  rw[Tb.Dks]at h;have b:=ui h.2.2.2;have f:=h.1;have c:=h.2.1;have a:Tb.tot ((m,u)::r)=m+Tb.tot r:=by unfold Tb.tot;rw[map_cons,sum_cons]
  rw[a,length_cons];have e:((r.length+1:Nat):Int)*1000000000=(r.length:Int)*1000000000+1000000000:=by rw[Int.natCast_add,Int.add_mul];simp
  rw[e];show((r.length+1:Nat):Int)<=m+_/\m+_<=_;lia
section
variable {P:Program}{w:World}{K:Frag}{mg:Str->Option Value}{base:Heap}{a:Ad}
theorem vF(T:Txt K mg a)(hB:Bm mg base):FnOk P w K mg base (CXG P w) 18 a.f_K a.d_K ["node"] (t8 a):=by
 have ec:FnOk P w K mg base CX0 17 _ _ _ _:=(sG T).mono (by decide);have ei:FnOk P w K mg base CX0 17 _ _ _ _:=(uW T).mono (by decide);have ef:FnOk P w K mg base CX0 17 _ _ _ _:=(wZ T).mono (by decide);have d0:FnOk P w K mg base CX0 17 _ _ _ _:=(xp T).mono (by decide);have er:FnOk P w K mg base CX0 17 _ _ _ _:=(tJ T).mono (by decide);have dr:FnOk P w K mg base CX0 17 _ _ _ _:=(tw T).mono (by decide);have eg:FnOk P w K mg base CX0 17 _ _ _ _:=(xD T).mono (by decide);have dp:FnOk P w K mg base CX0 17 _ _ _ _:=(xz T hB).mono (by decide);refine T.F_K.okG sc_K (λvs H Q E h=>?_) (λcdv A outer s H vs Q E hr h=>?_)
 .obtain⟨v,d,t,rfl,_⟩:=h;rfl
 .obtain⟨v,d,t,rfl,hn,dy,hd,ek,hT,q1,q2⟩:=h
  have ea:sizeLine=16777216:=sizeLine_eq;refine⟨_,(af (aw (i:=1) sc_K.nd rfl (Or.inl rfl) (aR ae)) (af (aw (i:=2) sc_K.nd rfl (Or.inl rfl) (aR (aa (cK (aa (vr 0) (aa ah (aa ah ae)))) ae))) (af (gY vP (nU (vr 2) (λ_=>rfl)) (af (jN (pe_m.pop (vr 2)) (gA rfl (aE (ay (i:=3) sc_K.nd rfl (Or.inl rfl)) (aE (ay (i:=4) sc_K.nd rfl (Or.inr rfl)) (aE (ay (i:=5) sc_K.nd rfl (Or.inr rfl)) cJ))))) (af (ba (dR (PE.or (ap (vr 3) T.cl_g T.mt_l ec hr T.B_l .nil ao) (ap (vr 3) T.cl_k T.mt_o ei hr T.B_o .nil ao))) (ak (bA (pe_m.append (vr 1) (aa (cK (aa (PE.or (ap (vr 3) T.cl_g T.mt_B ef hr T.B_B .nil ao) (ap (vr 3) T.cl_k T.mt_F d0 hr T.B_F .nil ao)) (aa (cK (aa (vr 4) (aa (vr 5) ae))) ae))) ae)))) (af (aw (i:=6) sc_K.nd rfl (Or.inr rfl) (PE.or (ap (vr 3) T.cl_g T.mt_t er hr T.B_t .nil ao) (ap (vr 3) T.cl_k T.mt_x dr hr T.B_x .nil ao))) (ak (bA (pe_m.extend (vr 2) (aa (cE rfl (N:=["many","after","top","bottom","sides"]) (ix:=[none,none,some 4,some 5,some 6]) ⟨rfl,rfl,rfl,rfl,⟨rfl,rfl,rfl,⟨rfl,rfl,rfl,⟨rfl,rfl,rfl,trivial⟩⟩⟩⟩ (b9 (PE.or (ap (vr 3) T.cl_g T.mt_q eg hr T.B_q .nil ao) (ap (vr 3) T.cl_k T.mt_w dp hr T.B_w .nil ao))) ⟨λC s H fp=>(fU (K:=K) (n:=2) rfl rfl (aE (ay (i:=0) (show List.Nodup (["many","after","top","bottom","sides"]:List Str) by decide +kernel) rfl (Or.inl rfl)) (aE (ay (i:=1) (show List.Nodup (["many","after","top","bottom","sides"]:List Str) by decide +kernel) rfl (Or.inl rfl)) cJ))),λC s H fp=>ce,λC s H fp=>(cK (aa (vr 1) (aa (ar cY (vr 2) (vr 0)) (aa (ar cY (vr 3) (vr 4)) ae))))⟩) ae)))))) (ak (ba (aM jX (ar b7 (av aQ rfl T.z_len cf (aa (vr 1) ae)) (av aQ rfl T.z_len cf (aa (vr 2) ae))) (kH rfl T.g_MOST_WAYS) (au _)) (ak (cI T.xc_m T.xh_m (gZ T.xi_TooMany T.kc_TooMany rfl T.mc_m))) aD))))) (ak (ax (vr 1)))))),jz ?_⟩;intro eT ey ex;refine⟨Nat.zero_le _,λj a9=>?_⟩;have u1:=Same.new (o:=.lst []) a9;refine⟨by show 3<=sizeLine;decide,λq0 b3=>?_⟩;have u2:=Same.new (o:=.tup [v,.int 1,.int 1]) b3;refine⟨by show 1<=sizeLine;decide,λg an=>?_⟩
  have u3:=Same.new (o:=.lst [.ref q0]) an;have b':=(u1.trans u2).trans u3;have Z:=(u2.trans u3) _ _ (ad (H:=H) (a:=j) (o:=.lst []));have dk:=u3 _ _ (ad (H:=upd H j (.lst [])) (a:=q0) (o:=.tup [v,.int 1,.int 1]));have M:=ad (H:=upd (upd H j (.lst [])) q0 (.tup [v,.int 1,.int 1])) (a:=g) (o:=.lst [.ref q0]);have a1:H g=none:=(u1.trans u2).free an;have dv:q0≠g:=λz=>by rw[<- z,ad]at an;cases an
  have ds:q0≠j:=λz=>by rw[z,ad]at b3;cases b3
  have b5:j≠g:=λz=>by rw[<- z,u2 _ _ (ad (H:=H) (a:=j) (o:=.lst []))]at an;cases an
  have c0:Bt (bd d) 1:=(show Bt 2 1 by unfold Bt;decide).mono (by unfold bd;lia)
  let Pw2:PvS:=λc σ Y=>∃(s:List Ent) (k:List Way) (ys G:List V) (x3 x4 x5 x6:Option V),c=Tb.stS s/\SameT H Y/\TabsOk (tabs a) Y/\Y g=some (.lst ys)/\Y j=some (.lst G)/\Paired (EntR a (cut2 Y g j)) s ys/\Paired (WayR (cut2 Y g j)) k G/\Tb.Wk t k s/\k.length+s.length<=4096/\σ=[some v,some (.ref j),some (.ref g),x3,x4,x5,x6]
  refine⟨Pw2,
   ⟨_,[(t,(1,1))],[],[.ref q0],[],none,none,none,none,rfl,b'.t,hT.same b',M,Z,.cons ⟨q0,v,d,rfl,g9 dv ds dk,hn.t (yA b'.t a1 a9),dy,hd,c0,c0,Int.zero_lt_one⟩ .nil,.nil,Tb.Wk.start ek,(show 0+1<=4096 by decide),rfl⟩,?_⟩
  clear Z dk M;rintro c σ Y ⟨s,k,ys,G,x3,x4,x5,x6,rfl,t1,dm,a3,cA,hE,a8,hW,S,rfl⟩;refine⟨_,.inl ⟨_,SqL.of a3,rfl⟩,?_⟩;refine ifB (λhc=>?_) (λhc=>?_)
  .refine⟨_,λ_ _ h=>h,?_⟩
   have ne:ys≠[]:=λz=>by rw[z]at hc;cases hc
   obtain⟨s',e,f,y,rfl,rfl,b6,q,v1,d1,rfl,hq,eq,F,ev,b1,b2,b0⟩:=iD hE ne;obtain⟨u,tp,bt⟩:=e;obtain⟨es,eS,dT⟩:=g7 hq;refine⟨.inl ⟨rfl,_,SqL.of a3⟩,⟨g,_,_,rfl,rfl,a3,by simp;rfl,?_⟩⟩;have ed:(f++[V.ref q]).dropLast=f:=List.dropLast_concat;have t2:SameT H (upd Y g (.lst (f++[V.ref q]).dropLast)):=t1.put a1;have co:TabsOk (tabs a) (upd Y g (.lst (f++[V.ref q]).dropLast)):=dm.put (λr z=>by rw[a3]at z;cases z) λφ z=>by rw[a3]at z;cases z
   have R:(upd Y g (.lst (f++[V.ref q]).dropLast)) g=some (.lst f):=by rw[ad,ed]
   have O:(upd Y g (.lst (f++[V.ref q]).dropLast)) j=some (.lst G):=by rw[ag b5];exact cA
   have cT:(upd Y g (.lst (f++[V.ref q]).dropLast)) q=some (.tup [v1,.int tp,.int bt]):=by rw[ag es];exact dT
   have c2:SameT (cut2 Y g j) (cut2 (upd Y g (.lst (f++[V.ref q]).dropLast)) g j):=oX;refine⟨q,_,rfl,SqT.of cT,rfl,_,_,rfl,_,_,rfl,_,_,rfl,rfl,?_⟩;generalize upd Y g (.lst (f++[V.ref q]).dropLast)=H2 at t2 co R O cT c2;have de:=az (EntR.t c2) b6;have bn:=az (WayR.t c2) a8;have cs:=eq.t c2;cases u with
   | leaf ns =>
    obtain⟨x,dx,kt,en,rfl,hx,cG,hs⟩:=lG cs;have ab:=(g7 hx).2.2;have eu:=(g7 cG).2.2;refine .inl ⟨x,dx,_,rfl,ab,rfl,_,rfl,?_⟩;refine⟨.inl ⟨rfl,_,SqL.of O⟩,.inl ⟨x,dx,_,rfl,ab,rfl,x,dx,kt,rfl,ab,?_⟩⟩;have br:bd d1<=1100:=by unfold bd;lia
    have zl:G.length=k.length:=a8.length.symm;have yl:f.length=s'.length:=b6.length.symm;have c5:k.length+(s'.length+1)<=4096:=by rw[length_append]at S;exact S
    refine⟨by show 2<=sizeLine;decide,λct a4=>?_⟩;have n1:=Same.new (o:=.tup [.int tp,.int bt]) a4;refine⟨by show 2<=sizeLine;decide,λp fp=>?_⟩;have n2:=Same.new (o:=.tup [.ref kt,.ref ct]) fp;have as:=n1.trans n2;have bT:=n2 _ _ (ad (H:=H2) (a:=ct) (o:=.tup [.int tp,.int bt]));have df:=ad (H:=upd H2 ct (.tup [.int tp,.int bt])) (a:=p) (o:=.tup [.ref kt,.ref ct]);have dK:ct≠g:=λz=>by rw[z,R]at a4;cases a4
    have c8:ct≠j:=λz=>by rw[z,O]at a4;cases a4
    have ej:p≠g:=λz=>by rw[z,n1 _ _ R]at fp;cases fp
    have c1:p≠j:=λz=>by rw[z,n1 _ _ O]at fp;cases fp
    generalize upd (upd H2 ct (.tup [.int tp,.int bt])) p (.tup [.ref kt,.ref ct])=H4 at as bT df;have L:=as _ _ O;have B:(upd H4 j (.lst (G++[.ref p]))) g=some (.lst f):=by rw[ag (Ne.symm b5)];exact as _ _ R
    have c4:SameT (cut2 H2 g j) (cut2 (upd H4 j (.lst (G++[.ref p]))) g j):=(SameT.cut2 as.t).trans yU;have cB:TabsOk (tabs a) (upd H4 j (.lst (G++[.ref p]))):=(co.same as).put (λr z=>by rw[L]at z;cases z) λφ z=>by rw[L]at z;cases z
    have t5:SameT H (upd H4 j (.lst (G++[.ref p]))):=(t2.trans as.t).put a9;have bg:=c4.at cG;have bo:cut2 (upd H4 j (.lst (G++[.ref p]))) g j ct=some (.tup [.int tp,.int bt]):=g9 dK c8 (by rw[ag c8];exact bT);have c7:cut2 (upd H4 j (.lst (G++[.ref p]))) g j p=some (.tup [.ref kt,.ref ct]):=g9 ej c1 (by rw[ag c1];exact df);refine⟨j,G,_,rfl,rfl,L,by lia,?_⟩;have X:=ad (H:=H4) (a:=j) (o:=.lst (G++[.ref p]));generalize upd H4 j (.lst (G++[.ref p]))=W at B c4 cB t5 bg bo c7 X;refine⟨_,.inl (SqL.of X),⟨_,.inl (SqL.of B),?_⟩⟩;have ll:((G++[V.ref p]).length:Int)+(f.length:Int)<=4096:=by rw[length_append,length_singleton];lia
    refine ifC (λz=>absurd (show(4096:Int)<((G++[V.ref p]).length:Int)+(f.length:Int) from z) (by lia)) λ_=>?_
    refine⟨Tb.stS s',?_,s',k++[(ns,(tp,bt))],f,G++[.ref p],_,_,_,_,rfl,t5,cB,B,X,az (EntR.t c4) de,dP ⟨p,kt,ct,en,rfl,c7,bg,hs,bo,b1.mono br,b2.mono br,b0⟩ (az (WayR.t c4) bn),hW.leaf,?_,rfl⟩
    .rw[Tb.stS_app,Tb.stS,Tb.stS,Tb.sz];lia
    .rw[length_append,length_singleton];lia
   | die r =>
    obtain⟨rs,cx,dt⟩:=kU cs;have a5:=cx.t nH;obtain⟨x,dx,l,mk,rfl,ab,eR,_⟩:=id a5
    obtain⟨d',rfl⟩:∃ d',d1=d'+1:=by
     cases d1 with
     | zero=>rw[Tb.Dk]at F;exact F.elim
     | succ d'=>exact⟨d',rfl⟩
    rw[Tb.Dk]at F;refine .inr ⟨x,dx,_,rfl,ab,rfl,_,rfl,?_⟩;have dl:Tb.Ok (.die r):=hW.ok _ (mem_append_right _ mem_cons_self);rw[Tb.Ok]at dl;refine .inr ⟨x,dx,_,rfl,ab,rfl,.ref x,rs,rfl,a5,λH3 n3=>?_⟩;rw[qA dt];have M:=n3 _ _ R;have Z:=n3 _ _ O;refine⟨.inl ⟨rfl,_,SqL.of M⟩,?_⟩;have ep:=n3 _ _ ab;have et:r.length<=1000:=F.2.1;have dz:∀ p∈r,1<=p.1/\p.1<=1000000000:=λp hp=>let z:=Tb.dk_part F.2.2 hp;⟨z.1,z.2.1⟩
    obtain⟨eB,e1⟩:=ui F.2.2;have t3:=t2.trans n3.t
    have cW:Bad H3 [g,j]:=λb hb=>by
     rcases mem_cons.mp hb with z | z
     .rw[z];exact⟨_,M⟩
     .rw[mem_singleton.mp z];exact⟨_,Z⟩
    refine .inr ⟨x,dx,_,rfl,ep,rfl,.ref x,r,[g,j],rfl,cW,cs.t (SameT.cut2 n3.t),co.same n3,λH4 D zz t4 eb fD hD hP=>?_⟩;have bB:=t4.at M;have L:=t4.at Z;have b4:zz.length=r.length:=hP.length.symm;have bS:Bt 43 (Tb.tot r):=by unfold Bt;lia
    have cP:bd (d'+1)+43<=bd d':=by unfold bd;lia
    refine .inl ⟨⟨_,SqL.of hD⟩,λD2 a7=>?_⟩
    let Pw1:PvL:=λi I W=>i<=r.length/\Same H4 W/\W D2=some (.lst I)/\Paired (EntR a (untr (cut2 W g j) D2)) ((Tb.kids r tp bt (Tb.tot r)).take i) I
    refine bL (K:=K) (a:=D) (xs:=zz) Pw1 ⟨Nat.zero_le _,Same.new a7,ad,.nil⟩ (λi ys Y h=>SqL.of (h.2.1 _ _ hD)) (λi ys Y h=>h.2.2.1) ?_ ?_
    .rintro i y I W P' hy ⟨hi,n5,a6,al⟩ d2
     obtain⟨⟨m,u⟩,a',qq,un,rfl,cj,eo⟩:=bx hP hy;have cj:=(aA cj).2;have cC:=(Tb.dk_part F.2.2 (List.mem_of_getElem? a')).2.2;have em:i<r.length:=(List.getElem?_eq_some_iff.mp a').1;have mp:=dz _ (List.mem_of_getElem? a');have bm:Bt 43 m:=by have h1:1<=m:=mp.1;have h2:m<=1000000000:=mp.2;unfold Bt;lia
     have c3:I.length<=5000:=by rw[<- al.length,length_take];unfold Tb.kids;rw[length_map];lia
     refine⟨qq,_,rfl,SqT.of (n5 _ _ cj),rfl,_,_,rfl,_,_,rfl,rfl,⟨rfl,rfl,rfl,trivial⟩,?_⟩;have bl:bd (d'+1)<=1100:=by unfold bd;lia
     refine⟨cmB (b1.mono bl) bm,cmB (b2.mono bl) bS,by show 3<=sizeLine;decide,λq3 f3=>?_⟩;have n6:=Same.new (o:=.tup [un,.int (tp*m),.int (bt*Tb.tot r)]) f3;have dV:=n6 _ _ a6;have cy:q3≠D2:=λz=>by rw[z,a6]at f3;cases f3
     have c9:q3≠g:=λz=>by rw[z,n5 _ _ bB]at f3;cases f3
     have c':q3≠j:=λz=>by rw[z,n5 _ _ L]at f3;cases f3
     refine⟨dV,by lia,d2 _ _ ⟨em,(n5.trans n6).put a7,ad,?_⟩⟩;have cc:SameT (untr (cut2 W g j) D2) (untr (cut2 (upd (upd W q3 (.tup [un,.int (tp*m),.int (bt*Tb.tot r)])) D2 (.lst (I++[.ref q3]))) g j) D2):=(yg (SameT.cut2 n6.t)).trans sT;have cn:SameT (cut2 H4 g j) (untr (cut2 (upd (upd W q3 (.tup [un,.int (tp*m),.int (bt*Tb.tot r)])) D2 (.lst (I++[.ref q3]))) g j) D2):=zu (SameT.cut2 ((n5.trans n6).put a7).t) (rQ a7);have hk:(Tb.kids r tp bt (Tb.tot r))[i]? = some (u,(tp*m,bt*Tb.tot r)):=by unfold Tb.kids;rw[List.getElem?_map,a'];rfl
     refine dX (az (EntR.t cc) al) hk ⟨q3,un,d',rfl,?_,eo.t cn,cC,by lia,(b1.mul bm).mono cP,(b2.mul bS).mono cP,Int.mul_pos b0 (by lia)⟩;rw[bC cy];exact g9 c9 c' (by rw[ag cy];exact ad)
    .rintro I W ⟨_,n5,a6,al⟩
     have kl:(Tb.kids r tp bt (Tb.tot r)).length=zz.length:=by unfold Tb.kids;rw[length_map,b4]
     rw[<- kl,take_length]at al;have c3:I.length=r.length:=by rw[<- al.length,kl,b4]
     have yl:f.length=s'.length:=b6.length.symm;have zl:G.length=k.length:=a8.length.symm;have c5:k.length+(s'.length+1)<=4096:=by rw[length_append]at S;exact S
     have B:=n5 _ _ bB;have X:=n5 _ _ L;refine⟨g,D2,f,I,rfl,rfl,B,a6,by lia,?_⟩;have t6:SameT H (upd W g (.lst (f++I))):=((t3.trans t4).trans n5.t).put a1;have ca:TabsOk (tabs a) (upd W g (.lst (f++I))):=(eb.same n5).put (λr z=>by rw[B]at z;cases z) λφ z=>by rw[B]at z;cases z
     have a2:=ad (H:=W) (a:=g) (o:=.lst (f++I));have a0:(upd W g (.lst (f++I))) j=some (.lst G):=by rw[ag b5];exact X
     have c6:SameT (cut2 H2 g j) (cut2 (upd W g (.lst (f++I))) g j):=(SameT.cut2 ((n3.t.trans t4).trans n5.t)).trans oX;have k6:SameT (untr (cut2 W g j) D2) (cut2 (upd W g (.lst (f++I))) g j):=cut_sub.trans oX;generalize upd W g (.lst (f++I))=H6 at t6 ca a2 a0 c6 k6;have dd:=hW.die;refine⟨_,.inl (SqL.of a0),⟨_,.inl (SqL.of a2),?_⟩⟩;have eD:(Tb.kids r tp bt (Tb.tot r)).length=I.length:=by rw[kl,b4,c3]
     refine ifC (λz=>?_) λz=>?_
     .have z:(4096:Int)<(G.length:Int)+((f++I).length:Int):=z
      have:=dd.few;rw[length_append]at this z;exact yY t6 ca (q2 (by lia))
     .have z:¬(4096:Int)<(G.length:Int)+((f++I).length:Int):=z
      rw[length_append]at z;refine⟨_,?_,s'++Tb.kids r tp bt (Tb.tot r),k,f++I,G,_,_,_,_,rfl,t6,ca,a2,a0,kq (az (EntR.t k6) al) (az (EntR.t c6) de),az (WayR.t c6) bn,dd,?_,rfl⟩
      .rw[Tb.stS_app,Tb.stS_app,Tb.stS_kids,Tb.stS,Tb.stS,Tb.sz];lia
      .rw[length_append];lia
  .have e0:ys=[]:=List.isEmpty_iff.mp (by simpa using hc)
   subst e0;cases hE;have ew:=hW.done;have el:Tb.lv t<=4096:=by rw[<- Tb.wl_len t 1 1,<- ew];simpa using S
   refine q1 el _ j G t1 dm a9 cA ?_;rw[<- ew];exact az (WayR.t nH) a8
end
end My
namespace My
open PySem L2 FrM Du
open Tb (Tr Ent Way Rws Ch Lm2)
def Ap:Sp:=λ_ _ _ _=>False
inductive spGcd(vs:List V)(H:Hp)(Q:VK)(_E:XK):Prop
 | mk(x y:Int)(h0:vs=[.int x,.int y])(h1:0<=x)(h2:0<=y)(h3:Q (.int (Int.gcd x y)) H):spGcd vs H Q _E
def AY(H:Hp)(Q:VK)(T B:Int):Prop:=∀ H' p,Same H H'->H' p=some (.tup [.int (m8 T B).1,.int (m8 T B).2])->Q (.ref p) H'
inductive spLow(vs:List V)(H:Hp)(Q:VK)(_E:XK):Prop
 | mk(T B:Int)(h0:vs=[.int T,.int B])(h1:0<B)(h2:Bt 6000 T)(h3:Bt 6000 B)(h4:AY H Q T B):spLow vs H Q _E
def PT(K:Frag)(H:Hp)(p:Addr)(f:Int×Int):Prop:=H p=some (.tup [.int f.1,.int f.2])\/uw K p [.int f.1,.int f.2]=true
theorem PT.sq{K:Frag}{H:Hp}{p:Addr}{f:Int×Int}(h:PT K H p f):SqT K H p [.int f.1,.int f.2]:=h.elim SqT.of xP
def IsF(K:Frag)(H:Hp)(f:Int×Int)(x:V):Prop:=∃ p,x=.ref p/\PT K H p f
theorem IsF.tk{K:Frag}{H a:Hp}{f:Int×Int}{x:V}(k:TK H a)(h:IsF K H f x):IsF K a f x:=let ⟨p,e,q⟩:=h;⟨p,e,q.imp (λz=>k _ _ z) id⟩
abbrev AllF(K:Frag)(H:Hp):List (Int×Int)->List V->Prop:=PySem.Paired (IsF K H)
theorem IsF.same{K:Frag}{H a:Hp}{f:Int×Int}{x:V}(s:Same H a)(h:IsF K H f x):IsF K a f x:=h.tk s.tk
theorem AllF.tk{K:Frag}{H a:Hp}(k:TK H a):∀{fs:List (Int×Int)}{xs:List V},AllF K H fs xs->AllF K a fs xs
 | _,_,.nil=>.nil
 | _,_,.cons r t=>.cons (r.tk k) (AllF.tk k t)
theorem AllF.get{K:Frag}{H:Hp}:∀{fs:List (Int×Int)}{xs:List V}{i:Nat}{x:V},AllF K H fs xs->xs[i]? = some x->∃ f,fs[i]? = some f/\IsF K H f x
 | _,_,_,_,.nil,h=>by cases h
 | _,_,0,_,.cons r _,h=>⟨_,rfl,by cases h;exact r⟩
 | _,_,i+1,_,.cons _ t,h=>AllF.get (i:=i) t h
theorem AllF.snoc{K:Frag}{H:Hp}{f:Int×Int}{x:V}(r:IsF K H f x):∀{fs:List (Int×Int)}{xs:List V},AllF K H fs xs->AllF K H (fs++[f]) (xs++[x])
 | _,_,.nil=>.cons r .nil
 | _,_,.cons q t=>.cons q (AllF.snoc r t)
theorem AllF.len{K:Frag}{H:Hp}{a:List (Int×Int)}{xs:List V}(h:AllF K H a xs):a.length=xs.length:=Paired.length h
theorem vJ(T B:Int):Int.gcd (if T<0 then -T else T) B=Int.gcd T B:=by
 split
 .exact Int.neg_gcd
 .rfl
theorem px1{K:Frag}{H:Hp}{p:Addr}{x y:V}{Q:VK}(h:SqT K H p [x,y])(q:Q y H):rIx K (.ref p) (.int 1) H Q:=.inr (.inl ⟨p,_,_,y,rfl,rfl,h,dH (j:=1) rfl,q⟩)
abbrev IsQ(K:Frag)(H:Hp)(q:Rat)(x:V):Prop:=IsF K H (fr q) x
inductive spLcm(K:Frag)(vs:List V)(H:Hp)(Q:VK)(_E:XK):Prop
 | mk(l:Addr)(ns:List Int)(D:Nat)(h0:vs=[.ref l])(h1:SqL K H l (ns.map V.int))(h2:0<D)(h3:D<=Lm2)(h4:(∀ n∈ns,0<n/\n ∣ (D:Int)))(h5:∀ r,0<r->r ∣ (D:Int)->(∀ n∈ns,n ∣ r)->Q (.int r) H):spLcm K vs H Q _E
inductive spTotal(K:Frag)(vs:List V)(H:Hp)(Q:VK)(_E:XK):Prop
 | mk(l:Addr)(fs:List (Int×Int))(xs:List V)(D:Nat)(h0:vs=[.ref l])(h1:H l=some (.lst xs))(h2:AllF K H fs xs)(h3:xs.length<=5000)(h4:0<D)(h5:D<=Lm2)(h6:(∀ f∈fs,Ch (D:Int) f))(h7:∀ H' z,Same H H'->IsQ K H' (Tb.sumQ fs) z->Q z H'):spTotal K vs H Q _E
theorem vg{L:Int}:∀{xs:List Int},(∀ x∈xs,0<=x/\x<=L)->0<=xs.sum/\xs.sum<=(xs.length:Int)*L
 | [],_=>by simp
 | x::xs,h=>by
  have b:=vg λy a=>h y (mem_cons_of_mem _ a)
  have c:=h x mem_cons_self;rw[sum_cons,length_cons];have e:((xs.length+1:Nat):Int)*L=(xs.length:Int)*L+L:=by rw[Int.natCast_add,Int.add_mul];simp
  rw[e];lia
theorem xT{L t b:Int}(i:0<L)(f:0<=t)(h:t<=b)(g:0<b)(d:b ∣ L):0<=t*(L/b)/\t*(L/b)<=L:=by
 obtain⟨c,rfl⟩:=d;rw[Int.mul_ediv_cancel_left c (by lia)]
 have a:0<=c:=by
  rcases Int.lt_or_le c 0 with z | z
  .have:=Int.mul_neg_of_pos_of_neg g z;lia
  .exact z
 exact⟨Int.mul_nonneg f a,Int.mul_le_mul_of_nonneg_right h a⟩
theorem Bl{D n:Nat}{i:Int}(j:D<=Lm2)(f:n<=5000)(d:0<=i)(h:i<=(n:Int)*(D:Int)):Bt 2800 i:=by
 unfold Bt;have g:(n:Int)*(D:Int)<=5000*(Lm2:Nat):=Int.mul_le_mul (by lia) (by lia) (by lia) (by lia);have b:i.natAbs<=5000*Lm2:=by lia
 have a:5000*Lm2<2 ^ 13*Lm2:=Nat.mul_lt_mul_of_pos_right (by decide) (by unfold Lm2;exact Nat.pow_pos (by decide));have c:2 ^ 13*Lm2<=2 ^ 2800:=by unfold Lm2;rw[<- Nat.pow_add];exact Nat.pow_le_pow_right (by decide) (by decide)
 exact Nat.lt_of_le_of_lt b (Nat.lt_of_lt_of_le a c)
section
variable {P:Program}{w:World}{K:Frag}{mg:Str->Option Value}{base:Heap}{a:Ad}
theorem zA{k:Nat}{f:Addr}{a:FuncData}{ps:List Str}:FnOk P w K mg base CX0 k f a ps Ap:=⟨λ_ _ _ _ h=>h.elim,λ_ _ _ _ _ _ _ _ _ _ _ _ _ h=>h.elim⟩
theorem tX(T:Txt K mg a):FnOk P w K mg base CX0 1 a.f_j a.d_j ["one","other"] spGcd:=by
 refine T.F_j.ok sc_j (λz H Q E h=>?_) (λcdv A outer s H z Q E hr h=>?_)
 .obtain⟨x,y,rfl,_⟩:=h;rfl
 .obtain⟨l,k,rfl,p,v,q⟩:=h
  refine⟨_,(af (gY PassesOwn.never (nU (vr 1) (λ_=>rfl)) (ak (xR rfl sc_j.nd (i:=0) (j:=1) rfl rfl (by decide) rfl rfl (aa (vr 1) (aa (ar dD (vr 0) (vr 1)) ae)) rfl))) (ak (ax (vr 0)))),qu ?_⟩;intro u;refine⟨λm o g=>g=H/\∃ x y:Int,0<=x/\0<=y/\m=y.toNat/\Int.gcd x y=Int.gcd l k/\o=[some (.int x),some (.int y)],⟨_,rfl,l,k,p,v,rfl,rfl,rfl⟩,?_⟩;rintro m o g ⟨rfl,x,y,B,r,rfl,n,rfl⟩;refine⟨_,rfl,?_⟩;refine ifB (λc=>?_) (λc=>?_)
  .have f:y≠0:=by simpa using c
   let Pw4:St->Hp->Prop:=λd b=>b=g/\d=[some (.int y),some (.int (x % y))]
   refine⟨Pw4,?_,?_⟩
   .rintro d b ⟨rfl,rfl⟩
    exact⟨(x % y).toNat,by have:=Int.emod_lt_of_pos x (show 0<y by lia);have:=Int.emod_nonneg x f;lia,rfl,y,x % y,r,Int.emod_nonneg x f,rfl,by rw[um,n],rfl⟩
   .exact⟨cp (by lia),_,_,rfl,rfl,rfl⟩
  .have f:y=0:=by simpa using c
   subst f;rw[Int.gcd_zero_right]at n;have:x=(Int.gcd l k:Int):=by lia
   rw[<- this]at q;exact q
theorem mJ(T:Txt K mg a):FnOk P w K mg base CX0 2 a.f_S a.d_S ["top","bottom"] spLow:=by
 have f:FnOk P w K mg base CX0 1 a.f_S a.d_S ["top","bottom"] Ap:=zA;have d:FnOk P w K mg base CX0 1 _ _ _ spGcd:=tX T;refine T.F_S.ok sc_S (λr H Q E h=>?_) (λcdv A outer s H r Q E hr h=>?_)
 .obtain⟨x,y,rfl,_⟩:=h;rfl
 .obtain⟨t,b,rfl,n,D,k,q⟩:=h
  refine⟨_,(af (ba (aM j3 (vr 1) ah (au _)) (ak (ax (aq f hr rfl T.m_S T.F_S.kp T.B_S .nil ao (aa (qN qx (vr 0)) (aa (qN qx (vr 1)) ae))))) aD) (af (aw (i:=2) sc_S.nd rfl (Or.inl rfl) (aq d hr rfl T.m_j T.F_j.kp T.B_j .nil ao (aa (av uC rfl T.z_abs yG (aa (vr 0) ae)) (aa (vr 1) ae)))) (ak (ax (cK (aa (ar fR (vr 0) (vr 2)) (aa (ar fR (vr 1) (vr 2)) ae))))))),iE ?_⟩;intro l o;obtain⟨j,z,B,v,C⟩:=low t b n;refine ifC (λc=>absurd c (by lia)) (λ_=>?_);refine⟨t,rfl,⟨_,_,rfl,by split <;> lia,by lia,?_⟩⟩;rw[vJ];have g:Bt 6000 (Int.gcd t b:Int):=k.le (by lia);refine⟨cdB j g,cdB j g,b8 _ _,λp u=>?_⟩;exact q _ p (Same.new u) ad
theorem yS(T:Txt K mg a):FnOk P w K mg base CX0 2 a.f_p a.d_p ["numbers"] (spLcm K):=by
 have y:FnOk P w K mg base CX0 1 _ _ _ spGcd:=tX T;refine T.F_p.ok sc_p (λL H Q E h=>?_) (λcdv A outer s H L Q E hr h=>?_)
 .obtain⟨l,g,D,rfl,_⟩:=h;rfl
 .obtain⟨l,g,D,rfl,F,u,d,v,q⟩:=h
  refine⟨_,(af (aw (i:=1) sc_p.nd rfl (Or.inl rfl) ah) (af (fK PassesOwn.never rfl (b9 (vr 0)) (ay (i:=2) sc_p.nd rfl (Or.inl rfl)) (ak (aw (i:=1) sc_p.nd rfl (Or.inl rfl) (ar cY (ar fR (vr 1) (aq y hr rfl T.m_j T.F_j.kp T.B_j .nil ao (aa (vr 1) (aa (vr 2) ae)))) (vr 2))))) (ak (ax (vr 1))))),iE ?_⟩;intro Y S
  let Pw1:PvS:=λi o j=>j=H/\∃(r:Int) (x:Option V),o=[some (.ref l),some (.int r),x]/\0<r/\r ∣ (D:Int)/\∀ n∈g.take i,n ∣ r
  refine .inl ⟨⟨_,F⟩,jh (K:=K) (a:=l) (xs:=g.map V.int) Pw1 ⟨rfl,1,none,rfl,by lia,Int.one_dvd _,(λn k=>by cases k)⟩ (λi o j _ h=>by rw[h.1];exact F) ?_ ?_⟩
  .rintro i x o j f ⟨rfl,r,W,rfl,z,c,p⟩
   rw[List.getElem?_map]at f
   obtain⟨n,k,rfl⟩:∃ n,g[i]? = some n/\V.int n=x:=by
    cases e:g[i]? with
    | none=>rw[e]at f;cases f
    | some n=>rw[e]at f;cases f;exact⟨n,rfl,rfl⟩
   obtain⟨B,C⟩:=v n (List.mem_of_getElem? k);obtain⟨X,s2,M,R⟩:=Tb.lcm_step z B c C;have g0:0<Int.gcd r n:=Int.gcd_pos_of_ne_zero_right _ (by lia);have O:(Int.gcd r n:Int)<=n:=Int.le_of_dvd B (Int.gcd_dvd_right (a:=r) (b:=n));have nD:=Int.le_of_dvd (by lia) C;have Z:=Int.le_of_dvd (by lia) c;have I:=Tb.bt_of (i:=(Int.gcd r n:Int)) u d (by lia) (by lia);have G:=Tb.bt_of (i:=n) u d (by lia) nD;have N:=Tb.bt_of (i:=r/(Int.gcd r n:Int)) u d (Int.ediv_nonneg (by lia) (by lia)) (Int.le_trans (Int.ediv_le_self _ (by lia)) Z);refine⟨r,n,rfl,by lia,by lia,?_⟩;refine⟨cdB (by lia) I,?_⟩;refine⟨cmB N G,rfl,_,_,rfl,X,R,λm hm=>?_⟩;rw[take_add_one,k]at hm
   rcases mem_append.mp hm with hm | hm
   .exact Int.dvd_trans (p m hm) s2
   .have:m=n:=by simpa using hm
    rw[this];exact M
  .rintro o j ⟨rfl,r,W,rfl,z,c,p⟩
   refine q r z c ?_;rw[length_map,take_length]at p;exact p
theorem tN(T:Txt K mg a):FnOk P w K mg base CX0 3 a.f_ab a.d_ab ["fractions"] (spTotal K):=by
 have X:FnOk P w K mg base CX0 2 _ _ _ (spLcm K):=yS T;have W:FnOk P w K mg base CX0 2 _ _ _ spLow:=mJ T;refine T.F_ab.ok sc_ab (λvs H Q E h=>?_) (λcdv A outer s H vs Q E hr h=>?_)
 .obtain⟨l,d,xs,D,rfl,_⟩:=h;rfl
 .obtain⟨l,d,xs,D,rfl,R,hF,an,O,k,g,q⟩:=h
  have Z:sizeLine=16777216:=sizeLine_eq;have fl:d.length=xs.length:=hF.len;refine⟨_,(af (aw (i:=1) sc_ab.nd rfl (Or.inr rfl) (aq X hr rfl T.m_p T.F_p.kp T.B_p .nil ao (aa (cE rfl (N:=["fraction"]) (ix:=[none]) ⟨rfl,rfl,rfl,rfl,trivial⟩ (b9 (vr 0)) ⟨λC s H I=>ay (i:=0) (show List.Nodup (["fraction"]:List Str) by decide +kernel) rfl (Or.inl rfl),λC s H I=>ce,λC s H I=>(aI (i8 (K:=K) rfl) (vr 0) ah (λ_ _=>rfl))⟩) ae))) (ak (ax (aq W hr rfl T.m_S T.F_S.kp T.B_S .nil ao (aa (av (ck rfl) rfl T.z_sum d4 (aa (cE rfl (N:=["top","own","bottom"]) (ix:=[none,none,some 1]) ⟨rfl,rfl,rfl,rfl,⟨rfl,rfl,rfl,trivial⟩⟩ (b9 (vr 0)) ⟨λC s H I=>(fU (K:=K) (n:=2) rfl rfl (aE (ay (i:=0) (show List.Nodup (["top","own","bottom"]:List Str) by decide +kernel) rfl (Or.inl rfl)) (aE (ay (i:=1) (show List.Nodup (["top","own","bottom"]:List Str) by decide +kernel) rfl (Or.inl rfl)) cJ))),λC s H I=>ce,λC s H I=>(ar cY (vr 0) (ar fR (vr 2) (vr 1)))⟩) ae)) (aa (vr 1) ae)))))),qu ?_⟩;intro as;refine .inl ⟨⟨_,SqL.of R⟩,λD1 L=>?_⟩
  let Pw2:PvL:=λi v j=>Same H j/\j D1=some (.lst v)/\i<=d.length/\v=((d.take i).map (·.2)).map V.int
  refine bL (K:=K) (a:=l) (xs:=xs) Pw2 ⟨Same.new L,ad,Nat.zero_le _,rfl⟩ (λi ys j h=>SqL.of (h.1 _ _ R)) (λi ys j h=>h.2.1) ?_ ?_
  .rintro i y v j P' Y ⟨G,u,hi,rfl⟩ F
   obtain⟨⟨t,b⟩,c,p,rfl,hp⟩:=hF.get Y;have B:i<d.length:=(List.getElem?_eq_some_iff.mp c).1;refine⟨trivial,px1 (IsF.same G ⟨p,rfl,hp⟩ |> λ⟨_,e,z⟩=>by cases e;exact z.sq) ⟨u,by rw[length_map,length_map,length_take];lia,F _ _ ⟨G.put L,ad,B,?_⟩⟩⟩;rw[take_add_one,c];simp
  rintro v H1 ⟨G,u,_,rfl⟩;rw[<- fl,take_length]at u;refine⟨D1,d.map (·.2),D,rfl,SqL.of u,O,k,λn hn=>?_,λr r1 hr9 hrn=>?_⟩
  .obtain⟨f,c,rfl⟩:=mem_map.mp hn
   exact⟨(g f c).b0,(g f c).dv⟩
  have rD:=Int.le_of_dvd (show(0:Int)<(D:Int) by lia) hr9;have dr:∀ f∈d,f.2 ∣ r:=λf c=>hrn _ (mem_map.mpr ⟨f,c,rfl⟩)
  refine .inl ⟨⟨_,SqL.of (G _ _ R)⟩,λD3 M=>?_⟩
  let Pw3:PvL:=λi v j=>Same H1 j/\j D3=some (.lst v)/\i<=d.length/\v=((d.take i).map λf=>f.1*(r/f.2)).map V.int
  refine bL (K:=K) (a:=l) (xs:=xs) Pw3 ⟨Same.new M,ad,Nat.zero_le _,rfl⟩ (λi ys j h=>SqL.of (h.1 _ _ (G _ _ R))) (λi ys j h=>h.2.1) ?_ ?_
  .rintro i y v j P' Y ⟨S,o,hi,rfl⟩ F
   obtain⟨⟨t,b⟩,c,p,rfl,hp⟩:=hF.get Y;have B:i<d.length:=(List.getElem?_eq_some_iff.mp c).1;have hc:=g _ (List.mem_of_getElem? c);obtain⟨b1,b2⟩:=Tb.ch_bt O k hc;have b0:0<b:=hc.b0
   have ab:SqT K j p [.int t,.int b]:=by
    obtain⟨_,e,z⟩:=IsF.same (G.trans S) (x:=.ref p) ⟨p,rfl,hp⟩;cases e;exact z.sq
   have br:=Tb.bt_of (i:=r/b) O k (Int.ediv_nonneg (by lia) (by lia)) (Int.le_trans (Int.ediv_le_self _ (by lia)) rD);refine⟨p,_,rfl,ab,rfl,_,_,rfl,_,_,rfl,rfl,⟨rfl,trivial⟩,cdB b0 b2,cmB b1 br,o,by rw[length_map,length_map,length_take];lia,F _ _ ⟨S.put M,ad,B,?_⟩⟩;rw[take_add_one,c];simp
  rintro v H2 ⟨S,o,_,rfl⟩;rw[<- fl,take_length]at o;refine⟨D3,_,rfl,SqL.of o,?_⟩
  have sb:0<=(d.map λf=>f.1*(r/f.2)).sum/\(d.map λf=>f.1*(r/f.2)).sum<=((d.map λf=>f.1*(r/f.2)).length:Int)*r:=vg λx hx=>by
   obtain⟨f,c,rfl⟩:=mem_map.mp hx;exact xT r1 (g f c).t0 (g f c).le (g f c).b0 (dr f c)
  rw[length_map]at sb;have sD:(d.map λf=>f.1*(r/f.2)).sum<=(d.length:Int)*(D:Int):=Int.le_trans sb.2 (Int.mul_le_mul_of_nonneg_left rD (by lia));refine⟨_,_,rfl,r1,(Bl k (by lia) sb.1 sD).mono (by decide),(Tb.bt_of O k (by lia) rD).mono (by decide),λH3 p s3 al=>q _ _ ((G.trans S).trans s3) ⟨p,rfl,.inl ?_⟩⟩;rw[al,Tb.low_tops r1 (Tb.top_sum r1 λf c=>⟨(g f c).b0,dr f c⟩)]
end
end My
namespace My
open PySem L2 FrM Du LexM
open Tb (Tr Ent Way Rws Ch Lm2 Grp bnd wK Dk Dks)
theorem gi{x y:List Int}(h:x.map (Sum.inl:Int->Key)=y.map Sum.inl):x=y:=by
 have:=congrArg (List.map λk:Key=>match k with | .inl i=>i | .inr _=>0) h;rw[map_map,map_map]at this
 have e:∀ l:List Int,l.map ((λk:Key=>match k with | .inl i=>i | .inr _=>0) ∘ Sum.inl)=l:=λl=>by
  induction l with
  | nil=>rfl
  | cons a l ih=>rw[map_cons,ih];rfl
 rw[e,e]at this;exact this
def GrR(K:Frag)(H1 H:Hp)(x:List Int×List (Int×Int))(kv:List Key×V):Prop:=kv.1=x.1.map Sum.inl/\∃ l ys,kv.2=.ref l/\H1 l=none/\H l=some (.lst ys)/\AllF K H1 x.2 ys
theorem GrR.m{K:Frag}{a H b:Hp}(h:∀ l ys,H l=some (.lst ys)->b l=some (.lst ys))(x:List Int×List (Int×Int))(c:List Key×V)(g:GrR K a H x c):GrR K a b x c:=by
 obtain⟨e,l,ys,i,f,d,j⟩:=g;exact⟨e,l,ys,i,f,h _ _ d,j⟩
theorem zh{K:Frag}{c H:Hp}{l:Addr}{ys:List V}{g:Grp}{a:List (List Key×V)}(h:Paired (GrR K c H) g a)(n:V.ref l ∉ a.map (·.2)):Paired (GrR K c (upd H l (.lst ys))) g a:=by
 induction h with
 | nil=>exact .nil
 | @cons x kv g a r t ih =>
  rw[map_cons,mem_cons,not_or]at n;obtain⟨e,f,b,d,j,i,k⟩:=r;refine .cons ⟨e,f,b,d,j,?_,k⟩ (ih n.2);rw[ag (λz=>n.1 (by rw[d,z]))];exact i
theorem yT{K:Frag}{n H:Hp}{k:List Int}{c:Int×Int}{v:V}{g:Grp}{a:List (List Key×V)}(h:Paired (GrR K n H) g a)(f:(a.map (·.2)).Nodup)(b:eH a (k.map Sum.inl)=some v) :
  ∃ x l ys,x∈g/\v=.ref l/\n l=none/\H l=some (.lst ys)/\ys.length=x.2.length/\∀ ct,IsF K n c ct->Paired (GrR K n (upd H l (.lst (ys++[ct])))) (Tb.pushG k c g) a:=by
 induction h with
 | nil=>cases b
 | @cons x j g a r t ih =>
  obtain⟨e,l,ys,i,p,u,o⟩:=r;rw[map_cons,nodup_cons]at f
  by_cases z:x.1=k
  .rw[eJ (by rw[e,z])]at b
   have b:j.2=v:=Option.some.inj b;refine⟨x,l,ys,mem_cons_self,by rw[<- b,i],p,u,o.len.symm,λct d=>?_⟩;rw[Tb.pushG,if_pos z];rw[i]at f;exact .cons ⟨by show j.1=k.map Sum.inl;rw[e,z],l,ys++[ct],i,p,ad,o.snoc d⟩ (zh t f.1)
  .rw[eI (λy=>z (gi (e.symm.trans y)))]at b
   obtain⟨E,C,q,B,s,w,F,D,G⟩:=ih f.2 b;refine⟨E,C,q,mem_cons_of_mem _ B,s,w,F,D,λct d=>?_⟩;rw[Tb.pushG,if_neg z];refine .cons ⟨e,l,ys,i,p,?_,o⟩ (G ct d)
   have A:v∈a.map (·.2):=by
    unfold eH at b;cases hf:a.find? (λj=>decide (j.1=k.map Sum.inl)) with
    | none=>rw[hf]at b;cases b
    | some y =>
     rw[hf]at b;have:y.2=v:=Option.some.inj b;exact mem_map.mpr ⟨y,List.mem_of_find?_eq_some hf,this⟩
   rw[ag (λy=>f.1 (by rw[i,y,<- s];exact A))];exact u
theorem yo{K:Frag}{d H:Hp}{k:List Int}{c:Int×Int}{D:Addr}{f:V}{g:Grp}{a:List (List Key×V)}(h:Paired (GrR K d H) g a)(b:eH a (k.map Sum.inl)=none)(j:d D=none)(l:H D=some (.lst [f]))(i:IsF K d c f):Paired (GrR K d H) (Tb.pushG k c g) (a++[(k.map Sum.inl,.ref D)]):=by
 induction h with
 | nil=>exact .cons ⟨rfl,D,[f],rfl,j,l,.cons i .nil⟩ .nil
 | @cons x kv g a r t ih =>
  have z:¬x.1=k:=λz=>by rw[eJ (by rw[r.1,z])]at b;cases b
  rw[eI (λy=>z (gi (r.1.symm.trans y)))]at b;rw[Tb.pushG,if_neg z];exact .cons r (ih b)
theorem v8{K:Frag}{b H:Hp}{g:Grp}{a:List (List Key×V)}(h:Paired (GrR K b H) g a):a.map (·.1)=(g.map (·.1)).map λx=>x.map Sum.inl:=by
 induction h with
 | nil=>rfl
 | cons r _ ih=>rw[map_cons,map_cons,map_cons,ih,r.1]
theorem zY{K:Frag}{f H:Hp}{g:Grp}{a:List (List Key×V)}(h:Paired (GrR K f H) g a)(c:(g.map (·.1)).Nodup){i:Nat}{x:List Int×List (Int×Int)}(b:g[i]? = some x):∃ l ys,eH a (x.1.map Sum.inl)=some (.ref l)/\H l=some (.lst ys)/\AllF K f x.2 ys:=by
 induction h generalizing i with
 | nil=>cases b
 | @cons x' kv g a r t ih =>
  rw[map_cons,nodup_cons]at c;obtain⟨e,l,ys,o,u,j,p⟩:=r;cases i with
  | zero =>
   cases b;exact⟨l,ys,by rw[eJ e,o],j,p⟩
  | succ i =>
   obtain⟨k,d,s,q,n⟩:=ih c.2 (i:=i) b;refine⟨k,d,?_,q,n⟩;rw[eI,s];intro y;have:=gi (e.symm.trans y);exact c.1 (by rw[this];exact mem_map.mpr ⟨x,List.mem_of_getElem? b,rfl⟩)
def RowR(K:Frag)(H:Hp)(x:List Int×Rat)(y:V):Prop:=∃ p kt z,y=.ref p/\H p=some (.tup [.ref kt,z])/\H kt=some (.tup (x.1.map V.int))/\IsQ K H x.2 z
theorem RowR.tk{K:Frag}{H a:Hp}(s:TK H a)(x:List Int×Rat)(y:V)(h:RowR K H x y):RowR K a x y:=by
 obtain⟨p,g,z,d,c,b,f⟩:=h;exact⟨p,g,z,d,s _ _ c,s _ _ b,f.tk s⟩
def qJ(a:Ad)(K:Frag):Sp:=λvs H Q E=>∃ v d t,∃ D:Nat,vs=[v]/\IsNd a H v t/\Dk d t/\d<=24/\Tb.Ok t/\(∀ L:List (List Int),L.Nodup->(∀ k∈L,k∈(Tb.toR (Tb.kW (Tb.wl t 1 1))).map (·.1))->L.length<64)/\0<D/\D<=Lm2/\(∀ w∈Tb.wl t 1 1,Ch (D:Int) w.2)/\TabsOk (tabs a) H/\(Tb.lv t<=4096->∀ H' l R ys,SameT H H'->TabsOk (tabs a) H'->H l=none->H' l=some (.lst ys)->Paired (RowR K H') R ys->Tb.IsTab (Tb.toR (Tb.kW (Tb.wl t 1 1))) R->ys.length<=4096->Q (.ref l) H')/\(4096<Tb.lv t->RefMT a H E)
theorem RefMT.t{a:Ad}{H b:Hp}{E:XK}(s:SameT H b)(h:RefMT a H E):RefMT a b E:=λc t=>h c (s.trans t)
section
variable {P:Program}{w:World}{K:Frag}{mg:Str->Option Value}{base:Heap}{a:Ad}
theorem vf(T:Txt K mg a)(hB:Bm mg base):FnOk P w K mg base (CXG P w) 19 a.f_W a.d_W ["node"] (qJ a K):=by
 have c1:FnOk P w K mg base (CXG P w) 18 _ _ _ (t8 a):=vF T hB;have bm:FnOk P w K mg base CX0 18 _ _ _ _:=(tN T).mono (by decide);refine T.F_W.okG sc_W (λvs H Q E h=>?_) (λcdv A outer s H vs Q E hr h=>?_)
 .obtain⟨v,d,t,D9,rfl,_⟩:=h;rfl
 .obtain⟨v,d,t,D9,rfl,hn,cc,hd,c3,bB,Dp,c0,a1,hT,q1,q2⟩:=h
  have cy:sizeLine=16777216:=sizeLine_eq;refine⟨_,(af (aw (i:=1) sc_W.nd rfl (Or.inr rfl) vn) (af (fK vP rfl (b9 (aq c1 hr rfl T.m_K T.F_K.kp T.B_K .nil pG (aa (vr 0) ae))) (gA rfl (aE (ay (i:=2) sc_W.nd rfl (Or.inl rfl)) (aE (ay (i:=3) sc_W.nd rfl (Or.inl rfl)) cJ))) (ak (bA (pe_m.append (yw (xb hr) (vr 1) (vr 2) (aR ae) ⟨rfl,rfl,rfl,rfl⟩) (aa (vr 3) ae))))) (ak (ax (cE rfl (N:=["kept","found"]) (ix:=[none,some 1]) ⟨rfl,rfl,rfl,rfl,⟨rfl,rfl,rfl,trivial⟩⟩ (b9 (av (j6 rfl hr.units) rfl T.z_sorted fV (aa (vr 1) ae))) ⟨λC s H fp=>ay (i:=0) (show List.Nodup (["kept","found"]:List Str) by decide +kernel) rfl (Or.inl rfl),λC s H fp=>ce,λC s H fp=>(cK (aa (vr 0) (aa (aq bm hr rfl T.m_ab T.F_ab.kp T.B_ab .nil ao (aa (vx (xb hr) (vr 1) (vr 0) (λ_ _=>rfl)) ae)) ae)))⟩))))),iE ?_⟩;intro dk de;intro L br;have u1:=Same.new (o:=.dT []) br;have as:=ad (H:=H) (a:=L) (o:=.dT []);generalize upd H L (.dT [])=Ha at u1 as;refine⟨v,d,t,rfl,hn.t u1.t,cc,hd,c3,hT.same u1,λc6 H1 lw zs t1 c5 dr a2 hW=>?_,λh=>(q2 h).t u1.t⟩;have I:=t1.at as;have zl:zs.length=Tb.lv t:=by rw[<- hW.length,Tb.wl_len]
  have b3:∀ w∈Tb.kW (Tb.wl t 1 1),Ch (D9:Int) w.2:=λw hw=>by
   obtain⟨y,hy,rfl⟩:=mem_map.mp hw;exact a1 y hy
  clear a1;have bo:=Tb.kW_len t;have cx:SameT H H1:=u1.t.trans t1;generalize hWW:Tb.wl t 1 1=W at hW b3 bo q1 bB;have dt:W.length=zs.length:=hW.length;have c8:∀ b,H1 b=none->b≠L:=λb hb z=>by rw[z,I]at hb;cases hb
  let Pw1:PvS:=λi σ G=>∃(B:List (List Key×V)) (x2 x3:Option V),(∀ b o,b≠L->H1 b=some o->G b=some o)/\TabsOk (tabs a) G/\G L=some (.dT B)/\Paired (GrR K H1 G) (Tb.grp ((Tb.kW W).take i)) B/\(B.map (·.2)).Nodup/\i<=zs.length/\σ=[some v,some (.ref L),x2,x3]
  refine .inl ⟨⟨_,SqL.of a2⟩,jh (K:=K) (a:=lw) (xs:=zs) Pw1 ⟨[],none,none,(λb o _ e=>e),c5,I,.nil,nodup_nil,Nat.zero_le _,rfl⟩ (λi σ G _ h=>by
   obtain⟨B,x2,x3,k,_⟩:=h
   exact SqL.of (k _ _ (gG a2 I (λz=>nomatch z)) a2)) ?_ ?_⟩
  .rintro i y σ G hy ⟨B,x2,x3,kp,a9,S,hG,nd,hi,rfl⟩
   obtain⟨⟨F,tp,bt⟩,hw,q,kt,ct,ns,rfl,hq,a3,a0,co,dl,dd,b0⟩:=bx hW hy;have al:i<zs.length:=(List.getElem?_eq_some_iff.mp hy).1;have ek:ns=Tb.so F:=Tb.so_uniq a0.1 a0.2;have cj:=Tb.kW_get hw;have gk:=Tb.grp_gk (Tb.kW W) i (by lia);have gl:B.length<=i:=by rw[<- hG.length];exact gk.1
   have nq:q≠L:=gG hq I (λz=>nomatch z);have b6:kt≠L:=gG a3 I (λz=>nomatch z);have eg:=Tb.grp_snoc cj
   have hF:IsF K H1 (tp,bt) (.ref ct):=⟨ct,rfl,.inl co⟩
   rw[ek]at a3;refine⟨q,_,rfl,SqT.of (kp _ _ nq hq),rfl,_,_,rfl,_,_,rfl,rfl,?_⟩;refine⟨L,rfl,.inr ⟨B,.inl S⟩,Nat.zero_le _,λD fD=>?_⟩;have n2:=Same.new (o:=.lst []) fD;have nD:D≠L:=λz=>by rw[z,S]at fD;cases fD
   have bS:H1 D=none:=by
    cases hh:H1 D with
    | none=>rfl
    | some o=>rw[kp _ _ nD hh]at fD;cases fD
   have b5:(upd G D (.lst [])) kt=some (.tup (((Tb.so F).map Sum.inl).map kV)):=by rw[lX];exact n2 _ _ (kp _ _ b6 a3)
   have Y:TabsOk (tabs a) (upd G D (.lst [])):=a9.same n2;have M:=n2 _ _ S;have cP:=ad (H:=G) (a:=D) (o:=.lst []);have a':∀ b o,b≠L->H1 b=some o->(upd G D (.lst [])) b=some o:=λb o n e=>n2 _ _ (kp _ _ n e)
   have c4:=az (GrR.m λl Z e=>n2 _ _ e) hG;have b4:∀ l Z,G l=some (.lst Z)->l≠D:=λl Z e z=>by rw[z,fD]at e;cases e
   refine⟨B,_,kt,rfl,b5,M,by lia,λv' cs=>?_,λhn'=>?_⟩
   .obtain⟨x,l,Z,a6,rfl,fl,hl,c9,bl⟩:=yT (c:=(tp,bt)) c4 nd cs
    generalize upd G D (.lst [])=H2 at *;have yl:=(gk.2 x a6).1;refine⟨.inl ⟨rfl,_,SqL.of hl⟩,⟨l,Z,_,rfl,rfl,hl,by lia,?_⟩⟩;have nl:l≠L:=gG hl M (λz=>nomatch z);refine⟨B,_,_,λb o n e=>?_,Y.put (λps z=>by rw[hl]at z;cases z) (λφ z=>by rw[hl]at z;cases z),by rw[ag (Ne.symm nl)];exact M,by rw[eg];exact bl _ hF,nd,al,rfl⟩;rw[ag (λz=>by rw[z,fl]at e;cases e)];exact a' _ _ n e
   .generalize eH2:upd G D (.lst [])=H2 at *
    have O:(upd H2 L (.dT (B++[((Tb.so F).map Sum.inl,.ref D)]))) D=some (.lst []):=by rw[ag nD];exact cP
    refine⟨.inl ⟨rfl,_,SqL.of O⟩,⟨D,[],_,rfl,rfl,O,by show 0<_;lia,?_⟩⟩;have cC:TabsOk (tabs a) (upd H2 L (.dT (B++[((Tb.so F).map Sum.inl,.ref D)]))):=Y.put (λps z=>by rw[M]at z;cases z) λφ z=>by rw[M]at z;cases z
    have GN:Paired (GrR K H1 (upd (upd H2 L (.dT (B++[((Tb.so F).map Sum.inl,.ref D)]))) D (.lst ([]++[.ref ct])))) (Tb.pushG (Tb.so F) (tp,bt) (Tb.grp ((Tb.kW W).take i))) (B++[((Tb.so F).map Sum.inl,.ref D)]):=yo (az (GrR.m λl Z e=>by rw[ag (b4 _ _ e),ag (gG e S (λz=>nomatch z))];exact n2 _ _ e) hG) hn' bS ad hF;refine⟨B++[((Tb.so F).map Sum.inl,.ref D)],_,_,λb o n e=>?_,cC.put (λps z=>by rw[O]at z;cases z) (λφ z=>by rw[O]at z;cases z),by rw[ag (Ne.symm nD)];exact ad,by rw[eg];exact GN,?_,al,rfl⟩
    .rw[ag (λz=>by rw[z,bS]at e;cases e),ag n]
     exact a' _ _ n e
    .rw[map_append]
     refine nodup_append.mpr ⟨nd,by simp,λu hu u' c7 e=>?_⟩;have e':u'=V.ref D:=by simpa using c7
     rw[e,e']at hu;obtain⟨kv,cT,e9⟩:=mem_map.mp hu;obtain⟨j,hj⟩:=List.getElem?_of_mem cT;obtain⟨x,_,r⟩:=bx hG hj;obtain⟨_,l,Z,h1,_,h3,_⟩:=r;rw[e9]at h1;cases h1;exact b4 _ _ h3 rfl
  rintro σ H2 ⟨B,x2,x3,kp,a9,S,hG,nd,hi,rfl⟩;have gk:=Tb.grp_gk (Tb.kW W) zs.length (by lia);have et:(Tb.kW W).take zs.length=Tb.kW W:=take_of_length_le (by rw[bo];lia);rw[et]at hG gk;have a8:=Tb.grp_nd (Tb.kW W);have ab:=Tb.rat_grp (Tb.kW W);generalize hg:Tb.grp (Tb.kW W)=g at hG gk a8 ab;have a4:(g.map (·.1)).Nodup:=by have:=a8;unfold Tb.NdR at this;rwa [Tb.rat_keys]at this
  have dm:g.length<64:=by
   have:=bB (g.map (·.1)) a4 λk hk=>by rw[<- Tb.rat_keys,ab,Tb.adds_keys]at hk;exact hk
   rwa [length_map]at this
  have t2:SameT H H2:=λb o e=>by
   have nb:b≠L:=λz=>by rw[z,br]at e;cases e
   obtain⟨e1,o1,e2⟩:=cx b o e;have:=kp _ _ nb e2;exact⟨λnp=>kp _ _ nb (e1 np),o1,this⟩
  have kl:B.length=g.length:=hG.length.symm;have gl:g.length<=4096:=by have:=gk.1;lia
  refine⟨L,B,g.map (·.1),rfl,S,by lia,v8 hG,a4,λq o f fq op b' bT=>?_⟩;rw[length_map]at op bT;have u3:=Same.new (o:=.lst (o.map f)) fq;have a7:=ad (H:=H2) (a:=q) (o:=.lst (o.map f));have Y:=a9.same u3;generalize upd H2 q (.lst (o.map f))=H3 at u3 a7 Y;have t3:=t2.trans u3.t;have c':H q=none:=t2.free fq;have cG:(Tb.rat g).length=g.length:=by unfold Tb.rat;rw[length_map]
  obtain⟨rp,rs⟩:=Tb.tab_of a8 (o:=o) (by rw[cG];exact op) (by rw[Tb.rat_keys];exact b');have ol:o.length=g.length:=by rw[op.length_eq,length_range]
  generalize hR:(o.map λi=>(Tb.rat g).getD i ([],0))=R at rp rs;have Rl:R.length=o.length:=by rw[<- hR,length_map]
  refine .inl ⟨⟨_,SqL.of a7⟩,λD3 O=>?_⟩
  let Pw2:PvL:=λi ws G=>i<=o.length/\Same H3 G/\G D3=some (.lst ws)/\Paired (RowR K G) (R.take i) ws
  refine bL (K:=K) (a:=q) (xs:=o.map f) Pw2 ⟨Nat.zero_le _,Same.new O,ad,.nil⟩ (λi Z G h=>SqL.of (h.2.1 _ _ a7)) (λi Z G h=>h.2.2.1) ?_ ?_
  .rintro i y ws G P' hy ⟨ds,n5,a5,X⟩ cA
   rw[List.getElem?_map]at hy
   obtain⟨j,hj,rfl⟩:∃ j,o[i]? = some j/\f j=y:=by
    cases e:o[i]? with
    | none=>rw[e]at hy;cases hy
    | some j=>rw[e]at hy;cases hy;exact⟨j,rfl,rfl⟩
   have al:i<o.length:=(List.getElem?_eq_some_iff.mp hj).1;have bn:j<g.length:=mem_range.mp (op.mem_iff.mp (List.mem_of_getElem? hj));obtain⟨b,eb,hb⟩:=bT j bn
   obtain⟨x,hx⟩:∃ x,g[j]? = some x:=⟨_,List.getElem?_eq_getElem bn⟩
   have bg:(g.map (·.1)).getD j []=x.1:=by rw[List.getD,List.getElem?_map,hx];rfl
   rw[bg]at hb;have hb:H2 b=some (.tup (x.1.map V.int)):=hb;have b2:=(u3.trans n5) _ _ hb;obtain⟨l,Z,hv,hl,hF⟩:=zY hG a4 hx;have a6:=List.mem_of_getElem? hx;obtain⟨xl,xc⟩:=gk.2 x a6;have c2:TK H1 G:=λb us e=>(u3.trans n5) _ _ (kp _ _ (gG e I (λz=>nomatch z)) e)
   have dp:ws.length<=4096:=by rw[<- X.length,length_take];lia
   rw[eb];refine⟨⟨rfl,trivial⟩,?_⟩;refine⟨L,_,rfl,.inr ⟨B,x.1.map Sum.inl,b,.inl ((u3.trans n5) _ _ S),rfl,by rw[lX];exact b2,hv.symm⟩,?_⟩;refine⟨l,x.2,Z,D9,rfl,(u3.trans n5) _ _ hl,hF.tk c2,by rw[<- hF.len];lia,Dp,c0,λc hc=>?_,λH6 z s6 hz=>?_⟩
   .obtain⟨w9,cB,e9⟩:=xc c hc
    rw[<- e9];exact b3 w9 cB
   refine⟨by show 2<=sizeLine;decide,λp fp=>?_⟩;have s7:=Same.new (o:=.tup [.ref b,z]) fp;have b1:=(s6.trans s7) _ _ a5;have cW:=(n5.trans s6).trans s7;refine⟨b1,by lia,cA _ _ ⟨al,cW.put O,ad,?_⟩⟩
   have eR:R[i]? = some (x.1,Tb.sumQ x.2):=by
    rw[<- hR,List.getElem?_map,hj];show some ((Tb.rat g).getD j ([],0))=_;unfold Tb.rat;rw[List.getD,List.getElem?_map,hx];rfl
   have an:TK (upd H6 p (.tup [.ref b,z])) (upd (upd H6 p (.tup [.ref b,z])) D3 (.lst (ws++[.ref p]))):=λb us e=>by rw[ag (gG e b1 (λz=>nomatch z))];exact e
   refine dX (az (RowR.tk ((s6.trans s7).tk.trans an)) X) eR ⟨p,b,z,rfl,an _ _ ad,an _ _ ((s6.trans s7) _ _ b2),(hz.same s7).tk an⟩
  .rintro ws H5 ⟨_,n5,a5,X⟩
   have ca:H D3=none:=t3.free O;rw[length_map,<- Rl,take_length]at X;refine q1 c6 _ D3 R ws (t3.trans n5.t) (Y.same n5) ca a5 X ⟨?_,rs⟩ (by rw[<- X.length];lia);rw[<- ab];exact rp
end
end My
namespace My
open PySem L2 FrM
open Tb (Tr)
def tot{α:Type}(ps:List (Int×α)):Int:=(ps.map (·.1)).sum
def fc{α:Type}:List (Int×α)->Int->Option α
 | [],_=>none
 | (m,t)::r,k=>if k<m then some t else fc r (k - m)
theorem mY{a:Type}{m:Int}{u:a}{r:List (Int×a)}:tot ((m,u)::r)=m+tot r:=by simp[tot]
theorem pe{c:Type}:∀(l:List (Int×c)),(∀ p∈l,0<=p.1)->0<=tot l
 | [],_=>by simp[tot]
 | (m,u)::r,h=>by
  have a:=h (m,u) (mem_cons_self ..);have b:=pe r λp d=>h p (mem_cons_of_mem _ d)
  rw[mY];simp at a;lia
theorem qc{a:Type}:∀(ps:List (Int×a)) (k:Nat) (t m:Int) (u:a),(∀ p∈ps,0<=p.1)->ps[k]? = some (m,u)->tot (ps.take k)<=t->t<tot (ps.take (k+1))->fc ps t=some u
 | [],k,t,m,u,_,h,_,_=>by simp at h
 | (m0,u0)::r,0,t,m,u,hp,h,h0,h1=>by
  simp at h;obtain⟨rfl,rfl⟩:=h;unfold fc;rw[if_pos (by simpa[tot] using h1)]
 | (m0,u0)::r,k+1,t,m,u,hp,h,h0,h1=>by
  have b:tot (((m0,u0)::r).take (k+1))=m0+tot (r.take k):=by simp[tot]
  have c:tot (((m0,u0)::r).take (k+1+1))=m0+tot (r.take (k+1)):=by simp[tot]
  have d:=pe (r.take k) λp h=>hp p (mem_cons_of_mem _ (List.mem_of_mem_take h))
  unfold fc;rw[if_neg (by lia)];exact qc r k (t - m0) m u (λp h=>hp p (mem_cons_of_mem _ h)) (by simpa using h) (by lia) (by lia)
theorem nW{a:Type}{ps:List (Int×a)}{k:Nat}{m:Int}{u:a}(h:ps[k]? = some (m,u)):tot (ps.take (k+1))=tot (ps.take k)+m:=by
 rw[take_add_one,h];simp[tot]
theorem wI{a:Ad}{H:Hp}{v:V}{b:List (Int×V)}(h:IsRaw a H v b):∀ p∈b,1<=p.1:=by
 obtain⟨x,n,l,o,k,j,c,d,g,f⟩:=h;clear g f c
 induction d with
 | nil=>intro p hp;cases hp
 | cons r _ ih =>
  intro p hp
  rcases mem_cons.mp hp with rfl | hp
  .obtain⟨_,_,_,i⟩:=r
   exact i
  .exact ih p hp
theorem j9{a:Type}:∀(l:List a) (t:Int),0<=t->fc (l.map λx=>((1:Int),x)) t=l[t.toNat]?
 | [],t,_=>rfl
 | x::l,t,h0=>by
  rw[map_cons];show(if t<1 then some x else fc (l.map λx=>((1:Int),x)) (t - 1))=_
  by_cases c:t<1
  .rw[if_pos c,show t.toNat=0 by lia];rfl
  .rw[if_neg c,j9 l (t - 1) (by lia),show t.toNat=(t - 1).toNat+1 by lia];rfl
theorem jG{H:Hp}:∀{ps:List (Int×Tr)}{rs:List (Int×V)}{t:Int}{u:Tr},Paired (PrR H) ps rs->fc ps t=some u->∃ f,fc rs t=some f/\IsMk H f u
 | _,_,_,_,.nil,h=>by cases h
 | (m,u0)::ps,(m',f)::rs,t,u,.cons r hr,h=>by
  have e:m=m':=r.1;subst e;have h:(if t<m then some u0 else fc ps (t - m))=some u:=h;show ∃ f',(if t<m then some f else fc rs (t - m))=some f'/\_
  by_cases c:t<m
  .rw[if_pos c]at h ⊢
   cases h;exact⟨f,rfl,r.2.2⟩
  .rw[if_neg c]at h ⊢
   exact jG hr h
def sW(a:Ad):Sp:=λvs H Q _=>∃ v,∃ t S:Int,vs=[v,.int t]/\((S=0/\∃ ns,IsTold a H v ns)\/∃ rs,S=tot rs/\IsRaw a H v rs)/\∀ H',Same H H'->Q (.bl (inK 0 (S - 1) (.i t))) H'
def zS(a:Ad):Sp:=λvs H Q E=>∃ v rs f,∃ t:Int,vs=[v,.int t]/\IsRaw a H v rs/\0<=t/\t<tot rs/\fc rs t=some f/\∀ H1,Same H H1->rMk a f H1 Q
theorem qp{a:Type}:∀{ps:List (Int×a)}{t:Int}{u:a},(∀ p∈ps,0<=p.1)->fc ps t=some u->t<tot ps
 | [],_,_,_,h=>by cases h
 | (m,u0)::ps,t,u,hp,h=>by
  have h:(if t<m then some u0 else fc ps (t - m))=some u:=h;rw[mY];have b:=pe ps λp h=>hp p (mem_cons_of_mem _ h)
  by_cases c:t<m
  .show t<m+tot ps;lia
  .rw[if_neg c]at h
   have:=qp (λp h=>hp p (mem_cons_of_mem _ h)) h;show t<m+tot ps;lia
def goT:Tr->List Int->Option Tr
 | t,[]=>some t
 | .leaf _,_::_=>none
 | .die ps,x::r=>if 0<=x then match fc ps x with | none=>none | some u=>goT u r else none
theorem uD{t u:Tr}{x:Int}{r:List Int}(h:goT t (x::r)=some u):∃ ps v,t=.die ps/\0<=x/\fc ps x=some v/\goT v r=some u:=by
 cases t with
 | leaf ns=>rw[goT]at h;cases h
 | die ps =>
  rw[goT]at h
  by_cases c:0<=x
  .rw[if_pos c]at h
   cases e:fc ps x with
   | none=>rw[e]at h;cases h
   | some v=>rw[e]at h;exact⟨ps,v,rfl,c,e,h⟩
  .rw[if_neg c]at h;cases h
theorem uJ{ps:List (Int×Tr)}{x:Int}{v:Tr}{r:List Int}(a:0<=x)(h:fc ps x=some v):goT (.die ps) (x::r)=goT v r:=by rw[goT,if_pos a,h]
def Aj(a:Ad):Sp:=λvs H Q E=>∃ v l t ns ths,vs=[v,.ref l]/\IsNd a H v t/\H l=some (.lst (ths.map V.int))/\goT t ths=some (.leaf ns)/\TabsOk (tabs a) H/\∀ H' kt,SameT H H'->TabsOk (tabs a) H'->H' kt=some (.tup ((Tb.so ns).map V.int))->Q (.ref kt) H'
section
variable {P:Program}{w:World}{K:Frag}{mg:Str->Option Value}{base:Heap}{a:Ad}
theorem tF(T:Txt K mg a):FnOk P w K mg base CX0 2 a.f_s a.d_s ["node","throw"] (sW a):=by
 have d:FnOk P w K mg base CX0 1 _ _ _ spWhole:=ji T;have c:FnOk P w K mg base CX0 1 _ _ _ (spV (.int 0)):=tJ T;have i:FnOk P w K mg base CX0 1 _ _ _ (wU a):=tw T;refine T.F_s.ok iu (λj H Q E h=>?_) (λcdv A outer s H j Q E hr h=>?_)
 .obtain⟨v,t,S,rfl,_⟩:=h;rfl
 .obtain⟨v,t,S,rfl,b,q⟩:=h
  refine⟨_,(ak (ax (aq d hr rfl T.m_E T.F_E.kp T.B_E .nil ao (aa (vr 1) (aa ah (aa (ar gv (PE.or (ap (vr 0) T.cl_g T.mt_t c hr T.B_t .nil ao) (ap (vr 0) T.cl_k T.mt_x i hr T.B_x .nil ao)) ah) ae)))))),?_⟩
  rcases b with⟨rfl,p,x,g,u,y,rfl,f,_⟩ | ⟨k,rfl,b⟩
  .exact .inl ⟨x,g,_,rfl,f,rfl,_,rfl,_,0,_,_,rfl,.int t,q _ (Same.refl H)⟩
  .obtain⟨x,g,l,o,rfl,f,_⟩:=id b
   exact .inr ⟨x,g,_,rfl,f,rfl,_,k,rfl,b,λr n=>⟨_,0,_,_,rfl,.int t,q _ n⟩⟩
theorem xg(T:Txt K mg a)(hB:Bm mg base):FnOk P w K mg base (CXG P w) 16 a.x_r a.y_r ["self","throw"] (zS a):=by
 have z:LamOk P w K mg base 15 bu fvP [] (v7 a):=LamOk.mono (xk T hB) (by decide);have I:LamOk P w K mg base 15 bv fvP [] (vw a):=LamOk.mono (xI T hB) (by decide);have F:LamOkC P w K mg base 15 ld_going_1 fvG [] (wE a):=LamOkC.mono (xn T hB) (by decide);have W:FnOk P w K mg base CX0 15 _ _ _ _:=(tF T).mono (by decide);have Y:FnOk P w K mg base CX0 14 _ _ _ _:=(gE T).mono (by decide);refine T.F_r.okG sc_r (λvs H Q E h=>?_) (λcdv A outer s H vs Q E hr h=>?_)
 .obtain⟨v,rs,f,t,rfl,_⟩:=h;rfl
 .obtain⟨v,j,f0,t,rfl,N,t0,t1,al,C⟩:=h
  refine⟨_,(af (ba (dF (dR (aq W hr rfl T.m_s T.F_s.kp T.B_s .nil ao (aa (vr 0) (aa (vr 1) ae))))) (ak (cI T.xc_a T.xh_a (lC T.xi_NoThrow T.kc_NoThrow T.fn_NoThrow Y hr rfl T.mc_a T.Bi_a (aa ah ae) wC))) aD) (af (aw (i:=2) sc_r.nd rfl (Or.inl rfl) ah) (af (aw (i:=3) sc_r.nd rfl (Or.inl rfl) (ar gv (aI aB (aI aB (bN (vr 0) rfl) ah (λ_ _=>rfl)) ah (λ_ _=>rfl)) ah)) (af (gY vP (aM j3 (vr 3) (vr 1) (au _)) (af (uU (i:=2) sc_r.nd rfl (Or.inl rfl) ah uX) (ak (uU (i:=3) sc_r.nd rfl (Or.inl rfl) (aI aB (aI aB (bN (vr 0) rfl) (vr 2) (λ_ _=>rfl)) ah (λ_ _=>rfl)) uX)))) (af (jN (aI aB (bN (vr 0) rfl) (vr 2) (λ_ _=>rfl)) (gA rfl (aE (ay (i:=4) sc_r.nd rfl (Or.inl rfl)) (aE (ay (i:=5) sc_r.nd rfl (Or.inl rfl)) cJ)))) (ak (ax (PE.or (fO (vr 5) z hr) (PE.or (fO (vr 5) I hr) (gy (vr 5) F hr)))))))))),zg ?_⟩;intro a0 a4 an a2 a1;refine⟨v,t,_,rfl,.inr ⟨j,rfl,N⟩,λH1 s1=>?_⟩;have hc:inK 0 (tot j - 1) (.i t)=true:=decide_eq_true ⟨t0,by lia⟩;cases hc':inK 0 (tot j - 1) (.i t) with
  | false=>rw[hc]at hc';cases hc'
  | true =>
   have ab:=N.t s1.t;have B:=wI N;obtain⟨x,X,l,L,rfl,hx,hl,hP,as,a3⟩:=id ab;have yl:L.length=j.length:=hP.length.symm
   have q:∀ k:Nat,k<j.length->∃ o d f,L[k]? = some (.ref o)/\j[k]? = some (d,f)/\H1 o=some (.tup [.int d,f]):=λk hk=>by
    have Z:k<L.length:=by lia
    have e:L[k]? = some L[k]:=List.getElem?_eq_getElem Z;obtain⟨⟨d,u⟩,n,o,e2,S,_⟩:=bx hP e;exact⟨o,d,u,by rw[e,e2],n,S⟩
   obtain⟨qz,mz,fz,yz,pz,hz⟩:=q 0 (by lia);refine⟨x,_,X,_,_,rfl,hx,T.cl_k,T.na_Die_makes,rfl,.inl ⟨l,_,_,_,rfl,rfl,SqL.of hl,aC 0 rfl yz,.inr (.inl ⟨qz,_,_,_,rfl,rfl,SqT.of hz,aC 0 rfl rfl,?_⟩)⟩⟩;have tz:tot (j.take 1)=mz:=by rw[nW pz];simp[tot]
   refine⟨λk σ O=>O=H1/\∃(b:Nat) (g:Int) (x4 R:Option V),σ=[some (.ref x),some (.int t),some (.int (b:Nat)),some (.int g),x4,R]/\b<j.length/\g=tot (j.take (b+1)) - 1/\tot (j.take b)<=t/\k=j.length - b,⟨_,rfl,0,_,_,_,rfl,by lia,by rw[tz],by simpa[tot] using t0,rfl⟩,?_⟩;rintro k σ O ⟨rfl,b,g,x4,R,rfl,hn,r,y,rfl⟩;refine ifC (λc=>?_) λc=>?_
   .have c:g<t:=c
    have G:b+1<j.length:=by
     rcases Nat.lt_or_ge (b+1) j.length with h | h
     .exact h
     .rw[take_of_length_le h]at r;lia
    obtain⟨o,d,f,hy,n,hq⟩:=q (b+1) G
    let Pw2:St->Hp->Prop:=λD M=>M=O/\D=[some (.ref x),some (.int t),some (.int ((b+1:Nat):Int)),some (.int (g+d)),x4,R]
    refine⟨Pw2,?_,?_⟩
    .rintro D M ⟨rfl,rfl⟩
     exact⟨_,by lia,rfl,b+1,_,_,_,rfl,G,by rw[nW n];lia,by lia,rfl⟩
    .refine⟨_,rfl,_,_,rfl,rfl,_,rfl,?_⟩
     exact⟨x,_,X,_,_,rfl,hx,T.cl_k,T.na_Die_makes,rfl,.inl ⟨l,_,_,_,rfl,rfl,SqL.of hl,aC (b+1) (by show(b:Int)+1=((b+1:Nat):Int);lia) hy,.inr (.inl ⟨o,_,_,_,rfl,rfl,SqT.of hq,aC 0 rfl rfl,_,_,rfl,rfl,rfl,by rw[show((b+1:Nat):Int)=(b:Int)+1 by lia];rfl⟩)⟩⟩
   .have c:¬g<t:=c
    obtain⟨o,d,f,hy,n,hq⟩:=q b hn;have eu:=qc j b t d f (λp hp=>by have:=B p hp;lia) n y (by lia);rw[al]at eu;cases eu;exact⟨x,_,X,_,_,rfl,hx,T.cl_k,T.na_Die_makes,rfl,.inl ⟨l,_,_,_,rfl,rfl,SqL.of hl,aC b (by lia) hy,o,_,rfl,SqT.of hq,rfl,_,_,rfl,_,_,rfl,rfl,C _ s1⟩⟩
theorem sB(T:Txt K mg a)(hB:Bm mg base):FnOk P w K mg base (CXG P w) 17 a.f_Z a.d_Z ["node","throws"] (Aj a):=by
 have al:FnOk P w K mg base CX0 16 _ _ _ _:=(tF T).mono (by decide);have M:FnOk P w K mg base CX0 15 _ _ _ _:=(gE T).mono (by decide);have a5:FnOk P w K mg base (CXG P w) 16 _ _ _ (zS a):=xg T hB;have a9:FnOk P w K mg base CX0 16 _ _ _ _:=(sG T).mono (by decide);have a6:FnOk P w K mg base CX0 16 _ _ _ _:=(uW T).mono (by decide);have ab:FnOk P w K mg base CX0 16 _ _ _ _:=(wZ T).mono (by decide);have a2:FnOk P w K mg base CX0 16 _ _ _ _:=(xp T).mono (by decide);refine T.F_Z.okG sc_Z (λvs H Q E h=>?_) (λcdv A outer s H vs Q E hr h=>?_)
 .obtain⟨v,l,t,X,k,rfl,_⟩:=h;rfl
 .obtain⟨v,l,t,X,k,rfl,hn,hl,an,hT,q⟩:=h
  have a4:sizeLine=16777216:=sizeLine_eq;refine⟨_,(af (aw (i:=2) sc_Z.nd rfl (Or.inl rfl) (vr 0)) (af (fK vP rfl (qR rfl T.z_enumerate (aa (vr 1) ae)) (gA rfl (aE (ay (i:=3) sc_Z.nd rfl (Or.inl rfl)) (aE (ay (i:=4) sc_Z.nd rfl (Or.inl rfl)) cJ))) (af (ba (dF (dR (aq al hr rfl T.m_s T.F_s.kp T.B_s .nil ao (aa (vr 2) (aa (vr 4) ae))))) (ak (cI T.xc_a T.xh_a (lC T.xi_NoThrow T.kc_NoThrow T.fn_NoThrow M hr rfl T.mc_a T.Bi_a (aa (vr 3) ae) wC))) aD) (ak (aw (i:=2) sc_Z.nd rfl (Or.inl rfl) (eL (vr 2) T.cl_k T.mt_r a5 hr T.B_r .nil pG (aa (vr 4) ae)))))) (af (ba (dF (dR (PE.or (ap (vr 2) T.cl_g T.mt_l a9 hr T.B_l .nil ao) (ap (vr 2) T.cl_k T.mt_o a6 hr T.B_o .nil ao)))) (ak (cI T.xc_a T.xh_a (lC T.xi_NoThrow T.kc_NoThrow T.fn_NoThrow M hr rfl T.mc_a T.Bi_a (aa (av aQ rfl T.z_len cf (aa (vr 1) ae)) ae) wC))) aD) (ak (ax (PE.or (ap (vr 2) T.cl_g T.mt_B ab hr T.B_B .nil ao) (ap (vr 2) T.cl_k T.mt_F a2 hr T.B_F .nil ao))))))),jz ?_⟩;intro a' bl bg
  let Pw1:PvS:=λi W r=>SameT H r/\TabsOk (tabs a) r/\∃(d:V) (x3 x4:Option V) (D:Tr),W=[some v,some (.ref l),some d,x3,x4]/\IsNd a r d D/\goT D (k.drop i)=some (.leaf X)
  refine⟨l,_,rfl,hl,mM (a:=l) (xs:=k.map V.int) Pw1 ⟨SameT.refl,hT,v,none,none,t,rfl,hn,an⟩ (λi W r h=>h.1.at hl) ?_ ?_⟩
  .rintro i x W r p c ⟨t1,B,d,x3,x4,D,rfl,C,g⟩ hp
   rw[List.getElem?_map]at c
   obtain⟨th,hth,rfl⟩:∃ n,k[i]? = some n/\V.int n=x:=by
    cases e:k[i]? with
    | none=>rw[e]at c;cases c
    | some n=>rw[e]at c;cases c;exact⟨n,rfl,rfl⟩
   have Z:i<k.length:=(List.getElem?_eq_some_iff.mp hth).1;rw[List.drop_eq_getElem_cons Z,(List.getElem?_eq_some_iff.mp hth).2]at g;obtain⟨ps,u,rfl,v0,a7,a3⟩:=uD g;have Y:Same r (upd r p (.tup [.int (i:Nat),.int th])):=Same.new hp;refine⟨p,_,rfl,SqT.of ad,rfl,_,_,rfl,_,_,rfl,rfl,?_⟩;have O:=C.t Y.t;have N:=B.same Y;have F:=t1.trans Y.t;generalize upd r p (.tup [.int (i:Nat),.int th])=H2 at Y O N F;obtain⟨R,z,I⟩:=kU O;obtain⟨f,hf,as⟩:=jG I a7
   have a8:∀ p∈R,0<=p.1:=λp hp=>by
    obtain⟨j,hj⟩:=List.getElem?_of_mem hp;obtain⟨y,_,e1,e2,_⟩:=bx I hj;rw[<- e1];lia
   have v1:=qp a8 hf;refine⟨d,th,_,rfl,.inr ⟨R,rfl,z⟩,λH3 S=>?_⟩;have hc:inK 0 (tot R - 1) (.i th)=true:=decide_eq_true ⟨v0,by lia⟩;rw[hc];have o:=z.t S.t;obtain⟨x0,L,l',ys,rfl,a0,_⟩:=id o;refine⟨x0,L,_,rfl,a0,rfl,_,R,f,th,rfl,o,v0,v1,hf,λH4 s4=>?_⟩;have G:IsMk (untrs H4 []) f u:=by rw[cw];exact as.t (S.trans s4).t
   refine kK G (λb hb=>by cases hb) (N.same (S.trans s4)) λH5 u5 t5 hT5 hu=>?_
   rw[cw]at hu;exact⟨(F.trans (S.trans s4).t).trans t5,hT5,u5,_,_,u,rfl,hu,a3⟩
  .rintro W r ⟨t1,B,d,x3,x4,D,rfl,C,g⟩
   rw[length_map,List.drop_length]at g
   have g:some D=some (.leaf X):=by rw[<- g];cases D <;> rfl
   cases g;obtain⟨x,L,tt,ms,rfl,c,a1,hs⟩:=lG C;have e:ms=Tb.so X:=Tb.so_uniq hs.1 hs.2;subst e;refine .inl ⟨x,L,_,rfl,c,rfl,_,rfl,?_⟩;exact .inl ⟨x,L,_,rfl,c,rfl,x,L,tt,rfl,c,q _ tt t1 B a1⟩
end
end My
namespace Tb
open FrM Du LexM
theorem qg:∀{l m:List (List Int)},l.Nodup->(∀ x∈l,x∈m)->l.length<=m.length
 | [],m,_,_=>Nat.zero_le _
 | x::l,m,nd,h=>by
  rw[nodup_cons]at nd;have a:=h x mem_cons_self;have:=qg (m:=m.erase x) nd.2 λy b=>(List.mem_erase_of_ne (λe=>nd.1 (by rw[<- e];exact b))).mpr (h y (mem_cons_of_mem _ b))
  rw[List.length_erase_of_mem a]at this;have:=length_pos_of_mem a;rw[length_cons];lia
theorem xr{w N:Nat}(h:w<=N){k:List Int}:Sb k w N↔k∈SL N w N:=by
 rw[tU (Nat.le_refl N) h]
 constructor
 .intro z;exact⟨z.up,z.lt,by rw[z.len];exact Nat.le_refl _,by rw[z.len];lia⟩
 .intro z;exact⟨z.up,z.lt,by have:=z.le;have:=z.en;lia⟩
theorem xH{w N:Nat}{k:List Int}(h:Sb k w N):w<=N:=by
 have:=uR (m:=rng N) h.nd λx a=>mem_rng.mpr (h.lt x a)
 rw[rng_len,h.len]at this;exact this
theorem zt:∀ N,N<=6->∀ w,w<=3->(SL N w N).length<64:=by decide +kernel
theorem sb_few{w N:Nat}(f:N<=6)(d:w<=3){L:List (List Int)}(a:L.Nodup)(h:∀ k∈L,Sb k w N):L.length<64:=by
 cases L with
 | nil=>decide
 | cons x L =>
  have b:=xH (h x mem_cons_self);exact Nat.lt_of_le_of_lt (qg a λk c=>(xr b).mp (h k c)) (zt N f w d)
def ee(N b:Nat):List Int:=(rng N).filter λk=>decide ((b >>> k.toNat) % 2=1)
theorem wq(N b:Nat):(ee N b).Pairwise (· < ·):=by
 refine List.Pairwise.filter _ ?_;unfold rng;rw[pairwise_map];exact List.pairwise_lt_range.imp λh=>by lia
theorem wS(N b:Nat):∀ x∈ee N b,0<=x/\x<(N:Int):=λx a=>mem_rng.mp (mem_filter.mp a).1
theorem bset_sb{N b w:Nat}(h:(ee N b).length=w):Sb (ee N b) w N:=⟨wq N b,wS N b,h⟩
theorem vc:∀ N,N<=6->∀ w,w<=3->∀ x∈SL N w N,∃ b,b<2 ^ N/\ee N b=x:=by decide +kernel
theorem bset_nd:∀ N,N<=6->((List.range (2 ^ N)).map (ee N)).Nodup:=by decide +kernel
theorem bset_iff{w N:Nat}(a:N<=6)(d:w<=3)(k:List Int):k∈((List.range (2 ^ N)).map (ee N)).filter (λx=>decide (x.length=w))↔Sb k w N:=by
 rw[mem_filter,mem_map,decide_eq_true_eq]
 constructor
 .rintro⟨⟨b,_,rfl⟩,e⟩;exact bset_sb e
 .intro h
  obtain⟨b,c,e⟩:=vc N a w d k ((xr (xH h)).mp h);exact⟨⟨b,mem_range.mpr c,e⟩,h.len⟩
end Tb
namespace L2
open PySem PySem.Spec PyProof.Rows
inductive rRemoveI(x:V)(vs:List V)(H:Hp)(Q:VK):Prop
 | mk(l:Addr)(ns:List Int)(k:Int)(j:Nat)(h0:x=.ref l)(h1:vs=[.int k])(h2:H l=some (.lst (ns.map V.int)))(h3:ns[j]? = some k)(h4:∀ m i,m<j->ns[m]? = some i->i≠k)(h5:Q .non (upd H l (.lst ((ns.eraseIdx j).map V.int)))):rRemoveI x vs H Q
theorem qQ:∀{vs:List Value}{ns:List Int}{m:Nat}{v:Value},IntsAre vs ns->vs[m]? = some v->∃ i t,ns[m]? = some i/\v=.int i t
 | _,_,_,_,.nil,h=>by cases h
 | _,_,0,_,.cons n t _,h=>by cases h;exact⟨n,t,rfl,rfl⟩
 | _,_,m+1,_,.cons _ _ r,h=>qQ (m:=m) r h
theorem kr:∀{vs:List Value}{ns:List Int}(j:Nat),IntsAre vs ns->IntsAre (vs.eraseIdx j) (ns.eraseIdx j)
 | _,_,_,.nil=>.nil
 | _,_,0,.cons _ _ r=>r
 | _,_,j+1,.cons n t r=>.cons n t (kr j r)
theorem mS:∀{vs:List Value}{ns:List Int},IntsAre vs ns->vs.length=ns.length
 | _,_,.nil=>rfl
 | _,_,.cons _ _ r=>by rw[length_cons,length_cons,mS r]
section
variable {X:Cx}
theorem o6:MtM X "list.remove" rRemoveI:=by
 intro w s P H x M v O Q I L E h;obtain⟨l,B,k,j,rfl,rfl,A,C,D,q⟩:=h;cases L;obtain⟨u,rfl,t,rfl⟩:=E.one;obtain⟨z,a,n,r,S,e⟩:=I.lstM A;have g:=fk r;have N:=mS g;have R:j<B.length:=(List.getElem?_eq_some_iff.mp C).1
 have p:∀ m (d:m<a.toArray.size),∃ i t,B[m]? = some i/\a.toArray[m]=.int i t:=λm d=>by
  simp at d;obtain⟨i,t,c,f⟩:=qQ g (List.getElem?_eq_getElem d);exact⟨i,t,c,by simpa using f⟩
 have b:j<a.toArray.size:=by simp;lia
 refine call_meets F.slot_list_remove ⟨_,e,rfl⟩ F.entry_list_remove (F.args_list_remove_2 _ _) (MeetsSeq.list_remove l a.toArray n (.int k t) (isInt k) (λy G=>eq_isInt k t g y (by simpa using G)) j b ?_ ?_ (by rw[size_toArray];lia)) ⟨e,?_⟩
 .obtain⟨i,K,c,f⟩:=p j b
  rw[C]at c;cases c;rw[f];show(k == k)=true;simp
 .intro m d o
  obtain⟨i,K,c,f⟩:=p m d;rw[f];show(i == k)=false;rw[beq_eq_false_iff_ne];exact D m i o c
 .refine⟨.non,_,I.lset (its':=a.eraseIdx j) A e ?_ (iy (kr j g)) ?_,rfl,q⟩
  .apply Array.toList_inj.mp
   simp[Array.eraseIdxIfInBounds,b]
   split
   .rfl
   .exact(List.eraseIdx_of_length_le (by lia)).symm
  .rw[length_map]at z ⊢
   exact Nat.le_trans (List.length_eraseIdx_le _ _) z
variable {o e:Expr}{es:List Expr}{to:TE}{t:TA}{apos cpos:Pos}
theorem pe_m.removeI(h:PE X o to)(g:PA X (e::es) t)(c:attributeBase o "remove" X.env (eval o X.env)=eval o X.env:=by rfl)
  (d:((backTo cpos (starEach (e::es) X.env)).all (λx=>!x.1) && (backToKw cpos (keywordEach [] X.env)).all (λx=>x.1.isSome) && decide ((e::es).length+([]:List Keyword).length+(if ([]:List Keyword).isEmpty then 0 else 1)<30))=true:=by rfl)
  (b:(apos.endLine == cpos.line)=true:=by rfl) (f:starEach (e::es) X.env=(false,eval e X.env)::starEach es X.env:=by rfl) (a:(backTo cpos (starEach es X.env)).any (·.1)=false:=by rfl) :
  PE X (.Call (.Attribute o "remove" apos) (e::es) [] cpos) (tBM X.K "list" rRemoveI to t):=vj F.plainAttrs_list F.slot_list_remove F.type_list_remove o6 h g c d b f a
end
section
variable {prog:Program}{w:World}{A:Around}{E:Value->Shared->Prop}{s:Shared}{r:Addr}{a b c:Int}{t u v:Tok}{n:Nat}
theorem tM{R:Result->Shared->Prop}(h:A.handled=none)(p:IsRange s.heap r a b c t u v)(g:Builtin.Range.small a b c=true)(j:Builtin.Range.rangeSize a b c=n)(x:n<=2 ^ 24)
  (k:∀ h' tk acc c',(∀ b o,s.heap.get? b=some o->h'.get? b=some o)->h'.get? s.heap.objs.size=some { cls:=.type "list",dict:=none,data:=.seq acc c',slots:=#[] }->ItemsOf (λi v=>∃ t,v=.int (a+i*c) t) acc n->R (.ok (.ret (.ref s.heap.objs.size))) { s with heap:=h',toks:=tk }):codeAny (model prog w) A (.builtin "proto.collect" ⟨[.ref r],[]⟩) R s:=by
 refine codeAny_builtin F.entry_proto_collect ?_;rw[Around.under_plainId F.plain_proto_collect _];show wpAny _ A.in1 (newList [] >>= λl=>again (.builtin "list.__iadd__" ⟨[l,.ref r],[]⟩)) _ _ s;refine wpAny_bind (wpAny_newObj_type ?_);refine wpAny_pure ⟨plainId_quiet F.plain_list_iadd _,codeAny_builtin F.entry_list_iadd ?_⟩;rw[Around.under_plainId F.plain_list_iadd _];show wpAny _ A.in1 (Builtin.List.listExtendWith (.ref s.heap.objs.size) (.ref r) (.ref s.heap.objs.size)) _ _ _;refine wpAny_extend_range (s:={ s with heap:=s.heap.push { cls:=.type "list",data:=.seq ([]:List Value).toArray } }) (A:=A) h (Heap.get?_push_of_some _ p) g j x s.heap.objs.size (.ref s.heap.objs.size) 0 (Heap.get?_push_size s.heap rfl) λh' tk acc c' q f d=>?_
 exact k h' tk acc c' (λb o e=>q b o (Nat.ne_of_lt (Heap.lt_size e)) (Heap.get?_push_of_some _ e)) f d
theorem mE{Q:List Value->Shared->Prop}(h:A.handled=none)(l:IsRange s.heap r a b c t u v)(g:Builtin.Range.small a b c=true)(j:Builtin.Range.rangeSize a b c=n)(q:n<=2 ^ 24)
  (k:∀ h' tk acc,(∀ b o,s.heap.get? b=some o->h'.get? b=some o)->ItemsOf (λi v=>∃ t,v=.int (a+i*c) t) acc n->Q acc.toList { s with heap:=h',toks:=tk }):wpAny (model prog w) A (collect (.ref r)) Q E s:=by
 unfold collect;refine wpAny_bind (wpAny_runValue (tM h l g j q λh' tk acc x p f d=>?_));show wpAny _ A (load s.heap.objs.size >>= _) _ _ _;refine wpAny_bind (wpAny_load f ?_);exact wpAny_pure (k h' tk acc p d)
end
theorem jR(r:Addr){a b c:Int}{t u v:Tok}{n:Nat}(z:Builtin.Range.small a b c=true)(q:Builtin.Range.rangeSize a b c=n)(D:n<=2 ^ 20) :
  Meets (Builtin.«tuple.__new__» ⟨[.type "tuple",.ref r],[]⟩) (λA R s=>A.handled=none/\IsRange s.heap r a b c t u v/\∀(h':Heap) (tk:Nat) (acc:Array Value),(∀ b o,s.heap.get? b=some o->h'.get? b=some o)->ItemsOf (λi v=>∃ t,v=.int (a+i*c) t) acc n ->
    R (.ok (.ret (.ref h'.objs.size))) { s with heap:=h'.push { cls:=.type "tuple",data:=.seq acc },toks:=tk }) :=
 .of_wp λl w A R s h=>by
  obtain⟨x,p,h⟩:=h;have f:sizeLine=16777216:=sizeLine_eq;have k:=sub_tuple_self;have j:=init_tuple_lookup;have y:=madeHere_tuple;have B:s.TypeIs (.ref r) "range" := ⟨_,p,rfl⟩;have g:A.in1.handled=none:=x
  wp_walk using wpAny_typeOf B,mE g p z q (by lia)
  intro h' tk acc C d;show wpAny _ _ (Builtin.Tuple.tupleExact acc.toList.toArray >>= λv=>ret v) _ _ _;unfold Builtin.Tuple.tupleExact;refine wpAny_bind (wpAny_newObj_type ?_ (show acc.toList.toArray.size<=sizeLine by simp only[Array.toArray_toList];rw[d.1];lia));refine wpAny_pure ⟨_,rfl,?_⟩;rw[show acc.toList.toArray=acc by simp];exact h h' tk acc C d
section
variable {X:Cx}
theorem nK{a:Int}{n:Nat}{b:Array Value}(j:ItemsOf (λi v=>∃ t,v=Value.int (a+i*1) t) b n):Vals ((List.range n).map λ(i:Nat)=>V.int (a+(i:Int))) b.toList:=by
 obtain⟨g,f⟩:=j;refine lP (by rw[length_map,length_range];simpa using g.symm) λi x u c l=>?_
 rw[List.getElem?_map]at c
 have d:i<n:=by
  by_cases d:i<n
  .exact d
  .rw[List.getElem?_eq_none (by rw[length_range];lia)]at c
   cases c
 rw[List.getElem?_range d]at c;cases c;obtain⟨k,h⟩:=f i u (by simpa using l);refine(show ∃ t',u=Value.int (a+(i:Int)) t' from⟨k,?_⟩);rw[h]
 congr 1
 lia
theorem kL(k:X.calm=true):CallR X (.type "list") (λxs H Q=>∃(p:Addr) (a n:Nat),xs=[.ref p]/\a+n<=1000/\H p=some (.rng (a:Int) ((a+n:Nat):Int))/\∀ l,H l=none->Q (.ref l) (upd H l (.lst ((List.range n).map λ(i:Nat)=>V.int ((a:Int)+(i:Int)))))):=by
 intro d s D H xs z Q I r h;obtain⟨p,a,n,rfl,y,e,q⟩:=h;obtain⟨u,rfl,g⟩:=cV r;cases g
 obtain⟨t,A,B,w⟩:=(show ObjOk X.prog X.w H s.heap p (.rng (a:Int) ((a+n:Nat):Int)) from I.hok p _ e)
 refine call_list_range (n:=n) (I.ok.hd k) w (small_one (by lia) (by lia) (by lia) (by lia)) (by rw[rangeSize_one];split <;> lia) (by lia) λC x b c j f v=>?_
 refine⟨.ref s.heap.objs.size,_,I.laid (t':=x) (o:=.lst ((List.range n).map λ(i:Nat)=>V.int ((a:Int)+(i:Int)))) j (Nat.le_refl _) ?_,rfl,q _ (I.hok.fresh (Nat.le_refl _))⟩;exact⟨by rw[length_map,length_range,sizeLine_eq];lia,b.toList,c,nK v,f⟩
theorem nI(C:X.calm=true):CallR X (.type "tuple") (λxs H Q=>∃(p:Addr) (n:Nat),xs=[.ref p]/\n<=1000/\H p=some (.rng 0 (n:Int))/\∀ l,H l=none->Q (.ref l) (upd H l (.tup ((List.range n).map λ(i:Nat)=>V.int (i:Int))))):=by
 intro a s j H xs K Q I r h;obtain⟨p,n,rfl,G,e,q⟩:=h;obtain⟨u,rfl,w⟩:=cV r;cases w
 obtain⟨t,y,B,E⟩:=(show ObjOk X.prog X.w H s.heap p (.rng 0 (n:Int)) from I.hok p _ e)
 refine callType_new F.called_tuple (by decide) (F.typeCall_tuple_1 _) (F.newCall_tuple_1 _) (λg=>F.args_object_init_2 g _) F.entry_tuple_new
  (jR (t:=t) (u:=y) (v:=B) p (small_one (by decide) (by decide) (by lia) (by lia)) (n:=n) (by rw[rangeSize_one];split <;> lia) (by lia)) ⟨I.ok.hd C,E,λd f c A D=>⟨⟨_,Heap.get?_push_size _ rfl,rfl⟩,?_⟩⟩
 have k:Inv X a j H { s with heap:=d,toks:=f }:=I.kept (t':=f) A;have z:=nK D
 have x:Inv X a j (upd H d.objs.size (.tup ((List.range n).map λ(i:Nat)=>V.int (i:Int)))) { s with heap:=d.push { cls:=.type "tuple",data:=.seq c },toks:=f } :=
  k.laid (t':=f) (λb o e=>Heap.get?_push_of_some _ e) (Nat.le_refl _) (show ObjOk X.prog X.w _ _ _ (.tup _) from⟨by rw[length_map,length_range,sizeLine_eq];lia,c.toList,by simpa using z,by simpa using IsTup.new _ _⟩)
 exact⟨.ref d.objs.size,_,x,rfl,q _ (k.hok.fresh (Nat.le_refl _))⟩
end
section
variable {X:Cx}{o e:Expr}{es:List Expr}{to:TE}{t:TA}{apos cpos:Pos}
theorem pe_m.appendK{K:Frag}(g:X.K=K)(i:PE X o to)(h:PA X (e::es) t)(c:attributeBase o "append" X.env (eval o X.env)=eval o X.env:=by rfl)
  (d:((backTo cpos (starEach (e::es) X.env)).all (λx=>!x.1) && (backToKw cpos (keywordEach [] X.env)).all (λx=>x.1.isSome) && decide ((e::es).length+([]:List Keyword).length+(if ([]:List Keyword).isEmpty then 0 else 1)<30))=true:=by rfl)
  (b:(apos.endLine == cpos.line)=true:=by rfl) (f:starEach (e::es) X.env=(false,eval e X.env)::starEach es X.env:=by rfl) (a:(backTo cpos (starEach es X.env)).any (·.1)=false:=by rfl) :
  PE X (.Call (.Attribute o "append" apos) (e::es) [] cpos) (tBM K "list" rAppend to t):=g ▸ pe_m.append i h c d b f a
end
end L2
namespace My
open PySem L2 FrM LexM
open Tb (Tr pN cL wo Pv ch rng rnf pS)
theorem wB{x:Int}{Q:VK}{H:Hp}(q:Q (.bl true) H):u8 false (.int x) (.int x) H Q:=by simpa[u8] using q
def Nms(ts:List Str):Prop:=∀ t∈ts,eY t=true
theorem vU{t:Str}(h:eY t=true):1<=t.cps.size/\t.cps.size<=8/\∀ c∈t.cps.toList,97<=c/\c<=122:=by
 unfold eY at h;rw[Bool.and_eq_true,decide_eq_true_eq,all_eq_true]at h;exact⟨h.1.1,h.1.2,λc a=>of_decide_eq_true (h.2 c a)⟩
theorem ez{a:List Str}(h:Nms a):SeqAt.shaped (.list (a.map PyData.str))=true:=by
 obtain⟨b,d⟩:=nJ a λt ht c hc=>by have:=(vU (h t ht)).2.2 c hc;lia
 unfold SeqAt.shaped;rw[PyData.canLay0,b,Bool.true_and];refine decide_eq_true ?_;simp only[PyData.depth];lia
theorem wR{K:Frag}{H:Hp}{p:Addr}{a:List Str}(h:H p=some (.lst (a.map V.str))):DV K H (.list (a.map PyData.str)) (.ref p):=by
 rw[DV];exact⟨p,_,rfl,SqL.of h,qh a⟩
theorem yi{K:Frag}{H:Hp}{a:List Str}{l r:Addr}{Q:VK}(g:Nms a)(b:H l=some (.lst (a.map V.str)))(h2:H r=some (.lst (a.map V.str)))(q:Q (.bl false) H):rEqD K true (.ref l) (.ref r) H Q:=by
 refine⟨_,_,wR b,wR h2,ez g,ez g,?_⟩;rw[SeqAt.eqv_refl _ (SeqAt.canLay_of_shaped (ez g))];exact q
theorem zm{K:Frag}{H:Hp}{a:List Str}{l r:Addr}{Q:VK}(g:Nms a)(b:H l=some (.lst (a.map V.str)))(h2:H r=some (.lst (a.map V.str)))(q:Q (.bl true) H):rEqD K false (.ref l) (.ref r) H Q:=by
 refine⟨_,_,wR b,wR h2,ez g,ez g,?_⟩;rw[SeqAt.eqv_refl _ (SeqAt.canLay_of_shaped (ez g))];exact q
theorem wp{a:List Str}{i:Nat}{t u:Str}(h:u∈a.set i t):u∈a\/u=t:=List.mem_or_eq_of_mem_set h
theorem jj{m:Int}{b:List Str}{t:Str}{i:Int}(h:Nms b)(g:eY t=true):Nms (nxt m b t i):=by
 intro u a;unfold nxt iN at a
 split at a
 .rcases mem_append.mp a with z | z
  .exact h u z
  .rw[mem_singleton.mp z];exact g
 .split at a
  .rcases wp a with z | z
   .exact h u z
   .rw[z];exact g
  .exact h u a
inductive spPour(a:Ad)(vs:List V)(H:Hp)(Q:VK)(E:XK):Prop
 | mk(x h y h2:Addr)(m c1 m2 c2:Nat)(ts ts2:List Str)(h0:vs=[.ref x,.ref y])(h1:PotAt a H x h (m:Nat) (c1:Nat) ts)(h2:PotAt a H y h2 (m2:Nat) (c2:Nat) ts2)(h3:Okp (m:Nat) (c1:Nat) ts)(h4:Okp (m2:Nat) (c2:Nat) ts2)(h5:TabsOk (tabs a) H)(h6:(m≠m2->wX a H E))(h7:(m=m2->∀ H' u,SameT H H'->TabsOk (tabs a) H'->IsNd a H' u (pS (min m (c1+c2)) c1 (min m c1) c2 (min m c2))->Q u H')):spPour a vs H Q E
inductive spChoose(vs:List V)(H:Hp)(Q:VK)(_E:XK):Prop
 | mk(many few:Nat)(h0:vs=[.int (many:Nat),.int (few:Nat)])(h1:few<=many)(h2:many<=60)(h3:Q (.int (ch many few:Nat)) H):spChoose vs H Q _E
inductive spLPot(a:Ad)(vs:List V)(H:Hp)(Q:VK)(_E:XK):Prop
 | mk(m c f:Nat)(h0:vs=[.int (m:Nat),.int (c:Nat),.int (f:Nat)])(h1:1<=m)(h2:m<=24)(h3:c<=300)(h4:f<=12)(h5:∀ H' x h ts,Same H H'->H x=none->PotAt a H' x h (m:Nat) (c:Nat) ts->Okp (m:Nat) (c:Nat) ts->Nms ts->Q (.ref x) H'):spLPot a vs H Q _E
theorem cD{m c:Nat}{a:List Str}(h:Okp (m:Nat) (c:Nat) a):a.length=min m c:=by
 have:=h.2.2.2.2
 split at this <;> lia
theorem jM{m c1 c2:Nat}(a:m<=24):Tb.Pq (min m (c1+c2)) c1 (min m c1) c2 (min m c2):=⟨show _=_\/_<=_ by lia,show _=_\/_<=_ by lia,by lia,by lia,by lia,by lia⟩
def abc:Str := "abcdefghijklmnopqrstuvwxyz"
def sg(i:Int):Str:=⟨#[97+i.toNat]⟩
theorem zZ:∀ k:Nat,k<24->atI abc.cps.toList (0+(k:Int))=some (97+k):=by decide +kernel
theorem zF:∀ k:Nat,k<24->nmK (.s (sg (k:Int)))=true:=by decide +kernel
section
variable {P:Program}{w:World}{K:Frag}{mg:Str->Option Value}{base:Heap}{a:Ad}
theorem gq{k:Nat}{f:Addr}{a:FuncData}{ps:List Str}{sp:Sp}(F:FnOk P w K mg base (CXG P w) k f a ps sp):FnOk P w K mg base CX0 k f a ps (λvs H Q _=>sp vs H Q λ_ _ _=>False) :=
 ⟨λvs H Q E h=>F.len vs H Q _ h,λA outer s H args us vs Q E hr e0 hb hv hs=>codeAny_mono (F.run A outer s H args us vs Q _ hr e0 hb hv hs) λr s' hq=>by
  cases r with
  | error e=>obtain⟨_,_,_,_,_,_,_,z⟩:=hq;exact z
  | ok fl=>cases fl <;> exact hq⟩
theorem kI(T:Txt K mg a)(hB:Bm mg base):FnOk P w K mg base (CXG P w) 13 a.f_J a.d_J ["one","other"] (spPour a):=by
 have a5:FnOk P w K mg base (CXG P w) 12 _ _ _ (spNA a):=(mQ T).mono (by decide);have l:FnOk P w K mg base CX0 12 _ _ _ _:=(gR T).mono (by decide);have G:FnOk P w K mg base CX0 12 _ _ _ _:=(fW T).mono (by decide);have an:FnOk P w K mg base CX0 12 _ _ _ (spPN 2 a):=nY T hB 2;refine T.F_J.okG sc_J (λvs H Q E h=>?_) (λcdv A outer s H vs Q E hr h=>?_)
 .obtain⟨x,h,y,B,m,c,m2,f,F,j,rfl,_⟩:=h;rfl
 .obtain⟨x,h,y,B,m,c,m2,f,F,j,rfl,Z,g,Y,R,hT,q1,q2⟩:=h
  have a0:sizeLine=16777216:=sizeLine_eq;refine⟨_,(af (bA (aq a5 hr rfl T.m_C T.F_C.kp T.B_C .nil pG (aa (vr 0) (aa (vr 1) ae)))) (af (aw (i:=2) sc_J.nd rfl (Or.inr rfl) (aN (gN rfl) rfl T.z_list fN (aa (aN ik rfl T.z_range hJ (aa (av aQ rfl T.z_len cf (aa (ap (vr 0) T.cl_c T.mt_f G hr T.B_f .nil ao) ae)) ae)) ae))) (af (iZ rfl (i:=3) sc_J.nd rfl rfl (by with_unfolding_all rfl) (N:=["place","firsts"]) (ix:=[none,some 2]) ⟨rfl,rfl,rfl,rfl,⟨rfl,rfl,rfl,trivial⟩⟩ (eF rfl T.z_range (aa (av aQ rfl T.z_len cf (aa (ap (vr 1) T.cl_c T.mt_f G hr T.B_f .nil ao) ae)) ae)) ⟨λC s H fp=>ay (i:=0) (show List.Nodup (["place","firsts"]:List Str) by decide +kernel) rfl (Or.inl rfl),λC s H fp=>ce,λC s H fp=>(ar b7 (av (oJ (K:=K) rfl) rfl T.z_len cf (aa (vr 1) ae)) (vr 0))⟩) (af (aw (i:=4) sc_J.nd rfl (Or.inl rfl) (av (eK rfl) rfl T.z_min jJ (aa (bN (vr 0) rfl) (aa (ar b7 (ap (vr 0) T.cl_c T.mt_b l hr T.B_b .nil ao) (ap (vr 1) T.cl_c T.mt_b l hr T.B_b .nil ao)) ae)))) (ak (ax (aq an hr rfl T.m_e T.F_e.kp T.B_e .nil ao (aa (vr 4) (aa (cK (aa (ap (vr 0) T.cl_c T.mt_b l hr T.B_b .nil ao) (aa (vr 2) ae))) (aa (cK (aa (ap (vr 1) T.cl_c T.mt_b l hr T.B_b .nil ao) (aa (vr 3) ae))) (aa (aR ae) ae))))))))))),qD ?_⟩;intro bl bn bg a';obtain⟨⟨dx,hx⟩,_⟩:=id Z;obtain⟨⟨dy,hy⟩,_⟩:=id g;refine⟨x,h,y,B,_,_,_,_,F,j,rfl,Z,g,λem=>?_,λnm=>q1 λe=>nm (by rw[e])⟩;obtain rfl:m=m2:=by lia
  have l1:=cD Y;have l2:=cD R;obtain⟨m1,bm,_,a8,_⟩:=id Y;obtain⟨_,_,_,a9,_⟩:=id R;refine⟨x,dx,_,rfl,hx,rfl,⟨x,h,_,_,F,rfl,Z,λH1 r1 s1 f1 a7=>?_⟩⟩;refine⟨_,.inl (SqL.of a7),?_⟩;rw[length_map,l1];refine⟨_,rfl,λpr a1=>?_⟩;have s2:=s1.trans (Same.new (o:=.rng 0 ((min m c:Nat):Int)) a1);refine⟨pr,min m c,rfl,by lia,ad,λp ab=>?_⟩;have s3:=s2.trans (Same.new (o:=.lst ((List.range (min m c)).map λ(i:Nat)=>V.int (i:Int))) ab);have r:(upd (upd H1 pr (.rng 0 ((min m c:Nat):Int))) p (.lst ((List.range (min m c)).map λ(i:Nat)=>V.int (i:Int)))) p=some (.lst ((rng (min m c)).map V.int)):=by rw[ad];unfold rng;rw[map_map];rfl
  generalize upd (upd H1 pr (.rng 0 ((min m c:Nat):Int))) p (.lst ((List.range (min m c)).map λ(i:Nat)=>V.int (i:Int)))=H3 at s3 r;refine⟨y,dy,_,rfl,s3 _ _ hy,rfl,⟨y,B,_,_,j,rfl,g.same s3,λH4 r4 s4 f4 al=>?_⟩⟩;refine⟨_,.inl (SqL.of al),?_⟩;rw[length_map,l2];refine⟨_,rfl,by lia,by lia,λD hD=>?_⟩;have a2:=s4 _ _ r
  let Pw1:PvL:=λi zs S=>Same H4 S/\S D=some (.lst zs)/\zs=(rnf (min m c) i).map V.int
  refine oh (lo:=0) (n:=((min m f:Nat):Int).toNat) Pw1 ⟨Same.new hD,ad,rfl⟩ (λi ys S h=>h.2.1) ?_ ?_
  .rintro i zs S P' hi ⟨L,k,rfl⟩ hP
   refine⟨⟨rfl,trivial⟩,_,.inl (SqL.of (L _ _ a2)),k,by rw[length_map,Tb.rnf_len];lia,hP _ _ ⟨L.put hD,ad,?_⟩⟩;unfold rnf;rw[range_succ,map_append,map_append,length_map,Tb.rng_len,Int.zero_add];rfl
  rintro zs H5 ⟨L,k,rfl⟩;rw[Int.toNat_natCast]at k;have d:=(s3.trans s4).trans L;have q:=d _ _ hx;have a6:=d _ _ hy;refine⟨x,_,dx,_,_,rfl,q,T.cl_c,T.na_Pot_most,rfl,?_⟩;refine⟨x,dx,_,rfl,q,rfl,⟨x,h,_,_,F,rfl,Z.same d,⟨y,dy,_,rfl,a6,rfl,⟨y,B,_,_,j,rfl,g.same d,?_⟩⟩⟩⟩;refine⟨_,_,rfl,?_⟩;rw[show(if (c:Int)+(f:Int)<(m:Int) then (c:Int)+(f:Int) else (m:Int))=((min m (c+f):Nat):Int) by split <;> lia];refine⟨x,dx,_,rfl,q,rfl,⟨x,h,_,_,F,rfl,Z.same d,?_⟩⟩;refine⟨b8 _ _,λq6 a3=>?_⟩;have s6:=Same.new (o:=.tup [.int (c:Nat),.ref p]) a3;have X:=ad (H:=H5) (a:=q6) (o:=.tup [.int (c:Nat),.ref p]);generalize upd H5 q6 (.tup [.int (c:Nat),.ref p])=H6 at s6 X;have v:=d.trans s6;refine⟨y,dy,_,rfl,v _ _ hy,rfl,⟨y,B,_,_,j,rfl,g.same v,?_⟩⟩;refine⟨b8 _ _,λq7 as=>?_⟩;have M:=Same.new (o:=.tup [.int (f:Nat),.ref D]) as;have I:=ad (H:=H6) (a:=q7) (o:=.tup [.int (f:Nat),.ref D]);generalize upd H6 q7 (.tup [.int (f:Nat),.ref D])=H7 at M I;refine⟨Nat.zero_le _,λl8 a4=>?_⟩;have z:=Same.new (o:=.lst []) a4;have O:=ad (H:=H7) (a:=l8) (o:=.lst []);generalize upd H7 l8 (.lst [])=H8 at z O;have W:=(v.trans M).trans z;refine⟨.ref q6,.ref q7,.ref l8,min m (c+f),⟨c,rng (min m c),f,rnf (min m c) (min m f),[]⟩,[],rfl,(λb hb=>by cases hb),?_,gz _ _ _,hT.same W,λS u t' hT' hN=>?_⟩
  .rw[cw]
   exact⟨⟨q6,p,rfl,(M.trans z) _ _ X,(s4.trans (L.trans (s6.trans (M.trans z)))) _ _ r⟩,⟨q7,D,rfl,z _ _ I,(s6.trans (M.trans z)) _ _ k⟩,⟨l8,rfl,O⟩,(jM (by lia)).pv,by rw[Tb.rng_len];lia,by rw[Tb.rnf_len];lia,by show c<=300;lia,by show f<=300;lia⟩
  .rw[cw]at hN
   exact q2 rfl _ _ (W.t.trans t') hT' hN
theorem rg(T:Txt K mg a):FnOk P w K mg base CX0 1 a.f_u a.d_u ["_law_many","_law_few"] spChoose:=by
 refine T.F_u.ok sc_u (λu H Q E h=>?_) (λcdv A outer s H u Q E hr h=>?_)
 .obtain⟨c,d,rfl,_⟩:=h;rfl
 .obtain⟨c,d,rfl,B,f,q⟩:=h
  have g:sizeLine=16777216:=sizeLine_eq;refine⟨_,(af (aw (i:=2) sc_u.nd rfl (Or.inl rfl) ah) (af (fK PassesOwn.never rfl (eF rfl T.z_range (aa (vr 1) ae)) (ay (i:=3) sc_u.nd rfl (Or.inl rfl)) (ak (aw (i:=2) sc_u.nd rfl (Or.inl rfl) (ar fR (ar cY (vr 2) (ar gv (vr 0) (vr 3))) (ar b7 (vr 3) ah))))) (ak (ax (vr 2))))),iE ?_⟩;intro o r;refine⟨_,rfl,by lia,by lia,?_⟩
  let Pw2:PvS:=λi l j=>j=H/\i<=d/\∃ x,l=[some (.int (c:Nat)),some (.int (d:Nat)),some (.int (ch c i:Nat)),x]
  refine iw (lo:=0) (n:=(d:Int).toNat) Pw2 ⟨rfl,Nat.zero_le _,none,by rw[Tb.ch_zero];rfl⟩ ?_ ?_
  .rintro i l j C ⟨rfl,v,x,rfl⟩
   have b:=Tb.ch_le c i;have z:(2:Nat) ^ c<=2 ^ 60:=Nat.pow_le_pow_right (by decide) f
   obtain⟨k,rfl⟩:∃ k,c=i+1+k:=⟨c - i - 1,by lia⟩
   have y:=Tb.ch_step i k;refine⟨cmB (show Bt 70 _ by unfold Bt;lia) (show Bt 70 _ by unfold Bt;lia),cdB (by lia) (show Bt 70 _ by unfold Bt;lia),?_⟩;refine⟨rfl,by lia,some (.int (0+(i:Int))),?_⟩
   have e:((ch (i+1+k) i:Nat):Int)*(((i+1+k:Nat):Int) - (0+(i:Int)))/(0+(i:Int)+1)=((ch (i+1+k) (i+1):Nat):Int):=by
    have p:((ch (i+1+k) i:Nat):Int)*(((i+1+k:Nat):Int) - (0+(i:Int)))=((ch (i+1+k) (i+1):Nat):Int)*(0+(i:Int)+1):=by
     have:((ch (i+1+k) i*(k+1):Nat):Int)=((ch (i+1+k) (i+1)*(i+1):Nat):Int):=by rw[y]
     push_cast at this ⊢
     rw[show((i:Int)+1+(k:Int) - (0+(i:Int)))=(k:Int)+1 by lia,show(0+(i:Int)+1)=(i:Int)+1 by lia];exact this
    rw[p];exact Int.mul_ediv_cancel _ (by lia)
   rw[<- e];rfl
  .rintro l j ⟨rfl,_,x,rfl⟩
   rw[Int.toNat_natCast];exact q
theorem qe(T:Txt K mg a):FnOk P w K mg base CX0 6 a.f_G a.d_G ["_law_most","_law_many","_law_first"] (spLPot a):=by
 have S:FnOk P w K mg base CX0 4 _ _ _ _:=(pi T).mono (by decide);have I:FnOk P w K mg base CX0 5 _ _ _ _:=(gq (iV T)).mono (by decide);have D:FnOk P w K mg base CX0 5 _ _ _ _:=(gL T).mono (by decide);refine T.F_G.ok sc_G (λvs H Q E h=>?_) (λcdv A outer s H vs Q E hr h=>?_)
 .obtain⟨m,c,f,rfl,_⟩:=h;rfl
 .obtain⟨m,c,f,rfl,m1,a4,Y,ab,q⟩:=h
  have p:sizeLine=16777216:=sizeLine_eq;refine⟨_,(af (aw (i:=3) sc_G.nd rfl (Or.inl rfl) dN) (af (aw (i:=4) sc_G.nd rfl (Or.inl rfl) (eN T.mk_c S hr rfl T.mc_c T.Bi_c .nil ao (aa (vr 0) ae))) (af (fK PassesOwn.never rfl (eF rfl T.z_range (aa (vr 1) ae)) (ay (i:=5) sc_G.nd rfl (Or.inl rfl)) (ak (bA (eL (vr 4) T.cl_c T.mt_v I hr T.B_v .nil ao (aa (aI aB (vr 3) (ar b7 (vr 2) (ar dD (vr 5) ah)) (λ_ _=>rfl)) (aa (ar dD (vr 5) (ap (vr 4) T.cl_c T.mt_h D hr T.B_h .nil ao)) ae)))))) (ak (ax (vr 4)))))),jz ?_⟩;intro al a2 a0;intro x dx B N as;have s3:=fX (C:=a.c_c) B N;refine⟨x,dx,m,rfl,ad,by lia,by lia,λH3 h F fh u=>⟨rfl,?_⟩⟩;have s4:Same H H3:=λb o e=>F b o (λz=>by rw[z,B]at e;cases e) (s3 b o e)
  refine⟨_,rfl,by lia,by lia,?_⟩
  let Pw3:PvS:=λk R W=>(k<=c)/\Same H W/\∃(h:Addr) (l:List Str) (L:Option V),PotAt a W x h (m:Nat) (k:Nat) l/\Okp (m:Nat) (k:Nat) l/\Nms l/\R=[some (.int (m:Nat)),some (.int (c:Nat)),some (.int (f:Nat)),some (.str abc),some (.ref x),L]
  refine iw (lo:=0) (n:=(c:Int).toNat) Pw3 ⟨Nat.zero_le _,s4,h,[],none,u,⟨by lia,by lia,by lia,by lia,by show(0:Int)=_;split <;> lia⟩,(λt ht=>by cases ht),rfl⟩ ?_ ?_
  .rintro k R H1 hk ⟨a3,O,y,l,L,d,g,r,rfl⟩
   have an:k<c:=by lia
   obtain⟨X,v⟩:=d.at_
   obtain⟨j,ej,hj⟩:∃ j:Nat,(f:Int)+(0+(k:Int)) % 12=(j:Int)/\j<24:=⟨f+k % 12,by lia,by lia⟩
   have Z:=zF j hj;have tl:=cD g;have M:atI abc.cps.toList ((f:Int)+(0+(k:Int)) % 12)=some (97+j):=by rw[ej,<- Int.zero_add (j:Int)];exact zZ j hj
   refine⟨x,X,_,rfl,v,rfl,cp,.inr (.inr ⟨abc,_,_,rfl,rfl,by rw[p];decide +kernel,M,?_⟩)⟩;refine⟨x,X,_,rfl,v,rfl,⟨x,y,_,_,_,rfl,d,?_⟩⟩;have sd:sides (m:Nat) (k:Nat)=if (k:Int)<(m:Int) then 1 else (k:Int)+1:=rfl
   have sp:1<=sides (m:Nat) (k:Nat):=by rw[sd];split <;> lia
   refine⟨cp (by lia),?_⟩;have G:=Int.emod_nonneg (0+(k:Int)) (show sides (m:Nat) (k:Nat)≠0 by lia);have a1:=Int.emod_lt_of_pos (0+(k:Int)) (show 0<sides (m:Nat) (k:Nat) by lia);refine⟨x,y,_,_,_,_,_,.s (sg j),.i _,rfl,d,g,.str (sg j) (show(1:Nat)<=100 by decide) (λc hc=>by obtain rfl:c=97+j:=(mem_singleton.mp hc);lia),.int _,(λe=>by rw[Z]at e;cases e),(λ_ e=>by lia),λ_ _ e=>?_,λ_ _ _ H2 h2 sb pot2 _=>?_⟩
   .have:inK 0 (sides (m:Nat) (k:Nat) - 1) (.i ((0+(k:Int)) % sides (m:Nat) (k:Nat)))=true:=decide_eq_true ⟨G,by lia⟩
    rw[this]at e;cases e
   .refine⟨by lia,λb o e=>sb b o (λz=>by rw[z,B]at e;cases e) (O b o e),h2,_,_,pot2,⟨by lia,by lia,by lia,by lia,?_⟩,jj r Z,rfl⟩
    show((iN _ _ _ _).length:Int)=_;unfold iN
    by_cases c1:(l.length:Int)<(m:Int)
    .rw[if_pos c1,length_append]
     show((l.length+1:Nat):Int)=_
     split <;> lia
    .rw[if_neg c1]
     split <;> (first | rw[length_set] | skip) <;> split <;> lia
  .rintro R H1 ⟨_,O,y,l,L,d,g,r,rfl⟩
   rw[Int.toNat_natCast]at d g;exact q _ x y l O B d g r
end
end My
namespace Tb
open FrM Du LexM
theorem bset_succ(N b:Nat):∀ j:Nat,ee (j+1) b=ee j b++if (b >>> j) % 2=1 then [(j:Int)] else []:=λj=>by
 unfold ee rng;rw[range_succ,map_append,filter_append]
 congr 1
 by_cases c:(b >>> j) % 2=1
 .rw[if_pos c,map_cons,map_nil,filter_cons,if_pos (by rw[Int.toNat_natCast];exact decide_eq_true c)];rfl
 .rw[if_neg c,map_cons,map_nil,filter_cons,if_neg (by rw[Int.toNat_natCast];exact λe=>c (of_decide_eq_true e))];rfl
theorem bset_len(N b:Nat):(ee N b).length<=N:=by
 have:=length_filter_le (λk:Int=>decide ((b >>> k.toNat) % 2=1)) (rng N);rw[rng_len]at this;exact this
def rwB(w c1 s1 c2 s2 i:Nat):Rws:=(((List.range i).map (ee (s1+s2))).filter λx=>decide (x.length=w)).map λS=>(S,shr w c1 s1 c2 s2 S)
theorem rwB_succ(w c1 a c2 s2 i:Nat):rwB w c1 a c2 s2 (i+1)=rwB w c1 a c2 s2 i++if (ee (a+s2) i).length=w then [(ee (a+s2) i,shr w c1 a c2 s2 (ee (a+s2) i))] else []:=by
 unfold rwB;rw[range_succ,map_append,filter_append,map_append]
 congr 1
 by_cases c:(ee (a+s2) i).length=w
 .rw[if_pos c];simp[c]
 .rw[if_neg c];simp[c]
theorem rwB_keys(w c1 a c2 s2 i:Nat):(rwB w c1 a c2 s2 i).map (·.1)=((List.range i).map (ee (a+s2))).filter λx=>decide (x.length=w):=by
 unfold rwB;rw[map_map];exact map_id _
theorem rwB_len(w c1 a c2 s2 i:Nat):(rwB w c1 a c2 s2 i).length<=i:=by
 unfold rwB;rw[length_map];refine Nat.le_trans (length_filter_le _ _) ?_;rw[length_map,length_range];exact Nat.le_refl _
theorem low_le{S:List Int}{w a s2:Nat}(h:Sb S w (a+s2)):(S.filter λx=>decide (x<(a:Int))).length<=a/\(S.filter λx=>decide (x<(a:Int))).length<=w/\w - (S.filter λx=>decide (x<(a:Int))).length<=s2:=by
 have b:=gW h.nd (P1:=rng a) (P2:=rnf a s2) (tk:=[]) (by rw[nil_append];exact tj a s2) (lD h);rw[h.len]at b;have b:w=0+(cn S (rng a)+cn S (rnf a s2)):=b;have d:=iG S (rng a);have c:=iG S (rnf a s2);rw[rng_len]at d;rw[rnf_len]at c;have f:=vm (s:=a) h;lia
theorem ch_pos'{n k:Nat}(h:k<=n):0<ch n k:=by
 have:=uk k (n - k);rwa [show k+(n - k)=n by lia]at this
end Tb
namespace My
open PySem L2 FrM LexM
open Tb (Tr ch ee shr rwB Rws)
theorem og{d c:Type}{r:d->c->Prop}{b:List d}{a:List c}(h:Paired r b a)(f:d)(g:c):∀{o:List Nat},(∀ i∈o,i<b.length)->Paired r (o.map λi=>b.getD i f) (o.map λi=>a.getD i g)
 | [],_=>.nil
 | i::o,ho=>by
  have l:i<a.length:=by rw[<- h.length];exact ho i mem_cons_self
  have e:a[i]? = some a[i]:=List.getElem?_eq_getElem l;obtain⟨x,k,n⟩:=bx h e;refine .cons ?_ (og h f g λj p=>ho j (mem_cons_of_mem _ p));show r (b.getD i f) (a.getD i g);rw[List.getD,List.getD,k,e];exact n
theorem sS:∀ b:Nat,b<64->∀ j:Nat,j<6->(Builtin.bitAnd ((b:Int)/2 ^ j) 1=1↔(b >>> j) % 2=1):=by decide +kernel
theorem dB{i:Nat}{v:V}{σ σ':St}{H:Hp}{Q:St->Hp->Prop}(e:σ.set i (some v)=σ')(h:Q σ' H):kx i v σ H Q:=by
 subst e;exact h
theorem yy{k i:Nat}{x y:Int}{σ σ':St}{H:Hp}{Q:St->Hp->Prop}(a:σ[k]? = some (some (.int y)))(b:σ.set i (some (.int (x - y)))=σ')(h:Q σ' H):tV k σ H λv H2=>rI2 (λi j=>V.int (i - j)) (V.int x) v H2 λv' H1=>kx i v' σ H1 Q:=by
 unfold tV;rw[a];exact dB b h
theorem xM{i:Nat}{x y:Int}{σ σ':St}{H:Hp}{Q:St->Hp->Prop}(a:σ.set i (some (.int (x+y)))=σ')(h:Q σ' H):xh (V.int x) (V.int y) H λv' H1=>kx i v' σ H1 Q:=dB a h
inductive spDue(K:Frag)(vs:List V)(H:Hp)(Q:VK)(_E:XK):Prop
 | mk(lc:Addr)(m c1 c2:Nat)(h0:vs=[.int (m:Nat),.ref lc])(h1:H lc=some (.lst [.int (c1:Nat),.int (c2:Nat)]))(h2:1<=m)(h3:m<=3)(h4:c1<=30)(h5:c2<=30)(h6:∀ H' l R ys,Same H H'->H' l=some (.lst ys)->Paired (RowR K H') R ys->(R.map (·.1)).Pairwise (λa b=>aJ a b=true)->(∀ k,k∈R.map (·.1)↔Tb.Sb k (min m (c1+c2)) (min m c1+min m c2))->(∀ x∈R,x.2=shr (min m (c1+c2)) c1 (min m c1) c2 (min m c2) x.1)->Q (.ref l) H'):spDue K vs H Q _E
theorem rC{K:Frag}{H:Hp}{R:Rws}{ys:List V}(h:Paired (RowR K H) R ys):Paired (λy x=>∃ a,y=V.ref a/\rV H x a) ys (R.map (·.1)):=by
 induction h with
 | nil=>exact .nil
 | cons r _ ih =>
  obtain⟨p,f,z,d,c,b,g⟩:=r;exact .cons ⟨p,d,f,z,c,b⟩ ih
theorem gg(m c:Nat):(if (c:Int)<(m:Int) then (c:Int) else (m:Int))=((min m c:Nat):Int):=by split <;> lia
theorem kF{s:Nat}{S:List Int}{x:Int}{i:Nat}(h:S[i]? = some x):(S.take (i+1)).filter (λx=>decide (x<(s:Int)))=(S.take i).filter (λx=>decide (x<(s:Int)))++if x<(s:Int) then [x] else []:=by
 rw[take_add_one,h,filter_append]
 by_cases c:x<(s:Int) <;> simp[c]
section
variable {P:Program}{w:World}{K:Frag}{mg:Str->Option Value}{base:Heap}{a:Ad}
theorem yh(T:Txt K mg a):FnOk P w K mg base CX0 3 a.f_T a.d_T ["_law_most","_law_came"] (spDue K):=by
 have ab:FnOk P w K mg base CX0 2 _ _ _ _:=(rg T).mono (by decide);have b4:FnOk P w K mg base CX0 2 _ _ _ spLow:=mJ T;refine T.F_T.ok sc_T (λvs H Q E h=>?_) (λcdv A outer s H vs Q E hr h=>?_)
 .obtain⟨v,m,f,d,rfl,_⟩:=h;rfl
 .obtain⟨v,m,f,d,rfl,M,m1,m3,cT,c5,q⟩:=h
  have b6:sizeLine=16777216:=sizeLine_eq
  refine⟨_,(af (aw (i:=2) sc_T.nd rfl (Or.inr rfl) (cE rfl (N:=["_law_many","_law_most"]) (ix:=[none,some 0]) ⟨rfl,rfl,rfl,rfl,⟨rfl,rfl,rfl,trivial⟩⟩ (b9 (vr 1)) ⟨λC s H fp=>ay (i:=0) (show List.Nodup (["_law_many","_law_most"]:List Str) by decide +kernel) rfl (Or.inl rfl),λC s H fp=>ce,λC s H fp=>(av (eK rfl) rfl T.z_min jJ (aa (vr 1) (aa (vr 0) ae)))⟩)) (af (aw (i:=3) sc_T.nd rfl (Or.inl rfl) (av (eK rfl) rfl T.z_min jJ (aa (vr 0) (aa (av (ck rfl) rfl T.z_sum d4 (aa (vr 1) ae)) ae)))) (af (aw (i:=4) sc_T.nd rfl (Or.inl rfl) (aR ae)) (af (fK PassesOwn.never rfl (eF rfl T.z_range (aa (ar Af ah (av (ck rfl) rfl T.z_sum d4 (aa (vr 2) ae))) ae)) (ay (i:=5) sc_T.nd rfl (Or.inr rfl)) (af (iZ rfl (i:=6) sc_T.nd rfl rfl (by with_unfolding_all rfl) (N:=["_law_k","_law_bits"]) (ix:=[none,some 5]) ⟨rfl,rfl,rfl,rfl,⟨rfl,rfl,rfl,trivial⟩⟩ (eF rfl T.z_range (aa (av (ck rfl) rfl T.z_sum d4 (aa (vr 2) ae)) ae)) ⟨λC s H fp=>ay (i:=0) (show List.Nodup (["_law_k","_law_bits"]:List Str) by decide +kernel) rfl (Or.inl rfl),λC s H fp=>kN (aM eE (ar zw (ar zJ (vr 1) (vr 0)) ah) ah (au _)),λC s H fp=>(vr 0)⟩) (af (aw (i:=7) sc_T.nd rfl (Or.inl rfl) (av aQ rfl T.z_len cf (aa (cE rfl (N:=["_law_k","_law_stock"]) (ix:=[none,some 2]) ⟨rfl,rfl,rfl,rfl,⟨rfl,rfl,rfl,trivial⟩⟩ (b9 (vr 6)) ⟨λC s H fp=>ay (i:=0) (show List.Nodup (["_law_k","_law_stock"]:List Str) by decide +kernel) rfl (Or.inl rfl),λC s H fp=>kN (aM j3 (vr 0) (aI (i8 (K:=K) rfl) (vr 1) ah (λ_ _=>rfl)) (au _)),λC s H fp=>(vr 0)⟩) ae))) (af (aw (i:=8) sc_T.nd rfl (Or.inl rfl) (ar gv (av aQ rfl T.z_len cf (aa (vr 6) ae)) (vr 7))) (ak (ba (PW.pt (d3 (aM eE (av aQ rfl T.z_len cf (aa (vr 6) ae)) (vr 3) (au _)) (d3 (aM sx (vr 7) (aI aB (vr 1) ah (λ_ _=>rfl)) (au _)) (dS (aM sx (vr 8) (aI aB (vr 1) ah (λ_ _=>rfl)) (au _)))))) (af (aw (i:=9) sc_T.nd rfl (Or.inl rfl) (ar cY (aq ab hr rfl T.m_u T.F_u.kp T.B_u .nil ao (aa (aI aB (vr 1) ah (λ_ _=>rfl)) (aa (vr 7) ae))) (aq ab hr rfl T.m_u T.F_u.kp T.B_u .nil ao (aa (aI aB (vr 1) ah (λ_ _=>rfl)) (aa (vr 8) ae))))) (af (aw (i:=10) sc_T.nd rfl (Or.inl rfl) (ar cY (ar cY (aq ab hr rfl T.m_u T.F_u.kp T.B_u .nil ao (aa (aI aB (vr 2) ah (λ_ _=>rfl)) (aa (vr 7) ae))) (aq ab hr rfl T.m_u T.F_u.kp T.B_u .nil ao (aa (aI aB (vr 2) ah (λ_ _=>rfl)) (aa (vr 8) ae)))) (aq ab hr rfl T.m_u T.F_u.kp T.B_u .nil ao (aa (av (ck rfl) rfl T.z_sum d4 (aa (vr 1) ae)) (aa (vr 3) ae))))) (ak (bA (pe_m.append (vr 4) (aa (cK (aa (aN dZ rfl T.z_tuple gU (aa (vr 6) ae)) (aa (aq b4 hr rfl T.m_S T.F_S.kp T.B_S .nil ao (aa (vr 9) (aa (vr 10) ae))) ae))) ae)))))) aD)))))) (ak (ax (av (jU hr.units) rfl T.z_sorted fV (aa (vr 4) ae)))))))),qD ?_⟩
  intro c7 c8 cP cC;refine .inl ⟨⟨_,SqL.of M⟩,λD hD=>?_⟩
  let Pw1:PvL:=λi I L=>(i<=2)/\Same H L/\L D=some (.lst I)/\I=([min m f,min m d].take i).map λn=>V.int (n:Nat)
  refine bL (K:=K) (a:=v) (xs:=[.int (f:Nat),.int (d:Nat)]) Pw1 ⟨Nat.zero_le _,Same.new hD,ad,rfl⟩ (λi ys L h=>SqL.of (h.2.1 _ _ M)) (λi ys L h=>h.2.2.1) ?_ ?_
  .rintro i y I L P' hy ⟨hi,s1,r,rfl⟩ hP
   rcases i with _ | _ | i
   .cases hy
    refine⟨⟨rfl,trivial⟩,_,_,rfl,r,by show 0<_;lia,hP _ _ ⟨by decide,s1.put hD,ad,?_⟩⟩;rw[gg];rfl
   .cases hy
    refine⟨⟨rfl,trivial⟩,_,_,rfl,r,by show 1<_;lia,hP _ _ ⟨by decide,s1.put hD,ad,?_⟩⟩;rw[gg];rfl
   .cases hy
  rintro I H1 ⟨_,s1,r,rfl⟩;have r:H1 D=some (.lst [.int (min m f:Nat),.int (min m d:Nat)]):=r;refine dB (σ':=[some (.int (m:Nat)),some (.ref v),some (.ref D),none,none,none,none,none,none,none,none]) rfl ?_;refine⟨v,[(f:Int),(d:Int)],rfl,SqL.of (s1 _ _ M),?_⟩;refine⟨_,_,rfl,?_⟩
  have ew:(if [(f:Int),(d:Int)].sum<(m:Int) then [(f:Int),(d:Int)].sum else (m:Int))=((min m (f+d):Nat):Int):=by
   rw[show [(f:Int),(d:Int)].sum=((f+d:Nat):Int) by simp];exact gg _ _
  rw[ew];refine dB (σ':=[some (.int (m:Nat)),some (.ref v),some (.ref D),some (.int (min m (f+d):Nat)),none,none,none,none,none,none,none]) rfl ?_;refine⟨Nat.zero_le _,λF X=>?_⟩;have s2:=Same.new (o:=.lst []) X;have a1:=ad (H:=H1) (a:=F) (o:=.lst []);generalize upd H1 F (.lst [])=H2 at s2 a1;refine dB (σ':=[some (.int (m:Nat)),some (.ref v),some (.ref D),some (.int (min m (f+d):Nat)),some (.ref F),none,none,none,none,none,none]) rfl ?_;have bm:=s2 _ _ r;have br:=(s1.trans s2) _ _ M;have fl:H F=none:=s1.free X;have co:=s1.trans s2;have hN:min m f+min m d<=6:=by lia
  have a2:min m (f+d)<=3:=by lia
  generalize hs1:min m f=s1n at *;generalize hs2:min m d=s2n at *;have c0:s1n<=f:=by lia
  have cW:s2n<=d:=by lia
  have cG:min m (f+d)<=f+d:=by lia
  generalize hww':min m (f+d)=ww at *;refine⟨D,[(s1n:Int),(s2n:Int)],rfl,SqL.of bm,?_⟩;have es:[(s1n:Int),(s2n:Int)].sum=((s1n+s2n:Nat):Int):=by simp
  rw[es];refine⟨⟨by lia,by lia,by decide⟩,?_⟩;have e2:(1:Int)*2 ^ (((s1n+s2n:Nat):Int)).toNat=((2 ^ (s1n+s2n):Nat):Int):=by rw[Int.toNat_natCast,Int.one_mul];push_cast;rfl
  have c6:2 ^ (s1n+s2n)<=64:=Nat.le_trans (Nat.pow_le_pow_right (by decide) hN) (by decide);have e9:((1:Int)*2 ^ (((s1n+s2n:Nat):Int)).toNat).toNat=2 ^ (s1n+s2n):=by rw[e2];exact Int.toNat_natCast _
  refine⟨_,rfl,by rw[e2];lia,by rw[e2];lia,?_⟩
  let Pw2:PvS:=λi σ L=>(∀ b o,b≠F->H2 b=some o->L b=some o)/\∃(ys:List V) (x5 x6 x7 x8 x9 G:Option V),L F=some (.lst ys)/\Paired (RowR K L) (rwB ww f s1n d s2n i) ys/\σ=[some (.int (m:Nat)),some (.ref v),some (.ref D),some (.int (ww:Nat)),some (.ref F),x5,x6,x7,x8,x9,G]
  refine iw (lo:=0) (n:=((1:Int)*2 ^ (((s1n+s2n:Nat):Int)).toNat).toNat) Pw2 ⟨(λb o _ e=>e),[],none,none,none,none,none,none,a1,.nil,rfl⟩ ?_ ?_
  .rintro i σ L hi ⟨kp,ys,x5,x6,x7,x8,x9,G,Z,hR,rfl⟩
   rw[e9]at hi;have as:i<64:=by lia
   have nD:D≠F:=λz=>by rw[z,X]at r;cases r
   have nC:v≠F:=λz=>by rw[<- z,(s1 _ _ M)]at X;cases X
   have a':=kp _ _ nD bm;have cy:=kp _ _ nC br;have yl:ys.length<=64:=by rw[<- hR.length];exact Nat.le_trans (Tb.rwB_len _ _ _ _ _ _) (by lia)
   refine dB (σ':=[some (.int (m:Nat)),some (.ref v),some (.ref D),some (.int (ww:Nat)),some (.ref F),some (.int (0+(i:Int))),x6,x7,x8,x9,G]) rfl ?_;refine⟨D,[(s1n:Int),(s2n:Int)],rfl,SqL.of a',?_⟩;rw[es];refine⟨_,rfl,by lia,by lia,λD6 a9=>?_⟩
   let Pw3:PvL:=λj I p=>Same L p/\p D6=some (.lst I)/\I=(ee j i).map V.int
   refine oh (lo:=0) (n:=(((s1n+s2n:Nat):Int)).toNat) Pw3 ⟨Same.new a9,ad,rfl⟩ (λj ys p h=>h.2.1) ?_ ?_
   .rintro j I p cc hj ⟨s3,B,rfl⟩ hP
    have bl:=Tb.bset_len j i;refine⟨⟨rfl,trivial⟩,cn (by lia),ifC (λc=>?_) λc=>?_⟩
    .have c':Builtin.bitAnd ((i:Int)/2 ^ j) 1=1:=by
      have z:Builtin.bitAnd ((0+(i:Int))/2 ^ (0+(j:Int)).toNat) 1=1:=c;rwa [Int.zero_add,Int.zero_add,Int.toNat_natCast]at z
     refine⟨B,by rw[length_map];lia,hP _ _ ⟨s3.put a9,ad,?_⟩⟩;rw[Tb.bset_succ j,if_pos ((sS i as j (by lia)).mp c'),map_append,Int.zero_add];rfl
    .have c':¬Builtin.bitAnd ((i:Int)/2 ^ j) 1=1:=λz=>c (by
      show Builtin.bitAnd ((0+(i:Int))/2 ^ (0+(j:Int)).toNat) 1=1
      rwa [Int.zero_add,Int.zero_add,Int.toNat_natCast])
     refine hP _ _ ⟨s3,B,?_⟩;rw[Tb.bset_succ j,if_neg (λz=>c' ((sS i as j (by lia)).mpr z)),append_nil]
   rintro I H3 ⟨s3,B,rfl⟩;rw[Int.toNat_natCast]at B;have bl:=Tb.bset_len (s1n+s2n) i;generalize hS:ee (s1n+s2n) i=S at B bl;refine dB (σ':=[some (.int (m:Nat)),some (.ref v),some (.ref D),some (.int (ww:Nat)),some (.ref F),some (.int (0+(i:Int))),some (.ref D6),x7,x8,x9,G]) rfl ?_;refine .inl ⟨⟨_,SqL.of B⟩,λD8 a7=>?_⟩;have a4:=s3 _ _ a'
   let Pw4:PvL:=λj I p=>(j<=S.length)/\Same H3 p/\p D8=some (.lst I)/\I=((S.take j).filter λx=>decide (x<(s1n:Int))).map V.int
   refine bL (K:=K) (a:=D6) (xs:=S.map V.int) Pw4 ⟨Nat.zero_le _,Same.new a7,ad,rfl⟩ (λj ys p h=>SqL.of (h.2.1 _ _ B)) (λj ys p h=>h.2.2.1) ?_ ?_
   .rintro j y I p cc hy ⟨hj,s4,R,rfl⟩ hP
    rw[List.getElem?_map]at hy
    obtain⟨x,hx,rfl⟩:∃ x,S[j]? = some x/\V.int x=y:=by
     cases e:S[j]? with
     | none=>rw[e]at hy;cases hy
     | some x=>rw[e]at hy;cases hy;exact⟨x,rfl,rfl⟩
    have a8:j<S.length:=(List.getElem?_eq_some_iff.mp hx).1;have cB:((S.take j).filter λx=>decide (x<(s1n:Int))).length<=j:=Nat.le_trans (length_filter_le _ _) (by rw[length_take];lia);refine⟨⟨rfl,trivial⟩,.inl ⟨D,_,_,_,rfl,rfl,SqL.of (s4 _ _ a4),aC 0 rfl rfl,ifC (λc=>?_) λc=>?_⟩⟩
    .have c':x<(s1n:Int):=c
     refine⟨R,by rw[length_map];lia,hP _ _ ⟨a8,s4.put a7,ad,?_⟩⟩;rw[kF hx,if_pos c',map_append];rfl
    .have c':¬x<(s1n:Int):=c
     refine hP _ _ ⟨a8,s4,R,?_⟩;rw[kF hx,if_neg c',append_nil]
   rintro I H4 ⟨_,s4,R,rfl⟩;rw[length_map,take_length]at R;refine⟨_,.inl (SqL.of R),?_⟩;rw[length_map];have O:=s4 _ _ B;have an:=s4 _ _ a4;have al:=s3.trans s4;have u:=al _ _ cy;have W:=al _ _ Z;have bn:∀ b o,b≠F->H2 b=some o->H4 b=some o:=λb o n e=>al _ _ (kp b o n e)
   have b3:=az (RowR.tk (Same.tk al)) hR;have Y:=Tb.rwB_succ ww f s1n d s2n i;rw[hS]at Y;have bt:S.length=ww->(S.filter λx=>decide (x<(s1n:Int))).length<=s1n/\(S.filter λx=>decide (x<(s1n:Int))).length<=ww/\ww - (S.filter λx=>decide (x<(s1n:Int))).length<=s2n:=λe=>Tb.low_le (s2:=s2n) (by rw[<- hS]at e ⊢;exact Tb.bset_sb e)
   have bS:shr ww f s1n d s2n S=((ch f (S.filter λx=>decide (x<(s1n:Int))).length*ch d (ww - (S.filter λx=>decide (x<(s1n:Int))).length):Nat):Rat)/((ch s1n (S.filter λx=>decide (x<(s1n:Int))).length*ch s2n (ww - (S.filter λx=>decide (x<(s1n:Int))).length)*ch (f+d) ww:Nat):Rat):=rfl;generalize (S.filter λx=>decide (x<(s1n:Int))).length=lo at *;refine dB (σ':=[some (.int (m:Nat)),some (.ref v),some (.ref D),some (.int (ww:Nat)),some (.ref F),some (.int (0+(i:Int))),some (.ref D6),some (.int (lo:Nat)),x8,x9,G]) rfl ?_;refine⟨_,.inl (SqL.of O),?_⟩;rw[length_map];refine yy (σ':=[some (.int (m:Nat)),some (.ref v),some (.ref D),some (.int (ww:Nat)),some (.ref F),some (.int (0+(i:Int))),some (.ref D6),some (.int (lo:Nat)),some (.int ((S.length:Int) - (lo:Int))),x9,G]) rfl rfl ?_;refine⟨_,.inl (SqL.of O),?_⟩;rw[length_map];refine ifC (λc=>?_) λc=>?_
   .have c:S.length=ww:=by have z:((S.length:Nat):Int)=(ww:Int):=c;lia
    obtain⟨b5,c9,cA⟩:=bt c;rw[if_pos c]at Y;have eo:(S.length:Int) - (lo:Int)=((ww - lo:Nat):Int):=by lia
    rw[eo];refine .inl ⟨v,_,_,_,rfl,rfl,SqL.of u,aC 0 rfl rfl,ifC (λc3=>?_) λc3=>absurd (show(lo:Int)<=(f:Int) by lia) c3⟩;refine .inl ⟨v,_,_,_,rfl,rfl,SqL.of u,aC 1 rfl rfl,ifC (λc4=>?_) λc4=>absurd (show((ww - lo:Nat):Int)<=(d:Int) by lia) c4⟩
    have l:∀ n k:Nat,n<=60->Bt 61 ((ch n k:Nat):Int):=λn k hn=>by
     have b1:=Tb.ch_le n k;have b2:(2:Nat) ^ n<=2 ^ 60:=Nat.pow_le_pow_right (by decide) hn;unfold Bt;lia
    refine .inl ⟨v,_,_,_,rfl,rfl,SqL.of u,aC 0 rfl rfl,⟨f,lo,rfl,by lia,by lia,?_⟩⟩;refine .inl ⟨v,_,_,_,rfl,rfl,SqL.of u,aC 1 rfl rfl,⟨d,ww - lo,rfl,by lia,by lia,?_⟩⟩;refine⟨cmB (l _ _ (by lia)) (l _ _ (by lia)),?_⟩;have bT:=(l f lo (by lia)).mul (l d (ww - lo) (by lia));have eT:(((ch f lo:Nat):Int)*((ch d (ww - lo):Nat):Int):Int)=((ch f lo*ch d (ww - lo):Nat):Int):=by push_cast;rfl
    refine .inl ⟨D,_,_,_,rfl,rfl,SqL.of an,aC 0 rfl rfl,⟨s1n,lo,rfl,by lia,by lia,?_⟩⟩;refine .inl ⟨D,_,_,_,rfl,rfl,SqL.of an,aC 1 rfl rfl,⟨s2n,ww - lo,rfl,by lia,by lia,?_⟩⟩;refine⟨cmB (l _ _ (by lia)) (l _ _ (by lia)),?_⟩;refine⟨v,[(f:Int),(d:Int)],rfl,SqL.of u,?_⟩;refine⟨f+d,ww,by rw[show [(f:Int),(d:Int)].sum=((f+d:Nat):Int) by simp];rfl,by lia,by lia,?_⟩;have bg:=(l s1n lo (by lia)).mul (l s2n (ww - lo) (by lia));refine⟨cmB bg (l _ _ (by lia)),?_⟩;have bB:=bg.mul (l (f+d) ww (by lia));have eB:(((ch s1n lo:Nat):Int)*((ch s2n (ww - lo):Nat):Int)*((ch (f+d) ww:Nat):Int):Int)=((ch s1n lo*ch s2n (ww - lo)*ch (f+d) ww:Nat):Int):=by push_cast;rfl
    have pB:0<ch s1n lo*ch s2n (ww - lo)*ch (f+d) ww:=Nat.mul_pos (Nat.mul_pos (Tb.ch_pos' b5) (Tb.ch_pos' cA)) (Tb.ch_pos' (by lia));refine⟨.inl ⟨rfl,_,SqL.of W⟩,?_⟩;refine⟨D6,_,rfl,.inl ⟨SqL.of O,λkt cj=>?_⟩⟩;have s5:=Same.new (o:=.tup (S.map V.int)) cj;have a6:=ad (H:=H4) (a:=kt) (o:=.tup (S.map V.int));generalize upd H4 kt (.tup (S.map V.int))=H5 at s5 a6;refine⟨_,_,rfl,by rw[eB];lia,bT.mono (by decide),bB.mono (by decide),λH6 p6 s6 a5=>?_⟩
    have cx:m8 (((ch f lo:Nat):Int)*((ch d (ww - lo):Nat):Int)) (((ch s1n lo:Nat):Int)*((ch s2n (ww - lo):Nat):Int)*((ch (f+d) ww:Nat):Int))=Du.fr (shr ww f s1n d s2n S):=by
     rw[eT,eB,bS,Du.low_div _ (by lia),Rat.intCast_natCast,Rat.intCast_natCast]
    rw[cx]at a5;refine⟨b8 _ _,λpr ca=>?_⟩;have s7:=Same.new (o:=.tup [.ref kt,.ref p6]) ca;have b0:=ad (H:=H6) (a:=pr) (o:=.tup [.ref kt,.ref p6]);generalize upd H6 pr (.tup [.ref kt,.ref p6])=H7 at s7 b0;have bo:=s6.trans s7;have a3:=s5.trans bo;have a0:=a3 _ _ W;refine⟨F,ys,_,rfl,rfl,a0,by lia,?_⟩;have tk:=TK.lst (ys:=ys++[V.ref pr]) a0;refine⟨λb o n e=>by rw[ag n];exact a3 _ _ (bn b o n e),ys++[.ref pr],_,_,_,_,_,_,ad,?_,rfl⟩;rw[Y];exact dP ⟨pr,kt,.ref p6,rfl,tk _ _ b0,tk _ _ (bo _ _ a6),p6,rfl,.inl (tk _ _ (s7 _ _ a5))⟩ (az (RowR.tk ((Same.tk a3).trans tk)) b3)
   .have c:¬S.length=ww:=λz=>c (by show((S.length:Nat):Int)=(ww:Int);lia)
    rw[if_neg c,append_nil]at Y;refine⟨bn,ys,_,_,_,_,_,_,W,?_,rfl⟩;rw[Y];exact b3
  .rintro σ L ⟨kp,ys,x5,x6,x7,x8,x9,G,Z,hR,rfl⟩
   rw[e9]at hR;have nd:=(Tb.bset_nd (s1n+s2n) hN).filter (λx=>decide (x.length=ww));have ek:=Tb.rwB_keys ww f s1n d s2n (2 ^ (s1n+s2n));rw[<- ek]at nd
   have ct:(rwB ww f s1n d s2n (2 ^ (s1n+s2n))).length<64:=by
    have:=Tb.sb_few hN a2 nd λk hk=>(Tb.bset_iff hN a2 k).mp (by rw[<- ek];exact hk)
    rwa [length_map]at this
   refine⟨F,ys,_,rfl,SqL.of Z,by rw[<- hR.length];exact ct,rC hR,nd,λq2 o op os cs=>?_⟩;have yl:ys.length=(rwB ww f s1n d s2n (2 ^ (s1n+s2n))).length:=hR.length.symm;rw[yl]at op;obtain⟨rp,rs⟩:=Tb.tab_of (g:=rwB ww f s1n d s2n (2 ^ (s1n+s2n))) nd op os;have s9:=Same.new (o:=.lst (o.map λi=>ys.getD i .non)) cs;have b':Same H L:=λb o e=>kp b o (λz=>by rw[z,fl]at e;cases e) (co _ _ e)
   refine q _ q2 _ _ (b'.trans s9) ad (az (RowR.tk (Same.tk s9)) (og hR ([],0) .non λi hi=>mem_range.mp (op.mem_iff.mp hi))) rs (λk=>?_) λx hx=>?_
   .rw[(rp.map _).mem_iff,ek]
    exact Tb.bset_iff hN a2 k
   .have:=rp.mem_iff.mp hx
    unfold rwB at this;obtain⟨S,_,rfl⟩:=mem_map.mp this;rfl
end
open Tb (Tr pN cL wo Pv rng rnf pS)
theorem mI:∀{P:List Int}{j:Nat}{p:Int},P.Nodup->P[j]? = some p->P.eraseIdx j=wo P p
 | [],j,p,_,h=>by simp at h
 | y::P,0,p,nd,h=>by
  cases h;rw[nodup_cons]at nd;show P=wo (y::P) y;unfold wo;rw[List.filter_cons_of_neg (by simp)];exact(List.filter_eq_self.mpr λz a=>by have:z≠y:=λe=>nd.1 (by rw[<- e];exact a);simp[this]).symm
 | y::P,j+1,p,nd,h=>by
  rw[nodup_cons]at nd;have h:P[j]? = some p:=h;have:y≠p:=λe=>nd.1 (by rw[e];exact List.mem_of_getElem? h)
  rw[List.eraseIdx_cons_succ,mI nd.2 h];unfold wo;rw[List.filter_cons_of_pos (by simp[this])]
theorem tH{P:List Int}{j:Nat}{p:Int}(b:P.Nodup)(h:P[j]? = some p):∀(m:Nat) (i:Int),m<j->P[m]? = some i->i≠p:=λm i d a e=>by
 have c:=(List.getElem?_eq_some_iff.mp h).1;have:=(List.getElem?_inj (i:=m) (j:=j) (show m<P.length by lia) b).mp (by rw[a,h,e]);lia
theorem uc{x:Pd}{w:Nat}(h:x.c2=0):x.tr (w+1)=x.f1 w:=by rw[Pd.tr,Tb.pN_succ,if_pos h];rfl
theorem sY{x:Pd}{w:Nat}(a:x.c1=0)(h:x.c2≠0):x.tr (w+1)=x.f2 w:=by rw[Pd.tr,Tb.pN_succ,if_neg h,if_pos a];rfl
theorem qO{x:Pd}{w:Nat}(a:x.c1≠0)(h:x.c2≠0):x.tr (w+1)=.die [(((x.c1:Nat):Int),x.f1 w),(((x.c2:Nat):Int),x.f2 w)]:=by rw[Pd.tr,Tb.pN_succ,if_neg h,if_neg a];rfl
def Pd.fb(x:Pd)(b:Bool)(w:Nat):Tr:=if b then x.f2 w else x.f1 w
def Pd.pb(x:Pd)(b:Bool):List Int:=if b then x.P2 else x.P1
def Pd.cb(x:Pd)(b:Bool):Nat:=if b then x.c2 else x.c1
def Pd.go(x:Pd)(b:Bool)(p:Int):Pd:=if b then x.two p else x.one p
theorem oK(x:Pd)(b:Bool)(w:Nat):x.fb b w=cL (x.pb b) λp=>(x.go b p).tr w:=by cases b <;> rfl
theorem vO{x:Pd}{w:Nat}(d:x.c1≠0)(h:x.c2≠0){t:Int}(b:0<=t)(f:t<((x.c1+x.c2:Nat):Int))(a:List Int):goT (x.tr (w+1)) (t::a)=goT (x.fb (decide (t >= (x.c1:Int))) w) a:=by
 rw[qO d h];refine uJ b ?_;show(if t<(x.c1:Int) then some (x.f1 w) else if t - (x.c1:Int)<(x.c2:Int) then some (x.f2 w) else none)=_
 by_cases c:t<(x.c1:Int)
 .rw[if_pos c,decide_eq_false (by lia)];rfl
 .rw[if_neg c,if_pos (by lia),decide_eq_true (by lia)];rfl
theorem ya{ps:List Int}{g:Int->Tr}(h:ps.length≠1){t:Int}(b:0<=t){p:Int}(c:ps[t.toNat]? = some p)(a:List Int):goT (cL ps g) (t::a)=goT (g p) a:=by
 rw[jO h];refine uJ b ?_;have e:(ps.map λx=>((1:Int),g x))=(ps.map g).map λx=>((1:Int),x):=by rw[map_map];rfl
 rw[e,j9 _ t b,List.getElem?_map,c];rfl
theorem Pd.Ok.nd{x:Pd}{w:Nat}(h:x.Ok w)(b:Bool):(x.pb b).Nodup:=by
 cases b
 .exact h.pv.n1
 .exact h.pv.n2
theorem Pd.Ok.go{x:Pd}{w:Nat}(h:x.Ok (w+1)){b:Bool}(a:0<x.cb b){p:Int}(c:p∈x.pb b):(x.go b p).Ok w:=by
 cases b
 .exact h.one a c
 .exact h.two a c
theorem Pd.Ok.ne{x:Pd}{w:Nat}(h:x.Ok (w+1)){b:Bool}(a:0<x.cb b):0<(x.pb b).length:=by
 cases b
 .exact h.pv.ne1 a
 .exact h.pv.ne2 a
theorem Pd.Ok.le{x:Pd}{w:Nat}(h:x.Ok w)(b:Bool):(x.pb b).length<=24:=by
 cases b
 .exact h.l1
 .exact h.l2
theorem uE{P:List Int}{p x:Int}(h:x∈wo P p):x∈P:=(mem_filter.mp h).1
def Pd.In(x:Pd)(N:Nat):Prop:=∀ k,(k∈x.tk\/k∈x.P1\/k∈x.P2)->0<=k/\k<(N:Int)
theorem Pd.In.go{x:Pd}{N:Nat}(h:x.In N){b:Bool}{p:Int}(c:p∈x.pb b):(x.go b p).In N:=λk a=>by
 cases b
 .rcases a with z | z | z
  .rcases mem_append.mp z with z | z
   .exact h k (.inl z)
   .rw[mem_singleton.mp z];exact h p (.inr (.inl c))
  .exact h k (.inr (.inl (uE z)))
  .exact h k (.inr (.inr z))
 .rcases a with z | z | z
  .rcases mem_append.mp z with z | z
   .exact h k (.inl z)
   .rw[mem_singleton.mp z];exact h p (.inr (.inr c))
  .exact h k (.inr (.inl z))
  .exact h k (.inr (.inr (uE z)))
inductive spGone(vs:List V)(H:Hp)(Q:VK)(_E:XK):Prop
 | mk(lc ln:Addr)(m c1 c2:Nat)(ns:List Int)(h0:vs=[.int (m:Nat),.ref lc,.ref ln])(h1:H lc=some (.lst [.int (c1:Nat),.int (c2:Nat)]))(h2:H ln=some (.lst (ns.map V.int)))(h3:2*m<=ns.length)(h4:1<=m)(h5:m<=24)(h6:c1<=300)(h7:c2<=300)(h8:∀ H' p lt kt ths ks,Same H H'->H' p=some (.tup [.ref lt,.ref kt])->H' lt=some (.lst (ths.map V.int))->goT (pS (min m (c1+c2)) c1 (min m c1) c2 (min m c2)) ths=some (.leaf ks)->H' kt=some (.tup ((Tb.so ks).map V.int))->ks.length=min m (c1+c2)->(∀ k∈ks,0<=k/\k<((min m c1+min m c2:Nat):Int))->Q (.ref p) H'):spGone vs H Q _E
section
variable {P:Program}{w:World}{K:Frag}{mg:Str->Option Value}{base:Heap}{a:Ad}
theorem vX(T:Txt K mg a):FnOk P w K mg base CX0 1 a.f_M a.d_M ["_law_most","_law_came","_law_numbers_here"] spGone:=by
 refine T.F_M.ok sc_M (λvs H Q E h=>?_) (λcdv A outer s H vs Q E hr h=>?_)
 .obtain⟨lc,S,m,c1,c2,ns,rfl,_⟩:=h;rfl
 .obtain⟨lc,S,m,c1,c2,ns,rfl,cA,a6,e8,m1,ex,dp,d1,q⟩:=h
  have er:sizeLine=16777216:=sizeLine_eq
  refine⟨_,(af (iZ rfl (i:=3) sc_M.nd rfl rfl (by with_unfolding_all rfl) (N:=["_law_many","_law_most"]) (ix:=[none,some 0]) ⟨rfl,rfl,rfl,rfl,⟨rfl,rfl,rfl,trivial⟩⟩ (b9 (vr 1)) ⟨λC s H fp=>ay (i:=0) (show List.Nodup (["_law_many","_law_most"]:List Str) by decide +kernel) rfl (Or.inl rfl),λC s H fp=>ce,λC s H fp=>(av (eK rfl) rfl T.z_min jJ (aa (vr 1) (aa (vr 0) ae)))⟩) (af (aw (i:=4) sc_M.nd rfl (Or.inl rfl) (aN eU rfl T.z_list fN (aa (vr 1) ae))) (af (aw (i:=5) sc_M.nd rfl (Or.inl rfl) (aR (aa (aN (gN rfl) rfl T.z_list fN (aa (aN ik rfl T.z_range hJ (aa (aI aB (vr 3) ah (λ_ _=>rfl)) ae)) ae)) (aa (aN (kL rfl) rfl T.z_list fN (aa (aN rm rfl T.z_range hJ (aa (aI aB (vr 3) ah (λ_ _=>rfl)) (aa (av (ck rfl) rfl T.z_sum d4 (aa (vr 3) ae)) ae))) ae)) ae)))) (af (aw (i:=6) sc_M.nd rfl (Or.inl rfl) (aR ae)) (af (aw (i:=7) sc_M.nd rfl (Or.inl rfl) (aR ae)) (af (gY PassesOwn.never (PW.pt (d3 (aM j3 (av aQ rfl T.z_len cf (aa (vr 6) ae)) (vr 0) (au _)) (dS (aM jX (av (ck rfl) rfl T.z_sum d4 (aa (vr 4) ae)) ah (au _))))) (af (aw (i:=8) sc_M.nd rfl (Or.inl rfl) (aN dI rfl T.z_int gw (aa (bz eE (aI aB (vr 4) ah (λ_ _=>rfl)) ah (au _)) ae))) (cH (ba (PW.pt (d3 (aM jX (aI aB (vr 4) ah (λ_ _=>rfl)) ah (au _)) (dS (aM jX (aI aB (vr 4) ah (λ_ _=>rfl)) ah (au _))))) (af (bA (pe_m.append (vr 7) (aa (ar dD (aI aB (vr 2) (av aQ rfl T.z_len cf (aa (vr 7) ae)) (λ_ _=>rfl)) (av (ck rfl) rfl T.z_sum d4 (aa (vr 4) ae))) ae))) (ak (aw (i:=8) sc_M.nd rfl (Or.inl rfl) (aN dI rfl T.z_int gw (aa (bz vC (aI aB (vr 7) (qN qx ah) (λ_ _=>rfl)) (aI aB (vr 4) ah (λ_ _=>rfl)) (au _)) ae))))) aD) (af (aw (i:=9) sc_M.nd rfl (Or.inl rfl) (aI aB (aI aB (vr 5) (vr 8) (λ_ _=>rfl)) ah (λ_ _=>rfl))) (cH (ba (aM jX (av aQ rfl T.z_len cf (aa (aI aB (vr 5) (vr 8) (λ_ _=>rfl)) ae)) ah (au _)) (af (bA (pe_m.append (vr 7) (aa (ar dD (aI aB (vr 2) (av aQ rfl T.z_len cf (aa (vr 7) ae)) (λ_ _=>rfl)) (av aQ rfl T.z_len cf (aa (aI aB (vr 5) (vr 8) (λ_ _=>rfl)) ae))) ae))) (ak (aw (i:=9) sc_M.nd rfl (Or.inl rfl) (aI aB (aI aB (vr 5) (vr 8) (λ_ _=>rfl)) (aI aB (vr 7) (qN qx ah) (λ_ _=>rfl)) (λ_ _=>rfl))))) aD) (af (bA (pe_m.removeI (aI aB (vr 5) (vr 8) (λ_ _=>rfl)) (aa (vr 9) ae))) (af (jN (ar gv (aI aB (vr 4) (vr 8) (λ_ _=>rfl)) ah) (ye (vr 4) (vr 8) tT)) (ak (bA (pe_m.append (vr 6) (aa (vr 9) ae))))))))))) (ak (ax (cK (aa (vr 7) (aa (aN dZ rfl T.z_tuple gU (aa (av gp rfl T.z_sorted fV (aa (vr 6) ae)) ae)) ae))))))))))),tD ?_⟩
  intro fh e1 e' fn e4 e2;refine .inl ⟨⟨_,SqL.of cA⟩,λD hD=>?_⟩
  let Pw1:PvL:=λi zs R=>(i<=2)/\Same H R/\R D=some (.lst zs)/\zs=([min m c1,min m c2].take i).map λn=>V.int (n:Nat)
  refine bL (K:=K) (a:=lc) (xs:=[.int (c1:Nat),.int (c2:Nat)]) Pw1 ⟨Nat.zero_le _,Same.new hD,ad,rfl⟩ (λi ys R h=>SqL.of (h.2.1 _ _ cA)) (λi ys R h=>h.2.2.1) ?_ ?_
  .rintro i y zs R P' hy ⟨hi,s1,a5,rfl⟩ hP
   rcases i with _ | _ | i
   .cases hy
    refine⟨⟨rfl,trivial⟩,_,_,rfl,a5,by show 0<_;lia,hP _ _ ⟨by decide,s1.put hD,ad,?_⟩⟩;rw[gg];rfl
   .cases hy
    refine⟨⟨rfl,trivial⟩,_,_,rfl,a5,by show 1<_;lia,hP _ _ ⟨by decide,s1.put hD,ad,?_⟩⟩;rw[gg];rfl
   .cases hy
  rintro zs H1 ⟨_,s1,a5,rfl⟩;have a5:H1 D=some (.lst [.int (min m c1:Nat),.int (min m c2:Nat)]):=a5;have pq:=jM (c1:=c1) (c2:=c2) ex;have e3:min m (c1+c2)<=c1+c2/\min m (c1+c2)<=m/\(min m (c1+c2)=m\/min m (c1+c2)=c1+c2):=by lia
  have ca:min m c1<=24/\min m c2<=24:=by lia
  generalize min m c1=sa at *;generalize min m c2=sb at *;generalize min m (c1+c2)=ww at *;refine dB (σ':=[some (.int (m:Nat)),some (.ref lc),some (.ref S),some (.ref D),none,none,none,none,none,none]) rfl ?_;refine⟨lc,_,rfl,.inl (SqL.of (s1 _ _ cA)),λg cW=>?_⟩;have s2:=Same.new (o:=.lst [.int (c1:Nat),.int (c2:Nat)]) cW;have bm:=ad (H:=H1) (a:=g) (o:=.lst [.int (c1:Nat),.int (c2:Nat)]);generalize upd H1 g (.lst [.int (c1:Nat),.int (c2:Nat)])=H2 at s2 bm;refine dB (σ':=[some (.int (m:Nat)),some (.ref lc),some (.ref S),some (.ref D),some (.ref g),none,none,none,none,none]) rfl ?_;have cC:=s2 _ _ a5;refine .inl ⟨D,_,_,_,rfl,rfl,SqL.of cC,aC 0 rfl rfl,?_⟩;refine⟨_,rfl,λpr dx=>?_⟩;have s3:=Same.new (o:=.rng 0 ((sa:Nat):Int)) dx;refine⟨pr,sa,rfl,by lia,ad,λO c5=>?_⟩;have s4:=s3.trans (Same.new (o:=.lst ((List.range sa).map λ(i:Nat)=>V.int (i:Int))) c5);have b2:(upd (upd H2 pr (.rng 0 ((sa:Nat):Int))) O (.lst ((List.range sa).map λ(i:Nat)=>V.int (i:Int)))) O=some (.lst ((rng sa).map V.int)):=by rw[ad];unfold rng;rw[map_map];rfl
  have a4:H2 O=none:=s3.free c5;generalize upd (upd H2 pr (.rng 0 ((sa:Nat):Int))) O (.lst ((List.range sa).map λ(i:Nat)=>V.int (i:Int)))=H4 at s4 b2;have cs:=s4 _ _ cC;refine .inl ⟨D,_,_,_,rfl,rfl,SqL.of cs,aC 0 rfl rfl,?_⟩;refine⟨D,[(sa:Int),(sb:Int)],rfl,SqL.of cs,?_⟩;have es:[(sa:Int),(sb:Int)].sum=((sa+sb:Nat):Int):=by simp
  rw[es];refine⟨_,_,rfl,λcy b'=>?_⟩;have s5:=Same.new (o:=.rng (sa:Int) ((sa+sb:Nat):Int)) b';refine⟨cy,sa,sb,rfl,by lia,ad,λM cG=>?_⟩;have s6:=s5.trans (Same.new (o:=.lst ((List.range sb).map λ(i:Nat)=>V.int ((sa:Int)+(i:Int)))) cG);have a8:(upd (upd H4 cy (.rng (sa:Int) ((sa+sb:Nat):Int))) M (.lst ((List.range sb).map λ(i:Nat)=>V.int ((sa:Int)+(i:Int))))) M=some (.lst ((rnf sa sb).map V.int)):=by rw[ad];unfold rnf;rw[map_map];rfl
  have X:H4 M=none:=s5.free cG;generalize upd (upd H4 cy (.rng (sa:Int) ((sa+sb:Nat):Int))) M (.lst ((List.range sb).map λ(i:Nat)=>V.int ((sa:Int)+(i:Int))))=H6 at s6 a8;refine⟨b8 _ _,λF ab=>?_⟩;have s7:=Same.new (o:=.lst [.ref O,.ref M]) ab;have br:=ad (H:=H6) (a:=F) (o:=.lst [.ref O,.ref M]);generalize upd H6 F (.lst [.ref O,.ref M])=H7 at s7 br;refine dB (σ':=[some (.int (m:Nat)),some (.ref lc),some (.ref S),some (.ref D),some (.ref g),some (.ref F),none,none,none,none]) rfl ?_;refine⟨Nat.zero_le _,λG L=>?_⟩;have s8:=Same.new (o:=.lst []) L;have b3:=ad (H:=H7) (a:=G) (o:=.lst []);generalize upd H7 G (.lst [])=H8 at s8 b3;refine dB (σ':=[some (.int (m:Nat)),some (.ref lc),some (.ref S),some (.ref D),some (.ref g),some (.ref F),some (.ref G),none,none,none]) rfl ?_;refine⟨Nat.zero_le _,λl B=>?_⟩;have s9:=Same.new (o:=.lst []) B;have d0:=ad (H:=H8) (a:=l) (o:=.lst []);generalize upd H8 l (.lst [])=H9 at s9 d0;refine dB (σ':=[some (.int (m:Nat)),some (.ref lc),some (.ref S),some (.ref D),some (.ref g),some (.ref F),some (.ref G),some (.ref l),none,none]) rfl ?_;have bT:=(s4.trans s6) _ _ bm;have a3:=s7 _ _ bT;have I:=s6 _ _ b2;have n1:g≠O:=λz=>by rw[<- z,bm]at a4;cases a4
  have n2:g≠M:=λz=>by rw[<- z,s4 _ _ bm]at X;cases X
  have n3:g≠F:=λz=>by rw[<- z,bT]at ab;cases ab
  have n4:g≠G:=λz=>by rw[<- z,a3]at L;cases L
  have n5:g≠l:=λz=>by rw[<- z,s8 _ _ a3]at B;cases B
  have n6:O≠M:=λz=>by rw[<- z,b2]at X;cases X
  have n7:O≠F:=λz=>by rw[<- z,I]at ab;cases ab
  have n8:O≠G:=λz=>by rw[<- z,s7 _ _ I]at L;cases L
  have n9:O≠l:=λz=>by rw[<- z,(s7.trans s8) _ _ I]at B;cases B
  have dd:M≠F:=λz=>by rw[<- z,a8]at ab;cases ab
  have dl:M≠G:=λz=>by rw[<- z,s7 _ _ a8]at L;cases L
  have c7:M≠l:=λz=>by rw[<- z,(s7.trans s8) _ _ a8]at B;cases B
  have eB:F≠G:=λz=>by rw[<- z,br]at L;cases L
  have b4:F≠l:=λz=>by rw[<- z,s8 _ _ br]at B;cases B
  have cP:G≠l:=λz=>by rw[<- z,b3]at B;cases B
  have dt:=((((s1.trans s2).trans s4).trans s6).trans s7).trans (s8.trans s9);have bo:H g=none:=s1.free cW;have bt:H O=none:=(s1.trans s2).free a4;have b1:H M=none:=((s1.trans s2).trans s4).free X;have bg:H G=none:=((((s1.trans s2).trans s4).trans s6).trans s7).free L;have bl:H l=none:=((((s1.trans s2).trans s4).trans s6).trans (s7.trans s8)).free B;have dz:=(s8.trans s9) _ _ a3;have dm:=(s7.trans (s8.trans s9)) _ _ I;have eb:=(s7.trans (s8.trans s9)) _ _ a8;have dK:=(s8.trans s9) _ _ br;have c9:=s9 _ _ b3;have dv:=dt _ _ a6;have ev:S≠g:=λz=>by rw[<- z,a6]at bo;cases bo
  have ed:S≠O:=λz=>by rw[<- z,a6]at bt;cases bt
  have eg:S≠M:=λz=>by rw[<- z,a6]at b1;cases b1
  have eD:S≠G:=λz=>by rw[<- z,a6]at bg;cases bg
  have d':S≠l:=λz=>by rw[<- z,a6]at bl;cases bl
  clear s2 s3 s4 s5 s6 s7 s8 s9 bm bT a3 b2 I a8 br b3 cC cs cW dx c5 a4 b' cG X ab L B
  let Pw2:PvS:=λc σ R=>∃(x:Pd) (f:List Int) (x8 x9:Option V),(∀ b o,b≠g->b≠O->b≠M->b≠G->b≠l->H9 b=some o->R b=some o)/\R g=some (.lst [.int (x.c1:Nat),.int (x.c2:Nat)])/\R O=some (.lst (x.P1.map V.int))/\R M=some (.lst (x.P2.map V.int))/\R G=some (.lst (x.tk.map V.int))/\R l=some (.lst (f.map V.int))/\x.Ok c/\x.In (sa+sb)/\f.length<=2*x.tk.length/\x.tk.length+c=ww/\x.c1+x.c2+x.tk.length=c1+c2/\(∀ d u,goT (x.tr c) d=some u->goT (pS ww c1 sa c2 sb) (f++d)=some u)/\σ=[some (.int (m:Nat)),some (.ref lc),some (.ref S),some (.ref D),some (.ref g),some (.ref F),some (.ref G),some (.ref l),x8,x9]
  refine⟨Pw2,
   ⟨ww,⟨c1,rng sa,c2,rnf sa sb,[]⟩,[],none,none,(λb o _ _ _ _ _ e=>e),dz,dm,eb,c9,d0,⟨pq.pv,by rw[Tb.rng_len];exact ca.1,by rw[Tb.rnf_len];exact ca.2,dp,d1⟩,(λk hk=>by
    rcases hk with z | z | z
    .cases z
    .have:=Tb.mem_rng.mp z;lia
    .have:=Tb.mem_rnf.mp z;lia),Nat.zero_le _,by show 0+ww=ww;lia,rfl,(λd u h=>h),rfl⟩,?_⟩
  rintro c σ R ⟨x,f,x8,x9,kp,Z,eT,eR,a9,a1,ok,ct,e7,tl,e0,cB,rfl⟩;have eq:R F=some (.lst [.ref O,.ref M]):=kp _ _ (Ne.symm n3) (Ne.symm n7) (Ne.symm dd) eB b4 dK;have ea:R S=some (.lst (ns.map V.int)):=kp _ _ ev ed eg eD d' dv;have eS:[(x.c1:Int),(x.c2:Int)].sum=((x.c1+x.c2:Nat):Int):=by simp
  have dr:Same H R:=λb o e=>kp b o (λz=>by rw[z,bo]at e;cases e) (λz=>by rw[z,bt]at e;cases e) (λz=>by rw[z,b1]at e;cases e) (λz=>by rw[z,bg]at e;cases e) (λz=>by rw[z,bl]at e;cases e) (dt _ _ e)
  have ft:=ok.pv.few;have fd:=ok.pv.all;cases c with
  | zero =>
   refine⟨_,.inl (SqL.of a9),?_⟩;rw[length_map];refine ifC (λz=>?_) λz=>?_
   .have z:x.tk.length<m:=by have z:((x.tk.length:Nat):Int)<(m:Int):=z;lia
    refine⟨g,[(x.c1:Int),(x.c2:Int)],rfl,SqL.of Z,?_⟩;rw[eS];refine ifC (λz2=>absurd (show((x.c1+x.c2:Nat):Int) > 0 from z2) (by lia)) λ_=>?_
    refine⟨G,x.tk,rfl,.inl (SqL.of a9),by lia,λq1 c4 cT cx c3=>?_⟩;have en:c4=Tb.so x.tk:=Tb.so_uniq cT cx;subst en;have u1:=Same.new (o:=.lst ((Tb.so x.tk).map V.int)) c3;refine⟨q1,_,rfl,.inl ⟨SqL.of ad,λkt c0=>?_⟩⟩;have u2:=u1.trans (Same.new (o:=.tup ((Tb.so x.tk).map V.int)) c0);have a':=ad (H:=upd R q1 (.lst ((Tb.so x.tk).map V.int))) (a:=kt) (o:=.tup ((Tb.so x.tk).map V.int));generalize upd (upd R q1 (.lst ((Tb.so x.tk).map V.int))) kt (.tup ((Tb.so x.tk).map V.int))=U at u2 a';refine⟨b8 _ _,λpt c6=>?_⟩;have u3:=Same.new (o:=.tup [.ref l,.ref kt]) c6;exact q _ pt l kt f x.tk ((dr.trans u2).trans u3) ad (u3 _ _ (u2 _ _ a1)) (by have:=cB [] (.leaf x.tk) (by rw[Pd.tr,Tb.pN_zero,goT]);rwa [append_nil]at this) (u3 _ _ a') (by lia) (λk hk=>ct k (.inl hk))
   .refine⟨G,x.tk,rfl,.inl (SqL.of a9),by lia,λq1 c4 cT cx c3=>?_⟩
    have en:c4=Tb.so x.tk:=Tb.so_uniq cT cx;subst en;have u1:=Same.new (o:=.lst ((Tb.so x.tk).map V.int)) c3;refine⟨q1,_,rfl,.inl ⟨SqL.of ad,λkt c0=>?_⟩⟩;have u2:=u1.trans (Same.new (o:=.tup ((Tb.so x.tk).map V.int)) c0);have a':=ad (H:=upd R q1 (.lst ((Tb.so x.tk).map V.int))) (a:=kt) (o:=.tup ((Tb.so x.tk).map V.int));generalize upd (upd R q1 (.lst ((Tb.so x.tk).map V.int))) kt (.tup ((Tb.so x.tk).map V.int))=U at u2 a';refine⟨b8 _ _,λpt c6=>?_⟩;have u3:=Same.new (o:=.tup [.ref l,.ref kt]) c6;exact q _ pt l kt f x.tk ((dr.trans u2).trans u3) ad (u3 _ _ (u2 _ _ a1)) (by have:=cB [] (.leaf x.tk) (by rw[Pd.tr,Tb.pN_zero,goT]);rwa [append_nil]at this) (u3 _ _ a') (by lia) (λk hk=>ct k (.inl hk))
  | succ c =>
   refine⟨_,.inl (SqL.of a9),?_⟩;rw[length_map];refine ifC (λ_=>?_) λz=>absurd (show((x.tk.length:Nat):Int)<(m:Int) by lia) z
   refine⟨g,[(x.c1:Int),(x.c2:Int)],rfl,SqL.of Z,?_⟩;rw[eS];refine ifC (λ_=>?_) λz=>absurd (show((x.c1+x.c2:Nat):Int) > 0 by lia) z
   refine⟨_,λ_ _ h=>h,?_⟩;refine .inl ⟨g,_,_,_,rfl,rfl,SqL.of Z,aC 0 rfl rfl,.inr ⟨_,rfl,?_⟩⟩;refine dB (σ':=[some (.int (m:Nat)),some (.ref lc),some (.ref S),some (.ref D),some (.ref g),some (.ref F),some (.ref G),some (.ref l),some (.int (if decide ((x.c1:Int)=0)=true then 1 else 0)),x9]) rfl ?_;refine⟨λσ' H2=>∃(b:Bool) (r:List Int),(∀ y o,y≠l->R y=some o->H2 y=some o)/\H2 l=some (.lst ((f++r).map V.int))/\r.length<=1/\0<x.cb b/\(∀ d u,goT (x.fb b c) d=some u->goT (x.tr (c+1)) (r++d)=some u)/\σ'=[some (.int (m:Nat)),some (.ref lc),some (.ref S),some (.ref D),some (.ref g),some (.ref F),some (.ref G),some (.ref l),some (.int (if b=true then 1 else 0)),x9],?_,?_⟩
   .refine .inl ⟨g,_,_,_,rfl,rfl,SqL.of Z,aC 0 rfl rfl,ifC (λz1=>?_) λz1=>?_⟩
    .have z1:0<x.c1:=by have z:((x.c1:Nat):Int) > 0:=z1;lia
     refine .inl ⟨g,_,_,_,rfl,rfl,SqL.of Z,aC 1 rfl rfl,ifC (λz2=>?_) λz2=>?_⟩
     .have z2:0<x.c2:=by have z:((x.c2:Nat):Int) > 0:=z2;lia
      have bn:f.length<ns.length:=by lia
      have hn:ns[f.length]? = some ns[f.length]:=List.getElem?_eq_getElem bn;generalize ns[f.length]=n at hn;refine⟨.inl ⟨rfl,_,SqL.of a1⟩,⟨_,.inl (SqL.of a1),.inl ⟨S,_,_,.int n,rfl,rfl,SqL.of ea,by rw[length_map];exact dH (by rw[List.getElem?_map,hn];rfl),?_⟩⟩⟩;refine⟨g,[(x.c1:Int),(x.c2:Int)],rfl,SqL.of Z,?_⟩;rw[eS];refine⟨cp (by lia),⟨l,_,_,rfl,rfl,a1,by rw[length_map];lia,?_⟩⟩;have t0:=Int.emod_nonneg n (show((x.c1+x.c2:Nat):Int)≠0 by lia);have t1:=Int.emod_lt_of_pos n (show 0<((x.c1+x.c2:Nat):Int) by lia);have eo:(upd R l (.lst (f.map V.int++[V.int (n % ((x.c1+x.c2:Nat):Int))]))) g=some (.lst [.int (x.c1:Nat),.int (x.c2:Nat)]):=by rw[ag n5];exact Z
      refine .inl ⟨l,_,_,.int (n % ((x.c1+x.c2:Nat):Int)),rfl,rfl,SqL.of ad,mX _ _,?_⟩;refine .inl ⟨g,_,_,_,rfl,rfl,SqL.of eo,aC 0 rfl rfl,.inr ⟨_,rfl,?_⟩⟩;refine dB (σ':=[some (.int (m:Nat)),some (.ref lc),some (.ref S),some (.ref D),some (.ref g),some (.ref F),some (.ref G),some (.ref l),some (.int (if decide ((n % ((x.c1+x.c2:Nat):Int)) >= (x.c1:Int))=true then 1 else 0)),x9]) rfl ?_;refine⟨decide ((n % ((x.c1+x.c2:Nat):Int)) >= (x.c1:Int)),[(n % ((x.c1+x.c2:Nat):Int))],λy o ny e=>by rw[ag ny];exact e,by rw[ad,map_append];rfl,Nat.le_refl 1,?_,λd u h=>(vO (by lia) (by lia) t0 t1 d).trans h,rfl⟩
      by_cases z:(n % ((x.c1+x.c2:Nat):Int)) >= (x.c1:Int)
      .rw[decide_eq_true z];exact z2
      .rw[decide_eq_false z];exact z1
     .have z2:x.c2=0:=by have z:¬((x.c2:Nat):Int) > 0:=z2;lia
      refine⟨false,[],λy o ny e=>e,by rw[append_nil];exact a1,Nat.zero_le _,z1,λd u h=>by rw[uc z2];exact h,?_⟩;rw[decide_eq_false (show ¬(x.c1:Int)=0 by lia)]
    .have z1:x.c1=0:=by have z:¬((x.c1:Nat):Int) > 0:=z1;lia
     refine⟨true,[],λy o ny e=>e,by rw[append_nil];exact a1,Nat.zero_le _,by show 0<x.c2;lia,λd u h=>by rw[sY z1 (by lia)];exact h,?_⟩;rw[decide_eq_true (show(x.c1:Int)=0 by lia)]
   rintro σ' H2 ⟨b,r,a0,a2,e5,a7,de,rfl⟩;have nd:=ok.nd b;have fi:=ok.le b;have el:=ok.ne a7
   have ek:∀{α:Type}(p q:α),atI [p,q] (if b=true then 1 else 0)=some (if b=true then q else p):=λp q=>by cases b <;> rfl
   have al:=a0 _ _ b4 eq;have c':=a0 _ _ d' ea;have ds:=a0 _ _ n5 Z;have cc:=a0 _ _ n9 eT;have b6:=a0 _ _ c7 eR;have dT:=a0 _ _ cP a9
   have ew:∃ ob,(if b=true then V.ref M else V.ref O)=.ref ob/\H2 ob=some (.lst ((x.pb b).map V.int))/\ob≠l/\ob≠g/\ob≠G/\ob≠F/\(ob=if b=true then M else O):=by
    cases b
    .exact⟨O,rfl,cc,n9,Ne.symm n1,n8,n7,rfl⟩
    .exact⟨M,rfl,b6,c7,Ne.symm n2,dl,dd,rfl⟩
   obtain⟨ob,ef,bS,c8,em,ei,fa,W⟩:=ew;have b0:atI [V.ref O,V.ref M] (if b=true then 1 else 0)=some (.ref ob):=by rw[ek,ef]
   have bB:(x.pb b)[0]? = some (x.pb b)[0]:=List.getElem?_eq_getElem el;generalize (x.pb b)[0]=p0 at bB;refine .inl ⟨F,_,_,_,rfl,rfl,SqL.of al,b0,?_⟩;refine .inl ⟨ob,_,_,.int p0,rfl,rfl,SqL.of bS,dH (j:=0) (by rw[List.getElem?_map,bB];rfl),?_⟩;refine dB (σ':=[some (.int (m:Nat)),some (.ref lc),some (.ref S),some (.ref D),some (.ref g),some (.ref F),some (.ref G),some (.ref l),some (.int (if b=true then 1 else 0)),some (.int p0)]) rfl ?_;refine⟨λσ' H3=>∃(p:Int) (j:Nat) (an:List Int),(∀ y o,y≠l->H2 y=some o->H3 y=some o)/\H3 l=some (.lst ((f++r++an).map V.int))/\an.length<=1/\(x.pb b)[j]? = some p/\(∀ d u,goT ((x.go b p).tr c) d=some u->goT (x.fb b c) (an++d)=some u)/\σ'=[some (.int (m:Nat)),some (.ref lc),some (.ref S),some (.ref D),some (.ref g),some (.ref F),some (.ref G),some (.ref l),some (.int (if b=true then 1 else 0)),some (.int p)],?_,?_⟩
   .refine .inl ⟨F,_,_,_,rfl,rfl,SqL.of al,b0,?_⟩
    refine⟨_,.inl (SqL.of bS),?_⟩;rw[length_map];refine ifC (λz=>?_) λz=>?_
    .have z:1<(x.pb b).length:=by have z:(((x.pb b).length:Nat):Int) > 1:=z;lia
     have e9:(f++r).length=f.length+r.length:=length_append;have bn:(f++r).length<ns.length:=by lia
     have hn:ns[(f++r).length]? = some ns[(f++r).length]:=List.getElem?_eq_getElem bn;generalize ns[(f++r).length]=n at hn;refine⟨.inl ⟨rfl,_,SqL.of a2⟩,⟨_,.inl (SqL.of a2),.inl ⟨S,_,_,.int n,rfl,rfl,SqL.of c',by rw[length_map];exact dH (by rw[List.getElem?_map,hn];rfl),?_⟩⟩⟩;refine .inl ⟨F,_,_,_,rfl,rfl,SqL.of al,b0,?_⟩;refine⟨_,.inl (SqL.of bS),?_⟩;rw[length_map];refine⟨cp (by lia),⟨l,_,_,rfl,rfl,a2,by rw[length_map];lia,?_⟩⟩;have t0:=Int.emod_nonneg n (show(((x.pb b).length:Nat):Int)≠0 by lia);have t1:=Int.emod_lt_of_pos n (show 0<(((x.pb b).length:Nat):Int) by lia)
     obtain⟨j,ej⟩:∃ j:Nat,n % (((x.pb b).length:Nat):Int)=(j:Int):=⟨(n % (((x.pb b).length:Nat):Int)).toNat,by lia⟩
     have hj:j<(x.pb b).length:=by lia
     have Y:(x.pb b)[j]? = some (x.pb b)[j]:=List.getElem?_eq_getElem hj;generalize (x.pb b)[j]=p at Y;have k1:(upd H2 l (.lst ((f++r).map V.int++[V.int (n % (((x.pb b).length:Nat):Int))]))) F=some (.lst [.ref O,.ref M]):=by rw[ag b4];exact al
     have k2:(upd H2 l (.lst ((f++r).map V.int++[V.int (n % (((x.pb b).length:Nat):Int))]))) ob=some (.lst ((x.pb b).map V.int)):=by rw[ag c8];exact bS
     refine .inl ⟨F,_,_,_,rfl,rfl,SqL.of k1,b0,?_⟩;refine .inl ⟨l,_,_,.int (n % (((x.pb b).length:Nat):Int)),rfl,rfl,SqL.of ad,mX _ _,?_⟩;refine .inl ⟨ob,_,_,.int p,rfl,rfl,SqL.of k2,by rw[ej];exact dH (by rw[List.getElem?_map,Y];rfl),?_⟩;refine dB (σ':=[some (.int (m:Nat)),some (.ref lc),some (.ref S),some (.ref D),some (.ref g),some (.ref F),some (.ref G),some (.ref l),some (.int (if b=true then 1 else 0)),some (.int p)]) rfl ?_;refine⟨p,j,[(n % (((x.pb b).length:Nat):Int))],λy o ny e=>by rw[ag ny];exact e,by rw[ad,map_append (l₂:=[(n % (((x.pb b).length:Nat):Int))])];rfl,Nat.le_refl 1,Y,λd u h=>?_,rfl⟩;rw[oK];exact(ya (by lia) (by lia) (by rw[ej,Int.toNat_natCast];exact Y) d).trans h
    .have z:(x.pb b).length=1:=by have z:¬(((x.pb b).length:Nat):Int) > 1:=z;lia
     obtain⟨p1,ep⟩:=length_eq_one_iff.mp z;refine⟨p0,0,[],λy o ny e=>e,by rw[append_nil];exact a2,Nat.zero_le _,bB,λd u h=>?_,rfl⟩;rw[oK,ep,pY];rw[ep]at bB;cases bB;exact h
   rintro σ' H3 ⟨p,j,an,as,d2,e6,Y,df,rfl⟩;have ec:=as _ _ b4 al;have dV:=as _ _ n5 ds;have cj:=as _ _ c8 bS;have dy:=as _ _ cP dT;have dk:=List.mem_of_getElem? Y;refine .inl ⟨F,_,_,_,rfl,rfl,SqL.of ec,b0,?_⟩;refine⟨.inl ⟨rfl,_,SqL.of cj⟩,⟨ob,x.pb b,p,j,rfl,rfl,cj,Y,tH nd Y,?_⟩⟩;rw[mI nd Y];have co:(upd H3 ob (.lst ((wo (x.pb b) p).map V.int))) g=some (.lst [.int (x.c1:Nat),.int (x.c2:Nat)]):=by rw[ag (Ne.symm em)];exact dV
   have et:atI [V.int (x.c1:Nat),V.int (x.c2:Nat)] (if b=true then 1 else 0)=some (.int (x.cb b:Nat)):=by cases b <;> rfl
   refine .inl ⟨g,_,_,.int (x.cb b:Nat),rfl,rfl,SqL.of co,et,?_⟩
   have ey:ixN [V.int (x.c1:Nat),V.int (x.c2:Nat)].length (if b=true then 1 else 0)=some (if b=true then 1 else 0):=by cases b <;> rfl
   refine⟨g,_,_,_,rfl,rfl,co,ey,?_⟩;have b5:∀ v,(upd (upd H3 ob (.lst ((wo (x.pb b) p).map V.int))) g v) G=some (.lst (x.tk.map V.int)):=λv=>by rw[ag (Ne.symm n4),ag (Ne.symm ei)];exact dy
   refine⟨.inl ⟨rfl,_,SqL.of (b5 _)⟩,⟨G,_,_,rfl,rfl,b5 _,by rw[length_map];lia,?_⟩⟩;have eu:=ok.go a7 dk;refine⟨c,by lia,x.go b p,f++r++an,_,_,?_,?_,?_,?_,?_,?_,eu,ct.go dk,?_,?_,?_,?_,rfl⟩
   .intro y o h1 h2 h3 h4 h5 e
    rw[ag h4,ag h1,ag (λz=>by cases b;exact h2 (z.trans W);exact h3 (z.trans W))];exact as _ _ h5 (a0 _ _ h5 (kp _ _ h1 h2 h3 h4 h5 e))
   .rw[ag n4,ad]
    cases b
    .have:((x.c1:Int) - 1)=((x.c1 - 1:Nat):Int):=by have:0<x.c1:=a7;lia
     show some (HO.lst [V.int ((x.c1:Int) - 1),V.int (x.c2:Nat)])=_;rw[this];rfl
    .have:((x.c2:Int) - 1)=((x.c2 - 1:Nat):Int):=by have:0<x.c2:=a7;lia
     show some (HO.lst [V.int (x.c1:Nat),V.int ((x.c2:Int) - 1)])=_;rw[this];rfl
   .rw[ag n8,ag (Ne.symm n1)]
    cases b
    .rw[W];exact ad
    .rw[ag (by rw[W];exact n6)];exact as _ _ n9 cc
   .rw[ag dl,ag (Ne.symm n2)]
    cases b
    .rw[ag (by rw[W];exact Ne.symm n6)];exact as _ _ c7 b6
    .rw[W];exact ad
   .rw[ad]
    cases b <;> (show some (HO.lst (x.tk.map V.int++[V.int p]))=some (HO.lst ((x.tk++[p]).map V.int));rw[map_append];rfl)
   .rw[ag (Ne.symm cP),ag (Ne.symm n5),ag (Ne.symm c8)];exact d2
   .have:(x.go b p).tk.length=x.tk.length+1:=by cases b <;> exact length_append
    rw[this,length_append,length_append];lia
   .have:(x.go b p).tk.length=x.tk.length+1:=by cases b <;> exact length_append
    rw[this];lia
   .cases b
    .show x.c1 - 1+x.c2+(x.tk++[p]).length=_
     have:0<x.c1:=a7;rw[length_append];show x.c1 - 1+x.c2+(x.tk.length+1)=_;lia
    .show x.c1+(x.c2 - 1)+(x.tk++[p]).length=_
     have:0<x.c2:=a7;rw[length_append];show x.c1+(x.c2 - 1)+(x.tk.length+1)=_;lia
   .intro d u h
    rw[append_assoc,append_assoc];exact cB _ _ (de _ _ (df _ _ h))
end
inductive spLInto(a:Ad)(vs:List V)(H:Hp)(Q:VK)(_E:XK):Prop
 | mk(x h y h2 kt:Addr)(m c1 c2:Nat)(ts ts2:List Str)(ks:List Int)(h0:vs=[.ref x,.ref y,.ref kt])(h1:PotAt a H x h (m:Nat) (c1:Nat) ts)(h2:PotAt a H y h2 (m:Nat) (c2:Nat) ts2)(h3:Okp (m:Nat) (c1:Nat) ts)(h4:Okp (m:Nat) (c2:Nat) ts2)(h5:Nms ts)(h6:Nms ts2)(h7:c1+c2<=299)(h8:H kt=some (.tup (ks.map V.int)))(h9:ks.length=min m (c1+c2))(h10:(∀ k∈ks,0<=k/\k<((ts++ts2).length:Int)))(h11:∀ H',Same H H'->Q (.bl true) H'):spLInto a vs H Q _E
theorem qi{b a:List Str}(h:Nms b)(h2:Nms a):Nms (b++a):=λt c=>(mem_append.mp c).elim (h t) (h2 t)
theorem pV{a:List Str}{ks:List Int}(h:Nms a)(f:∀ k∈ks,0<=k/\k<(a.length:Int)):Nms (ks.map λk=>a.getD k.toNat ""):=λt d=>by
 obtain⟨k,b,rfl⟩:=mem_map.mp d;have:=f k b;have c:k.toNat<a.length:=by lia
 rw[List.getD,List.getElem?_eq_getElem c];exact h _ (List.getElem_mem c)
theorem zM{m:Nat}{a:List Str}(b:1<=m)(d:a.length<=m):nxt (m:Nat) a "z" 0=if a.length=m then [("z" : Str)]++a.drop 1 else a++[("z" : Str)]:=by
 unfold nxt iN
 by_cases c:a.length=m
 .rw[if_neg (by lia),if_pos (by lia),if_pos c]
  cases a with
  | nil=>simp at c;lia
  | cons t a=>rfl
 .rw[if_pos (by lia),if_neg c]
theorem om(m n:Int):atI [V.int 1,V.int (n+1)] (if decide (n >= m)=true then 1 else 0)=some (.int (sides m n)):=by
 unfold sides
 by_cases c:n >= m
 .rw[decide_eq_true c,if_neg (show ¬n<m by lia)];rfl
 .rw[decide_eq_false c,if_pos (show n<m by lia)];rfl
theorem xE:eY "z" = true:=by decide +kernel
section
variable {P:Program}{w:World}{K:Frag}{mg:Str->Option Value}{base:Heap}{a:Ad}
theorem ug(T:Txt K mg a):FnOk P w K mg base CX0 7 a.f_U a.d_U ["_law_one","_law_other","_law_kept"] (spLInto a):=by
 have c3:FnOk P w K mg base CX0 6 _ _ _ _:=(gq (iY T)).mono (by decide);have cA:FnOk P w K mg base CX0 6 _ _ _ _:=(gq (iV T)).mono (by decide);have ct:FnOk P w K mg base CX0 6 _ _ _ _:=(gL T).mono (by decide);have r:FnOk P w K mg base CX0 6 _ _ _ _:=(gR T).mono (by decide);have p:FnOk P w K mg base CX0 6 _ _ _ _:=(fW T).mono (by decide);refine T.F_U.ok sc_U (λvs H Q E h=>?_) (λcdv A outer s H vs Q E hr h=>?_)
 .obtain⟨x,h,y,h2,kt,m,Z,R,f,d,M,rfl,_⟩:=h;rfl
 .obtain⟨x,h,y,h2,kt,m,Z,R,f,d,M,rfl,hp,B,cs,c8,c4,ds,dK,an,kl,a2,q⟩:=h
  have F:sizeLine=16777216:=sizeLine_eq
  refine⟨_,(af (aw (i:=3) sc_U.nd rfl (Or.inr rfl) (ar dL (ap (vr 0) T.cl_c T.mt_f p hr T.B_f .nil ao) (ap (vr 1) T.cl_c T.mt_f p hr T.B_f .nil ao))) (af (iZ rfl (i:=4) sc_U.nd rfl rfl (by with_unfolding_all rfl) (N:=["_law_place","_law_things"]) (ix:=[none,some 3]) ⟨rfl,rfl,rfl,rfl,⟨rfl,rfl,rfl,trivial⟩⟩ (b9 (vr 2)) ⟨λC s H fp=>ay (i:=0) (show List.Nodup (["_law_place","_law_things"]:List Str) by decide +kernel) rfl (Or.inl rfl),λC s H fp=>ce,λC s H fp=>(aI (i8 (K:=K) rfl) (vr 1) (vr 0) (λ_ _=>rfl))⟩) (af (aw (i:=5) sc_U.nd rfl (Or.inl rfl) (ar b7 (ap (vr 0) T.cl_c T.mt_b r hr T.B_b .nil ao) (ap (vr 1) T.cl_c T.mt_b r hr T.B_b .nil ao))) (af (aw (i:=6) sc_U.nd rfl (Or.inl rfl) (aq c3 hr rfl T.m_V T.F_V.kp T.B_V .nil ao (aa (vr 0) (aa (vr 1) (aa (vr 2) ae))))) (af (ba (PW.pt (jC (aM (jL hr.units) (ap (vr 6) T.cl_c T.mt_f p hr T.B_f .nil ao) (vr 4) (au _)) (jC (aM nE (ap (vr 6) T.cl_c T.mt_b r hr T.B_b .nil ao) (vr 5) (au _)) (io (aM nE (bN (vr 6) rfl) (bN (vr 0) rfl) (au _)))))) (ak (ax dG)) aD) (af (ba (aM nE (ap (vr 6) T.cl_c T.mt_h ct hr T.B_h .nil ao) (aI aB (aR (aa ah (aa (ar b7 (vr 5) ah) ae))) (aN dI rfl T.z_int gw (aa (bz vC (vr 5) (bN (vr 0) rfl) (au _)) ae)) (λ_ _=>rfl)) (au _)) (ak (ax dG)) aD) (af (aw (i:=7) sc_U.nd rfl (Or.inl rfl) (bz eE (av aQ rfl T.z_len cf (aa (vr 4) ae)) (bN (vr 0) rfl) (au _))) (af (bA (eL (vr 6) T.cl_c T.mt_v cA hr T.B_v .nil ao (aa dN (aa ah ae)))) (af (ba (PW.pt (jC (aM (jL hr.units) (ap (vr 6) T.cl_c T.mt_f p hr T.B_f .nil ao) (aI aB (aR (aa (ar dL (vr 4) (aR (aa dN ae))) (aa (ar dL (aR (aa dN ae)) (gH i7 (vr 4) (gO ah) lT)) ae))) (aN dI rfl T.z_int gw (aa (vr 7) ae)) (λ_ _=>rfl)) (au _)) (io (aM nE (ap (vr 6) T.cl_c T.mt_b r hr T.B_b .nil ao) (ar b7 (vr 5) ah) (au _))))) (ak (ax dG)) aD) (ak (ax (iJ (bz (mv hr.units) (ar dL (ap (vr 0) T.cl_c T.mt_f p hr T.B_f .nil ao) (ap (vr 1) T.cl_c T.mt_f p hr T.B_f .nil ao)) (vr 3) (au _)) (gB (bz eE (ar b7 (ap (vr 0) T.cl_c T.mt_b r hr T.B_b .nil ao) (ap (vr 1) T.cl_c T.mt_b r hr T.B_b .nil ao)) (vr 5) (au _))))))))))))))),xV ?_⟩
  intro dT d0 eb ed dV ec ef d2 d1;obtain⟨⟨dx,hx⟩,_⟩:=id hp;obtain⟨⟨dy,hy⟩,_⟩:=id B;have l1:=cD cs;have l2:=cD c8;obtain⟨m1,b2,_,_,_⟩:=id cs;have b0:=qi c4 ds;have cc:=pV b0 a2;have dl:(M.map λk=>(f++d).getD k.toNat "").length=min m (Z+R):=by rw[length_map];exact kl
  refine⟨x,dx,_,rfl,hx,rfl,⟨x,h,_,_,f,rfl,hp,λH1 r1 s1 f1 dp=>⟨y,dy,_,rfl,s1 _ _ hy,rfl,⟨y,h2,_,_,d,rfl,B.same s1,λH2 r2 s2 f2 hr2=>⟨r1,r2,_,_,rfl,rfl,s2 _ _ dp,hr2,by rw[length_map,length_map];lia,λr3 fr3=>?_⟩⟩⟩⟩⟩;have s3:=(s1.trans s2).trans (Same.new (o:=.lst (f.map V.str++d.map V.str)) fr3);have a1:(upd H2 r3 (.lst (f.map V.str++d.map V.str))) r3=some (.lst ((f++d).map V.str)):=by rw[ad,map_append]
  generalize upd H2 r3 (.lst (f.map V.str++d.map V.str))=H3 at s3 a1;refine .inr ⟨⟨_,SqT.of (s3 _ _ an)⟩,λD hD=>?_⟩
  let Pw1:PvL:=λi zs H'=>(i<=M.length)/\Same H3 H'/\H' D=some (.lst zs)/\zs=((M.take i).map λk=>(f++d).getD k.toNat "").map V.str
  refine nj (K:=K) (a:=kt) (xs:=M.map V.int) Pw1 ⟨Nat.zero_le _,Same.new hD,ad,rfl⟩ (λi ys H' h=>SqT.of ((s3.trans h.2.1) _ _ an)) (λi ys H' h=>h.2.2.1) ?_ ?_
  .rintro i v zs H' P' hv ⟨hi,s6,u,rfl⟩ hP
   rw[List.getElem?_map]at hv;cases hw:M[i]? with
   | none=>rw[hw]at hv;cases hv
   | some k =>
    rw[hw]at hv;cases hv;have df:i<M.length:=(List.getElem?_eq_some_iff.mp hw).1;obtain⟨k0,k1⟩:=a2 k (List.mem_of_getElem? hw)
    obtain⟨j,rfl⟩:∃ j:Nat,k=(j:Int):=⟨k.toNat,by lia⟩
    have jl:j<(f++d).length:=by lia
    have gj:(f++d)[j]? = some ((f++d).getD j ""):=by rw[List.getD,List.getElem?_eq_getElem jl];rfl
    refine⟨⟨rfl,trivial⟩,.inl ⟨r3,_,_,_,rfl,rfl,SqL.of (s6 _ _ a1),dH (by rw[List.getElem?_map,gj];rfl),u,by rw[length_map,length_map,length_take];lia,hP _ _ ⟨df,s6.put hD,ad,?_⟩⟩⟩;rw[take_add_one,hw];simp
  rintro zs H6 ⟨_,s6,u,rfl⟩;rw[length_map,take_length]at u;have n:=s3.trans s6;have a4:=n _ _ hx;have c0:=n _ _ hy;have a7:=hp.same n;have S:=B.same n;have W:=s6 _ _ a1;have dk:=n _ _ an;generalize hdue:(M.map λk=>(f++d).getD k.toNat "")=due at *;refine dB (σ':=[some (.ref x),some (.ref y),some (.ref kt),some (.ref r3),some (.ref D),none,none,none]) rfl ?_;refine⟨x,dx,_,rfl,a4,rfl,⟨x,h,_,_,f,rfl,a7,⟨y,dy,_,rfl,c0,rfl,⟨y,h2,_,_,d,rfl,S,?_⟩⟩⟩⟩;refine xM (σ':=[some (.ref x),some (.ref y),some (.ref kt),some (.ref r3),some (.ref D),some (.int ((Z:Int)+(R:Int))),none,none]) rfl ?_;refine⟨x,h,y,h2,kt,_,_,_,_,f,d,M,rfl,a7,S,m1,b2,by lia,by lia,SqT.of dk,by lia,a2,(λz=>absurd rfl z),(λ_ z=>by lia),λ_ _ H7 z hz s7 fz fhz hp7=>?_⟩;rw[hdue]at hp7;refine dB (σ':=[some (.ref x),some (.ref y),some (.ref kt),some (.ref r3),some (.ref D),some (.int ((Z:Int)+(R:Int))),some (.ref z),none]) rfl ?_;have dm:=n.trans s7;have c9:H z=none:=n.free fz;obtain⟨⟨dz,bm⟩,_⟩:=id hp7;refine⟨z,dz,_,rfl,bm,rfl,⟨z,hz,_,_,due,rfl,hp7,λH8 r8 s8 f8 cW=>?_⟩⟩;have as:=s7.trans s8;have bl:=as _ _ u;refine yi cc cW bl ?_;have a0:=hp7.same s8;have L:=s8 _ _ bm;have al:=as _ _ a4;refine⟨z,dz,_,rfl,L,rfl,⟨z,hz,_,_,due,rfl,a0,nX rfl ?_⟩⟩;refine⟨z,_,dz,_,_,rfl,L,T.cl_c,T.na_Pot_most,rfl,⟨x,_,dx,_,_,rfl,al,T.cl_c,T.na_Pot_most,rfl,nX rfl ?_⟩⟩;refine⟨z,dz,_,rfl,L,rfl,⟨z,hz,_,_,due,rfl,a0,?_⟩⟩;refine⟨b8 _ _,λr9 dv=>?_⟩;have s9:=Same.new (o:=.lst [.int 1,.int ((Z:Int)+(R:Int)+1)]) dv;have a8:=ad (H:=H8) (a:=r9) (o:=.lst [.int 1,.int ((Z:Int)+(R:Int)+1)]);generalize upd H8 r9 (.lst [.int 1,.int ((Z:Int)+(R:Int)+1)])=H9 at s9 a8;refine⟨x,_,dx,_,_,rfl,s9 _ _ al,T.cl_c,T.na_Pot_most,rfl,.inr ⟨_,rfl,?_⟩⟩;refine .inl ⟨r9,_,_,_,rfl,rfl,SqL.of a8,om _ _,nX rfl ?_⟩;have bS:=s9 _ _ bl;refine⟨_,.inl (SqL.of bS),⟨x,_,dx,_,_,rfl,s9 _ _ al,T.cl_c,T.na_Pot_most,rfl,?_⟩⟩;rw[length_map];have dt:=s9 _ _ L;have c7:=a0.same s9;have c':=dm.trans (s8.trans s9);refine⟨z,dz,_,rfl,dt,rfl,?_⟩
  refine⟨z,hz,_,_,due,.str "z",.int 0,.s "z",.i 0,rfl,c7,⟨m1,b2,by lia,by lia,by rw[dl];split <;> lia⟩,.str "z" (by decide +kernel) (by decide +kernel),.int 0,(λe=>by have:nmK (.s "z")=true:=xE;rw[this]at e;cases e),(λ_ e=>by lia),(λ_ _ e=>?_),λ_ _ _ H10 h10 sb hp10 _=>?_⟩
  .have:inK 0 (sides (m:Nat) ((Z:Int)+(R:Int)) - 1) (.i 0)=true:=decide_eq_true ⟨Int.le_refl 0,by unfold sides;split <;> lia⟩
   rw[this]at e;cases e
  have b':Same H H10:=λb o e=>sb b o (λz'=>by rw[z',c9]at e;cases e) (c' _ _ e)
  have nz:∀{b o},H6 b=some o->b≠z:=λ{b o} e z'=>by rw[z',fz]at e;cases e
  have bB:H10 D=some (.lst (due.map V.str)):=sb _ _ (nz u) bS;have a3:H10 r3=some (.lst ((f++d).map V.str)):=sb _ _ (nz W) ((as.trans s9) _ _ W);have cT:nxt (m:Nat) due (txK (.s "z")) (inI (.i 0))=if due.length=m then [("z" : Str)]++due.drop 1 else due++[("z" : Str)]:=zM (by lia) (by lia)
  have b6:Nms (nxt (m:Nat) due (txK (.s "z")) (inI (.i 0))):=jj cc xE;obtain⟨⟨b1,ab⟩,_⟩:=id hp10;refine⟨z,b1,_,rfl,ab,rfl,⟨z,h10,_,_,_,rfl,hp10,λb3 ea I d' cj=>?_⟩⟩;have O:=I _ _ bB;refine⟨by rw[F];exact show(1:Nat)<=_ by decide,λra dd=>?_⟩;have t1:=Same.new (o:=.lst [.str "z"]) dd;have a5:=ad (H:=b3) (a:=ra) (o:=.lst [.str "z"]);generalize upd b3 ra (.lst [.str "z"])=U1 at t1 a5;refine⟨D,ra,_,_,rfl,rfl,t1 _ _ O,a5,by rw[length_map];show _+1<=_;lia,λY dr=>?_⟩;have t2:=Same.new (o:=.lst (due.map V.str++[.str "z"])) dr;have co:(upd U1 Y (.lst (due.map V.str++[.str "z"]))) Y=some (.lst ((due++[("z" : Str)]).map V.str)):=by rw[ad,map_append];rfl
  generalize upd U1 Y (.lst (due.map V.str++[.str "z"]))=U2 at t2 co;refine⟨by rw[F];exact show(1:Nat)<=_ by decide,λrc cx=>?_⟩;have t3:=Same.new (o:=.lst [.str "z"]) cx;have b5:=ad (H:=U2) (a:=rc) (o:=.lst [.str "z"]);generalize upd U2 rc (.lst [.str "z"])=U3 at t3 b5;have br:=((t1.trans t2).trans t3) _ _ O;refine⟨_,rfl,D,_,rfl,SqL.of br,λrd cG=>?_⟩;have er:dY (due.map V.str) (some 1) none=(due.drop 1).map V.str:=by rw[List.map_drop];exact kj _ 1
  rw[er];have t4:=Same.new (o:=.lst ((due.drop 1).map V.str)) cG;have bo:=ad (H:=U3) (a:=rd) (o:=.lst ((due.drop 1).map V.str));generalize upd U3 rd (.lst ((due.drop 1).map V.str))=U4 at t4 bo;refine⟨rc,rd,_,_,rfl,rfl,t4 _ _ b5,bo,by rw[length_map,length_drop];show 1+_<=_;lia,λX cC=>?_⟩;have t5:=Same.new (o:=.lst ([.str "z"]++(due.drop 1).map V.str)) cC;have b4:(upd U4 X (.lst ([.str "z"]++(due.drop 1).map V.str))) X=some (.lst (([("z" : Str)]++due.drop 1).map V.str)):=by rw[ad,map_append];rfl
  generalize upd U4 X (.lst ([.str "z"]++(due.drop 1).map V.str))=U5 at t5 b4;refine⟨b8 _ _,λrf cB=>?_⟩;have t6:=Same.new (o:=.lst [.ref Y,.ref X]) cB;have bg:=ad (H:=U5) (a:=rf) (o:=.lst [.ref Y,.ref X]);generalize upd U5 rf (.lst [.ref Y,.ref X])=U6 at t6 bg;have G:=((t1.trans t2).trans (t3.trans t4)).trans (t5.trans t6);have bT:=G _ _ cj;have bt:=(t3.trans (t4.trans (t5.trans t6))) _ _ co;have a9:=t6 _ _ b4;have l:=(b'.trans I).trans G;refine .inr ⟨_,rfl,?_⟩
  have ev:∃ rv:Addr,atI [V.ref Y,V.ref X] (if decide ((due.length:Int)=(m:Int))=true then 1 else 0)=some (.ref rv)/\U6 rv=some (.lst ((nxt (m:Nat) due (txK (.s "z")) (inI (.i 0))).map V.str)):=by
   rw[cT]
   by_cases c:due.length=m
   .refine⟨X,?_,by rw[if_pos c];exact a9⟩
    rw[decide_eq_true (show(due.length:Int)=(m:Int) by lia)];rfl
   .refine⟨Y,?_,by rw[if_neg c];exact bt⟩
    rw[decide_eq_false (show ¬(due.length:Int)=(m:Int) by lia)];rfl
  obtain⟨rv,cP,c6⟩:=ev;refine .inl ⟨rf,_,_,.ref rv,rfl,rfl,SqL.of bg,cP,yi b6 bT c6 ?_⟩;have ca:=(I.trans G) _ _ ab;have a':=hp10.same (I.trans G);refine⟨z,b1,_,rfl,ca,rfl,⟨z,h10,_,_,_,rfl,a',nX rfl ?_⟩⟩;have bn:=l _ _ hx;have de:=hp.same l;have c5:=B.same l;refine⟨x,dx,_,rfl,bn,rfl,⟨x,h,_,_,f,rfl,de,λV1 v1 w1 g1 cy=>⟨y,dy,_,rfl,w1 _ _ (l _ _ hy),rfl,⟨y,h2,_,_,d,rfl,c5.same w1,λV2 v2 w2 g2 hv2=>⟨v1,v2,_,_,rfl,rfl,w2 _ _ cy,hv2,by rw[length_map,length_map];lia,λv3 gv3=>?_⟩⟩⟩⟩⟩;have w3:=(w1.trans w2).trans (Same.new (o:=.lst (f.map V.str++d.map V.str)) gv3);have a6:(upd V2 v3 (.lst (f.map V.str++d.map V.str))) v3=some (.lst ((f++d).map V.str)):=by rw[ad,map_append]
  generalize upd V2 v3 (.lst (f.map V.str++d.map V.str))=V3 at w3 a6;refine zm b0 a6 (((I.trans G).trans w3) _ _ a3) ?_;have g:=l.trans w3;refine⟨x,dx,_,rfl,g _ _ hx,rfl,⟨x,h,_,_,f,rfl,hp.same g,⟨y,dy,_,rfl,g _ _ hy,rfl,⟨y,h2,_,_,d,rfl,B.same g,wB ?_⟩⟩⟩⟩;exact q _ g
end
open Tb (Tr pN cL wo Pv rng rnf pS)
inductive spRfd(a:Ad)(vs:List V)(H:Hp)(Q:VK)(_E:XK):Prop
 | mk(x h y h2:Addr)(m c1 m2 c2:Nat)(ts ts2:List Str)(h0:vs=[.ref x,.ref y])(h1:PotAt a H x h (m:Nat) (c1:Nat) ts)(h2:PotAt a H y h2 (m2:Nat) (c2:Nat) ts2)(h3:Okp (m:Nat) (c1:Nat) ts)(h4:Okp (m2:Nat) (c2:Nat) ts2)(h5:m≠m2)(h6:TabsOk (tabs a) H)(h7:∀ H',Same H H'->Q (.bl true) H'):spRfd a vs H Q _E
inductive spApt(a:Ad)(vs:List V)(H:Hp)(Q:VK)(_E:XK):Prop
 | mk(x h y h2 kt:Addr)(m c1 c2:Nat)(ts ts2:List Str)(ks:List Int)(h0:vs=[.ref x,.ref y,.ref kt])(h1:PotAt a H x h (m:Nat) (c1:Nat) ts)(h2:PotAt a H y h2 (m:Nat) (c2:Nat) ts2)(h3:x≠y)(h4:Okp (m:Nat) (c1:Nat) ts)(h5:Okp (m:Nat) (c2:Nat) ts2)(h6:Nms ts)(h7:Nms ts2)(h8:c1+c2<=299)(h9:H kt=some (.tup (ks.map V.int)))(h10:ks.length<=24)(h11:(∀ k∈ks,0<=k/\k<((ts++ts2).length:Int)))(h12:∀ H',Q (.bl true) H'):spApt a vs H Q _E
inductive spTMy(a:Ad)(vs:List V)(H:Hp)(Q:VK)(_E:XK):Prop
 | mk(m c1 c2:Nat)(h0:vs=[.int (m:Nat),.int (c1:Nat),.int (c2:Nat)])(h1:1<=m)(h2:m<=24)(h3:24<=c1)(h4:c1<=300)(h5:24<=c2)(h6:c2<=300)(h7:∀ H',Same H H'->Q (.bl true) H'):spTMy a vs H Q _E
theorem Av:Nms ["poured","into"]:=by unfold Nms;decide +kernel
theorem Am:eY "y" = true:=by decide +kernel
section
variable {P:Program}{w:World}{K:Frag}{mg:Str->Option Value}{base:Heap}{a:Ad}
theorem oS(T:Txt K mg a)(hB:Bm mg base):FnOk P w K mg base CX0 14 a.f_y a.d_y ["_law_one","_law_other"] (spRfd a):=by
 have D:FnOk P w K mg base (CXG P w) 13 _ _ _ (spPour a):=kI T hB;have I:FnOk P w K mg base (CXG P w) 13 _ _ _ (spInto a K):=(iY T).mono (by decide);refine T.F_y.ok sc_y (λvs H Q E h=>?_) (λcdv A outer s H vs Q E hr h=>?_)
 .obtain⟨x,h,y,L,m,c1,m2,c2,N,n,rfl,_⟩:=h;rfl
 .obtain⟨x,h,y,L,m,c1,m2,c2,N,n,rfl,hp,z,r,l,nm,hT,q⟩:=h
  have G:sizeLine=16777216:=sizeLine_eq;refine⟨_,(af (aw (i:=2) sc_y.nd rfl (Or.inl rfl) (aR ae)) (af (kM ⟨rfl,rfl⟩ (oE (jy (kO D hr rfl T.m_J T.F_J.kp T.B_J .nil (aa (vr 0) (aa (vr 1) ae))))) (lL ⟨rfl,rfl⟩ rfl T.mc_n T.xh_n (λx=>(ak (bA (pe_m.appendK (K:=K) rfl (vr 2) (aa dN ae))))) ou)) (af (kM ⟨rfl,rfl⟩ (oE (jy (kO I hr rfl T.m_V T.F_V.kp T.B_V .nil (aa (vr 0) (aa (vr 1) (aa (cK ae) ae)))))) (lL ⟨rfl,rfl⟩ rfl T.mc_n T.xh_n (λx=>(ak (bA (pe_m.appendK (K:=K) rfl (vr 2) (aa dN ae))))) ou)) (ak (ax (bz (mv hr.units) (vr 2) (aR (aa dN (aa dN ae))) (au _))))))),jz ?_⟩;intro al as an;have l1:=cD r;have l2:=cD l;obtain⟨m1,Y,_,_,_⟩:=id r;obtain⟨_,ab,_,_,_⟩:=id l;refine⟨Nat.zero_le _,λd p=>?_⟩;have B:=Same.new (o:=.lst []) p;have v:=ad (H:=H) (a:=d) (o:=.lst []);generalize upd H d (.lst [])=H1 at B v;refine⟨x,h,y,L,m,c1,m2,c2,N,n,rfl,hp.same B,z.same B,r,l,hT.same B,(λ_ H2 s2=>?_),λe=>absurd e nm⟩;refine⟨_,rfl,λO W=>.inl ⟨T.tt,?_⟩⟩;have M:=Same.new (o:=.ext (XCt O a.c_n none)) W;have c:=(s2.trans M) _ _ v;generalize upd H2 O (.ext (XCt O a.c_n none))=H3 at M c;refine⟨.inl ⟨rfl,_,SqL.of c⟩,⟨d,_,_,rfl,rfl,c,by show 0<_;lia,?_⟩⟩;have s4:Same H (upd H3 d (.lst ([]++[.str "poured"]))):=(B.trans (s2.trans M)).put p;have j:=ad (H:=H3) (a:=d) (o:=.lst ([]++[.str "poured"]));generalize upd H3 d (.lst ([]++[.str "poured"]))=H4 at s4 j;refine⟨Nat.zero_le _,λZ u=>?_⟩;have C:=s4.trans (Same.new (o:=.tup []) u);have g:=(Same.new (o:=.tup []) u) _ _ j;refine⟨x,h,y,L,Z,_,_,_,_,N,n,[],rfl,hp.same C,z.same C,m1,Y,by lia,by lia,SqT.of ad,Nat.zero_le _,(λk hk=>by cases hk),(λ_ H6 s6=>?_),(λe=>absurd e (by lia)),λe=>absurd e (by lia)⟩;generalize upd H4 Z (.tup [])=H5 at C g s6;refine⟨_,rfl,λR F=>.inl ⟨T.tt,?_⟩⟩;have X:=Same.new (o:=.ext (XCt R a.c_n none)) F;have b:=(s6.trans X) _ _ g;generalize upd H6 R (.ext (XCt R a.c_n none))=H7 at X b;refine⟨.inl ⟨rfl,_,SqL.of b⟩,⟨d,_,_,rfl,rfl,b,by show 1<_;lia,?_⟩⟩
  have s8:Same H (upd H7 d (.lst ([]++[.str "poured"]++[.str "into"]))):=(C.trans (s6.trans X)).put p;have f:(upd H7 d (.lst ([]++[.str "poured"]++[.str "into"]))) d=some (.lst (([("poured" : Str), "into"]).map V.str)):=ad;generalize upd H7 d (.lst ([]++[.str "poured"]++[.str "into"]))=H8 at s8 f;refine⟨b8 _ _,λr9 S=>?_⟩;have s9:=Same.new (o:=.lst [.str "poured",.str "into"]) S;exact zm Av (s9 _ _ f) ad (q _ (s8.trans s9))
theorem uo(T:Txt K mg a):FnOk P w K mg base CX0 7 a.f_P a.d_P ["_law_one","_law_other","_law_kept"] (spApt a):=by
 have a9:FnOk P w K mg base CX0 6 _ _ _ _:=(gq (iY T)).mono (by decide);have N:FnOk P w K mg base CX0 6 _ _ _ _:=(gq (iV T)).mono (by decide);have a3:FnOk P w K mg base CX0 6 _ _ _ _:=(gL T).mono (by decide);have a2:FnOk P w K mg base CX0 6 _ _ _ _:=(gR T).mono (by decide);have X:FnOk P w K mg base CX0 6 _ _ _ _:=(fW T).mono (by decide);refine T.F_P.ok sc_P (λvs H Q E h=>?_) (λcdv A outer s H vs Q E hr h=>?_)
 .obtain⟨x,h,y,h2,kt,m,L,B,ts,l,ks,rfl,_⟩:=h;rfl
 .obtain⟨x,h,y,h2,kt,m,L,B,ts,l,ks,rfl,hp,Y,I,G,al,a',bB,b0,a6,kl,a0,q⟩:=h
  have a8:sizeLine=16777216:=sizeLine_eq;refine⟨_,(af (aw (i:=3) sc_P.nd rfl (Or.inl rfl) (aq a9 hr rfl T.m_V T.F_V.kp T.B_V .nil ao (aa (vr 0) (aa (vr 1) (aa (vr 2) ae))))) (af (aw (i:=4) sc_P.nd rfl (Or.inl rfl) (ap (vr 3) T.cl_c T.mt_f X hr T.B_f .nil ao)) (af (aw (i:=5) sc_P.nd rfl (Or.inl rfl) (ap (vr 3) T.cl_c T.mt_b a2 hr T.B_b .nil ao)) (af (bA (eL (vr 0) T.cl_c T.mt_v N hr T.B_v .nil ao (aa dN (aa ah ae)))) (af (bA (eL (vr 1) T.cl_c T.mt_v N hr T.B_v .nil ao (aa dN (aa ah ae)))) (af (ba (PW.pt (jC (aM (jL hr.units) (ap (vr 3) T.cl_c T.mt_f X hr T.B_f .nil ao) (vr 4) (au _)) (io (aM nE (ap (vr 3) T.cl_c T.mt_b a2 hr T.B_b .nil ao) (vr 5) (au _))))) (ak (ax dG)) aD) (ak (ax (bz eE (ap (vr 3) T.cl_c T.mt_h a3 hr T.B_h .nil ao) (aI aB (aR (aa ah (aa (ar b7 (vr 5) ah) ae))) (aN dI rfl T.z_int gw (aa (bz vC (vr 5) (bN (vr 0) rfl) (au _)) ae)) (λ_ _=>rfl)) (au _)))))))))),tD ?_⟩;intro b5 b1 b4 b6 b3 b2;obtain⟨⟨dx,hx⟩,hh⟩:=id hp;obtain⟨⟨dy,hy⟩,S⟩:=id Y;have l1:=cD G;have l2:=cD al;obtain⟨m1,bm,_,_,_⟩:=id G;have br:=pV (qi a' bB) a0;refine⟨x,h,y,h2,kt,_,_,_,_,ts,l,ks,rfl,hp,Y,m1,bm,by lia,by lia,SqT.of a6,by lia,a0,(λz=>absurd rfl z),(λ_ z=>by lia),λ_ _ H1 z hz s1 fz fhz hpz=>?_⟩;have bl:z≠x:=λe=>by rw[e,hx]at fz;cases fz
  have a4:z≠y:=λe=>by rw[e,hy]at fz;cases fz
  obtain⟨⟨M,a1⟩,bg⟩:=id hpz;refine⟨z,M,_,rfl,a1,rfl,⟨z,hz,_,_,_,rfl,hpz,λH2 r2 s2 f2 as=>?_⟩⟩;have an:=s2 _ _ a1;have ab:=hpz.same s2;refine⟨z,M,_,rfl,an,rfl,⟨z,hz,_,_,_,rfl,ab,?_⟩⟩;have f:=s1.trans s2;have j:∀ c:Nat,inK 0 (sides (m:Nat) (c:Nat) - 1) (.i 0)=true:=λc=>decide_eq_true ⟨Int.le_refl 0,by unfold sides;split <;> lia⟩
  have ny:nmK (.s "y")=true:=Am;refine⟨x,dx,_,rfl,f _ _ hx,rfl,?_⟩;refine⟨x,h,_,_,ts,.str "y",.int 0,.s "y",.i 0,rfl,hp.same f,G,.str "y" (by decide +kernel) (by decide +kernel),.int 0,(λe=>by rw[ny]at e;cases e),(λ_ e=>by lia),(λ_ _ e=>by rw[j L]at e;cases e),λ_ _ _ H3 h3 sb3 hp3 _=>?_⟩;have g:∀{b:Addr}{us:List V}{H':Hp}{C d:Addr}{fs:List (Str×V)}{p:Addr},H' b=some (.lst us)->H' p=some (.ins C d fs)->b≠p:=λ{b us H' C d fs p} e1 e2 z=>by rw[z,e2]at e1;cases e1
  have R:PotAt a H3 y h2 (m:Nat) (B:Nat) l:=⟨⟨dy,sb3 _ _ (Ne.symm I) (f _ _ hy)⟩,sb3 _ _ (g (f _ _ S) (f _ _ hx)) (f _ _ S)⟩
  have D:=sb3 _ _ (Ne.symm I) (f _ _ hy);refine⟨y,dy,_,rfl,D,rfl,?_⟩;refine⟨y,h2,_,_,l,.str "y",.int 0,.s "y",.i 0,rfl,R,al,.str "y" (by decide +kernel) (by decide +kernel),.int 0,(λe=>by rw[ny]at e;cases e),(λ_ e=>by lia),(λ_ _ e=>by rw[j B]at e;cases e),λ_ _ _ H4 h4 sb4 hp4 _=>?_⟩;obtain⟨⟨bt,bn⟩,bT⟩:=id hp3;have bo:=sb4 _ _ I bn;have F:=sb4 _ _ a4 (sb3 _ _ bl an);have r:=s2 _ _ bg;have n:=sb3 _ _ (g r (f _ _ hx)) r
  have v:PotAt a H4 z hz (m:Nat) ((L:Int)+(B:Int)) (ks.map λk=>(ts++l).getD k.toNat ""):=⟨⟨M,F⟩,sb4 _ _ (g n D) n⟩
  have Z:=sb3 _ _ (g as (f _ _ hx)) as;have a5:=sb4 _ _ (g Z D) Z;refine⟨z,M,_,rfl,F,rfl,⟨z,hz,_,_,_,rfl,v,λH5 r5 s5 f5 a7=>?_⟩⟩;refine yi br a7 (s5 _ _ a5) ?_;have W:=s5 _ _ F;have u:=v.same s5;refine⟨z,M,_,rfl,W,rfl,⟨z,hz,_,_,_,rfl,u,nX rfl ?_⟩⟩;refine⟨z,M,_,rfl,W,rfl,⟨z,hz,_,_,_,rfl,u,?_⟩⟩;refine⟨b8 _ _,λr9 bS=>?_⟩;have s9:=Same.new (o:=.lst [.int 1,.int ((L:Int)+(B:Int)+1)]) bS;have O:=ad (H:=H5) (a:=r9) (o:=.lst [.int 1,.int ((L:Int)+(B:Int)+1)]);generalize upd H5 r9 (.lst [.int 1,.int ((L:Int)+(B:Int)+1)])=H9 at s9 O;refine⟨x,_,bt,_,_,rfl,s9 _ _ (s5 _ _ bo),T.cl_c,T.na_Pot_most,rfl,.inr ⟨_,rfl,?_⟩⟩;refine .inl ⟨r9,_,_,_,rfl,rfl,SqL.of O,om _ _,wB ?_⟩;exact q _
theorem oU(T:Txt K mg a):FnOk P w K mg base CX0 7 a.f_A a.d_A ["_law_most","_law_first","_law_second"] (spTMy a):=by
 have X:FnOk P w K mg base (CXG P w) 6 _ _ _ (spInto a K):=(iY T).mono (by decide);have B:FnOk P w K mg base CX0 6 _ _ _ (spLPot a):=qe T;have G:FnOk P w K mg base CX0 6 _ _ _ _:=(gR T).mono (by decide);refine T.F_A.ok sc_A (λvs H Q E h=>?_) (λcdv A outer s H vs Q E hr h=>?_)
 .obtain⟨m,d,r,rfl,_⟩:=h;rfl
 .obtain⟨m,d,r,rfl,m1,I,a1,a2,b1,b2,q⟩:=h
  have W:sizeLine=16777216:=sizeLine_eq;refine⟨_,(af (aw (i:=3) sc_A.nd rfl (Or.inl rfl) dG) (af (aw (i:=4) sc_A.nd rfl (Or.inl rfl) (aq B hr rfl T.m_G T.F_G.kp T.B_G .nil ao (aa (vr 0) (aa (vr 1) (aa ah ae))))) (af (aw (i:=5) sc_A.nd rfl (Or.inl rfl) (aq B hr rfl T.m_G T.F_G.kp T.B_G .nil ao (aa (vr 0) (aa (vr 2) (aa ah ae))))) (af (kM ⟨rfl,rfl⟩ (oE (jy (kO X hr rfl T.m_V T.F_V.kp T.B_V .nil (aa (vr 4) (aa (vr 5) (aa (aN (nI rfl) rfl T.z_tuple gU (aa (aN ik rfl T.z_range hJ (aa (vr 0) ae)) ae)) ae)))))) (lL ⟨rfl,rfl⟩ rfl T.mc_m T.xh_m (λx=>(ak (aw (i:=3) sc_A.nd rfl (Or.inl rfl) dG))) ou)) (ak (ax (iJ (bz eE (vr 3) (bz jX (ar b7 (vr 1) (vr 2)) ah (au _)) (au _)) (iJ (bz eE (ap (vr 4) T.cl_c T.mt_b G hr T.B_b .nil ao) (vr 1) (au _)) (gB (bz eE (ap (vr 5) T.cl_c T.mt_b G hr T.B_b .nil ao) (vr 2) (au _))))))))))),qD ?_⟩;intro a6 as a5 a0;refine⟨m,d,0,rfl,m1,I,a2,by lia,λH1 x h ts s1 fx hp al a3=>?_⟩;refine⟨m,r,12,rfl,m1,I,b2,by lia,λH2 y Y n s2 fy p M a4=>?_⟩;have l1:=cD al;have l2:=cD M;refine⟨_,rfl,λpr O=>?_⟩;have s3:=Same.new (o:=.rng 0 ((m:Nat):Int)) O;refine⟨pr,m,rfl,by lia,ad,λL an=>?_⟩;have D:=s3.trans (Same.new (o:=.tup ((List.range m).map λ(i:Nat)=>V.int (i:Int))) an);have C:(upd (upd H2 pr (.rng 0 ((m:Nat):Int))) L (.tup ((List.range m).map λ(i:Nat)=>V.int (i:Int)))) L=some (.tup ((rng m).map V.int)):=by rw[ad];unfold rng;rw[map_map];rfl
  generalize upd (upd H2 pr (.rng 0 ((m:Nat):Int))) L (.tup ((List.range m).map λ(i:Nat)=>V.int (i:Int)))=H4 at D C;have f:=s2.trans D;have v:∀(u:Hp),Same H4 u->Same H u:=λu F=>(s1.trans f).trans F
  refine⟨x,h,y,Y,L,_,_,_,_,ts,n,rng m,rfl,hp.same f,p.same D,by lia,by lia,by lia,by lia,SqT.of C,by rw[Tb.rng_len];lia,(λk hk=>by have:=Tb.mem_rng.mp hk;rw[length_append];lia),(λz=>absurd rfl z),(λ_ z u F=>?_),λ_ z u z5 hz5 F f5 g5 hp5=>?_⟩
  .refine⟨_,rfl,λx9 ab=>.inl ⟨T.tm2,?_⟩⟩
   have l:=F.trans (Same.new (o:=.ext (XCt x9 a.c_m none)) ab);generalize upd u x9 (.ext (XCt x9 a.c_m none))=H6 at l;refine ifB (λ_=>?_) λj=>?_
   .have c:=hp.same (f.trans l)
    have b:=p.same (D.trans l);obtain⟨⟨N,Z⟩,_⟩:=id c;obtain⟨⟨S,R⟩,_⟩:=id b;refine⟨x,N,_,rfl,Z,rfl,⟨x,h,_,_,ts,rfl,c,?_⟩⟩;refine ifB (λ_=>?_) λg=>?_
    .exact⟨y,S,_,rfl,R,rfl,⟨y,Y,_,_,n,rfl,b,wB (q _ (v _ l))⟩⟩
    .have g:decide ((d:Int)=(d:Int))=false:=g
     rw[decide_eq_true rfl]at g;cases g
   .have j:decide (true=decide ((d:Int)+(r:Int) > 300))=false:=j
    rw[show decide ((d:Int)+(r:Int) > 300)=true from decide_eq_true (by lia),decide_eq_true rfl]at j;cases j
  .have l:=F
   refine ifB (λ_=>?_) λj=>?_
   .have c:=hp.same (f.trans l)
    have b:=p.same (D.trans l);obtain⟨⟨N,Z⟩,_⟩:=id c;obtain⟨⟨S,R⟩,_⟩:=id b;refine⟨x,N,_,rfl,Z,rfl,⟨x,h,_,_,ts,rfl,c,?_⟩⟩;refine ifB (λ_=>?_) λg=>?_
    .exact⟨y,S,_,rfl,R,rfl,⟨y,Y,_,_,n,rfl,b,wB (q _ (v _ l))⟩⟩
    .have g:decide ((d:Int)=(d:Int))=false:=g
     rw[decide_eq_true rfl]at g;cases g
   .have j:decide (false=decide ((d:Int)+(r:Int) > 300))=false:=j
    rw[show decide ((d:Int)+(r:Int) > 300)=false from decide_eq_false (by lia),decide_eq_true rfl]at j;cases j
end
open Tb (Tr pN cL wo Pv rng rnf pS Rws)
theorem wd{K:Frag}{H:Hp}{p:Addr}{t b:Int}(h:SqT K H p [.int t,.int b]):DV K H (.tuple [.int t,.int b]) (.ref p):=by
 rw[DV];refine⟨p,_,rfl,h,?_⟩;rw[DVs];refine⟨_,_,rfl,by simp[DV],?_⟩;rw[DVs];exact⟨_,_,rfl,by simp[DV],by simp[DVs]⟩
def wY(x:List Int):PyData:=.tuple (x.map PyData.int)
theorem ju{K:Frag}{H:Hp}:∀ x:List Int,DVs K H (x.map PyData.int) (x.map V.int)
 | []=>by simp[DVs]
 | i::x=>by
  rw[map_cons,map_cons,DVs];exact⟨_,_,rfl,by simp[DV],ju x⟩
theorem pc{K:Frag}{H:Hp}{p:Addr}{x:List Int}(h:H p=some (.tup (x.map V.int))):DV K H (wY x) (.ref p):=by
 unfold wY;rw[DV];exact⟨p,_,rfl,SqT.of h,ju x⟩
def frD(q:Rat):PyData:=.tuple [.int q.num,.int q.den]
def wO(x:List Int×Rat):PyData:=.tuple [wY x.1,frD x.2]
theorem zO{K:Frag}{H:Hp}{q:Rat}{z:V}(h:IsQ K H q z):DV K H (frD q) z:=by
 obtain⟨p,rfl,a⟩:=h;exact wd a.sq
theorem uy{K:Frag}{H:Hp}{x:List Int×Rat}{y:V}(h:RowR K H x y):DV K H (wO x) y:=by
 obtain⟨p,d,z,rfl,c,a,b⟩:=h;unfold wO;rw[DV];refine⟨p,_,rfl,SqT.of c,?_⟩;rw[DVs];refine⟨_,_,rfl,pc a,?_⟩;rw[DVs];exact⟨_,_,rfl,zO b,by simp[DVs]⟩
theorem vi{K:Frag}{H:Hp}{b:Type}{r:b->V->Prop}{f:b->PyData}(h:∀ a y,r a y->DV K H (f a) y){c:List b}{ys:List V}(p:Paired r c ys):DVs K H (c.map f) ys:=by
 induction p with
 | nil=>simp[DVs]
 | cons x _ ih=>rw[map_cons,DVs];exact⟨_,_,rfl,h _ _ x,ih⟩
theorem kS{K:Frag}{H:Hp}{l:Addr}{ds:List PyData}{ys:List V}(h:H l=some (.lst ys))(d:DVs K H ds ys):DV K H (.list ds) (.ref l):=by
 rw[DV];exact⟨l,_,rfl,SqL.of h,d⟩
def Ly(n:Nat)(d:PyData):Prop:=PyData.canLay0 d=true/\PyData.depth d<=n
theorem pf{n:Nat}:∀{ds:List PyData},(∀ d∈ds,Ly n d)->PyData.canLayAll0 ds=true/\PyData.depthAll ds<=n
 | [],_=>by simp[PyData.canLayAll0,PyData.depthAll]
 | d::ds,h=>by
  obtain⟨b,c⟩:=pf λx hx=>h x (mem_cons_of_mem _ hx)
  obtain⟨a,f⟩:=h d mem_cons_self;rw[PyData.canLayAll0,PyData.depthAll,b,a];exact⟨rfl,by lia⟩
theorem kT{n:Nat}{ds:List PyData}(h:∀ d∈ds,Ly n d):Ly (n+1) (.tuple ds):=by
 obtain⟨a,b⟩:=pf h;refine⟨by rw[PyData.canLay0,a],?_⟩;simp only[PyData.depth];lia
theorem g8{n:Nat}{ds:List PyData}(h:∀ d∈ds,Ly n d):Ly (n+1) (.list ds):=by
 obtain⟨a,b⟩:=pf h;refine⟨by rw[PyData.canLay0,a],?_⟩;simp only[PyData.depth];lia
theorem ph(i:Int):Ly 1 (.int i):=⟨by simp[PyData.canLay0],by simp[PyData.depth]⟩
theorem cS{n:Nat}{d:PyData}(h:Ly n d)(a:n<=5):SeqAt.shaped d=true:=by
 unfold SeqAt.shaped;rw[h.1,Bool.true_and];exact decide_eq_true (by have:=h.2;lia)
theorem fQ(x:List Int):∀ d∈x.map PyData.int,Ly 1 d:=λd a=>by
 obtain⟨i,_,rfl⟩:=mem_map.mp a;exact ph i
theorem zP(q:Rat):Ly 2 (frD q):=kT (n:=1) λd hd=>by
 rcases mem_cons.mp hd with rfl | hd
 .exact ph _
 .rw[mem_singleton.mp hd];exact ph _
theorem yp(x:List Int×Rat):Ly 3 (wO x):=kT (n:=2) λd hd=>by
 rcases mem_cons.mp hd with rfl | hd
 .exact kT (fQ x.1)
 .rw[mem_singleton.mp hd];exact zP _
def xf(R:Rws):PyData:=.list (R.map wO)
theorem wg(R:Rws):Ly 4 (xf R):=g8 λd a=>by
 obtain⟨x,_,rfl⟩:=mem_map.mp a;exact yp x
theorem lF{K:Frag}{H:Hp}{x y:V}{d:PyData}{n:Nat}{Q:VK}(b:DV K H d x)(h2:DV K H d y)(h:Ly n d)(a:n<=5)(q:Q (.bl false) H):rEqD K true x y H Q:=by
 refine⟨d,d,b,h2,cS h a,cS h a,?_⟩;rw[SeqAt.eqv_refl _ (SeqAt.canLay_of_shaped (cS h a))];exact q
theorem wt{K:Frag}{H:Hp}{x y:V}{d:PyData}{n:Nat}{Q:VK}(b:DV K H d x)(h2:DV K H d y)(h:Ly n d)(a:n<=5)(q:Q (.bl true) H):rEqD K false x y H Q:=by
 refine⟨d,d,b,h2,cS h a,cS h a,?_⟩;rw[SeqAt.eqv_refl _ (SeqAt.canLay_of_shaped (cS h a))];exact q
theorem mF:∀ l m:List Int,PyData.eqvAll (l.map PyData.int) (m.map PyData.int)=decide (l=m)
 | [],[]=>rfl
 | [],_::_=>rfl
 | _::_,[]=>rfl
 | x::l,y::m=>by
  rw[map_cons,map_cons,PyData.eqvAll,mF l m,Bool.eq_iff_iff];simp[PyData.eqv]
theorem xS(x:List Int):Ly 2 (wY x):=kT (fQ x)
theorem rJ(l m:List Int):PyData.eqv (.list (l.map PyData.int)) (.list (m.map PyData.int))=decide (l=m):=by rw[PyData.eqv,mF]
theorem kc{K:Frag}{H:Hp}{p:Addr}{x:List Int}(h:H p=some (.lst (x.map V.int))):DV K H (.list (x.map PyData.int)) (.ref p):=kS h (ju x)
theorem xw{K:Frag}{H:Hp}{p q:Addr}{l m:List Int}{Q:VK}(c:H p=some (.lst (l.map V.int)))(h2:H q=some (.lst (m.map V.int)))(a:∀ b:Bool,b=decide (l=m)->Q (.bl b) H):rEqD K false (.ref p) (.ref q) H Q:=by
 refine⟨_,_,kc c,kc h2,cS (g8 (fQ l)) (by decide),cS (g8 (fQ m)) (by decide),a _ ?_⟩;simp only[Bool.false_eq_true,if_false];exact rJ l m
theorem jr{a:Type}(x:a):∀ n:Nat,(List.replicate n [x]).flatten=List.replicate n x
 | 0=>rfl
 | n+1=>by rw[replicate_succ,flatten_cons,jr x n,replicate_succ];rfl
inductive spPrt(a:Ad)(vs:List V)(H:Hp)(Q:VK)(_E:XK):Prop
 | mk(u:V)(lc:Addr)(m c1 c2:Nat)(h0:vs=[u,.int (m:Nat),.ref lc])(h1:IsNd a H u (pS (min m (c1+c2)) c1 (min m c1) c2 (min m c2)))(h2:H lc=some (.lst [.int (c1:Nat),.int (c2:Nat)]))(h3:1<=m)(h4:m<=24)(h5:c1<=300)(h6:c2<=300)(h7:TabsOk (tabs a) H)(h8:∀ H',SameT H H'->TabsOk (tabs a) H'->Q (.bl true) H'):spPrt a vs H Q _E
theorem uV{a:Ad}{H:Hp}{u:V}{ps:List (Int×Tr)}(h:IsNd a H u (.die ps)):∃ x dx l ys,u=.ref x/\H x=some (.ins a.c_k dx [("makes",.ref l)])/\H l=some (.lst ys)/\Paired (NdR H) ps ys/\1<=ps.length/\ps.length<=5000:=h
section
variable {P:Program}{w:World}{K:Frag}{mg:Str->Option Value}{base:Heap}{a:Ad}
theorem tS(T:Txt K mg a)(hB:Bm mg base):FnOk P w K mg base CX0 18 a.f_O a.d_O ["_law_node","_law_most","_law_came"] (spPrt a):=by
 have co:FnOk P w K mg base CX0 17 _ _ _ _:=(gq (xg T hB)).mono (by decide);have b2:FnOk P w K mg base CX0 17 _ _ _ _:=(sG T).mono (by decide);have cs:FnOk P w K mg base CX0 17 _ _ _ _:=(uW T).mono (by decide);have cB:FnOk P w K mg base CX0 17 _ _ _ _:=(tJ T).mono (by decide);have bt:FnOk P w K mg base CX0 17 _ _ _ _:=(tw T).mono (by decide);have a0:FnOk P w K mg base CX0 17 _ _ _ _:=(xD T).mono (by decide);have S:FnOk P w K mg base CX0 17 _ _ _ _:=(xz T hB).mono (by decide);refine T.F_O.ok sc_O (λvs H Q E h=>?_) (λcdv A outer s H vs Q E hr h=>?_)
 .obtain⟨u,I,m,c,d,rfl,_⟩:=h;rfl
 .obtain⟨u,I,m,c,d,rfl,hN,b0,m1,c3,a7,bm,hT,q⟩:=h
  have as:sizeLine=16777216:=sizeLine_eq
  refine⟨_,(af (ba (aM (mv hr.units) (vr 2) (aR (aa ah (aa ah ae))) (au _)) (ak (ax (iJ (PE.or (ap (vr 0) T.cl_g T.mt_l b2 hr T.B_l .nil ao) (ap (vr 0) T.cl_k T.mt_o cs hr T.B_o .nil ao)) (gB (bz (mv hr.units) (PE.or (ap (vr 0) T.cl_g T.mt_q a0 hr T.B_q .nil ao) (ap (vr 0) T.cl_k T.mt_w S hr T.B_w .nil ao)) (aR ae) (au _)))))) aD) (af (aw (i:=3) sc_O.nd rfl (Or.inl rfl) (aN dI rfl T.z_int gw (aa (bz eE (aI aB (vr 2) ah (λ_ _=>rfl)) ah (au _)) ae))) (cH (ba (PW.pt (d3 (aM jX (aI aB (vr 2) ah (λ_ _=>rfl)) ah (au _)) (dS (aM jX (aI aB (vr 2) ah (λ_ _=>rfl)) ah (au _))))) (af (ba (PW.pt (jC (aM (jL hr.units) (cE rfl (N:=["_law_many","_law_there"]) (ix:=[none,none]) ⟨rfl,rfl,rfl,rfl,trivial⟩ (b9 (PE.or (ap (vr 0) T.cl_g T.mt_q a0 hr T.B_q .nil ao) (ap (vr 0) T.cl_k T.mt_w S hr T.B_w .nil ao))) ⟨λC s H fp=>(fU (K:=K) (n:=2) rfl rfl (aE (ay (i:=0) (show List.Nodup (["_law_many","_law_there"]:List Str) by decide +kernel) rfl (Or.inl rfl)) (aE (ay (i:=1) (show List.Nodup (["_law_many","_law_there"]:List Str) by decide +kernel) rfl (Or.inl rfl)) cJ))),λC s H fp=>ce,λC s H fp=>(vr 0)⟩) (vr 2) (au _)) (io (aM nE (PE.or (ap (vr 0) T.cl_g T.mt_t cB hr T.B_t .nil ao) (ap (vr 0) T.cl_k T.mt_x bt hr T.B_x .nil ao)) (av (ck rfl) rfl T.z_sum d4 (aa (vr 2) ae)) (au _))))) (ak (ax dG)) aD) (af (aw (i:=0) sc_O.nd rfl (Or.inl rfl) (eL (vr 0) T.cl_k T.mt_r co hr T.B_r .nil ao (aa (aI aB (vr 2) ah (λ_ _=>rfl)) ae))) (ak (aw (i:=3) sc_O.nd rfl (Or.inl rfl) ah)))) aD) (af (aw (i:=4) sc_O.nd rfl (Or.inl rfl) (av (eK rfl) rfl T.z_min jJ (aa (vr 1) (aa (aI aB (vr 2) (vr 3) (λ_ _=>rfl)) ae)))) (ak (ax (Bg (bz eE (vr 4) ah (au _)) (gB (bz (mv hr.units) (cE rfl (N:=["_law_many","_law_there"]) (ix:=[none,none]) ⟨rfl,rfl,rfl,rfl,trivial⟩ (b9 (PE.or (ap (vr 0) T.cl_g T.mt_q a0 hr T.B_q .nil ao) (ap (vr 0) T.cl_k T.mt_w S hr T.B_w .nil ao))) ⟨λC s H fp=>(fU (K:=K) (n:=2) rfl rfl (aE (ay (i:=0) (show List.Nodup (["_law_many","_law_there"]:List Str) by decide +kernel) rfl (Or.inl rfl)) (aE (ay (i:=1) (show List.Nodup (["_law_many","_law_there"]:List Str) by decide +kernel) rfl (Or.inl rfl)) cJ))),λC s H fp=>ce,λC s H fp=>(vr 0)⟩) (ar sM (aR (aa ah ae)) (vr 4)) (au _)))))))))),iE ?_⟩
  intro cW cG;refine⟨b8 _ _,λr1 br=>?_⟩;have s1:=Same.new (o:=.lst [.int 0,.int 0]) br;have bn:=ad (H:=H) (a:=r1) (o:=.lst [.int 0,.int 0]);generalize upd H r1 (.lst [.int 0,.int 0])=H1 at s1 bn;have g:=hN.t s1.t;have O:=hT.same s1;have k:=s1 _ _ b0;refine xw (l:=[(c:Int),(d:Int)]) (m:=[0,0]) k bn λb R=>?_
  refine ifB (λz=>?_) λz=>?_
  .have z:b=true:=z
   rw[z]at R;have e0:[(c:Int),(d:Int)]=[0,0]:=of_decide_eq_true R.symm;injection e0 with e1 e2
   injection e2 with e2 _
   obtain rfl:c=0:=by lia
   obtain rfl:d=0:=by lia
   have et:pS (min m (0+0)) 0 (min m 0) 0 (min m 0)=.leaf []:=by
    unfold pS;rw[show min m (0+0)=0 by lia,Tb.pN_zero]
   rw[et]at g;obtain⟨x,dx,tt,ms,rfl,a4,c0,hs⟩:=lG g;refine .inl ⟨x,dx,_,rfl,a4,rfl,_,rfl,?_⟩;refine .inl ⟨x,dx,_,rfl,a4,rfl,_,rfl,λr fr=>?_⟩;refine⟨Nat.zero_le _,λr2 a8=>?_⟩;have s3:=(Same.new (o:=.lst []) fr).trans (Same.new (o:=.lst []) a8);refine xw (l:=[]) (m:=[]) (Same.new a8 _ _ ad) ad λb R=>?_
   obtain rfl:b=true:=by rw[R];rfl
   exact q _ (s1.trans s3).t (O.same s3)
  have z:b=false:=z;rw[z]at R
  have ne:0<c+d:=by
   apply Classical.byContradiction;intro no;have e1:(c:Int)=0:=by lia
   have e2:(d:Int)=0:=by lia
   rw[e1,e2]at R;cases R
  clear R z
  obtain⟨w,hw⟩:∃ w,min m (c+d)=w+1:=⟨min m (c+d) - 1,by lia⟩
  obtain⟨x,hx⟩:∃ x:Pd,x=⟨c,rng (min m c),d,rnf (min m c) (min m d),[]⟩:=⟨_,rfl⟩
  have xo:x.Ok (w+1):=by
   rw[hx,<- hw];exact⟨(jM (by lia)).pv,by rw[Tb.rng_len];lia,by rw[Tb.rnf_len];lia,a7,bm⟩
  have bB:pS (min m (c+d)) c (min m c) d (min m d)=x.tr (w+1):=by rw[hw,hx];rfl
  rw[bB]at g;have a3:x.c1=c:=by rw[hx]
  have a':x.c2=d:=by rw[hx]
  have b':∀ b:Bool,(x.pb b).length=min m (x.cb b):=λb=>by
   rw[hx];cases b
   .exact Tb.rng_len _
   .exact Tb.rnf_len _ _
  refine .inl ⟨I,_,_,_,rfl,rfl,SqL.of k,aC 0 rfl rfl,.inr ⟨_,rfl,?_⟩⟩;refine dB (σ':=[some u,some (.int (m:Nat)),some (.ref I),some (.int (if decide ((c:Int)=0)=true then 1 else 0)),none]) rfl ?_;refine⟨λσ' H2=>∃(b:Bool) (u2:V),SameT H1 H2/\TabsOk (tabs a) H2/\IsNd a H2 u2 (x.fb b w)/\0<x.cb b/\σ'=[some u2,some (.int (m:Nat)),some (.ref I),some (.int (if b=true then 1 else 0)),none],?_,?_⟩
  .refine .inl ⟨I,_,_,_,rfl,rfl,SqL.of k,aC 0 rfl rfl,ifC (λz1=>?_) λz1=>?_⟩
   .have z1:0<c:=by have z:((c:Nat):Int) > 0:=z1;lia
    refine .inl ⟨I,_,_,_,rfl,rfl,SqL.of k,aC 1 rfl rfl,ifC (λz2=>?_) λz2=>?_⟩
    .have z2:0<d:=by have z:((d:Nat):Int) > 0:=z2;lia
     rw[qO (by lia) (by lia),a3,a']at g;obtain⟨x0,dx,l',bT,rfl,al,_⟩:=uV g;refine .inr ⟨x0,dx,_,rfl,al,rfl,⟨_,_,[],rfl,(λb hb=>by cases hb),by rw[cw];exact g,O,λH3 D zs t3 hT3 fD hD hPz=>?_⟩⟩;rw[cw]at hPz;refine .inl ⟨⟨_,SqL.of hD⟩,λD2 F=>?_⟩;have L:2=zs.length:=Paired.length hPz
     let Pw1:PvL:=λj X M=>Same H3 M/\M D2=some (.lst X)/\(j<=zs.length)/\X=((([((c:Int),x.f1 w),((d:Int),x.f2 w)]:List (Int×Tr)).take j).map (·.1)).map V.int
     refine bL (K:=K) (a:=D) (xs:=zs) Pw1 ⟨Same.new F,ad,Nat.zero_le _,rfl⟩ (λj ys M h=>SqL.of (h.1 _ _ hD)) (λj ys M h=>h.2.1) ?_ ?_
     .rintro j y ca b5 P' hy ⟨s2,Z,hj,rfl⟩ an
      obtain⟨⟨mm,tr⟩,a1,q1,u1,rfl,W,_⟩:=bx hPz hy;have ab:j<zs.length:=(List.getElem?_eq_some_iff.mp hy).1;refine⟨q1,_,rfl,SqT.of (s2 _ _ W),rfl,_,_,rfl,_,_,rfl,rfl,trivial,Z,by rw[length_map,length_map,length_take];lia,an _ _ ⟨s2.put F,ad,ab,?_⟩⟩;rw[take_add_one,a1];simp
     rintro X H4 ⟨s4,v,_,rfl⟩;rw[<- L]at v;have v:H4 D2=some (.lst ([(c:Int),(d:Int)].map V.int)):=v;have t4:=t3.trans s4.t;have b1:=hT3.same s4;have G:=t4.at k;refine lF (kc v) (kc (x:=[(c:Int),(d:Int)]) G) (g8 (fQ _)) (by decide) ?_;have cj:=g.t t4;obtain⟨rs,B,a6⟩:=kU cj;have et:o8 rs=((c+d:Nat):Int):=(qA a6).trans (by show(c:Int)+((d:Int)+0)=_;lia);obtain⟨_,a9,l8,cT,ex,a5,_⟩:=id B;cases ex;refine .inr ⟨x0,a9,_,rfl,a5,rfl,⟨_,rs,rfl,B,λH9 s9=>?_⟩⟩;refine⟨I,[(c:Int),(d:Int)],rfl,SqL.of (s9 _ _ G),?_⟩;refine ifB (λz=>?_) λ_=>?_
     .have z:(!decide (o8 rs=[(c:Int),(d:Int)].sum))=true:=z
      rw[decide_eq_true (show o8 rs=[(c:Int),(d:Int)].sum by rw[et];simp)]at z;cases z
     have bS:fc [((c:Int),x.f1 w),((d:Int),x.f2 w)] (c:Int)=some (x.f2 w):=by
      show(if (c:Int)<(c:Int) then some (x.f1 w) else if (c:Int) - (c:Int)<(d:Int) then some (x.f2 w) else none)=_;rw[if_neg (by lia),if_pos (by lia)]
     obtain⟨f,hf,cc⟩:=jG a6 bS;refine⟨x0,a9,_,rfl,s9 _ _ a5,rfl,.inl ⟨I,_,_,_,rfl,rfl,SqL.of (s9 _ _ G),aC 0 rfl rfl,⟨_,rs,f,(c:Int),rfl,B.t s9.t,by lia,by show(c:Int)<o8 rs;lia,hf,λcy Y=>?_⟩⟩⟩;have bl:IsMk (untrs cy []) f (x.f2 w):=by rw[cw];exact cc.t (s9.trans Y).t
     refine kK bl (λb hb=>by cases hb) (b1.same (s9.trans Y)) λH5 u5 t5 hT5 hu=>?_
     rw[cw]at hu;exact⟨true,u5,t4.trans ((s9.trans Y).t.trans t5),hT5,hu,by show 0<x.c2;lia,rfl⟩
    .have z2:d=0:=by have z:¬((d:Nat):Int) > 0:=z2;lia
     rw[uc (by lia)]at g;refine⟨false,u,SameT.refl,O,g,by show 0<x.c1;lia,?_⟩;rw[decide_eq_false (show ¬(c:Int)=0 by lia)]
   .have z1:c=0:=by have z:¬((c:Nat):Int) > 0:=z1;lia
    rw[sY (by lia) (by lia)]at g;refine⟨true,u,SameT.refl,O,g,by show 0<x.c2;lia,?_⟩;rw[decide_eq_true (show(c:Int)=0 by lia)]
  rintro σ' H2 ⟨b,u2,t2,bo,a2,ct,rfl⟩;have bg:=t2.at k
  have b4:atI [V.int (c:Nat),V.int (d:Nat)] (if b=true then 1 else 0)=some (.int (x.cb b:Nat)):=by rw[<- a3,<- a'];cases b <;> rfl
  refine .inl ⟨I,_,_,.int (x.cb b:Nat),rfl,rfl,SqL.of bg,b4,⟨_,_,rfl,?_⟩⟩;rw[gg,<- b' b];have cx:=xo.le b;have cP:=xo.ne ct;refine dB (σ':=[some u2,some (.int (m:Nat)),some (.ref I),some (.int (if b=true then 1 else 0)),some (.int ((x.pb b).length:Nat))]) rfl ?_;refine ifB (λ_=>q _ (s1.t.trans t2) bo) λz=>?_
  have z:decide (((x.pb b).length:Int)=1)=false:=z;have z:(x.pb b).length≠1:=λe=>by rw[decide_eq_true (show((x.pb b).length:Int)=1 by lia)]at z;cases z
  rw[oK,jO z]at a2;obtain⟨x0,dx,l',bT,rfl,al,_⟩:=uV a2;refine .inr ⟨x0,dx,_,rfl,al,rfl,⟨_,_,[],rfl,(λb hb=>by cases hb),by rw[cw];exact a2,bo,λH3 D zs t3 hT3 fD hD hPz=>?_⟩⟩;rw[cw]at hPz;refine .inl ⟨⟨_,SqL.of hD⟩,λD2 F=>?_⟩;have L:((x.pb b).map λp=>((1:Int),(x.go b p).tr w)).length=zs.length:=Paired.length hPz;have cC:zs.length<=24:=by rw[<- L,length_map];exact cx
  let Pw2:PvL:=λj X M=>Same H3 M/\M D2=some (.lst X)/\(j<=zs.length)/\X=((((x.pb b).map λp=>((1:Int),(x.go b p).tr w)).take j).map (·.1)).map V.int
  refine bL (K:=K) (a:=D) (xs:=zs) Pw2 ⟨Same.new F,ad,Nat.zero_le _,rfl⟩ (λj ys M h=>SqL.of (h.1 _ _ hD)) (λj ys M h=>h.2.1) ?_ ?_
  .rintro j y ca b5 P' hy ⟨s2,Z,hj,rfl⟩ an
   obtain⟨⟨mm,tr⟩,a1,q1,u1,rfl,W,_⟩:=bx hPz hy;have ab:j<zs.length:=(List.getElem?_eq_some_iff.mp hy).1;refine⟨q1,_,rfl,SqT.of (s2 _ _ W),rfl,_,_,rfl,_,_,rfl,rfl,trivial,Z,by rw[length_map,length_map,length_take];lia,an _ _ ⟨s2.put F,ad,ab,?_⟩⟩;rw[take_add_one,a1];simp
  rintro X H4 ⟨s4,v,_,rfl⟩;have cA:(((x.pb b).map λp=>((1:Int),(x.go b p).tr w)).map (·.1))=List.replicate (x.pb b).length (1:Int):=by rw[map_map];exact List.map_const'
  rw[<- L,take_length,cA]at v;refine⟨by rw[as];exact show(1:Nat)<=_ by decide,λr5 b3=>?_⟩;have s5:=Same.new (o:=.lst [V.int 1]) b3;refine⟨r5,_,_,rfl,rfl,ad,by lia,by lia,by show 1*(((x.pb b).length:Nat):Int).toNat<=_;lia,λr6 b6=>?_⟩;have s6:=s5.trans (Same.new (o:=.lst (List.replicate (((x.pb b).length:Nat):Int).toNat [V.int 1]).flatten) b6);have e6:(List.replicate (((x.pb b).length:Nat):Int).toNat [V.int 1]).flatten=(List.replicate (x.pb b).length (1:Int)).map V.int:=by rw[jr,Int.toNat_natCast,List.map_replicate]
  refine wt (kc (s6 _ _ v)) (kc (by rw[ad,<- e6])) (g8 (fQ _)) (by decide) ?_;exact q _ ((s1.t.trans t2).trans (t3.trans (s4.trans s6).t)) (hT3.same (s4.trans s6))
end
end My
namespace Tb
open FrM Du LexM
theorem yf:∀ w,w<=3->∀ N,N<=61->Dpo w N<=2 ^ 60:=by decide +kernel
structure PsAll(m c1 c2:Nat):Prop where
 dk:Dk (2*min m (c1+c2)) (pS (min m (c1+c2)) c1 (min m c1) c2 (min m c2))
 ok:Ok (pS (min m (c1+c2)) c1 (min m c1) c2 (min m c2))
 few:∀ L:List (List Int),L.Nodup->(∀ k∈L,k∈(toR (kW (wl (pS (min m (c1+c2)) c1 (min m c1) c2 (min m c2)) 1 1))).map (·.1))->L.length<64
 pos:0<Dpo (min m (c1+c2)) (c1+c2)
 lm:Dpo (min m (c1+c2)) (c1+c2)<=Lm2
 ch:∀ w∈wl (pS (min m (c1+c2)) c1 (min m c1) c2 (min m c2)) 1 1,Ch ((Dpo (min m (c1+c2)) (c1+c2):Nat):Int) w.2
 lv:lv (pS (min m (c1+c2)) c1 (min m c1) c2 (min m c2))<=4096
theorem pS_all{m c1 c2:Nat}(g:m<=3)(f:c1<=30)(h2:c2<=30)(a:Pq (min m (c1+c2)) c1 (min m c1) c2 (min m c2)):PsAll m c1 c2:=by
 have b:=p8 _ a.pv;refine⟨sE _ a.pv (by rw[rng_len];lia) (by rw[rnf_len];lia) (by lia) (by lia),b,λL c d=>?_,qW _ _ (by lia),?_,zo a.pv (by rw[rng_len];lia) (by rw[rnf_len];lia),?_⟩
 .refine sb_few (N:=min m c1+min m c2) (w:=min m (c1+c2)) (by lia) (by lia) c λk h=>qy a ?_
  have:=d k h;exact((qa b).map _).mem_iff.mp this
 .refine Nat.le_trans (yf _ (by lia) _ (by lia)) ?_
  unfold Lm2;exact Nat.pow_le_pow_right (by decide) (by decide)
 .refine Nat.le_trans (vd (K:=6) _ a.pv (by rw[rng_len,rnf_len];lia)) ?_
  exact Nat.le_trans (Nat.pow_le_pow_right (by decide) (show _<=3 by lia)) (by decide)
end Tb
namespace My
open PySem L2 FrM LexM
open Tb (Tr pN cL wo Pv rng rnf pS Rws)
theorem sV{a:Ad}{c:List Addr}{H:Hp}(b:∀ q∈tabs a,q.1∈c)(h:∀ P∈c,H P=some (.tbl #[])):TabsOk (tabs a) H:=λq d=>⟨#[],h _ (b q d),trivial,λ_ _=>.inl rfl⟩
theorem xW{K:Frag}{H a:Hp}{p:Addr}{xs:List V}(e:SameT H a)(h:SqL K H p xs):SqL K a p xs:=by
 rcases h with(h | ⟨o,h⟩) | h
 .exact .inl (.inl (e.at h))
 .exact .inl (.inr ⟨o,e.at h⟩)
 .exact .inr h
theorem vD{xs:List V}{lo a:Option Int}{x:V}(h:x∈dY xs lo a):x∈xs:=List.mem_of_mem_drop (List.mem_of_mem_take h)
abbrev lawK:Nat:=20
section
variable {H:Hp}{x C dx:Addr}{f1 f2 f3:Str×V}
theorem ut{b:Addr}{o:HO}(c:H x=some (.ins C dx [f1,f2,f3]))(a:H b=some o)(n:o≠.ins C dx [f1,f2,f3]):untrs H [x] b=some o:=by
 rw[bb λz=>?_]
 .exact a
 .rw[mem_singleton.mp z,c]at a
  exact n (Option.some.inj a).symm
theorem mr(b:H x=some (.ins C dx [f1,f2,f3])){a:List (Str×Addr)}{vs:List V}(h:CellsAt H a vs):CellsAt (untrs H [x]) a vs:=by
 induction h with
 | nil=>exact .nil
 | cons r _ ih=>exact .cons (ut b r (λz=>nomatch z)) ih
theorem kX(a:H x=some (.ins C dx [f1,f2,f3])){d:LamD}{g:List Str}{f:V}{b:List V}(h:IsLam H d g f b):IsLam (untrs H [x]) d g f b:=by
 obtain⟨l,c,n,o,k,p,i,j,q⟩:=h;exact⟨l,c,n,o,ut a k (λz=>nomatch z),ut a p (λz=>nomatch z),i,j,mr a q⟩
theorem xt(a:H x=some (.ins C dx [f1,f2,f3])){b d c:V}{w:Nat}{y:Pd}(h:Pw H b d c w y):Pw (untrs H [x]) b d c w y:=by
 obtain⟨⟨v,p,k,n,r⟩,⟨o,q,g,l,i⟩,⟨u,j,s⟩,f⟩:=h;exact⟨⟨v,p,k,ut a n (λz=>nomatch z),ut a r λz=>nomatch z⟩,⟨o,q,g,ut a l (λz=>nomatch z),ut a i λz=>nomatch z⟩,⟨u,j,ut a s λz=>nomatch z⟩,f⟩
theorem zk{j:Nat}(a:H x=some (.ins C dx [f1,f2,f3])){go:V}{g:Int->Tr}{ps:List Int}(h:IsGo j H go g ps):IsGo j (untrs H [x]) go g ps:=by
 obtain⟨b,f,d,w,y,c,h⟩:=h;exact⟨b,f,d,w,y,xt a c,h.imp (λh=>⟨kX a h.1,h.2⟩) λh=>⟨kX a h.1,h.2⟩⟩
theorem Ao(a:H x=some (.ins C dx [f1,f2,f3])){f:V}{t:Tr}(h:IsMk H f t):IsMk (untrs H [x]) f t:=by
 rcases h with⟨d,n,k,w,y,i,h⟩ | ⟨l,c,o,E,p,g,D,r,q,j,u,B,b,s,A⟩
 .exact .inl ⟨d,n,k,w,y,xt a i,h.imp (λh=>⟨kX a h.1,h.2⟩) λh=>⟨kX a h.1,h.2⟩⟩
 .refine .inr ⟨l,c,o,E,p,g,D,r,ut a q (λz=>nomatch z),ut a j (λz=>nomatch z),u,B,mr a b,?_,A⟩
  rw[cX];exact zk (bR b a λv z=>nomatch z) s
theorem zH{a:Ad}(b:H x=some (.ins C dx [f1,f2,f3])){v:V}:∀{t:Tr},IsNd a H v t->IsNd a (untrs H [x]) v t
 | .leaf _,h=>by
  obtain⟨y,d,t,k,i,g,c,j⟩:=h;exact⟨y,d,t,k,i,ut b g (λz=>nomatch z),ut b c (λz=>nomatch z),j⟩
 | .die _,h=>by
  obtain⟨y,d,l,o,i,g,c,j,n⟩:=h;exact⟨y,d,l,o,i,ut b g (λz=>nomatch z),ut b c (λz=>nomatch z),az (λpt z r=>let ⟨q,f,r1,r2,r3,r4⟩:=r;⟨q,f,r1,ut b r2 (λz=>nomatch z),r3,Ao b r4⟩) j,n⟩
theorem vB{d:oe}{h:Hp}(g:H x=some (.ins C dx [f1,f2,f3]))(i:SB x H h)(k:TabsOk d H):TabsOk d h:=λq n=>by
 obtain⟨o,f,j,p⟩:=k q n;exact⟨o,i _ _ (λz=>by rw[z,g]at f;cases f) f,j,λl hl=>(p l hl).imp id λ⟨c,a,b⟩=>⟨c,a,i _ _ (λz=>by rw[z,g]at b;cases b) b⟩⟩
end
theorem SB.un{x:Addr}{H a:Hp}(d:SB x H a):SameT (untrs H [x]) a:=λb o e=>by
 obtain⟨n,c⟩:=aA e;have:=d b o (λz=>n (by rw[z];exact mem_singleton.mpr rfl)) c;exact⟨λ_=>this,o,this⟩
structure Pt(a:Ad)(H:Hp)(x:Addr)(m c:Nat)(ts:List Str):Prop where
 at_:∃ h,PotAt a H x h (m:Nat) (c:Nat) ts
 ok:Okp (m:Nat) (c:Nat) ts
 nm:Nms ts
theorem PotAt.t{a:Ad}{H b:Hp}{x h:Addr}{m n:Int}{c:List Str}(s:SameT H b)(p:PotAt a H x h m n c):PotAt a b x h m n c:=⟨let ⟨dx,e⟩:=p.at_;⟨dx,s.at e⟩,s.at p.held⟩
theorem Pt.t{a:Ad}{H b:Hp}{x:Addr}{m c:Nat}{d:List Str}(s:SameT H b)(p:Pt a H x m c d):Pt a b x m c d:=⟨let ⟨h,e⟩:=p.at_;⟨h,e.t s⟩,p.ok,p.nm⟩
theorem vv{m c:Nat}{a:List Str}{t:Str}{i:Int}(h:Okp (m:Nat) (c:Nat) a)(g:c<300):Okp (m:Nat) ((c+1:Nat):Int) (nxt (m:Nat) a t i):=by
 have k:=cD h;obtain⟨d,b,f,l,j⟩:=h;refine⟨d,b,by lia,by lia,?_⟩;show((iN _ _ _ _).length:Int)=_;unfold iN
 by_cases c1:(a.length:Int)<(m:Int)
 .rw[if_pos c1,length_append]
  show((a.length+1:Nat):Int)=_
  split <;> lia
 .rw[if_neg c1]
  split <;> (first | rw[length_set] | skip) <;> split <;> lia
theorem zV{K:Frag}{H c:Hp}{x C dx:Addr}{d f g:Str×V}{p:Addr}{xs:List V}(b:H x=some (.ins C dx [d,f,g]))(a:SB x H c)(h:SqL K H p xs):SqL K c p xs:=by
 rcases h with(h | ⟨o,h⟩) | h
 .exact .inl (.inl (a _ _ (λe=>by rw[e,b]at h;cases h) h))
 .exact .inl (.inr ⟨o,a _ _ (λe=>by rw[e,b]at h;cases h) h⟩)
 .exact .inr h
theorem xu:eY "q" = true:=by decide +kernel
section
variable {P:Program}{w:World}{K:Frag}{mg:Str->Option Value}{base:Heap}{a:Ad}
theorem qw{H:Hp}{l r:Addr}{R b:Rws}{ys a:List V}{Q:VK}(e:b=R)(g:H l=some (.lst ys))(f:Paired (RowR K H) R ys)(i:H r=some (.lst a))(c:Paired (RowR K H) b a)(q:Q (.bl false) H):rEqD K true (.ref l) (.ref r) H Q:=by
 subst e;exact lF (d:=xf b) (kS g (vi (λx y h=>uy h) f)) (kS i (vi (λx y h=>uy h) c)) (wg b) (by decide) q
theorem ok_law{ts:List Addr}(T:Txt K mg a)(hB:Bm mg base)(eq:∀ q∈tabs a,q.1∈ts):FnOk P w K mg base CX0 lawK a.f_ac a.d_ac ["_law_script"] (spLaw K ts):=by
 have c6:FnOk P w K mg base CX0 19 _ _ _ _:=(wv T).mono (by decide);have c8:FnOk P w K mg base CX0 19 _ _ _ _:=(pj T).mono (by decide);have bl:FnOk P w K mg base CX0 19 _ _ _ _:=(qe T).mono (by decide);have dz:FnOk P w K mg base CX0 18 _ _ _ _:=(pi T).mono (by decide);have ep:FnOk P w K mg base CX0 19 _ _ _ _:=(gq (iV T)).mono (by decide);have c':FnOk P w K mg base CX0 19 _ _ _ _:=(yh T).mono (by decide);have fp:FnOk P w K mg base CX0 19 _ _ _ _:=(vX T).mono (by decide);have ft:FnOk P w K mg base CX0 19 _ _ _ _:=(ug T).mono (by decide);have f0:FnOk P w K mg base CX0 19 _ _ _ _:=(tS T hB).mono (by decide);have cP:FnOk P w K mg base CX0 19 _ _ _ _:=(oS T hB).mono (by decide);have fL:FnOk P w K mg base CX0 19 _ _ _ _:=(uo T).mono (by decide);have er:FnOk P w K mg base CX0 19 _ _ _ _:=(oU T).mono (by decide);have de:FnOk P w K mg base CX0 19 _ _ _ _:=(gq (kI T hB)).mono (by decide);have ea:FnOk P w K mg base CX0 19 _ _ _ _:=(gq (vf T hB)).mono (by decide);have fP:FnOk P w K mg base CX0 19 _ _ _ _:=(gq (sB T hB)).mono (by decide);refine T.F_ac.ok sc_ac (λvs H Q E h=>?_) (λcdv A outer s H vs Q E hr h=>?_)
 .obtain⟨p,B,rfl,_⟩:=h;rfl
 .obtain⟨p,B,rfl,hS,bo,ei,q⟩:=h
  have D:sizeLine=16777216:=sizeLine_eq;have hT:=sV eq ei
  refine⟨_,(af (aw (i:=1) sc_ac.nd rfl (Or.inl rfl) (bz eE (ar dD (aq c6 hr rfl T.m_H T.F_H.kp T.B_H .nil ao (aa (vr 0) (aa ah ae))) ah) ah (au _))) (af (jN (aq c8 hr rfl T.m_z T.F_z.kp T.B_z .nil ao (aa (aq c6 hr rfl T.m_H T.F_H.kp T.B_H .nil ao (aa (vr 0) (aa ah ae))) (aa (vr 1) (aa (aR (fM ah (fM ah (fM ah (fM ah (fM ah ae)))))) ae)))) (yI rfl (aE (ay (i:=2) sc_ac.nd rfl (Or.inl rfl)) (aE (ay (i:=3) sc_ac.nd rfl (Or.inl rfl)) (aE (ay (i:=4) sc_ac.nd rfl (Or.inl rfl)) (aE (ay (i:=5) sc_ac.nd rfl (Or.inl rfl)) (aE (ay (i:=6) sc_ac.nd rfl (Or.inl rfl)) cJ))))))) (af (aw (i:=2) sc_ac.nd rfl (Or.inl rfl) (ar b7 (vr 2) ah)) (cH (ba (aM jX (vr 6) ah (au _)) (ak (aw (i:=2) sc_ac.nd rfl (Or.inl rfl) (ar b7 (vr 3) ah))) aD) (af (aw (i:=7) sc_ac.nd rfl (Or.inl rfl) (aq bl hr rfl T.m_G T.F_G.kp T.B_G .nil ao (aa (vr 2) (aa (vr 4) (aa ah ae))))) (af (aw (i:=8) sc_ac.nd rfl (Or.inl rfl) (aq bl hr rfl T.m_G T.F_G.kp T.B_G .nil ao (aa (vr 2) (aa (vr 5) (aa ah ae))))) (af (aw (i:=9) sc_ac.nd rfl (Or.inl rfl) (aq de hr rfl T.m_J T.F_J.kp T.B_J .nil ao (aa (vr 7) (aa (vr 8) ae)))) (cH (ba (PW.pt (d3 (aM j3 (vr 2) ah (au _)) (dS (aM (jL hr.units) (aq ea hr rfl T.m_W T.F_W.kp T.B_W .nil ao (aa (vr 9) ae)) (aq c' hr rfl T.m_T T.F_T.kp T.B_T .nil ao (aa (vr 2) (aa (aR (aa (vr 4) (aa (vr 5) ae))) ae))) (au _))))) (ak (ax dG)) aD) (af (ba (dF (dR (aq f0 hr rfl T.m_O T.F_O.kp T.B_O .nil ao (aa (vr 9) (aa (vr 2) (aa (aR (aa (vr 4) (aa (vr 5) ae))) ae)))))) (ak (ax dG)) aD) (cH (ba (aM eE (ar dD (vr 6) ah) ah (au _)) (af (bA (eL (vr 7) T.cl_c T.mt_v ep hr T.B_v .nil ao (aa dN (aa ah ae)))) (ak (aw (i:=4) sc_ac.nd rfl (Or.inl rfl) (ar b7 (vr 4) ah)))) aD) (af (fK PassesOwn.never rfl (b9 (ar dL (gH i7 (vr 0) (gO ah) (gO ah)) (aR (aa ah ae)))) (ay (i:=10) sc_ac.nd rfl (Or.inl rfl)) (af (jN (aq fp hr rfl T.m_M T.F_M.kp T.B_M .nil ao (aa (vr 2) (aa (aR (aa (vr 4) (aa (vr 5) ae))) (aa (aq c8 hr rfl T.m_z T.F_z.kp T.B_z .nil ao (aa (vr 10) (aa (vr 1) (aa (ar sM (aR (aa ah ae)) (ar cY ah (vr 2))) ae)))) ae)))) (gA rfl (aE (ay (i:=11) sc_ac.nd rfl (Or.inl rfl)) (aE (ay (i:=12) sc_ac.nd rfl (Or.inl rfl)) cJ)))) (ak (ba (PW.pt (jC (aM (jL hr.units) (aq fP hr rfl T.m_Z T.F_Z.kp T.B_Z .nil ao (aa (aq de hr rfl T.m_J T.F_J.kp T.B_J .nil ao (aa (vr 7) (aa (vr 8) ae))) (aa (vr 11) ae))) (vr 12) (au _)) (io (dF (dR (aq ft hr rfl T.m_U T.F_U.kp T.B_U .nil ao (aa (vr 7) (aa (vr 8) (aa (vr 12) ae))))))))) (ak (ax dG)) aD)))) (cH (ba (PW.pt (d3 (aM j3 (vr 2) ah (au _)) (d3 (aM eE (ar dD (vr 6) ah) ah (au _)) (dS (aM (jL hr.units) (aq ea hr rfl T.m_W T.F_W.kp T.B_W .nil ao (aa (vr 9) ae)) (aq c' hr rfl T.m_T T.F_T.kp T.B_T .nil ao (aa (vr 2) (aa (aR (aa (ar gv (vr 4) ah) (aa (vr 5) ae))) ae))) (au _)))))) (ak (ax dG)) aD) (af (ba (PW.pt (jC (dF (dR (aq cP hr rfl T.m_y T.F_y.kp T.B_y .nil ao (aa (vr 7) (aa (eN T.mk_c dz hr rfl T.mc_c T.Bi_c .nil ao (aa (ar b7 ah (ar dD (vr 2) ah)) ae)) ae))))) (io (dF (dR (aq cP hr rfl T.m_y T.F_y.kp T.B_y .nil ao (aa (eN T.mk_c dz hr rfl T.mc_c T.Bi_c .nil ao (aa (ar b7 ah (ar dD (vr 2) ah)) ae)) (aa (vr 8) ae)))))))) (ak (ax dG)) aD) (cH (ba (PW.pt (d3 (aM eE (vr 6) ah (au _)) (dS (dF (dR (aq cP hr rfl T.m_y T.F_y.kp T.B_y .nil ao (aa (aq bl hr rfl T.m_G T.F_G.kp T.B_G .nil ao (aa (vr 2) (aa ah (aa ah ae)))) (aa (aq bl hr rfl T.m_G T.F_G.kp T.B_G .nil ao (aa (ar b7 ah (ar dD (vr 2) ah)) (aa ah (aa ah ae)))) ae)))))))) (ak (ax dG)) aD) (cH (ba (PW.pt (d3 (aM eE (vr 6) ah (au _)) (dS (dF (dR (aq er hr rfl T.m_A T.F_A.kp T.B_A .nil ao (aa (vr 2) (aa (ar b7 ah (vr 4)) (aa (ar b7 ah (vr 5)) ae))))))))) (ak (ax dG)) aD) (ak (ax (aq fL hr rfl T.m_P T.F_P.kp T.B_P .nil ao (aa (vr 7) (aa (vr 8) (aa (vr 12) ae))))))))))))))))))))),jz ?_⟩
  intro ge f9 f7;refine⟨p,B,0,rfl,hS,bo,by decide,by decide,⟨cp,?_⟩⟩;dsimp only[tC,u8];generalize (if false=true then !decide (qK B 0 % 2=1) else decide (qK B 0 % 2=1))=d;refine dB (σ':=[some (.ref p),some (.bl d),none,none,none,none,none,none,none,none,none,none,none]) rfl ?_;refine⟨p,B,1,rfl,hS,bo,by decide,by decide,⟨by rw[D];exact show(5:Nat)<=_ by decide,λpb dt=>⟨_,d,pb,[4,24,31,31,16],rfl,ad,by decide,by decide,λH1 l1 ns1 s1 f1 hl1 hB'=>?_⟩⟩⟩;have a7:=(Same.new (o:=.lst [.int 4,.int 24,.int 31,.int 31,.int 16]) dt).trans s1
  rcases hB' with _ | ⟨h1,_ | ⟨h2,_ | ⟨h3,_ | ⟨h4,_ | ⟨h5,hn⟩⟩⟩⟩⟩
  cases hn;rename_i mo wi fi se far;refine⟨l1,_,rfl,SqL.of hl1,rfl,_,_,rfl,_,_,rfl,_,_,rfl,_,_,rfl,_,_,rfl,rfl,?_⟩
  obtain⟨c1,rfl,c30⟩:∃ c:Nat,fi=(c:Int)/\c<=30:=⟨fi.toNat,by have:=h3.1;lia,by have:=h3.2;lia⟩
  obtain⟨c2,rfl,d30⟩:∃ c:Nat,se=(c:Int)/\c<=30:=⟨se.toNat,by have:=h4.1;lia,by have:=h4.2;lia⟩
  refine dB (σ':=[some (.ref p),some (.bl d),some (.int mo),some (.int wi),some (.int (c1:Nat)),some (.int (c2:Nat)),some (.int far),none,none,none,none,none,none]) rfl ?_;refine⟨(λσ' H'=>H'=H1/\∃ m:Nat,1<=m/\m<=24/\σ'=[some (.ref p),some (.bl d),some (.int (m:Nat)),some (.int wi),some (.int (c1:Nat)),some (.int (c2:Nat)),some (.int far),none,none,none,none,none,none]),?_,?_⟩
  .refine ifC (λz=>?_) λz=>?_
   .obtain⟨m,em⟩:∃ m:Nat,wi+1=(m:Int):=⟨(wi+1).toNat,by have:=h2.1;lia⟩
    refine⟨rfl,m,by have:=h2.1;lia,by have:=h2.2;lia,?_⟩;rw[<- em];rfl
   .obtain⟨m,em⟩:∃ m:Nat,mo+1=(m:Int):=⟨(mo+1).toNat,by have:=h1.1;lia⟩
    refine⟨rfl,m,by have:=h1.1;lia,by have:=h1.2;lia,?_⟩;rw[<- em];rfl
  rintro σ' H' ⟨rfl,m,m1,O,rfl⟩;have d2:=hT.same a7;have dK:=xW a7.t hS;have ga:=a7.t;clear s1 a7 hl1 f1 dt hT ei hS;refine jz ?_;intro f' gb gk;refine⟨m,c1,0,rfl,m1,O,by lia,by lia,λH2 x h a6 s2 fx hp c4 dk=>?_⟩;refine dB (σ':=[some (.ref p),some (.bl d),some (.int (m:Nat)),some (.int wi),some (.int (c1:Nat)),some (.int (c2:Nat)),some (.int far),some (.ref x),none,none,none,none,none]) rfl ?_;refine⟨m,c2,12,rfl,m1,O,by lia,by lia,λH3 y h' l s3 fy b6 ca W=>?_⟩;refine dB (σ':=[some (.ref p),some (.bl d),some (.int (m:Nat)),some (.int wi),some (.int (c1:Nat)),some (.int (c2:Nat)),some (.int far),some (.ref x),some (.ref y),none,none,none,none]) rfl ?_;have en:x≠y:=λe=>by obtain⟨_,z⟩:=hp.at_;rw[<- e,z]at fy;cases fy
  have dT:=(s2.trans s3).t;have c5:=d2.same (s2.trans s3);refine⟨x,h,y,h',m,c1,m,c2,a6,l,rfl,hp.same s3,b6,c4,ca,c5,(λz=>absurd rfl z),λ_ H4 u t4 Z hN=>?_⟩;refine dB (i:=9) (v:=u) (σ:=[some (.ref p),some (.bl d),some (.int (m:Nat)),some (.int wi),some (.int (c1:Nat)),some (.int (c2:Nat)),some (.int far),some (.ref x),some (.ref y),none,none,none,none]) (σ':=[some (.ref p),some (.bl d),some (.int (m:Nat)),some (.int wi),some (.int (c1:Nat)),some (.int (c2:Nat)),some (.int far),some (.ref x),some (.ref y),some u,none,none,none]) rfl ?_
  have P1:Pt a H4 x m c1 a6:=⟨⟨h,(hp.same s3).t t4⟩,c4,dk⟩
  have P2:Pt a H4 y m c2 l:=⟨⟨h',b6.t t4⟩,ca,W⟩
  have c7:=xW (dT.trans t4) dK;clear hp b6 fx fy s2 s3 t4 c5 d2 dK dT;refine⟨λσ' H5=>SameT H4 H5/\TabsOk (tabs a) H5/\σ'=[some (.ref p),some (.bl d),some (.int (m:Nat)),some (.int wi),some (.int (c1:Nat)),some (.int (c2:Nat)),some (.int far),some (.ref x),some (.ref y),some u,none,none,none],?_,?_⟩
  .refine ifC (λz=>?_) λz=>⟨SameT.refl,Z,rfl⟩
   have z:m<4:=by have z:((m:Nat):Int)<4:=z;lia
   have g:=Tb.pS_all (m:=m) (c1:=c1) (c2:=c2) (by lia) c30 d30 (jM (by lia));refine⟨u,_,_,Tb.Dpo (min m (c1+c2)) (c1+c2),rfl,hN,g.dk,by lia,g.ok,g.few,g.pos,g.lm,g.ch,Z,λ_ H6 l6 R f5 t6 al e9 c0 cB X eD=>?_,λz=>absurd g.lv (by lia)⟩;refine⟨b8 _ _,λlc r=>?_⟩;have sb:=Same.new (o:=.lst [.int (c1:Nat),.int (c2:Nat)]) r;refine⟨lc,m,c1,c2,rfl,by rw[ad],m1,by lia,c30,d30,λH8 l8 R8 ex s8 cG b5 bT cc co=>?_⟩;have eR:=Tb.pS_tab (jM (by lia)) X bT cc co;have n:=sb.trans s8;refine qw eR (n _ _ c0) (az (RowR.tk (Same.tk n)) cB) cG b5 ?_;exact⟨t6.trans n.t,al.same n,rfl⟩
  rintro σ' H5 ⟨t5,a5,rfl⟩;refine⟨b8 _ _,λlc r=>?_⟩;have s6:=Same.new (o:=.lst [.int (c1:Nat),.int (c2:Nat)]) r;refine⟨u,lc,m,c1,c2,rfl,hN.t (t5.trans s6.t),ad,m1,O,by lia,by lia,a5.same s6,λH7 t7 a0=>?_⟩;have an:=(t5.trans s6.t).trans t7;have N7:=hN.t an;have cA:=P1.t an;have ct:=P2.t an;have cx:=xW an c7;clear t5 a5 t7 an s6 r hN P1 P2 c7 Z lc;refine⟨(λσ' H8=>∃(j:Nat) (f:List Str),j<=31/\Pt a H8 x m j f/\Pt a H8 y m c2 l/\TabsOk (tabs a) H8/\IsNd a H8 u (pS (min m (c1+c2)) c1 (min m c1) c2 (min m c2))/\SqL K H8 p (B.map V.int)/\(far % 4=1->j=c1+1)/\σ'=[some (.ref p),some (.bl d),some (.int (m:Nat)),some (.int wi),some (.int (j:Nat)),some (.int (c2:Nat)),some (.int far),some (.ref x),some (.ref y),some u,none,none,none]),?_,?_⟩
  .refine⟨cp,ifC (λz=>?_) λz=>?_⟩
   .have z:far % 4=1:=z
    obtain⟨⟨e0,d'⟩,as,fG⟩:=id cA;obtain⟨⟨dx,hx⟩,_⟩:=id d';refine⟨x,dx,_,rfl,hx,rfl,?_⟩;refine⟨x,e0,_,_,a6,.str "q",.int 0,.s "q",.i 0,rfl,d',as,.str "q" (by decide +kernel) (by decide +kernel),.int 0,(λe=>by have:nmK (.s "q")=true:=xu;rw[this]at e;cases e),(λ_ e=>by lia),(λ_ _ e=>?_),λ_ _ _ H9 h9 sb hp9 _=>?_⟩
    .have:inK 0 (sides (m:Nat) (c1:Nat) - 1) (.i 0)=true:=decide_eq_true ⟨Int.le_refl 0,by unfold sides;split <;> lia⟩
     rw[this]at e;cases e
    have ec:(c1:Int)+1=((c1+1:Nat):Int):=by lia
    refine⟨c1+1,_,by lia,⟨⟨h9,by rw[<- ec];exact hp9⟩,vv as (by lia),jj fG xu⟩,?_,vB hx sb a0,(zH hx N7).t sb.un,zV hx sb cx,λ_=>rfl,by rw[<- ec];rfl⟩;obtain⟨⟨eT,M⟩,F,bm⟩:=id ct;obtain⟨⟨dy,hy⟩,cW⟩:=id M;exact⟨⟨eT,⟨dy,sb _ _ (Ne.symm en) hy⟩,sb _ _ (λe=>by rw[e,hx]at cW;cases cW) cW⟩,F,bm⟩
   .have z:¬far % 4=1:=z
    exact⟨c1,a6,by lia,cA,ct,a0,N7,cx,λe=>absurd e z,rfl⟩
  rintro σ' H8 ⟨j,f,f6,ed,ej,f4,N8,dr,ek,rfl⟩;clear cA ct a0 N7 cx c4 dk ca W;obtain⟨⟨a9,bg⟩,ab,d0⟩:=id ed;obtain⟨⟨a',M⟩,F,bm⟩:=id ej;have lx:=cD ab;have ly:=cD F;refine⟨_,rfl,_,rfl,_,_,rfl,dr,λr1 a3=>?_⟩;refine⟨by rw[D];exact show(1:Nat)<=_ by decide,λr2 dl=>?_⟩;have b1:=Same.new (o:=.lst (dY (B.map V.int) (some 2) (some 42))) a3;have b2:=Same.new (o:=.lst [.int 0]) dl;have cl:=iI (B.map V.int) (some 2) (some 42);rw[length_map]at cl;refine⟨r1,r2,_,_,rfl,rfl,b2 _ _ ad,ad,by show _+1<=sizeLine;lia,λr3 a8=>?_⟩;have b3:=(b1.trans b2).trans (Same.new (o:=.lst (dY (B.map V.int) (some 2) (some 42)++[.int 0])) a8);have Y:(upd (upd (upd H8 r1 (.lst (dY (B.map V.int) (some 2) (some 42)))) r2 (.lst [.int 0])) r3 (.lst (dY (B.map V.int) (some 2) (some 42)++[.int 0]))) r3=some (.lst (dY (B.map V.int) (some 2) (some 42)++[.int 0])):=ad
  have cT:∀ x∈dY (B.map V.int) (some 2) (some 42)++[.int 0],∃ c:Int,x=.int c:=λx hx=>by
   rcases mem_append.mp hx with h | h
   .obtain⟨c,_,rfl⟩:=mem_map.mp (vD h);exact⟨c,rfl⟩
   .exact⟨0,mem_singleton.mp h⟩
  have df:0<(dY (B.map V.int) (some 2) (some 42)++[V.int 0]).length:=by rw[length_append];exact Nat.succ_pos _
  generalize dY (B.map V.int) (some 2) (some 42)++[V.int 0]=cs at b3 Y cT df;generalize upd (upd (upd H8 r1 (.lst (dY (B.map V.int) (some 2) (some 42)))) r2 (.lst [.int 0])) r3 (.lst cs)=HA at b3 Y;refine .inl ⟨⟨_,SqL.of Y⟩,?_⟩
  let Pw1:PvS:=λi σ H'=>SameT HA H'/\TabsOk (tabs a) H'/\∃(S N a4:Option V),(0<i->∃(kt:Addr) (I:List Int),a4=some (.ref kt)/\H' kt=some (.tup (I.map V.int))/\I.length<=24/\∀ k∈I,0<=k/\k<((f++l).length:Int))/\σ=[some (.ref p),some (.bl d),some (.int (m:Nat)),some (.int wi),some (.int (j:Nat)),some (.int (c2:Nat)),some (.int far),some (.ref x),some (.ref y),some u,S,N,a4]
  refine jh (K:=K) (a:=r3) (xs:=cs) Pw1 ⟨SameT.refl,f4.same b3,none,none,none,(λh=>absurd h (by decide)),rfl⟩ (λi σ H' _ h=>SqL.of (h.1.at Y)) ?_ ?_
  .rintro i yv σ H' es ⟨ef,eu,S,N,a4,_,rfl⟩
   obtain⟨c,rfl⟩:=cT yv (List.mem_of_getElem? es);have fI:=b3.t.trans ef;refine⟨b8 _ _,λlc r=>?_⟩;have e1:=Same.new (o:=.lst [.int (j:Nat),.int (c2:Nat)]) r;have dd:=ad (H:=H') (a:=lc) (o:=.lst [.int (j:Nat),.int (c2:Nat)]);generalize upd H' lc (.lst [.int (j:Nat),.int (c2:Nat)])=U1 at e1 dd;refine⟨by rw[D];exact show(1:Nat)<=_ by decide,λr5 fd=>?_⟩;have e2:=Same.new (o:=.lst [V.int 27720]) fd;refine⟨clB,⟨r5,_,_,rfl,rfl,ad,by lia,by lia,by show 1*(2*(m:Int)).toNat<=_;lia,λr6 fh=>?_⟩⟩;have e3:=e2.trans (Same.new (o:=.lst (List.replicate (2*(m:Int)).toNat [V.int 27720]).flatten) fh);have dm:(upd (upd U1 r5 (.lst [V.int 27720])) r6 (.lst (List.replicate (2*(m:Int)).toNat [V.int 27720]).flatten)) r6=some (.lst ((List.replicate (2*m) (27720:Int)).map V.int)):=by rw[ad,jr,show(2*(m:Int)).toNat=2*m by lia,List.map_replicate]
   generalize upd (upd U1 r5 (.lst [V.int 27720])) r6 (.lst (List.replicate (2*(m:Int)).toNat [V.int 27720]).flatten)=U3 at e3 dm;refine⟨c,d,r6,_,rfl,dm,by rw[List.length_replicate];lia,(λb hb=>by rw[List.eq_of_mem_replicate hb];decide),λU4 ln ns4 e4 fl4 hln hB4=>?_⟩;have e7:=Paired.length hB4;rw[List.length_replicate]at e7;refine⟨lc,ln,m,j,c2,ns4,rfl,(e3.trans e4) _ _ dd,hln,by lia,m1,O,by lia,by lia,λU5 pt lt kt ev I e5 f3 fC eS bS kl cC=>?_⟩;refine⟨pt,_,rfl,SqT.of f3,rfl,_,_,rfl,_,_,rfl,rfl,?_⟩;have cj:=(e1.trans e3).trans (e4.trans e5);have cy:=fI.trans cj.t;have a5:=eu.same cj;refine⟨x,a9,y,a',m,j,m,c2,f,l,rfl,bg.t cy,M.t cy,ab,F,a5,(λz=>absurd rfl z),λ_ U6 u6 t6 al hN6=>?_⟩;refine⟨u6,lt,_,I,ev,rfl,hN6,t6.at fC,eS,al,λU7 gc t7 a0 dv=>?_⟩;have G:=(t6.trans t7).at bS;refine lF (pc dv) (pc G) (xS _) (by decide) ?_;have ds:=cy.trans (t6.trans t7);have sl:(Tb.so I).length=I.length:=(Tb.so_perm I).length_eq
   have bn:∀ k∈Tb.so I,0<=k/\k<((f++l).length:Int):=λk hk=>by
    have:=cC k ((Tb.so_perm I).mem_iff.mp hk);rw[length_append,lx,ly];exact this
   refine⟨x,a9,y,a',kt,m,j,c2,f,l,Tb.so I,rfl,bg.t ds,M.t ds,ab,F,d0,bm,by lia,G,by rw[sl];exact kl,bn,λU8 e8=>?_⟩;exact⟨ef.trans (cj.t.trans ((t6.trans t7).trans e8.t)),a0.same e8,_,_,_,(λ_=>⟨kt,Tb.so I,rfl,e8 _ _ G,by lia,bn⟩),rfl⟩
  rintro σ H9 ⟨t9,b0,S,N,a4,bt,rfl⟩;obtain⟨kt,I,rfl,bS,kl,cC⟩:=bt df;have b4:=b3.t.trans t9;have N9:=N8.t b4;have d1:=bg.t b4;have eb:=M.t b4;clear b1 b2 b3 Y cT a3 dl a8 t9 dr N8 ed ej bg M bt;refine⟨(λσ' HB=>SameT H9 HB/\TabsOk (tabs a) HB/\σ'=[some (.ref p),some (.bl d),some (.int (m:Nat)),some (.int wi),some (.int (j:Nat)),some (.int (c2:Nat)),some (.int far),some (.ref x),some (.ref y),some u,S,N,some (.ref kt)]),?_,?_⟩
  .refine ifC (λz=>?_) λz=>⟨SameT.refl,b0,rfl⟩
   have z:m<4:=by have z:((m:Nat):Int)<4:=z;lia
   refine⟨cp,ifC (λz2=>?_) λz2=>⟨SameT.refl,b0,rfl⟩⟩;obtain rfl:=ek z2;have g:=Tb.pS_all (m:=m) (c1:=c1) (c2:=c2) (by lia) c30 d30 (jM (by lia));refine⟨u,_,_,Tb.Dpo (min m (c1+c2)) (c1+c2),rfl,N9,g.dk,by lia,g.ok,g.few,g.pos,g.lm,g.ch,b0,λ_ H6 l6 R f5 t6 al e9 c0 cB X eD=>?_,λz=>absurd g.lv (by lia)⟩;refine⟨b8 _ _,λlc r=>?_⟩;have sb:=Same.new (o:=.lst [.int (((c1+1:Nat):Int) - 1),.int (c2:Nat)]) r;refine⟨lc,m,c1,c2,rfl,by rw[ad];exact congrArg (λi=>some (HO.lst [V.int i,V.int (c2:Nat)])) (show(((c1+1:Nat):Int) - 1)=(c1:Int) by lia),m1,by lia,c30,d30,λH8 l8 R8 ex s8 cG b5 bT cc co=>?_⟩;have eR:=Tb.pS_tab (jM (by lia)) X bT cc co;have n:=sb.trans s8;refine qw eR (n _ _ c0) (az (RowR.tk (Same.tk n)) cB) cG b5 ?_;exact⟨t6.trans n.t,al.same n,rfl⟩
  rintro σ' HB ⟨tB,b',rfl⟩;have br:=d1.t tB;have bB:=eb.t tB;have c9:=tB.at bS
  obtain⟨m2,em2,m21,m22,W⟩:∃ m2:Nat,(1:Int)+(m:Int) % 24=(m2:Int)/\1<=m2/\m2<=24/\m≠m2:=⟨1+m % 24,by lia,by lia,by lia,by lia⟩
  have as:∀ k:Nat,1<=k->k<=24->Okp (k:Nat) ((0:Nat):Int) []:=λk h1 h2=>⟨by lia,by lia,by lia,by lia,by show(0:Int)=_;split <;> lia⟩
  refine⟨cp,?_⟩;intro z1 fn dp eB gf;have w1:=fX (C:=a.c_c) dp eB;refine⟨z1,fn,(m2:Nat),by rw[<- em2];rfl,ad,by lia,by lia,λU1 e' a3 gj dV=>⟨rfl,?_⟩⟩;have e1:Same HB U1:=λb o e=>a3 b o (λz=>by rw[z,dp]at e;cases e) (w1 b o e)
  refine⟨x,a9,z1,e',m,j,m2,0,f,[],rfl,br.same e1,dV,ab,as m2 m21 m22,W,b'.same e1,λU2 e2=>?_⟩;refine⟨cp,?_⟩;intro z3 ew eg ey gd;have w3:=fX (C:=a.c_c) eg ey;refine⟨z3,ew,(m2:Nat),by rw[<- em2];rfl,ad,by lia,by lia,λU3 eo a8 f8 el=>⟨rfl,?_⟩⟩;have e3:Same U2 U3:=λb o e=>a8 b o (λz=>by rw[z,eg]at e;cases e) (w3 b o e)
  have L:=(e1.trans e2).trans e3;refine⟨z3,eo,y,a',m2,0,m,c2,[],l,rfl,el,bB.same L,as m2 m21 m22,F,Ne.symm W,b'.same L,λU4 e4=>?_⟩;have fv:=br.same (L.trans e4);have et:=bB.same (L.trans e4);have Z:=b'.same (L.trans e4);have fD:=(L.trans e4) _ _ c9;refine⟨(λσ' U5=>Same U4 U5/\σ'=[some (.ref p),some (.bl d),some (.int (m:Nat)),some (.int wi),some (.int (j:Nat)),some (.int (c2:Nat)),some (.int far),some (.ref x),some (.ref y),some u,S,N,some (.ref kt)]),?_,?_⟩
  .refine ifC (λz=>?_) λz=>⟨Same.refl _,rfl⟩
   refine⟨m,160,0,rfl,m1,O,by lia,by lia,λV1 a1 b1 fa g1 f1 q1 o1 n1=>?_⟩;refine⟨cp,⟨m2,160,12,by rw[<- em2];rfl,m21,m22,by lia,by lia,λV2 a2 b2 fz g2 f2 q2 o2 n2=>?_⟩⟩;refine⟨a1,b1,a2,b2,m,160,m2,160,fa,fz,rfl,q1.same g2,q2,o1,o2,W,Z.same (g1.trans g2),λV3 g3=>?_⟩;exact⟨(g1.trans g2).trans g3,rfl⟩
  rintro σ' U5 ⟨e5,rfl⟩;refine⟨(λσ' U6=>Same U5 U6/\σ'=[some (.ref p),some (.bl d),some (.int (m:Nat)),some (.int wi),some (.int (j:Nat)),some (.int (c2:Nat)),some (.int far),some (.ref x),some (.ref y),some u,S,N,some (.ref kt)]),?_,?_⟩
  .refine ifC (λz=>?_) λz=>⟨Same.refl _,rfl⟩
   refine⟨m,140+j,140+c2,by show [V.int (m:Nat),V.int (140+(j:Int)),V.int (140+(c2:Int))]=[V.int (m:Nat),V.int ((140+j:Nat):Int),V.int ((140+c2:Nat):Int)];push_cast;rfl,m1,O,by lia,by lia,by lia,by lia,λV3 g3=>?_⟩;exact⟨g3,rfl⟩
  rintro σ' U6 ⟨e6,rfl⟩;have c3:=e5.trans e6;exact⟨x,a9,y,a',kt,m,j,c2,f,l,I,rfl,fv.same c3,et.same c3,en,ab,F,d0,bm,by lia,c3 _ _ fD,kl,cC,q⟩
end
end My
namespace My
open PySem L2
theorem us0{a:Type}:∀{us:List a},us.length=0->us=[]
 | [],_=>rfl
theorem us1{a:Type}{us:List a}(h:us.length=1):∃ a0,us=[a0]:=by
 cases us with
 | nil=>cases h
 | cons a0 t=>obtain rfl:=us0 (Nat.succ.inj h);exact⟨a0,rfl⟩
theorem us2{a:Type}{us:List a}(h:us.length=2):∃ a0 a1,us=[a0,a1]:=by
 cases us with
 | nil=>cases h
 | cons a0 t=>obtain⟨a1,rfl⟩:=us1 (Nat.succ.inj h);exact⟨a0,a1,rfl⟩
theorem us3{a:Type}{us:List a}(h:us.length=3):∃ a0 a1 a2,us=[a0,a1,a2]:=by
 cases us with
 | nil=>cases h
 | cons a0 t=>obtain⟨a1,a2,rfl⟩:=us2 (Nat.succ.inj h);exact⟨a0,a1,a2,rfl⟩
theorem us4{a:Type}{us:List a}(h:us.length=4):∃ a0 a1 a2 a3,us=[a0,a1,a2,a3]:=by
 cases us with
 | nil=>cases h
 | cons a0 t=>obtain⟨a1,a2,a3,rfl⟩:=us3 (Nat.succ.inj h);exact⟨a0,a1,a2,a3,rfl⟩
theorem txt_mk{K:Frag}{h:Heap}{mg:Str->Option Value}{f0 f1 f2 f3 f4 f5 f6 f7 f8 f9 f10 f11 f12 f13 f14 f15 f16 f17 f18 f19 f20 f21 f22 f23 f24 f25 f26 f27 f28 f29 f30 f31 f32 f33 c_L c_a i_a c_m c_n c_Y c_g i_g c_k i_k c_c i_c x_v dd_Pot_come x_h x_f x_l x_o x_B x_F x_t x_x x_q x_w x_r x_b lc_d lp_d lc_D lp_D lc_i lp_i lc_e lp_e:Addr}{od0 an0 od1 an1 od2 an2 od3 an3 od4 an4 od5 an5 od6 an6 od7 an7 od8 an8 od9 an9 od10 an10 od11 an11 od12 an12 od13 an13 od14 an14 od15 an15 od16 an16 od17 an17 od18 an18 od19 an19 od20 an20 od21 an21 od22 an22 od23 an23 od24 an24 od25 an25 od26 an26 od27 an27 od28 an28 od29 an29 od30 an30 od31 an31 od32 an32 od33 an33 od_6 an_6 od_c an_c od_0 an_0 od_7 an_7 od_9 an_9 oo_Pot_come od_a an_a od_b an_b od_d an_d od_2 an_2 od_e an_e od_3 an_3 od_10 an_10 od_5 an_5 od_f an_f od_4 an_4 od_1 an_1 od_8 an_8 lod_12 lod_13 lod_11 lod_14:Option Addr}{sl0 sl1 sl2 sl3 sl4 sl5 sl6 sl7 sl8 sl9 sl10 sl11 sl12 sl13 sl14 sl15 sl16 sl17 sl18 sl19 sl20 sl21 sl22 sl23 sl24 sl25 sl26 sl27 sl28 sl29 sl30 sl31 sl32 sl33 sl_6 sl_c sl_0 sl_7 sl_9 se_Pot_come sl_a sl_b sl_d sl_2 sl_e sl_3 sl_10 sl_5 sl_f sl_4 sl_1 sl_8 lsl_12 lsl_13 lsl_11 lsl_14:Array (Option Value)}{oc0 kV0 dc0 pm0 cd0 ct0 oc1 kV1 dc1 pm1 cd1 ct1 oc2 kV2 dc2 pm2 cd2 ct2 oc3 kV3 dc3 pm3 cd3 ct3 oc4 kV4 dc4 pm4 cd4 ct4 oc5 kV5 dc5 pm5 cd5 ct5 oc6 kV6 dc6 pm6 cd6 ct6 oc7 kV7 dc7 pm7 cd7 ct7 oc8 kV8 dc8 pm8 cd8 ct8 oc9 kV9 dc9 pm9 cd9 ct9 oc10 kV10 dc10 pm10 cd10 ct10 oc11 kV11 dc11 pm11 cd11 ct11 oc12 kV12 dc12 pm12 cd12 ct12 oc13 kV13 dc13 pm13 cd13 ct13 oc14 kV14 dc14 pm14 cd14 ct14 oc15 kV15 dc15 pm15 cd15 ct15 oc16 kV16 dc16 pm16 cd16 ct16 oc17 kV17 dc17 pm17 cd17 ct17 oc18 kV18 dc18 pm18 cd18 ct18 oc19 kV19 dc19 pm19 cd19 ct19 oc20 kV20 dc20 pm20 cd20 ct20 oc21 kV21 dc21 pm21 cd21 ct21 oc22 kV22 dc22 pm22 cd22 ct22 oc23 kV23 dc23 pm23 cd23 ct23 oc24 kV24 dc24 pm24 cd24 ct24 oc25 kV25 dc25 pm25 cd25 ct25 oc26 kV26 dc26 pm26 cd26 ct26 oc27 kV27 dc27 pm27 cd27 ct27 oc28 kV28 dc28 pm28 cd28 ct28 oc29 kV29 dc29 pm29 cd29 ct29 oc30 kV30 dc30 pm30 cd30 ct30 oc31 kV31 dc31 pm31 cd31 ct31 oc32 kV32 dc32 pm32 cd32 ct32 oc33 kV33 dc33 pm33 cd33 ct33 u0 u1 u2 u3 u4 oc_6 kV_6 dc_6 pm_6 cd_6 ct_6 oc_c kV_c dc_c pm_c cd_c ct_c oc_0 kV_0 dc_0 pm_0 cd_0 ct_0 oc_7 kV_7 dc_7 pm_7 cd_7 ct_7 oc_9 kV_9 dc_9 pm_9 cd_9 ct_9 oe_Pot_come ve_Pot_come oc_a kV_a dc_a pm_a cd_a ct_a oc_b kV_b dc_b pm_b cd_b ct_b oc_d kV_d dc_d pm_d cd_d ct_d oc_2 kV_2 dc_2 pm_2 cd_2 ct_2 oc_e kV_e dc_e pm_e cd_e ct_e oc_3 kV_3 dc_3 pm_3 cd_3 ct_3 oc_10 kV_10 dc_10 pm_10 cd_10 ct_10 oc_5 kV_5 dc_5 pm_5 cd_5 ct_5 oc_f kV_f dc_f pm_f cd_f ct_f oc_4 kV_4 dc_4 pm_4 cd_4 ct_4 oc_1 kV_1 dc_1 pm_1 cd_1 ct_1 oc_8 kV_8 dc_8 pm_8 cd_8 ct_8 lo_12 lo_13 lo_11 lo_14:Value}{ne_Pot_come:Nat}{lvs_12 lvs_13 lvs_11 lvs_14:Array Value}(X:K.In h) (G:h.Ns mainGlobals mg)
  (a0:nsIn K mainGlobals "greatest_divisor" = some (some (.ref f0))) (l0:K.lookup f0=some ⟨oc0,od0,.func (fnOf "greatest_divisor" "greatest_divisor" (aj aH) (ai aH) (ac aH) .none kV0 dc0 pm0 an0 cd0 ct0),sl0⟩) (c0:codeIn K cd0 "greatest_divisor" = true) (k0:keepIn K (.ref f0)=true)
  (a1:nsIn K mainGlobals "least_multiple" = some (some (.ref f1))) (l1:K.lookup f1=some ⟨oc1,od1,.func (fnOf "least_multiple" "least_multiple" (aj aL) (ai aL) (ac aL) .none kV1 dc1 pm1 an1 cd1 ct1),sl1⟩) (c1:codeIn K cd1 "least_multiple" = true) (k1:keepIn K (.ref f1)=true)
  (a2:nsIn K mainGlobals "share" = some (some (.ref f2))) (l2:K.lookup f2=some ⟨oc2,od2,.func (fnOf "share" "share" (aj dc) (ai dc) (ac dc) .none kV2 dc2 pm2 an2 cd2 ct2),sl2⟩) (c2:codeIn K cd2 "share" = true) (k2:keepIn K (.ref f2)=true)
  (a3:nsIn K mainGlobals "total" = some (some (.ref f3))) (l3:K.lookup f3=some ⟨oc3,od3,.func (fnOf "total" "total" (aj dj) (ai dj) (ac dj) .none kV3 dc3 pm3 an3 cd3 ct3),sl3⟩) (c3:codeIn K cd3 "total" = true) (k3:keepIn K (.ref f3)=true)
  (a4:nsIn K mainGlobals "is_whole" = some (some (.ref f4))) (l4:K.lookup f4=some ⟨oc4,od4,.func (fnOf "is_whole" "is_whole" (aj bU) (ai bU) (ac bU) .none kV4 dc4 pm4 an4 cd4 ct4),sl4⟩) (c4:codeIn K cd4 "is_whole" = true) (k4:keepIn K (.ref f4)=true)
  (a5:nsIn K mainGlobals "is_made_of" = some (some (.ref f5))) (l5:K.lookup f5=some ⟨oc5,od5,.func (fnOf "is_made_of" "is_made_of" (aj bi) (ai bi) (ac bi) .none kV5 dc5 pm5 an5 cd5 ct5),sl5⟩) (c5:codeIn K cd5 "is_made_of" = true) (k5:keepIn K (.ref f5)=true)
  (a6:nsIn K mainGlobals "is_name" = some (some (.ref f6))) (l6:K.lookup f6=some ⟨oc6,od6,.func (fnOf "is_name" "is_name" (aj cv) (ai cv) (ac cv) .none kV6 dc6 pm6 an6 cd6 ct6),sl6⟩) (c6:codeIn K cd6 "is_name" = true) (k6:keepIn K (.ref f6)=true)
  (a7:nsIn K mainGlobals "can_be_thrown" = some (some (.ref f7))) (l7:K.lookup f7=some ⟨oc7,od7,.func (fnOf "can_be_thrown" "can_be_thrown" (aj aO) (ai aO) (ac aO) .none kV7 dc7 pm7 an7 cd7 ct7),sl7⟩) (c7:codeIn K cd7 "can_be_thrown" = true) (k7:keepIn K (.ref f7)=true)
  (a8:nsIn K mainGlobals "drawn" = some (some (.ref f8))) (l8:K.lookup f8=some ⟨oc8,od8,.func (fnOf "drawn" "drawn" (aj dq) (ai dq) (ac dq) .none kV8 dc8 pm8 an8 cd8 ct8),sl8⟩) (c8:codeIn K cd8 "drawn" = true) (k8:keepIn K (.ref f8)=true)
  (a9:nsIn K mainGlobals "ways_of" = some (some (.ref f9))) (l9:K.lookup f9=some ⟨oc9,od9,.func (fnOf "ways_of" "ways_of" (aj cm) (ai cm) (ac cm) .none kV9 dc9 pm9 an9 cd9 ct9),sl9⟩) (c9:codeIn K cd9 "ways_of" = true) (k9:keepIn K (.ref f9)=true)
  (a10:nsIn K mainGlobals "table" = some (some (.ref f10))) (l10:K.lookup f10=some ⟨oc10,od10,.func (fnOf "table" "table" (aj dw) (ai dw) (ac dw) .none kV10 dc10 pm10 an10 cd10 ct10),sl10⟩) (c10:codeIn K cd10 "table" = true) (k10:keepIn K (.ref f10)=true)
  (a11:nsIn K mainGlobals "held_with" = some (some (.ref f11))) (l11:K.lookup f11=some ⟨oc11,od11,.func (fnOf "held_with" "held_with" (aj bG) (ai bG) (ac bG) .none kV11 dc11 pm11 an11 cd11 ct11),sl11⟩) (c11:codeIn K cd11 "held_with" = true) (k11:keepIn K (.ref f11)=true)
  (a12:nsIn K mainGlobals "need_alike" = some (some (.ref f12))) (l12:K.lookup f12=some ⟨oc12,od12,.func (fnOf "need_alike" "need_alike" (aj bp) (ai bp) (ac bp) .none kV12 dc12 pm12 an12 cd12 ct12),sl12⟩) (c12:codeIn K cd12 "need_alike" = true) (k12:keepIn K (.ref f12)=true)
  (a13:nsIn K mainGlobals "poured" = some (some (.ref f13))) (l13:K.lookup f13=some ⟨oc13,od13,.func (fnOf "poured" "poured" (aj cM) (ai cM) (ac cM) .none kV13 dc13 pm13 an13 cd13 ct13),sl13⟩) (c13:codeIn K cd13 "poured" = true) (k13:keepIn K (.ref f13)=true)
  (a14:nsIn K mainGlobals "pour_node" = some (some (.ref f14))) (l14:K.lookup f14=some ⟨oc14,od14,.func (fnOf "pour_node" "pour_node" (aj bc) (ai bc) (ac bc) .none kV14 dc14 pm14 an14 cd14 ct14),sl14⟩) (c14:codeIn K cd14 "pour_node" = true) (k14:keepIn K (.ref f14)=true)
  (a15:nsIn K mainGlobals "from_one" = some (some (.ref f15))) (l15:K.lookup f15=some ⟨oc15,od15,.func (fnOf "from_one" "from_one" (aj bM) (ai bM) (ac bM) .none kV15 dc15 pm15 an15 cd15 ct15),sl15⟩) (c15:codeIn K cd15 "from_one" = true) (k15:keepIn K (.ref f15)=true)
  (a16:nsIn K mainGlobals "from_other" = some (some (.ref f16))) (l16:K.lookup f16=some ⟨oc16,od16,.func (fnOf "from_other" "from_other" (aj aZ) (ai aZ) (ac aZ) .none kV16 dc16 pm16 an16 cd16 ct16),sl16⟩) (c16:codeIn K cd16 "from_other" = true) (k16:keepIn K (.ref f16)=true)
  (a17:nsIn K mainGlobals "without" = some (some (.ref f17))) (l17:K.lookup f17=some ⟨oc17,od17,.func (fnOf "without" "without" (aj ci) (ai ci) (ac ci) .none kV17 dc17 pm17 an17 cd17 ct17),sl17⟩) (c17:codeIn K cd17 "without" = true) (k17:keepIn K (.ref f17)=true)
  (a18:nsIn K mainGlobals "any_of" = some (some (.ref f18))) (l18:K.lookup f18=some ⟨oc18,od18,.func (fnOf "any_of" "any_of" (aj cQ) (ai cQ) (ac cQ) .none kV18 dc18 pm18 an18 cd18 ct18),sl18⟩) (c18:codeIn K cd18 "any_of" = true) (k18:keepIn K (.ref f18)=true)
  (a19:nsIn K mainGlobals "going" = some (some (.ref f19))) (l19:K.lookup f19=some ⟨oc19,od19,.func (fnOf "going" "going" (aj cU) (ai cU) (ac cU) .none kV19 dc19 pm19 an19 cd19 ct19),sl19⟩) (c19:codeIn K cd19 "going" = true) (k19:keepIn K (.ref f19)=true)
  (a20:nsIn K mainGlobals "into" = some (some (.ref f20))) (l20:K.lookup f20=some ⟨oc20,od20,.func (fnOf "into" "into" (aj d9) (ai d9) (ac d9) .none kV20 dc20 pm20 an20 cd20 ct20),sl20⟩) (c20:codeIn K cd20 "into" = true) (k20:keepIn K (.ref f20)=true)
  (a21:nsIn K mainGlobals "_law_cell_at" = some (some (.ref f21))) (l21:K.lookup f21=some ⟨oc21,od21,.func (fnOf "_law_cell_at" "_law_cell_at" (aj bE) (ai bE) (ac bE) .none kV21 dc21 pm21 an21 cd21 ct21),sl21⟩) (c21:codeIn K cd21 "_law_cell_at" = true) (k21:keepIn K (.ref f21)=true)
  (a22:nsIn K mainGlobals "_law_mix" = some (some (.ref f22))) (l22:K.lookup f22=some ⟨oc22,od22,.func (fnOf "_law_mix" "_law_mix" (aj di) (ai di) (ac di) .none kV22 dc22 pm22 an22 cd22 ct22),sl22⟩) (c22:codeIn K cd22 "_law_mix" = true) (k22:keepIn K (.ref f22)=true)
  (a23:nsIn K mainGlobals "_law_numbers" = some (some (.ref f23))) (l23:K.lookup f23=some ⟨oc23,od23,.func (fnOf "_law_numbers" "_law_numbers" (aj bJ) (ai bJ) (ac bJ) .none kV23 dc23 pm23 an23 cd23 ct23),sl23⟩) (c23:codeIn K cd23 "_law_numbers" = true) (k23:keepIn K (.ref f23)=true)
  (a24:nsIn K mainGlobals "_law_choose" = some (some (.ref f24))) (l24:K.lookup f24=some ⟨oc24,od24,.func (fnOf "_law_choose" "_law_choose" (aj bV) (ai bV) (ac bV) .none kV24 dc24 pm24 an24 cd24 ct24),sl24⟩) (c24:codeIn K cd24 "_law_choose" = true) (k24:keepIn K (.ref f24)=true)
  (a25:nsIn K mainGlobals "_law_pot" = some (some (.ref f25))) (l25:K.lookup f25=some ⟨oc25,od25,.func (fnOf "_law_pot" "_law_pot" (aj db) (ai db) (ac db) .none kV25 dc25 pm25 an25 cd25 ct25),sl25⟩) (c25:codeIn K cd25 "_law_pot" = true) (k25:keepIn K (.ref f25)=true)
  (a26:nsIn K mainGlobals "_law_due" = some (some (.ref f26))) (l26:K.lookup f26=some ⟨oc26,od26,.func (fnOf "_law_due" "_law_due" (aj du) (ai du) (ac du) .none kV26 dc26 pm26 an26 cd26 ct26),sl26⟩) (c26:codeIn K cd26 "_law_due" = true) (k26:keepIn K (.ref f26)=true)
  (a27:nsIn K mainGlobals "_law_gone" = some (some (.ref f27))) (l27:K.lookup f27=some ⟨oc27,od27,.func (fnOf "_law_gone" "_law_gone" (aj cN) (ai cN) (ac cN) .none kV27 dc27 pm27 an27 cd27 ct27),sl27⟩) (c27:codeIn K cd27 "_law_gone" = true) (k27:keepIn K (.ref f27)=true)
  (a28:nsIn K mainGlobals "_law_into" = some (some (.ref f28))) (l28:K.lookup f28=some ⟨oc28,od28,.func (fnOf "_law_into" "_law_into" (aj cO) (ai cO) (ac cO) .none kV28 dc28 pm28 an28 cd28 ct28),sl28⟩) (c28:codeIn K cd28 "_law_into" = true) (k28:keepIn K (.ref f28)=true)
  (a29:nsIn K mainGlobals "_law_parts" = some (some (.ref f29))) (l29:K.lookup f29=some ⟨oc29,od29,.func (fnOf "_law_parts" "_law_parts" (aj cq) (ai cq) (ac cq) .none kV29 dc29 pm29 an29 cd29 ct29),sl29⟩) (c29:codeIn K cd29 "_law_parts" = true) (k29:keepIn K (.ref f29)=true)
  (a30:nsIn K mainGlobals "_law_refused" = some (some (.ref f30))) (l30:K.lookup f30=some ⟨oc30,od30,.func (fnOf "_law_refused" "_law_refused" (aj bK) (ai bK) (ac bK) .none kV30 dc30 pm30 an30 cd30 ct30),sl30⟩) (c30:codeIn K cd30 "_law_refused" = true) (k30:keepIn K (.ref f30)=true)
  (a31:nsIn K mainGlobals "_law_apart" = some (some (.ref f31))) (l31:K.lookup f31=some ⟨oc31,od31,.func (fnOf "_law_apart" "_law_apart" (aj cz) (ai cz) (ac cz) .none kV31 dc31 pm31 an31 cd31 ct31),sl31⟩) (c31:codeIn K cd31 "_law_apart" = true) (k31:keepIn K (.ref f31)=true)
  (a32:nsIn K mainGlobals "_law_too_many" = some (some (.ref f32))) (l32:K.lookup f32=some ⟨oc32,od32,.func (fnOf "_law_too_many" "_law_too_many" (aj bj) (ai bj) (ac bj) .none kV32 dc32 pm32 an32 cd32 ct32),sl32⟩) (c32:codeIn K cd32 "_law_too_many" = true) (k32:keepIn K (.ref f32)=true)
  (a33:nsIn K mainGlobals "law" = some (some (.ref f33))) (l33:K.lookup f33=some ⟨oc33,od33,.func (fnOf "law" "law" (aj gM) (ai gM) (ac gM) .none kV33 dc33 pm33 an33 cd33 ct33),sl33⟩) (c33:codeIn K cd33 "law" = true) (k33:keepIn K (.ref f33)=true)
  (b0:nsIn K mainGlobals "LETTERS" = some (some u0))
  (b1:nsIn K mainGlobals "MOST_LETTERS" = some (some u1))
  (b2:nsIn K mainGlobals "MOST_WAYS" = some (some u2))
  (b3:nsIn K mainGlobals "MOST_KEPT" = some (some u3))
  (b4:nsIn K mainGlobals "MOST_COME" = some (some u4))
  (ca_L:nsIn K mainGlobals "SpeakError" = some (some (.ref c_L))) (cb_L:keepIn K (.ref c_L)=true) (cc_L:mZ K c_L=true)
  (cx_L:xIn K c_L none=true)
  (ca_a:nsIn K mainGlobals "NoThrow" = some (some (.ref c_a))) (cb_a:keepIn K (.ref c_a)=true) (cc_a:mZ K c_a=true)
  (cf_a:findIn K (.ref c_a) "__init__" = some (some (.ref i_a))) (cx_a:xIn K c_a (some (.ref i_a))=true) (cg_a:isFn K (.ref i_a)=true)
  (cl_a:K.lookup i_a=some ⟨oc_6,od_6,.func (fnOf "__init__" "NoThrow.__init__" (aj aG) (ai aG) (ac aG) .none kV_6 dc_6 pm_6 an_6 cd_6 ct_6),sl_6⟩) (co_a:codeIn K cd_6 "NoThrow.__init__" = true) (ck_a:keepIn K (.ref i_a)=true)
  (cs_NoThrow_place:ym K c_a "place" = true)
  (ca_m:nsIn K mainGlobals "TooMany" = some (some (.ref c_m))) (cb_m:keepIn K (.ref c_m)=true) (cc_m:mZ K c_m=true)
  (cx_m:xIn K c_m none=true)
  (ca_n:nsIn K mainGlobals "NoThing" = some (some (.ref c_n))) (cb_n:keepIn K (.ref c_n)=true) (cc_n:mZ K c_n=true)
  (cx_n:xIn K c_n none=true)
  (ca_Y:nsIn K mainGlobals "Node" = some (some (.ref c_Y))) (pa_Y:plainGet K c_Y Str.empty=true) (pb_Y:hasDictIn K c_Y=true) (pc_Y:plainOver K c_Y=true)
  (pd_Y:findIn K (.ref c_Y) "__setattr__" = some (some (.builtin "object.__setattr__"))) (pe_Y:findIn K (.ref c_Y) "__class__" = some (some (.builtin "object.__class__"))) (pf_Y:specialIn K (.builtin "object.__class__") "__get__" = some (some (.builtin "getset_descriptor.__get__"))) (pg_Y:takesIn K (.builtin "object.__class__")=some true) (ph_Y:mroIn K c_Y (.type "object")=some true)
  (ca_g:nsIn K mainGlobals "Told" = some (some (.ref c_g))) (pa_g:plainGet K c_g Str.empty=true) (pb_g:hasDictIn K c_g=true) (pc_g:plainOver K c_g=true)
  (pd_g:findIn K (.ref c_g) "__setattr__" = some (some (.builtin "object.__setattr__"))) (pe_g:findIn K (.ref c_g) "__class__" = some (some (.builtin "object.__class__"))) (pf_g:specialIn K (.builtin "object.__class__") "__get__" = some (some (.builtin "getset_descriptor.__get__"))) (pg_g:takesIn K (.builtin "object.__class__")=some true) (ph_g:mroIn K c_g (.type "object")=some true)
  (qa_g:makesIn K c_g=true) (qb_g:findIn K (.ref c_g) "__init__" = some (some (.ref i_g))) (qc_g:isFn K (.ref i_g)=true) (qd_g:keepIn K (.ref c_g)=true)
  (qn_Told_rising:findIn K (.ref c_g) "rising" = some none)
  (cl_g:K.lookup i_g=some ⟨oc_c,od_c,.func (fnOf "__init__" "Told.__init__" (aj aP) (ai aP) (ac aP) .none kV_c dc_c pm_c an_c cd_c ct_c),sl_c⟩) (co_g:codeIn K cd_c "Told.__init__" = true) (ck_g:keepIn K (.ref i_g)=true)
  (ca_k:nsIn K mainGlobals "Die" = some (some (.ref c_k))) (pa_k:plainGet K c_k Str.empty=true) (pb_k:hasDictIn K c_k=true) (pc_k:plainOver K c_k=true)
  (pd_k:findIn K (.ref c_k) "__setattr__" = some (some (.builtin "object.__setattr__"))) (pe_k:findIn K (.ref c_k) "__class__" = some (some (.builtin "object.__class__"))) (pf_k:specialIn K (.builtin "object.__class__") "__get__" = some (some (.builtin "getset_descriptor.__get__"))) (pg_k:takesIn K (.builtin "object.__class__")=some true) (ph_k:mroIn K c_k (.type "object")=some true)
  (qa_k:makesIn K c_k=true) (qb_k:findIn K (.ref c_k) "__init__" = some (some (.ref i_k))) (qc_k:isFn K (.ref i_k)=true) (qd_k:keepIn K (.ref c_k)=true)
  (qn_Die_makes:findIn K (.ref c_k) "makes" = some none)
  (cl_k:K.lookup i_k=some ⟨oc_0,od_0,.func (fnOf "__init__" "Die.__init__" (aj aU) (ai aU) (ac aU) .none kV_0 dc_0 pm_0 an_0 cd_0 ct_0),sl_0⟩) (co_k:codeIn K cd_0 "Die.__init__" = true) (ck_k:keepIn K (.ref i_k)=true)
  (ca_c:nsIn K mainGlobals "Pot" = some (some (.ref c_c))) (pa_c:plainGet K c_c Str.empty=true) (pb_c:hasDictIn K c_c=true) (pc_c:plainOver K c_c=true)
  (pd_c:findIn K (.ref c_c) "__setattr__" = some (some (.builtin "object.__setattr__"))) (pe_c:findIn K (.ref c_c) "__class__" = some (some (.builtin "object.__class__"))) (pf_c:specialIn K (.builtin "object.__class__") "__get__" = some (some (.builtin "getset_descriptor.__get__"))) (pg_c:takesIn K (.builtin "object.__class__")=some true) (ph_c:mroIn K c_c (.type "object")=some true)
  (qa_c:makesIn K c_c=true) (qb_c:findIn K (.ref c_c) "__init__" = some (some (.ref i_c))) (qc_c:isFn K (.ref i_c)=true) (qd_c:keepIn K (.ref c_c)=true)
  (qn_Pot_most:findIn K (.ref c_c) "most" = some none)
  (qn_Pot_seen:findIn K (.ref c_c) "seen" = some none)
  (qn_Pot_held:findIn K (.ref c_c) "held" = some none)
  (cl_c:K.lookup i_c=some ⟨oc_7,od_7,.func (fnOf "__init__" "Pot.__init__" (aj aV) (ai aV) (ac aV) .none kV_7 dc_7 pm_7 an_7 cd_7 ct_7),sl_7⟩) (co_c:codeIn K cd_7 "Pot.__init__" = true) (ck_c:keepIn K (.ref i_c)=true)
  (mf_9:findIn K (.ref c_c) "come" = some (some (.ref x_v)))
  (ml_9:K.lookup x_v=some ⟨oc_9,od_9,.func (fnOf "come" "Pot.come" (aj cg) (ai cg) (ac cg) (.ref dd_Pot_come) kV_9 dc_9 pm_9 an_9 cd_9 ct_9),sl_9⟩) (mo_9:codeIn K cd_9 "Pot.come" = true) (mk_9:keepIn K (.ref x_v)=true) (mi_9:isFn K (.ref x_v)=true)
  (md_Pot_come:K.lookup dd_Pot_come=some ⟨oe_Pot_come,oo_Pot_come,.seq #[ve_Pot_come] ne_Pot_come,se_Pot_come⟩) (mv_Pot_come:RelV (.int 0) ve_Pot_come)
  (mf_a:findIn K (.ref c_c) "next_sides" = some (some (.ref x_h)))
  (ml_a:K.lookup x_h=some ⟨oc_a,od_a,.func (fnOf "next_sides" "Pot.next_sides" (aj aK) (ai aK) (ac aK) .none kV_a dc_a pm_a an_a cd_a ct_a),sl_a⟩) (mo_a:codeIn K cd_a "Pot.next_sides" = true) (mk_a:keepIn K (.ref x_h)=true) (mi_a:isFn K (.ref x_h)=true)
  (mf_b:findIn K (.ref c_c) "things" = some (some (.ref x_f)))
  (ml_b:K.lookup x_f=some ⟨oc_b,od_b,.func (fnOf "things" "Pot.things" (aj bh) (ai bh) (ac bh) .none kV_b dc_b pm_b an_b cd_b ct_b),sl_b⟩) (mo_b:codeIn K cd_b "Pot.things" = true) (mk_b:keepIn K (.ref x_f)=true) (mi_b:isFn K (.ref x_f)=true)
  (mf_d:findIn K (.ref c_g) "is_told" = some (some (.ref x_l)))
  (ml_d:K.lookup x_l=some ⟨oc_d,od_d,.func (fnOf "is_told" "Told.is_told" (aj aT) (ai aT) (ac aT) .none kV_d dc_d pm_d an_d cd_d ct_d),sl_d⟩) (mo_d:codeIn K cd_d "Told.is_told" = true) (mk_d:keepIn K (.ref x_l)=true) (mi_d:isFn K (.ref x_l)=true)
  (mf_2:findIn K (.ref c_k) "is_told" = some (some (.ref x_o)))
  (ml_2:K.lookup x_o=some ⟨oc_2,od_2,.func (fnOf "is_told" "Die.is_told" (aj aY) (ai aY) (ac aY) .none kV_2 dc_2 pm_2 an_2 cd_2 ct_2),sl_2⟩) (mo_2:codeIn K cd_2 "Die.is_told" = true) (mk_2:keepIn K (.ref x_o)=true) (mi_2:isFn K (.ref x_o)=true)
  (mf_e:findIn K (.ref c_g) "kept" = some (some (.ref x_B)))
  (ml_e:K.lookup x_B=some ⟨oc_e,od_e,.func (fnOf "kept" "Told.kept" (aj bI) (ai bI) (ac bI) .none kV_e dc_e pm_e an_e cd_e ct_e),sl_e⟩) (mo_e:codeIn K cd_e "Told.kept" = true) (mk_e:keepIn K (.ref x_B)=true) (mi_e:isFn K (.ref x_B)=true)
  (mf_3:findIn K (.ref c_k) "kept" = some (some (.ref x_F)))
  (ml_3:K.lookup x_F=some ⟨oc_3,od_3,.func (fnOf "kept" "Die.kept" (aj bX) (ai bX) (ac bX) .none kV_3 dc_3 pm_3 an_3 cd_3 ct_3),sl_3⟩) (mo_3:codeIn K cd_3 "Die.kept" = true) (mk_3:keepIn K (.ref x_F)=true) (mi_3:isFn K (.ref x_F)=true)
  (mf_10:findIn K (.ref c_g) "sides" = some (some (.ref x_t)))
  (ml_10:K.lookup x_t=some ⟨oc_10,od_10,.func (fnOf "sides" "Told.sides" (aj bq) (ai bq) (ac bq) .none kV_10 dc_10 pm_10 an_10 cd_10 ct_10),sl_10⟩) (mo_10:codeIn K cd_10 "Told.sides" = true) (mk_10:keepIn K (.ref x_t)=true) (mi_10:isFn K (.ref x_t)=true)
  (mf_5:findIn K (.ref c_k) "sides" = some (some (.ref x_x)))
  (ml_5:K.lookup x_x=some ⟨oc_5,od_5,.func (fnOf "sides" "Die.sides" (aj bD) (ai bD) (ac bD) .none kV_5 dc_5 pm_5 an_5 cd_5 ct_5),sl_5⟩) (mo_5:codeIn K cd_5 "Die.sides" = true) (mk_5:keepIn K (.ref x_x)=true) (mi_5:isFn K (.ref x_x)=true)
  (mf_f:findIn K (.ref c_g) "parts" = some (some (.ref x_q)))
  (ml_f:K.lookup x_q=some ⟨oc_f,od_f,.func (fnOf "parts" "Told.parts" (aj bf) (ai bf) (ac bf) .none kV_f dc_f pm_f an_f cd_f ct_f),sl_f⟩) (mo_f:codeIn K cd_f "Told.parts" = true) (mk_f:keepIn K (.ref x_q)=true) (mi_f:isFn K (.ref x_q)=true)
  (mf_4:findIn K (.ref c_k) "parts" = some (some (.ref x_w)))
  (ml_4:K.lookup x_w=some ⟨oc_4,od_4,.func (fnOf "parts" "Die.parts" (aj bH) (ai bH) (ac bH) .none kV_4 dc_4 pm_4 an_4 cd_4 ct_4),sl_4⟩) (mo_4:codeIn K cd_4 "Die.parts" = true) (mk_4:keepIn K (.ref x_w)=true) (mi_4:isFn K (.ref x_w)=true)
  (mf_1:findIn K (.ref c_k) "after" = some (some (.ref x_r)))
  (ml_1:K.lookup x_r=some ⟨oc_1,od_1,.func (fnOf "after" "Die.after" (aj bF) (ai bF) (ac bF) .none kV_1 dc_1 pm_1 an_1 cd_1 ct_1),sl_1⟩) (mo_1:codeIn K cd_1 "Die.after" = true) (mk_1:keepIn K (.ref x_r)=true) (mi_1:isFn K (.ref x_r)=true)
  (mf_8:findIn K (.ref c_c) "came" = some (some (.ref x_b)))
  (ml_8:K.lookup x_b=some ⟨oc_8,od_8,.func (fnOf "came" "Pot.came" (aj bW) (ai bW) (ac bW) .none kV_8 dc_8 pm_8 an_8 cd_8 ct_8),sl_8⟩) (mo_8:codeIn K cd_8 "Pot.came" = true) (mk_8:keepIn K (.ref x_b)=true) (mi_8:isFn K (.ref x_b)=true)
  (lca_12:cd16=.ref lc_d) (lct_12:K.lookup lc_d=some ⟨lo_12,lod_12,.fields lvs_12,lsl_12⟩) (lcq_12:lvs_12[11]? = some (.ref lp_d)) (lch_d:codeHdIn K lc_d lp_d=true)
  (lca_13:cd19=.ref lc_D) (lct_13:K.lookup lc_D=some ⟨lo_13,lod_13,.fields lvs_13,lsl_13⟩) (lcq_13:lvs_13[11]? = some (.ref lp_D)) (lch_D:codeHdIn K lc_D lp_D=true)
  (lca_11:cd15=.ref lc_i) (lct_11:K.lookup lc_i=some ⟨lo_11,lod_11,.fields lvs_11,lsl_11⟩) (lcq_11:lvs_11[11]? = some (.ref lp_i)) (lch_i:codeHdIn K lc_i lp_i=true)
  (lca_14:cd14=.ref lc_e) (lct_14:K.lookup lc_e=some ⟨lo_14,lod_14,.fields lvs_14,lsl_14⟩) (lcq_14:lvs_14[11]? = some (.ref lp_e)) (lch_e:codeHdIn K lc_e lp_e=true)
  (ltnd:([lp_d,lp_D,lp_i,lp_e]:List Addr).Nodup)
  (fact_tt:fo K c_n c_n=some true)
  (fact_tm:fo K c_m c_n=some false)
  (fact_tm2:fo K c_m c_m=some true)
  (fact_tw:fo K c_a c_n=some false)
  (fact_tw2:fo K c_a c_m=some false)
  (fact_tw3:fo K c_a c_a=some true)
  (z0:nsIn K mainGlobals "abs" = some none)
  (z1:nsIn K mainGlobals "all" = some none)
  (z2:nsIn K mainGlobals "bool" = some none)
  (z3:nsIn K mainGlobals "enumerate" = some none)
  (z4:nsIn K mainGlobals "int" = some none)
  (z5:nsIn K mainGlobals "isinstance" = some none)
  (z6:nsIn K mainGlobals "len" = some none)
  (z7:nsIn K mainGlobals "list" = some none)
  (z8:nsIn K mainGlobals "min" = some none)
  (z9:nsIn K mainGlobals "range" = some none)
  (z10:nsIn K mainGlobals "sorted" = some none)
  (z11:nsIn K mainGlobals "str" = some none)
  (z12:nsIn K mainGlobals "sum" = some none)
  (z13:nsIn K mainGlobals "tuple" = some none) (r0:RelV (.str "abcdefghijklmnopqrstuvwxyz") u0) (r1:RelV (.int 8) u1) (r2:RelV (.int 4096) u2) (r3:RelV (.int 24) u3) (r4:RelV (.int 300) u4):∃ a:Ad,Txt K mg a/\(tabs a).map (·.1)=[lp_d,lp_D,lp_i,lp_e]:=by
 refine⟨{ f_j:=f0,d_j:=fnOf "greatest_divisor" "greatest_divisor" (aj aH) (ai aH) (ac aH) .none kV0 dc0 pm0 an0 cd0 ct0,f_p:=f1,d_p:=fnOf "least_multiple" "least_multiple" (aj aL) (ai aL) (ac aL) .none kV1 dc1 pm1 an1 cd1 ct1,f_S:=f2,d_S:=fnOf "share" "share" (aj dc) (ai dc) (ac dc) .none kV2 dc2 pm2 an2 cd2 ct2,f_ab:=f3,d_ab:=fnOf "total" "total" (aj dj) (ai dj) (ac dj) .none kV3 dc3 pm3 an3 cd3 ct3,f_E:=f4,d_E:=fnOf "is_whole" "is_whole" (aj bU) (ai bU) (ac bU) .none kV4 dc4 pm4 an4 cd4 ct4,f_I:=f5,d_I:=fnOf "is_made_of" "is_made_of" (aj bi) (ai bi) (ac bi) .none kV5 dc5 pm5 an5 cd5 ct5,f_X:=f6,d_X:=fnOf "is_name" "is_name" (aj cv) (ai cv) (ac cv) .none kV6 dc6 pm6 an6 cd6 ct6,f_s:=f7,d_s:=fnOf "can_be_thrown" "can_be_thrown" (aj aO) (ai aO) (ac aO) .none kV7 dc7 pm7 an7 cd7 ct7,f_Z:=f8,d_Z:=fnOf "drawn" "drawn" (aj dq) (ai dq) (ac dq) .none kV8 dc8 pm8 an8 cd8 ct8,f_K:=f9,d_K:=fnOf "ways_of" "ways_of" (aj cm) (ai cm) (ac cm) .none kV9 dc9 pm9 an9 cd9 ct9,f_W:=f10,d_W:=fnOf "table" "table" (aj dw) (ai dw) (ac dw) .none kV10 dc10 pm10 an10 cd10 ct10,f_N:=f11,d_N:=fnOf "held_with" "held_with" (aj bG) (ai bG) (ac bG) .none kV11 dc11 pm11 an11 cd11 ct11,f_C:=f12,d_C:=fnOf "need_alike" "need_alike" (aj bp) (ai bp) (ac bp) .none kV12 dc12 pm12 an12 cd12 ct12,f_J:=f13,d_J:=fnOf "poured" "poured" (aj cM) (ai cM) (ac cM) .none kV13 dc13 pm13 an13 cd13 ct13,f_e:=f14,d_e:=fnOf "pour_node" "pour_node" (aj bc) (ai bc) (ac bc) .none kV14 dc14 pm14 an14 cd14 ct14,f_i:=f15,d_i:=fnOf "from_one" "from_one" (aj bM) (ai bM) (ac bM) .none kV15 dc15 pm15 an15 cd15 ct15,f_d:=f16,d_d:=fnOf "from_other" "from_other" (aj aZ) (ai aZ) (ac aZ) .none kV16 dc16 pm16 an16 cd16 ct16,f_Q:=f17,d_Q:=fnOf "without" "without" (aj ci) (ai ci) (ac ci) .none kV17 dc17 pm17 an17 cd17 ct17,f_R:=f18,d_R:=fnOf "any_of" "any_of" (aj cQ) (ai cQ) (ac cQ) .none kV18 dc18 pm18 an18 cd18 ct18,f_D:=f19,d_D:=fnOf "going" "going" (aj cU) (ai cU) (ac cU) .none kV19 dc19 pm19 an19 cd19 ct19,f_V:=f20,d_V:=fnOf "into" "into" (aj d9) (ai d9) (ac d9) .none kV20 dc20 pm20 an20 cd20 ct20,f_H:=f21,d_H:=fnOf "_law_cell_at" "_law_cell_at" (aj bE) (ai bE) (ac bE) .none kV21 dc21 pm21 an21 cd21 ct21,f_aa:=f22,d_aa:=fnOf "_law_mix" "_law_mix" (aj di) (ai di) (ac di) .none kV22 dc22 pm22 an22 cd22 ct22,f_z:=f23,d_z:=fnOf "_law_numbers" "_law_numbers" (aj bJ) (ai bJ) (ac bJ) .none kV23 dc23 pm23 an23 cd23 ct23,f_u:=f24,d_u:=fnOf "_law_choose" "_law_choose" (aj bV) (ai bV) (ac bV) .none kV24 dc24 pm24 an24 cd24 ct24,f_G:=f25,d_G:=fnOf "_law_pot" "_law_pot" (aj db) (ai db) (ac db) .none kV25 dc25 pm25 an25 cd25 ct25,f_T:=f26,d_T:=fnOf "_law_due" "_law_due" (aj du) (ai du) (ac du) .none kV26 dc26 pm26 an26 cd26 ct26,f_M:=f27,d_M:=fnOf "_law_gone" "_law_gone" (aj cN) (ai cN) (ac cN) .none kV27 dc27 pm27 an27 cd27 ct27,f_U:=f28,d_U:=fnOf "_law_into" "_law_into" (aj cO) (ai cO) (ac cO) .none kV28 dc28 pm28 an28 cd28 ct28,f_O:=f29,d_O:=fnOf "_law_parts" "_law_parts" (aj cq) (ai cq) (ac cq) .none kV29 dc29 pm29 an29 cd29 ct29,f_y:=f30,d_y:=fnOf "_law_refused" "_law_refused" (aj bK) (ai bK) (ac bK) .none kV30 dc30 pm30 an30 cd30 ct30,f_P:=f31,d_P:=fnOf "_law_apart" "_law_apart" (aj cz) (ai cz) (ac cz) .none kV31 dc31 pm31 an31 cd31 ct31,f_A:=f32,d_A:=fnOf "_law_too_many" "_law_too_many" (aj bj) (ai bj) (ac bj) .none kV32 dc32 pm32 an32 cd32 ct32,f_ac:=f33,d_ac:=fnOf "law" "law" (aj gM) (ai gM) (ac gM) .none kV33 dc33 pm33 an33 cd33 ct33,c_L:=c_L,c_a:=c_a,i_a:=i_a,e_a:=fnOf "__init__" "NoThrow.__init__" (aj aG) (ai aG) (ac aG) .none kV_6 dc_6 pm_6 an_6 cd_6 ct_6,c_m:=c_m,c_n:=c_n,c_Y:=c_Y,c_g:=c_g,i_g:=i_g,e_g:=fnOf "__init__" "Told.__init__" (aj aP) (ai aP) (ac aP) .none kV_c dc_c pm_c an_c cd_c ct_c,c_k:=c_k,i_k:=i_k,e_k:=fnOf "__init__" "Die.__init__" (aj aU) (ai aU) (ac aU) .none kV_0 dc_0 pm_0 an_0 cd_0 ct_0,c_c:=c_c,i_c:=i_c,e_c:=fnOf "__init__" "Pot.__init__" (aj aV) (ai aV) (ac aV) .none kV_7 dc_7 pm_7 an_7 cd_7 ct_7,x_v:=x_v,y_v:=fnOf "come" "Pot.come" (aj cg) (ai cg) (ac cg) (.ref dd_Pot_come) kV_9 dc_9 pm_9 an_9 cd_9 ct_9,v_Pot_come:=ve_Pot_come,x_h:=x_h,y_h:=fnOf "next_sides" "Pot.next_sides" (aj aK) (ai aK) (ac aK) .none kV_a dc_a pm_a an_a cd_a ct_a,x_f:=x_f,y_f:=fnOf "things" "Pot.things" (aj bh) (ai bh) (ac bh) .none kV_b dc_b pm_b an_b cd_b ct_b,x_l:=x_l,y_l:=fnOf "is_told" "Told.is_told" (aj aT) (ai aT) (ac aT) .none kV_d dc_d pm_d an_d cd_d ct_d,x_o:=x_o,y_o:=fnOf "is_told" "Die.is_told" (aj aY) (ai aY) (ac aY) .none kV_2 dc_2 pm_2 an_2 cd_2 ct_2,x_B:=x_B,y_B:=fnOf "kept" "Told.kept" (aj bI) (ai bI) (ac bI) .none kV_e dc_e pm_e an_e cd_e ct_e,x_F:=x_F,y_F:=fnOf "kept" "Die.kept" (aj bX) (ai bX) (ac bX) .none kV_3 dc_3 pm_3 an_3 cd_3 ct_3,x_t:=x_t,y_t:=fnOf "sides" "Told.sides" (aj bq) (ai bq) (ac bq) .none kV_10 dc_10 pm_10 an_10 cd_10 ct_10,x_x:=x_x,y_x:=fnOf "sides" "Die.sides" (aj bD) (ai bD) (ac bD) .none kV_5 dc_5 pm_5 an_5 cd_5 ct_5,x_q:=x_q,y_q:=fnOf "parts" "Told.parts" (aj bf) (ai bf) (ac bf) .none kV_f dc_f pm_f an_f cd_f ct_f,x_w:=x_w,y_w:=fnOf "parts" "Die.parts" (aj bH) (ai bH) (ac bH) .none kV_4 dc_4 pm_4 an_4 cd_4 ct_4,x_r:=x_r,y_r:=fnOf "after" "Die.after" (aj bF) (ai bF) (ac bF) .none kV_1 dc_1 pm_1 an_1 cd_1 ct_1,x_b:=x_b,y_b:=fnOf "came" "Pot.came" (aj bW) (ai bW) (ac bW) .none kV_8 dc_8 pm_8 an_8 cd_8 ct_8,lc_d:=lc_d,lp_d:=lp_d,lc_D:=lc_D,lp_D:=lp_D,lc_i:=lc_i,lp_i:=lp_i,lc_e:=lc_e,lp_e:=lp_e },?_,rfl⟩
 exact {
  lcd_d:=lca_12
  lch_d:=lch_d
  lcd_D:=lca_13
  lch_D:=lch_D
  lcd_i:=lca_11
  lch_i:=lch_i
  lcd_e:=lca_14
  lch_e:=lch_e
  tnd:=ltnd
  F_j:=am l0 c0 k0
  B_j:=(am l0 c0 k0).binds (ps:=["one","other"]) λ_ _ _ _ _ _ us hl=>(by obtain⟨_,_,rfl⟩:=us2 hl;rfl)
  m_j:=mg_of X G a0
  F_p:=am l1 c1 k1
  B_p:=(am l1 c1 k1).binds (ps:=["numbers"]) λ_ _ _ _ _ _ us hl=>(by obtain⟨_,rfl⟩:=us1 hl;rfl)
  m_p:=mg_of X G a1
  F_S:=am l2 c2 k2
  B_S:=(am l2 c2 k2).binds (ps:=["top","bottom"]) λ_ _ _ _ _ _ us hl=>(by obtain⟨_,_,rfl⟩:=us2 hl;rfl)
  m_S:=mg_of X G a2
  F_ab:=am l3 c3 k3
  B_ab:=(am l3 c3 k3).binds (ps:=["fractions"]) λ_ _ _ _ _ _ us hl=>(by obtain⟨_,rfl⟩:=us1 hl;rfl)
  m_ab:=mg_of X G a3
  F_E:=am l4 c4 k4
  B_E:=(am l4 c4 k4).binds (ps:=["thing","low","high"]) λ_ _ _ _ _ _ us hl=>(by obtain⟨_,_,_,rfl⟩:=us3 hl;rfl)
  m_E:=mg_of X G a4
  F_I:=am l5 c5 k5
  B_I:=(am l5 c5 k5).binds (ps:=["text","signs","most"]) λ_ _ _ _ _ _ us hl=>(by obtain⟨_,_,_,rfl⟩:=us3 hl;rfl)
  m_I:=mg_of X G a5
  F_X:=am l6 c6 k6
  B_X:=(am l6 c6 k6).binds (ps:=["thing"]) λ_ _ _ _ _ _ us hl=>(by obtain⟨_,rfl⟩:=us1 hl;rfl)
  m_X:=mg_of X G a6
  F_s:=am l7 c7 k7
  B_s:=(am l7 c7 k7).binds (ps:=["node","throw"]) λ_ _ _ _ _ _ us hl=>(by obtain⟨_,_,rfl⟩:=us2 hl;rfl)
  m_s:=mg_of X G a7
  F_Z:=am l8 c8 k8
  B_Z:=(am l8 c8 k8).binds (ps:=["node","throws"]) λ_ _ _ _ _ _ us hl=>(by obtain⟨_,_,rfl⟩:=us2 hl;rfl)
  m_Z:=mg_of X G a8
  F_K:=am l9 c9 k9
  B_K:=(am l9 c9 k9).binds (ps:=["node"]) λ_ _ _ _ _ _ us hl=>(by obtain⟨_,rfl⟩:=us1 hl;rfl)
  m_K:=mg_of X G a9
  F_W:=am l10 c10 k10
  B_W:=(am l10 c10 k10).binds (ps:=["node"]) λ_ _ _ _ _ _ us hl=>(by obtain⟨_,rfl⟩:=us1 hl;rfl)
  m_W:=mg_of X G a10
  F_N:=am l11 c11 k11
  B_N:=(am l11 c11 k11).binds (ps:=["held","most","thing","throw"]) λ_ _ _ _ _ _ us hl=>(by obtain⟨_,_,_,_,rfl⟩:=us4 hl;rfl)
  m_N:=mg_of X G a11
  F_C:=am l12 c12 k12
  B_C:=(am l12 c12 k12).binds (ps:=["one","other"]) λ_ _ _ _ _ _ us hl=>(by obtain⟨_,_,rfl⟩:=us2 hl;rfl)
  m_C:=mg_of X G a12
  F_J:=am l13 c13 k13
  B_J:=(am l13 c13 k13).binds (ps:=["one","other"]) λ_ _ _ _ _ _ us hl=>(by obtain⟨_,_,rfl⟩:=us2 hl;rfl)
  m_J:=mg_of X G a13
  F_e:=am l14 c14 k14
  B_e:=(am l14 c14 k14).binds (ps:=["wanted","one","other","taken"]) λ_ _ _ _ _ _ us hl=>(by obtain⟨_,_,_,_,rfl⟩:=us4 hl;rfl)
  m_e:=mg_of X G a14
  F_i:=am l15 c15 k15
  B_i:=(am l15 c15 k15).binds (ps:=["wanted","one","other","taken"]) λ_ _ _ _ _ _ us hl=>(by obtain⟨_,_,_,_,rfl⟩:=us4 hl;rfl)
  m_i:=mg_of X G a15
  F_d:=am l16 c16 k16
  B_d:=(am l16 c16 k16).binds (ps:=["wanted","one","other","taken"]) λ_ _ _ _ _ _ us hl=>(by obtain⟨_,_,_,_,rfl⟩:=us4 hl;rfl)
  m_d:=mg_of X G a16
  F_Q:=am l17 c17 k17
  B_Q:=(am l17 c17 k17).binds (ps:=["pot","place"]) λ_ _ _ _ _ _ us hl=>(by obtain⟨_,_,rfl⟩:=us2 hl;rfl)
  m_Q:=mg_of X G a17
  F_R:=am l18 c18 k18
  B_R:=(am l18 c18 k18).binds (ps:=["places","go"]) λ_ _ _ _ _ _ us hl=>(by obtain⟨_,_,rfl⟩:=us2 hl;rfl)
  m_R:=mg_of X G a18
  F_D:=am l19 c19 k19
  B_D:=(am l19 c19 k19).binds (ps:=["go","place"]) λ_ _ _ _ _ _ us hl=>(by obtain⟨_,_,rfl⟩:=us2 hl;rfl)
  m_D:=mg_of X G a19
  F_V:=am l20 c20 k20
  B_V:=(am l20 c20 k20).binds (ps:=["one","other","kept"]) λ_ _ _ _ _ _ us hl=>(by obtain⟨_,_,_,rfl⟩:=us3 hl;rfl)
  m_V:=mg_of X G a20
  F_H:=am l21 c21 k21
  B_H:=(am l21 c21 k21).binds (ps:=["_law_script","_law_k"]) λ_ _ _ _ _ _ us hl=>(by obtain⟨_,_,rfl⟩:=us2 hl;rfl)
  m_H:=mg_of X G a21
  F_aa:=am l22 c22 k22
  B_aa:=(am l22 c22 k22).binds (ps:=["_law_cell","_law_k"]) λ_ _ _ _ _ _ us hl=>(by obtain⟨_,_,rfl⟩:=us2 hl;rfl)
  m_aa:=mg_of X G a22
  F_z:=am l23 c23 k23
  B_z:=(am l23 c23 k23).binds (ps:=["_law_cell","_law_digits","_law_bases"]) λ_ _ _ _ _ _ us hl=>(by obtain⟨_,_,_,rfl⟩:=us3 hl;rfl)
  m_z:=mg_of X G a23
  F_u:=am l24 c24 k24
  B_u:=(am l24 c24 k24).binds (ps:=["_law_many","_law_few"]) λ_ _ _ _ _ _ us hl=>(by obtain⟨_,_,rfl⟩:=us2 hl;rfl)
  m_u:=mg_of X G a24
  F_G:=am l25 c25 k25
  B_G:=(am l25 c25 k25).binds (ps:=["_law_most","_law_many","_law_first"]) λ_ _ _ _ _ _ us hl=>(by obtain⟨_,_,_,rfl⟩:=us3 hl;rfl)
  m_G:=mg_of X G a25
  F_T:=am l26 c26 k26
  B_T:=(am l26 c26 k26).binds (ps:=["_law_most","_law_came"]) λ_ _ _ _ _ _ us hl=>(by obtain⟨_,_,rfl⟩:=us2 hl;rfl)
  m_T:=mg_of X G a26
  F_M:=am l27 c27 k27
  B_M:=(am l27 c27 k27).binds (ps:=["_law_most","_law_came","_law_numbers_here"]) λ_ _ _ _ _ _ us hl=>(by obtain⟨_,_,_,rfl⟩:=us3 hl;rfl)
  m_M:=mg_of X G a27
  F_U:=am l28 c28 k28
  B_U:=(am l28 c28 k28).binds (ps:=["_law_one","_law_other","_law_kept"]) λ_ _ _ _ _ _ us hl=>(by obtain⟨_,_,_,rfl⟩:=us3 hl;rfl)
  m_U:=mg_of X G a28
  F_O:=am l29 c29 k29
  B_O:=(am l29 c29 k29).binds (ps:=["_law_node","_law_most","_law_came"]) λ_ _ _ _ _ _ us hl=>(by obtain⟨_,_,_,rfl⟩:=us3 hl;rfl)
  m_O:=mg_of X G a29
  F_y:=am l30 c30 k30
  B_y:=(am l30 c30 k30).binds (ps:=["_law_one","_law_other"]) λ_ _ _ _ _ _ us hl=>(by obtain⟨_,_,rfl⟩:=us2 hl;rfl)
  m_y:=mg_of X G a30
  F_P:=am l31 c31 k31
  B_P:=(am l31 c31 k31).binds (ps:=["_law_one","_law_other","_law_kept"]) λ_ _ _ _ _ _ us hl=>(by obtain⟨_,_,_,rfl⟩:=us3 hl;rfl)
  m_P:=mg_of X G a31
  F_A:=am l32 c32 k32
  B_A:=(am l32 c32 k32).binds (ps:=["_law_most","_law_first","_law_second"]) λ_ _ _ _ _ _ us hl=>(by obtain⟨_,_,_,rfl⟩:=us3 hl;rfl)
  m_A:=mg_of X G a32
  F_ac:=am l33 c33 k33
  m_ac:=mg_of X G a33
  F_v:=wM ml_9 mo_9 mk_9
  B_v:=oQ (ds:=[]) rfl md_Pot_come rfl λus hl=>match us,hl with | [_,_,_],_=>⟨_,rfl,rfl⟩
  F_h:=am ml_a mo_a mk_a
  B_h:=(am ml_a mo_a mk_a).binds (ps:=["self"]) λ_ _ _ _ _ _ us hl=>(by obtain⟨_,rfl⟩:=us1 hl;rfl)
  F_f:=am ml_b mo_b mk_b
  B_f:=(am ml_b mo_b mk_b).binds (ps:=["self"]) λ_ _ _ _ _ _ us hl=>(by obtain⟨_,rfl⟩:=us1 hl;rfl)
  F_l:=am ml_d mo_d mk_d
  B_l:=(am ml_d mo_d mk_d).binds (ps:=["self"]) λ_ _ _ _ _ _ us hl=>(by obtain⟨_,rfl⟩:=us1 hl;rfl)
  F_o:=am ml_2 mo_2 mk_2
  B_o:=(am ml_2 mo_2 mk_2).binds (ps:=["self"]) λ_ _ _ _ _ _ us hl=>(by obtain⟨_,rfl⟩:=us1 hl;rfl)
  F_B:=am ml_e mo_e mk_e
  B_B:=(am ml_e mo_e mk_e).binds (ps:=["self"]) λ_ _ _ _ _ _ us hl=>(by obtain⟨_,rfl⟩:=us1 hl;rfl)
  F_F:=am ml_3 mo_3 mk_3
  B_F:=(am ml_3 mo_3 mk_3).binds (ps:=["self"]) λ_ _ _ _ _ _ us hl=>(by obtain⟨_,rfl⟩:=us1 hl;rfl)
  F_t:=am ml_10 mo_10 mk_10
  B_t:=(am ml_10 mo_10 mk_10).binds (ps:=["self"]) λ_ _ _ _ _ _ us hl=>(by obtain⟨_,rfl⟩:=us1 hl;rfl)
  F_x:=am ml_5 mo_5 mk_5
  B_x:=(am ml_5 mo_5 mk_5).binds (ps:=["self"]) λ_ _ _ _ _ _ us hl=>(by obtain⟨_,rfl⟩:=us1 hl;rfl)
  F_q:=am ml_f mo_f mk_f
  B_q:=(am ml_f mo_f mk_f).binds (ps:=["self"]) λ_ _ _ _ _ _ us hl=>(by obtain⟨_,rfl⟩:=us1 hl;rfl)
  F_w:=am ml_4 mo_4 mk_4
  B_w:=(am ml_4 mo_4 mk_4).binds (ps:=["self"]) λ_ _ _ _ _ _ us hl=>(by obtain⟨_,rfl⟩:=us1 hl;rfl)
  F_r:=am ml_1 mo_1 mk_1
  B_r:=(am ml_1 mo_1 mk_1).binds (ps:=["self","throw"]) λ_ _ _ _ _ _ us hl=>(by obtain⟨_,_,rfl⟩:=us2 hl;rfl)
  F_b:=am ml_8 mo_8 mk_8
  B_b:=(am ml_8 mo_8 mk_8).binds (ps:=["self"]) λ_ _ _ _ _ _ us hl=>(by obtain⟨_,rfl⟩:=us1 hl;rfl)
  mt_v:=⟨mf_9,mi_9,mk_9⟩
  mt_h:=⟨mf_a,mi_a,mk_a⟩
  mt_f:=⟨mf_b,mi_b,mk_b⟩
  mt_l:=⟨mf_d,mi_d,mk_d⟩
  mt_o:=⟨mf_2,mi_2,mk_2⟩
  mt_B:=⟨mf_e,mi_e,mk_e⟩
  mt_F:=⟨mf_3,mi_3,mk_3⟩
  mt_t:=⟨mf_10,mi_10,mk_10⟩
  mt_x:=⟨mf_5,mi_5,mk_5⟩
  mt_q:=⟨mf_f,mi_f,mk_f⟩
  mt_w:=⟨mf_4,mi_4,mk_4⟩
  mt_r:=⟨mf_1,mi_1,mk_1⟩
  mt_b:=⟨mf_8,mi_8,mk_8⟩
  mc_g:=mg_of X G ca_g
  cl_g:=⟨pa_g,pb_g,pc_g,pd_g⟩
  mk_g:=⟨qa_g,qb_g,qc_g,qd_g⟩
  na_Told_rising:=qn_Told_rising
  Fi_g:=am cl_g co_g ck_g
  Bi_g:=(am cl_g co_g ck_g).binds (ps:=["self","kept"]) λ_ _ _ _ _ _ us hl=>(by obtain⟨_,_,rfl⟩:=us2 hl;rfl)
  mc_k:=mg_of X G ca_k
  cl_k:=⟨pa_k,pb_k,pc_k,pd_k⟩
  mk_k:=⟨qa_k,qb_k,qc_k,qd_k⟩
  na_Die_makes:=qn_Die_makes
  Fi_k:=am cl_k co_k ck_k
  Bi_k:=(am cl_k co_k ck_k).binds (ps:=["self","parts"]) λ_ _ _ _ _ _ us hl=>(by obtain⟨_,_,rfl⟩:=us2 hl;rfl)
  mc_c:=mg_of X G ca_c
  cl_c:=⟨pa_c,pb_c,pc_c,pd_c⟩
  mk_c:=⟨qa_c,qb_c,qc_c,qd_c⟩
  na_Pot_most:=qn_Pot_most
  na_Pot_seen:=qn_Pot_seen
  na_Pot_held:=qn_Pot_held
  Fi_c:=am cl_c co_c ck_c
  Bi_c:=(am cl_c co_c ck_c).binds (ps:=["self","most"]) λ_ _ _ _ _ _ us hl=>(by obtain⟨_,_,rfl⟩:=us2 hl;rfl)
  g_LETTERS:=⟨u0,mg_of X G b0,r0⟩
  g_MOST_LETTERS:=⟨u1,mg_of X G b1,r1⟩
  g_MOST_WAYS:=⟨u2,mg_of X G b2,r2⟩
  g_MOST_KEPT:=⟨u3,mg_of X G b3,r3⟩
  g_MOST_COME:=⟨u4,mg_of X G b4,r4⟩
  mc_a:=mg_of X G ca_a
  kc_NoThrow:=cb_a
  xc_a:=sF cc_a
  xh_a:=tG cc_a
  xi_NoThrow:=cx_a
  fn_NoThrow:=cg_a
  Fi_a:=am cl_a co_a ck_a
  Bi_a:=(am cl_a co_a ck_a).binds (ps:=["self","place"]) λ_ _ _ _ _ _ us hl=>(by obtain⟨_,_,rfl⟩:=us2 hl;rfl)
  sx_NoThrow_place:=Ab cs_NoThrow_place
  mc_m:=mg_of X G ca_m
  kc_TooMany:=cb_m
  xc_m:=sF cc_m
  xh_m:=tG cc_m
  xi_TooMany:=cx_m
  mc_n:=mg_of X G ca_n
  kc_NoThing:=cb_n
  xc_n:=sF cc_n
  xh_n:=tG cc_n
  xi_NoThing:=cx_n
  tt:=fact_tt
  tm2:=fact_tm2
  z_abs:=mg_none_of X G z0
  z_all:=mg_none_of X G z1
  z_bool:=mg_none_of X G z2
  z_enumerate:=mg_none_of X G z3
  z_int:=mg_none_of X G z4
  z_isinstance:=mg_none_of X G z5
  z_len:=mg_none_of X G z6
  z_list:=mg_none_of X G z7
  z_min:=mg_none_of X G z8
  z_range:=mg_none_of X G z9
  z_sorted:=mg_none_of X G z10
  z_str:=mg_none_of X G z11
  z_sum:=mg_none_of X G z12
  z_tuple:=mg_none_of X G z13
  bl:=λs u=>.of_eq rfl }
end My
open PySem PySem.W PyProof.Rows
namespace PySem.W.Fast
def tw11340640307872214278:=0
def tw2141146776687496264:=0
def tw13930289498608387465:=0
def tw14695468305646613482:=0
def tw12108296605434881646:=0
def tw18168554169305483888:=0
def tw10611442444138441490:=0
def tw9977272845996047956:=0
def tw3522617162037044053:=0
def tw3201380813280354870:=0
def tw11260567927669613817:=0
def tw15208667038513959706:=0
def tw11330568467667537947:=0
def tw290750312675078268:=0
def tw6047183956788433183:=0
def tw10088280777464469127:=0
def tw10215524914962596885:=0
def tw10238458472824682795:=0
def tw10309702585171020678:=0
def tw10376308413558862121:=0
def tw10389279265791009032:=0
def tw10454036118972568894:=0
def tw10490201644918924411:=0
def tw10527389912411479602:=0
def tw10545598087649874834:=0
def tw10566973457317023174:=0
def tw10624264164773091534:=0
def tw10668640981914818648:=0
def tw10680645370376714899:=0
def tw10701523874536903846:=0
def tw1074558010874639844:=0
def tw10783419173735805101:=0
def tw10826580224090819234:=0
def tw10936334665015547745:=0
def tw10955909847369866675:=0
def tw11066253554507606424:=0
def tw1119109020258634662:=0
def tw11279833552733149115:=0
def tw11398618277072097992:=0
def tw11420214729017052388:=0
def tw11439463857133953249:=0
def tw11443043583259125383:=0
def tw11466944574661693251:=0
def tw11512651561888943943:=0
def tw11551289336112556711:=0
def tw11567946185062270659:=0
def tw11576114932665387653:=0
def tw1157647281614246987:=0
def tw11600749762783018087:=0
def tw11601581663781396409:=0
def tw11690635835601714674:=0
def tw11711528814645056428:=0
def tw11717635285679061905:=0
def tw11740357697104934228:=0
def tw11754264857817848564:=0
def tw11758046390037786824:=0
def tw1176521690630324512:=0
def tw11879473540643205645:=0
def tw11991640575548868847:=0
def tw12061144405998950132:=0
def tw12091341751371677365:=0
def tw12094279032807856648:=0
def tw12097284381446848557:=0
def tw12105080768725204114:=0
def tw12140139281562849106:=0
def tw12178742736602320774:=0
def tw12222348306215602393:=0
def tw12250509758670335029:=0
def tw12312357801739100234:=0
def tw12381591440949868393:=0
def tw12423304756811731526:=0
def tw12436600543733343795:=0
def tw12451210514196830603:=0
def tw12581743287093926171:=0
def tw12602787116811861798:=0
def tw1260806208344112261:=0
def tw12638905927514148534:=0
def tw12659145290970611053:=0
def tw12711715179987507761:=0
def tw12785200940655673512:=0
def tw12802813778588625435:=0
def tw12950899233656973138:=0
def tw1295431725495578263:=0
def tw12977892759803054620:=0
def tw13017242063711057645:=0
def tw13094862045583435205:=0
def tw13326764828985766129:=0
def tw1333414274440967403:=0
def tw1333854594114635011:=0
def tw13347389422457060539:=0
def tw13393890796019160524:=0
def tw13524980525890563685:=0
def tw13559106094634139703:=0
def tw13593710705001159575:=0
def tw13611489326593071442:=0
def tw13653221115422395643:=0
def tw13655306801985981605:=0
def tw13656420120969294830:=0
def tw13665123507011398009:=0
def tw13679424719374803610:=0
def tw13682215581468311993:=0
def tw1368396690043197084:=0
def tw13764493575039246939:=0
def tw13808279124436362381:=0
def tw13859447283112527642:=0
def tw13889614155742469974:=0
def tw13896667287130563966:=0
def tw13924182328985003577:=0
def tw14132743728545219:=0
def tw14145052769357770461:=0
def tw14185849919556039614:=0
def tw14194043211065266568:=0
def tw14199582075180818220:=0
def tw14203513704241093320:=0
def tw14236737050966473585:=0
def tw14278492654664455994:=0
def tw14299463234004354285:=0
def tw14299776218897909255:=0
def tw1431654346280428702:=0
def tw1439896289277563950:=0
def tw14500637359193364737:=0
def tw14537478184629429834:=0
def tw14547151527452383618:=0
def tw14553662700392850287:=0
def tw14556136216229408966:=0
def tw14557500285342278081:=0
def tw14564749205128610711:=0
def tw1457579469604652312:=0
def tw1458908135958854899:=0
def tw14617190517776540802:=0
def tw14665268391344699425:=0
def tw14758837798369617913:=0
def tw14769088268548700090:=0
def tw14815319023274099345:=0
def tw14852199596777727180:=0
def tw14867388434367225346:=0
def tw14896706370166005772:=0
def tw14961856147584826113:=0
def tw15020882057868843283:=0
def tw15047954427524450459:=0
def tw15173547538905412765:=0
def tw15243639907990774890:=0
def tw15371025531334502699:=0
def tw15467475682741457738:=0
def tw15547155860494961183:=0
def tw1559071233875457723:=0
def tw15614328717623078350:=0
def tw1561792954470961942:=0
def tw15664952398059058629:=0
def tw15789333668905113299:=0
def tw15823138579758263838:=0
def tw15886172103821294734:=0
def tw15943807088080468126:=0
def tw15971088737448311082:=0
def tw16113676043794445867:=0
def tw16275406483028734143:=0
def tw16371945051249430154:=0
def tw16382556849191557359:=0
def tw16420797741092690980:=0
def tw164237950734303672:=0
def tw16433560191459635212:=0
def tw16454419123137242434:=0
def tw16468380138779207898:=0
def tw16477787791424164150:=0
def tw16489536239843811147:=0
def tw16525221035146275562:=0
def tw16629781585954018272:=0
def tw16632779120171985900:=0
def tw16644031249590759521:=0
def tw16668398871819138788:=0
def tw16729349347548375239:=0
def tw16750028607584551238:=0
def tw16802062124425700871:=0
def tw16803284802124579368:=0
def tw16804540117856421078:=0
def tw16911243928075268330:=0
def tw16959498982870932107:=0
def tw17088278279798043899:=0
def tw17088819756354646842:=0
def tw17095566007383564638:=0
def tw17114564863389765195:=0
def tw17130269186025257260:=0
def tw17180167439139182650:=0
def tw17255003059943200165:=0
def tw17256346914376231533:=0
def tw17261039530669764467:=0
def tw17286822038180229078:=0
def tw17311089513482467108:=0
def tw17411216768079433291:=0
def tw174262023433860386:=0
def tw17486427689638177097:=0
def tw17498225249734296645:=0
def tw17505277987463653849:=0
def tw17515428741962063200:=0
def tw17549444723454380279:=0
def tw17582088311293680408:=0
def tw17585037285364409602:=0
def tw17608547045722598857:=0
def tw1782644256962344012:=0
def tw17832644860104606348:=0
def tw17833790699251438863:=0
def tw17968167274087890534:=0
def tw1799016547822697000:=0
def tw18061263674711419505:=0
def tw18082653275127178596:=0
def tw18112779236983503060:=0
def tw18168950479316683526:=0
def tw18195888773661746329:=0
def tw18210291400126466413:=0
def tw18229904075691482941:=0
def tw18234358574773848521:=0
def tw18283073345141462171:=0
def tw18295992491542770414:=0
def tw18315972411335845179:=0
def tw1832368923945936431:=0
def tw18367639389042135673:=0
def tw18369423393243299984:=0
def tw1871638667706525182:=0
def tw1882017719498711589:=0
def tw1925602066894777472:=0
def tw1956327137128099781:=0
def tw197487474595654555:=0
def tw2014475461478914442:=0
def tw2024556833904598701:=0
def tw2034366126700141060:=0
def tw2068429022993987670:=0
def tw21946483068523143:=0
def tw2234562301488876765:=0
def tw2260036674535278659:=0
def tw2293849561748909536:=0
def tw2342592465519615605:=0
def tw2425069129053064871:=0
def tw2425940119471029150:=0
def tw2502354994780910764:=0
def tw2544305688325198932:=0
def tw2548548475620619880:=0
def tw259890063981561808:=0
def tw2620670280249386877:=0
def tw2653902969578742630:=0
def tw2708092279164337603:=0
def tw2777916532622369142:=0
def tw2786758008945116536:=0
def tw2808341396881294496:=0
def tw2847183087917922968:=0
def tw2895132544527536578:=0
def tw2903232440090564290:=0
def tw2922713601235666824:=0
def tw2925181804356449589:=0
def tw3081882103267743922:=0
def tw3108918898579538944:=0
def tw3119587078986471526:=0
def tw3140976680681775062:=0
def tw3210714542266653476:=0
def tw3247880859567098202:=0
def tw3274681119031303942:=0
def tw3307303331806551635:=0
def tw3330467604896764056:=0
def tw3331608076354420034:=0
def tw337783756170280848:=0
def tw3395498470608892112:=0
def tw351760583474254314:=0
def tw358670502814813235:=0
def tw3626481050625024615:=0
def tw3663634242185721742:=0
def tw3697337383088467796:=0
def tw370378423974046730:=0
def tw3756444726729604959:=0
def tw376263070512150866:=0
def tw3801060240801231826:=0
def tw3811767552247755198:=0
def tw3825536232403698602:=0
def tw3857469555431387450:=0
def tw3909636751344717590:=0
def tw3912433900078391427:=0
def tw3924413008653853597:=0
def tw3937006349493350547:=0
def tw3981471012972989642:=0
def tw4004477955983199305:=0
def tw4079425778410478075:=0
def tw4112418289291641328:=0
def tw4115107467158418306:=0
def tw4116782386700901430:=0
def tw4117259083546811630:=0
def tw4125299900835355807:=0
def tw4127084889228247919:=0
def tw4206236833787549403:=0
def tw4212323609229608078:=0
def tw4296769268423209252:=0
def tw430698690904935539:=0
def tw4314633736736550793:=0
def tw4344384849937464752:=0
def tw4375725670923829038:=0
def tw4411227251761462573:=0
def tw4434900024343419174:=0
def tw4507767540898060463:=0
def tw4530244887244079259:=0
def tw4534487259226031139:=0
def tw4597398326040760109:=0
def tw4601422297328947774:=0
def tw4623478018521102843:=0
def tw4639508057764935291:=0
def tw4706473340468673293:=0
def tw4795035304299532059:=0
def tw4858090768042872052:=0
def tw4890770743058787810:=0
def tw4899388672007231545:=0
def tw4961200828474907208:=0
def tw4970460115122171090:=0
def tw4983529857164031143:=0
def tw5089281132317468677:=0
def tw5102110914705861654:=0
def tw5162065158212877754:=0
def tw5241631926412799319:=0
def tw5288087662818485251:=0
def tw5294859146471017502:=0
def tw5349909793587584489:=0
def tw5369024133928574999:=0
def tw5429625690597852968:=0
def tw5437671633807569516:=0
def tw5454164595600449515:=0
def tw5516610869101899465:=0
def tw5604928599572196310:=0
def tw565168326549489892:=0
def tw5673180061015031615:=0
def tw5725362528263621054:=0
def tw5735720713895956015:=0
def tw5772290713596849023:=0
def tw5816118991908300807:=0
def tw5850502412570120199:=0
def tw5853143879146800569:=0
def tw5904466105363451821:=0
def tw5969639803975472062:=0
def tw6012476506076025019:=0
def tw6034388331856139034:=0
def tw6051518753697908898:=0
def tw6086759315134213564:=0
def tw6092500020896280418:=0
def tw6118473161553034852:=0
def tw6158410059702394909:=0
def tw616614220848081732:=0
def tw6205534575278611507:=0
def tw6319127377099990445:=0
def tw6322271566535183587:=0
def tw6407730083560532743:=0
def tw6563146234973868194:=0
def tw6586026910465618004:=0
def tw662724816875093153:=0
def tw6707511578697674875:=0
def tw6757669787575244933:=0
def tw6841921423855862611:=0
def tw6859504157420390362:=0
def tw6920850951854308812:=0
def tw6925553012106421341:=0
def tw6942428575956307475:=0
def tw6963751299104767587:=0
def tw7016876373346654504:=0
def tw7032031387876669754:=0
def tw7039447692317356605:=0
def tw7084991196918692202:=0
def tw7130321933466118640:=0
def tw7168316609730649588:=0
def tw7238531230242686880:=0
def tw7338227863549156139:=0
def tw7366170743217973554:=0
def tw7389523489200540902:=0
def tw739129658193325439:=0
def tw7412058501545266244:=0
def tw7422098412981108888:=0
def tw7567843859200923628:=0
def tw7602359948449495121:=0
def tw7634606977833061501:=0
def tw7675113469117007036:=0
def tw767934685370892181:=0
def tw7682927078473937848:=0
def tw7723787233562246438:=0
def tw7731682857820237293:=0
def tw7741882076815892269:=0
def tw7779430395737826297:=0
def tw7816280379585342747:=0
def tw7838001582377248365:=0
def tw7844931949046155995:=0
def tw7925801263880863482:=0
def tw798592398462065994:=0
def tw8052423964647421000:=0
def tw8072522539822989565:=0
def tw8121966959309438510:=0
def tw8196223176510618073:=0
def tw8236185857040987143:=0
def tw8239369707943429607:=0
def tw8305762871096917449:=0
def tw8395391990540237068:=0
def tw8424531647233922384:=0
def tw8458806955073281812:=0
def tw8576372451703304349:=0
def tw8619498398198378616:=0
def tw8623292733725186995:=0
def tw8656906691162540166:=0
def tw8665276780895204794:=0
def tw8681099874059247936:=0
def tw8692334846358599843:=0
def tw8731164202888182167:=0
def tw8776715076356426418:=0
def tw8780420972825372132:=0
def tw8796445645847533928:=0
def tw8881283393970864867:=0
def tw8887870725146961554:=0
def tw8915629889373803077:=0
def tw8953863440828016296:=0
def tw8961103029123298213:=0
def tw8969910582414688857:=0
def tw9030493242363303836:=0
def tw9073018879970360723:=0
def tw9114944180082750770:=0
def tw926449908474025371:=0
def tw9374014677821014454:=0
def tw9536354738939812749:=0
def tw9549236573397459866:=0
def tw9589042694110922374:=0
def tw9589279602402408942:=0
def tw9701888739899620472:=0
def tw9705716773352049610:=0
def tw9746776711892382802:=0
def tw9867967468744914609:=0
def tw9868295758909875282:=0
end PySem.W.Fast
set_option maxRecDepth 100000 in
set_option maxHeartbeats 0 in
theorem PySem.Challenge.cw_fewspeak_k68_pots_poured_holds : PySem.Challenge.rw_fewspeak_k68_pots_poured.Holds := by
 w_on;o_law;k_head;(case hw=>w_witness2)
 k_fill
 refine L2.walk_ofT (l:=PySem.Challenge.rw_fewspeak_k68_pots_poured) (n:=63) (k:=My.lawK) (x := "_law_script") (CX:=L2.CX0) (sp:=My.spLaw) rfl (by decide) rfl ⟨rfl,by decide,by decide⟩ (λw h Y=>⟨PySem.W.km_in_of Y,PySem.W.km_tabs_of Y⟩) ?F ?S ?C
 case F =>
  intro ts' hts w mg fa h KX G hmg
  have T:∃ a,My.Txt (L2.KOf KX) mg a/\(My.tabs a).map (·.1)=ts':=by
   rw[hts];dsimp only[L2.KOf];refine' My.txt_mk KX G ?a0 ?l0 ?c0 ?k0 ?a1 ?l1 ?c1 ?k1 ?a2 ?l2 ?c2 ?k2 ?a3 ?l3 ?c3 ?k3 ?a4 ?l4 ?c4 ?k4 ?a5 ?l5 ?c5 ?k5 ?a6 ?l6 ?c6 ?k6 ?a7 ?l7 ?c7 ?k7 ?a8 ?l8 ?c8 ?k8 ?a9 ?l9 ?c9 ?k9 ?a10 ?l10 ?c10 ?k10 ?a11 ?l11 ?c11 ?k11 ?a12 ?l12 ?c12 ?k12 ?a13 ?l13 ?c13 ?k13 ?a14 ?l14 ?c14 ?k14 ?a15 ?l15 ?c15 ?k15 ?a16 ?l16 ?c16 ?k16 ?a17 ?l17 ?c17 ?k17 ?a18 ?l18 ?c18 ?k18 ?a19 ?l19 ?c19 ?k19 ?a20 ?l20 ?c20 ?k20 ?a21 ?l21 ?c21 ?k21 ?a22 ?l22 ?c22 ?k22 ?a23 ?l23 ?c23 ?k23 ?a24 ?l24 ?c24 ?k24 ?a25 ?l25 ?c25 ?k25 ?a26 ?l26 ?c26 ?k26 ?a27 ?l27 ?c27 ?k27 ?a28 ?l28 ?c28 ?k28 ?a29 ?l29 ?c29 ?k29 ?a30 ?l30 ?c30 ?k30 ?a31 ?l31 ?c31 ?k31 ?a32 ?l32 ?c32 ?k32 ?a33 ?l33 ?c33 ?k33 ?b0 ?b1 ?b2 ?b3 ?b4 ?ca_L ?cb_L ?cc_L ?cx_L ?ca_a ?cb_a ?cc_a ?cf_a ?cx_a ?cg_a ?cl_a ?co_a ?ck_a ?cs_NoThrow_place ?ca_m ?cb_m ?cc_m ?cx_m ?ca_n ?cb_n ?cc_n ?cx_n ?ca_Y ?pa_Y ?pb_Y ?pc_Y ?pd_Y ?pe_Y ?pf_Y ?pg_Y ?ph_Y ?ca_g ?pa_g ?pb_g ?pc_g ?pd_g ?pe_g ?pf_g ?pg_g ?ph_g ?qa_g ?qb_g ?qc_g ?qd_g ?qn_Told_rising ?cl_g ?co_g ?ck_g ?ca_k ?pa_k ?pb_k ?pc_k ?pd_k ?pe_k ?pf_k ?pg_k ?ph_k ?qa_k ?qb_k ?qc_k ?qd_k ?qn_Die_makes ?cl_k ?co_k ?ck_k ?ca_c ?pa_c ?pb_c ?pc_c ?pd_c ?pe_c ?pf_c ?pg_c ?ph_c ?qa_c ?qb_c ?qc_c ?qd_c ?qn_Pot_most ?qn_Pot_seen ?qn_Pot_held ?cl_c ?co_c ?ck_c ?mf_9 ?ml_9 ?mo_9 ?mk_9 ?mi_9 ?md_Pot_come ?mv_Pot_come ?mf_a ?ml_a ?mo_a ?mk_a ?mi_a ?mf_b ?ml_b ?mo_b ?mk_b ?mi_b ?mf_d ?ml_d ?mo_d ?mk_d ?mi_d ?mf_2 ?ml_2 ?mo_2 ?mk_2 ?mi_2 ?mf_e ?ml_e ?mo_e ?mk_e ?mi_e ?mf_3 ?ml_3 ?mo_3 ?mk_3 ?mi_3 ?mf_10 ?ml_10 ?mo_10 ?mk_10 ?mi_10 ?mf_5 ?ml_5 ?mo_5 ?mk_5 ?mi_5 ?mf_f ?ml_f ?mo_f ?mk_f ?mi_f ?mf_4 ?ml_4 ?mo_4 ?mk_4 ?mi_4 ?mf_1 ?ml_1 ?mo_1 ?mk_1 ?mi_1 ?mf_8 ?ml_8 ?mo_8 ?mk_8 ?mi_8 ?lca_12 ?lct_12 ?lcq_12 ?lch_d ?lca_13 ?lct_13 ?lcq_13 ?lch_D ?lca_11 ?lct_11 ?lcq_11 ?lch_i ?lca_14 ?lct_14 ?lcq_14 ?lch_e ?ltnd ?fact_tt ?fact_tm ?fact_tm2 ?fact_tw ?fact_tw2 ?fact_tw3 ?z0 ?z1 ?z2 ?z3 ?z4 ?z5 ?z6 ?z7 ?z8 ?z9 ?z10 ?z11 ?z12 ?z13 ?r0 ?r1 ?r2 ?r3 ?r4
   case a0|l0|c0|k0|a1|l1|c1|k1|a2|l2|c2|k2|a3|l3|c3|k3|a4|l4|c4|k4|a5|l5|c5|k5|a6|l6|c6|k6|a7|l7|c7|k7|a8|l8|c8|k8|a9|l9|c9|k9|a10|l10|c10|k10|a11|l11|c11|k11|a12|l12|c12|k12|a13|l13|c13|k13|a14|l14|c14|k14|a15|l15|c15|k15|a16|l16|c16|k16|a17|l17|c17|k17|a18|l18|c18|k18|a19|l19|c19|k19|a20|l20|c20|k20|a21|l21|c21|k21|a22|l22|c22|k22|a23|l23|c23|k23|a24|l24|c24|k24|a25|l25|c25|k25|a26|l26|c26|k26|a27|l27|c27|k27|a28|l28|c28|k28|a29|l29|c29|k29|a30|l30|c30|k30|a31|l31|c31|k31|a32|l32|c32|k32|a33|l33|c33|k33|b0|b1|b2|b3|b4|ca_L|cb_L =>k_is
   case cc_L|cx_L =>kernel_rfl
   case ca_a|cb_a =>k_is
   case cc_a =>kernel_rfl
   case cf_a =>k_is
   case cx_a =>kernel_rfl
   case cg_a|cl_a|co_a|ck_a =>k_is
   case cs_NoThrow_place =>kernel_rfl
   case ca_m|cb_m =>k_is
   case cc_m|cx_m =>kernel_rfl
   case ca_n|cb_n =>k_is
   case cc_n|cx_n =>kernel_rfl
   case ca_Y =>k_is
   case pa_Y|pb_Y|pc_Y|pd_Y|pe_Y|pf_Y|pg_Y|ph_Y =>(first | k_is | kernel_rfl)
   case ca_g =>k_is
   case pa_g|pb_g|pc_g|pd_g|pe_g|pf_g|pg_g|ph_g|qa_g|qb_g|qc_g|qd_g|qn_Told_rising =>(first | k_is | kernel_rfl)
   case cl_g|co_g|ck_g|ca_k =>k_is
   case pa_k|pb_k|pc_k|pd_k|pe_k|pf_k|pg_k|ph_k|qa_k|qb_k|qc_k|qd_k|qn_Die_makes =>(first | k_is | kernel_rfl)
   case cl_k|co_k|ck_k|ca_c =>k_is
   case pa_c|pb_c|pc_c|pd_c|pe_c|pf_c|pg_c|ph_c|qa_c|qb_c|qc_c|qd_c|qn_Pot_most|qn_Pot_seen|qn_Pot_held =>(first | k_is | kernel_rfl)
   case cl_c|co_c|ck_c =>k_is
   case mf_9 =>(first | k_is | kernel_rfl)
   case ml_9|mo_9|mk_9 =>k_is
   case mi_9 =>(first | k_is | kernel_rfl)
   case md_Pot_come =>k_is
   case mv_Pot_come =>first | exact rfl | exact⟨_,rfl⟩
   case mf_a =>(first | k_is | kernel_rfl)
   case ml_a|mo_a|mk_a =>k_is
   case mi_a|mf_b =>(first | k_is | kernel_rfl)
   case ml_b|mo_b|mk_b =>k_is
   case mi_b|mf_d =>(first | k_is | kernel_rfl)
   case ml_d|mo_d|mk_d =>k_is
   case mi_d|mf_2 =>(first | k_is | kernel_rfl)
   case ml_2|mo_2|mk_2 =>k_is
   case mi_2|mf_e =>(first | k_is | kernel_rfl)
   case ml_e|mo_e|mk_e =>k_is
   case mi_e|mf_3 =>(first | k_is | kernel_rfl)
   case ml_3|mo_3|mk_3 =>k_is
   case mi_3|mf_10 =>(first | k_is | kernel_rfl)
   case ml_10|mo_10|mk_10 =>k_is
   case mi_10|mf_5 =>(first | k_is | kernel_rfl)
   case ml_5|mo_5|mk_5 =>k_is
   case mi_5|mf_f =>(first | k_is | kernel_rfl)
   case ml_f|mo_f|mk_f =>k_is
   case mi_f|mf_4 =>(first | k_is | kernel_rfl)
   case ml_4|mo_4|mk_4 =>k_is
   case mi_4|mf_1 =>(first | k_is | kernel_rfl)
   case ml_1|mo_1|mk_1 =>k_is
   case mi_1|mf_8 =>(first | k_is | kernel_rfl)
   case ml_8|mo_8|mk_8 =>k_is
   case mi_8 =>(first | k_is | kernel_rfl)
   case lca_12 =>exact rfl
   case lct_12 =>k_is
   case lcq_12 =>exact rfl
   case lch_d =>kernel_rfl
   case lca_13 =>exact rfl
   case lct_13 =>k_is
   case lcq_13 =>exact rfl
   case lch_D =>kernel_rfl
   case lca_11 =>exact rfl
   case lct_11 =>k_is
   case lcq_11 =>exact rfl
   case lch_i =>kernel_rfl
   case lca_14 =>exact rfl
   case lct_14 =>k_is
   case lcq_14 =>exact rfl
   case lch_e =>kernel_rfl
   case ltnd =>decide
   case fact_tt|fact_tm|fact_tm2|fact_tw|fact_tw2|fact_tw3 =>kernel_rfl
   case z0|z1|z2|z3|z4|z5|z6|z7|z8|z9|z10|z11|z12|z13 =>k_is
   case r0|r1|r2|r3|r4 =>first | exact rfl | exact⟨_,rfl⟩
  obtain⟨a,T,e1⟩:=T;have e1:=e1.trans hts;have e0:=hmg.symm.trans T.m_ac;cases e0;refine' ⟨a.d_ac,?b,?t,?u,λbase kb nb hB=>My.ok_law T hB ?v⟩
  case b=>exact T.bl
  case t =>
   intro P hP;have hP:=e1.symm ▸ hP;simp only[My.tabs,map_cons,map_nil,mem_cons,not_mem_nil,or_false]at hP
   rcases hP with rfl | rfl | rfl | rfl
   .exact⟨_,T.lch_d⟩
   .exact⟨_,T.lch_D⟩
   .exact⟨_,T.lch_i⟩
   .exact⟨_,T.lch_e⟩
  case u =>
   intro P hP;simp only[mem_cons,not_mem_nil,or_false]at hP
   rcases hP with rfl | rfl | rfl | rfl <;> kernel_rfl
  case v =>
   intro q hq;rw[<- e1];exact List.mem_map_of_mem hq
 case S=>exact λK H a ns hl hO hS=>My.law_start hl hO hS
 case C=>exact λH s e s' z=>z
