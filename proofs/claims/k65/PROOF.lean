import PyProof.Rows.All
import Wide.All
import OpenK.AllK
import Wide.FinOn
import Lean
import PyProof.EqAt
import PyProof.EqKinds
import PyProof.TupleCall
import PySem.Challenge.RW_fewspeak_k65_whole_spun
open PySem.W(CodeHd FnAt Frag InstAt any_some callWith_K callWith_K0 cellsFrom_some clsIn codeHdIn codeHd_of_K codeIn codeRec_of emptyDict findIn fnOf handedIn hasDictIn instObj isFn keepIn kitOne kitx_dict kitx_list kitx_tuple kla_fn kla_obj lookIn looks_clsIn looks_findIn looks_mroIn makesIn methodCall_KW methodObj mg_none_of mg_of mroIn nsIn nsOkIn osa_eq plainGet plainGet_of plainOver specialIn tabObj tailIn takerIn takesIn typeIn)
open List(all_cons all_eq_true all_map all_toArray any_cons append_assoc append_inj' append_nil cons_append filter_append flatten_cons foldl_cons getElem_map length_append length_cons length_filter_le length_map length_pos_iff length_range length_singleton length_take lookup_cons mapM_toArray map_append map_congr_left map_cons map_id map_map map_nil map_set mem_append mem_append_left mem_append_right mem_cons mem_cons_of_mem mem_cons_self mem_filter mem_map mem_range mem_singleton nil_append nodup_append nodup_cons nodup_nil nodup_range of_mem_zip pairwise_cons pairwise_iff_getElem pairwise_map range_succ replicate_succ size_toArray sum_append sum_cons sum_nil take_add_one take_length take_of_length_le take_zero)
noncomputable section
set_option Elab.async false
set_option linter.all false
set_option maxRecDepth 100000
namespace L2
open PySem PySem.Spec PyProof.Rows
abbrev Key:=Sum Int Str
def kQ:Key->Value->Bool
 | .inl k,v=>Value.isInt k v
 | .inr x,v=>Value.isStrOf x v
def BR(w:World):Key->Int
 | .inl k=>hashInt k
 | .inr x=>hashStr w x
theorem bJ:∀{k:Key}{v:Value},kQ k v=true->(∃ i t,k=Sum.inl i/\v=Value.int i t)\/(∃ x t,k=Sum.inr x/\v=Value.str x t)
 | .inl i,v,h=>by
  obtain⟨t,e⟩:=Value.isInt_shape (k:=i) (v:=v) h;exact .inl ⟨i,t,rfl,e⟩
 | .inr x,v,h=>by
  obtain⟨t,e⟩:=Value.isStrOf_shape (x:=x) (v:=v) h;exact .inr ⟨x,t,rfl,e⟩
theorem tm(i:Int)(t:Tok):kQ (.inl i) (.int i t)=true:=by simp[kQ,Value.isInt]
theorem rN(x:Str)(t:Tok):kQ (.inr x) (.str x t)=true:=by simp[kQ,Value.isStrOf]
theorem yO(a b:Int):decide ((Sum.inl a:Key)=Sum.inl b)=(a == b):=by
 by_cases e:a=b
 .subst e;simp
 .have h:¬(Sum.inl a:Key)=Sum.inl b:=λq=>e (Sum.inl.inj q)
  rw[decide_eq_false h];exact(beq_eq_false_iff_ne.mpr e).symm
theorem zB(a b:Str):decide ((Sum.inr a:Key)=Sum.inr b)=decide (a=b):=by
 by_cases e:a=b
 .subst e;simp
 .have h:¬(Sum.inr a:Key)=Sum.inr b:=λq=>e (Sum.inr.inj q)
  rw[decide_eq_false h,decide_eq_false e]
theorem zO(a:Int)(b:Str):decide ((Sum.inl a:Key)=Sum.inr b)=false:=decide_eq_false (λq=>nomatch q)
theorem y2(a:Str)(b:Int):decide ((Sum.inr a:Key)=Sum.inl b)=false:=decide_eq_false (λq=>nomatch q)
def bp(prog:Program)(w:World):PySem.KeyKind prog w Key where
 is:=kQ
 hash:=BR w
 inj:=λv a b ha hb=>by
  rcases bJ ha with⟨i,t,rfl,rfl⟩ | ⟨x,t,rfl,rfl⟩
  .rcases bJ hb with⟨j,u,rfl,e⟩ | ⟨y,u,rfl,e⟩
   .injection e with e1 _;rw[e1]
   .exact nomatch e
  .rcases bJ hb with⟨j,u,rfl,e⟩ | ⟨y,u,rfl,e⟩
   .exact nomatch e
   .injection e with e1 _;rw[e1]
 byValue:=λk v h=>by
  rcases bJ h with⟨i,t,rfl,rfl⟩ | ⟨x,t,rfl,rfl⟩ <;> rfl
 pyHash:=λhv h=>by
  rcases bJ hv with⟨i,t,rfl,rfl⟩ | ⟨x,t,rfl,rfl⟩
  .exact wpAny_pyHash_int h
  .exact wpAny_pyHash_str h
 eqBool:=λhu hv h=>by
  rcases bJ hu with⟨i,t,rfl,rfl⟩ | ⟨x,t,rfl,rfl⟩
  .rcases bJ hv with⟨j,u,rfl,rfl⟩ | ⟨y,u,rfl,rfl⟩
   .rw[yO]at h;exact wpAny_eqBool_int h
   .rw[zO]at h;exact SeqAt.EqAt.int_str i t y u _ _ _ _ h
  .rcases bJ hv with⟨j,u,rfl,rfl⟩ | ⟨y,u,rfl,rfl⟩
   .rw[y2]at h;exact SeqAt.EqAt.str_int x t j u _ _ _ _ h
   .rw[zB]at h;exact wpAny_eqBool_str h
 «strs»:=λk x t v h=>by
  rcases bJ h with⟨i,u,rfl,e⟩ | ⟨y,u,rfl,e⟩
  .exact nomatch e
  .injection e with e1 _
   subst e1
   cases v <;> rfl
theorem nP(prog:Program)(w:World)(i:Int)(t:Tok):(bp prog w).is (.inl i) (.int i t)=true:=tm i t
theorem m5(prog:Program)(w:World)(x:Str)(t:Tok):(bp prog w).is (.inr x) (.str x t)=true:=rN x t
inductive V where
 | non | bl (b:Bool) | int (i:Int) | str (x:Str) | byt (b:Array UInt8) | flt (b:UInt64) | ref (a:Addr) | ty (n:String)
 deriving DecidableEq
def RelV:V->Value->Prop
 | .non,u=>u=Value.none
 | .bl b,u=>u=Value.bool b
 | .int i,u=>∃ t,u=Value.int i t
 | .str x,u=>∃ t,u=Value.str x t
 | .byt b,u=>∃ t,u=Value.bytes b t
 | .flt b,u=>∃ t,u=Value.float b t
 | .ref a,u=>u=Value.ref a
 | .ty n,u=>u=Value.type n
abbrev Vals:List V->List Value->Prop:=Paired RelV
theorem Vals.length{xs:List V}{us:List Value}(r:Vals xs us):xs.length=us.length:=Paired.length r
theorem Vals.get:∀{xs:List V}{us:List Value}{i:Nat}{x:V},Vals xs us->xs[i]? = some x->∃ u,us[i]? = some u/\RelV x u
 | _,_,_,_,.nil,e=>by simp at e
 | _,_,0,_,.cons r _,e=>by simp at e;subst e;exact⟨_,rfl,r⟩
 | _,_,i+1,x,.cons _ t,e=>by
  obtain⟨u,a,b⟩:=Vals.get (i:=i) (x:=x) t (by simpa using e);exact⟨u,by simpa using a,b⟩
theorem Vals.set{x:V}{u:Value}(r:RelV x u):∀{xs:List V}{us:List Value}(i:Nat),Vals xs us->Vals (xs.set i x) (us.set i u)
 | _,_,_,.nil=>.nil
 | _,_,0,.cons _ t=>.cons r t
 | _,_,i+1,.cons q t=>.cons q (Vals.set r i t)
theorem Vals.append:∀{xs ys:List V}{us ws:List Value},Vals xs us->Vals ys ws->Vals (xs++ys) (us++ws)
 | _,_,_,_,.nil,s=>s
 | _,_,_,_,.cons r t,s=>.cons r (Vals.append t s)
theorem Vals.take:∀{xs:List V}{us:List Value}(n:Nat),Vals xs us->Vals (xs.take n) (us.take n)
 | _,_,0,_=>.nil
 | _,_,_+1,.nil=>.nil
 | _,_,n+1,.cons r t=>.cons r (Vals.take n t)
theorem Vals.drop:∀{xs:List V}{us:List Value}(n:Nat),Vals xs us->Vals (xs.drop n) (us.drop n)
 | _,_,0,r=>r
 | _,_,_+1,.nil=>.nil
 | _,_,n+1,.cons _ t=>Vals.drop n t
def RelO:Option V->Option Value->Prop
 | some v,some u=>RelV v u
 | none,none=>True
 | _,_=>False
def KV{κ:Type}:List (κ×V)->List (κ×Value)->Prop:=Paired λ(p:κ×V) (q:κ×Value)=>p.1=q.1/\RelV p.2 q.2
def kV:Key->V
 | .inl i=>.int i
 | .inr x=>.str x
inductive HO where
 | lst (xs:List V)
 | tup (xs:List V)
 | dK (kvs:List (Key×V)) | dT (kvs:List (List Key×V))
 | set (S:Int->Bool) (n:Nat)
 | ins (C dx:Addr) (fs:List (Str×V))
 | own (x:Addr)
 | xd (fs:List (Str×V))
 | met (f x:Addr)
 | rng (lo hi:Int)
 | frz (o:Obj) (u:HO)
 | tbl (ps:Array Value)
 | ext (φ:Heap->Prop)
abbrev Hp:=Addr->Option HO
def upd(H:Hp)(a:Addr)(o:HO):Hp:=λb=>if b=a then some o else H b
theorem ad{H:Hp}{a:Addr}{o:HO}:upd H a o a=some o:=by unfold upd;rw[if_pos rfl]
theorem ai{H:Hp}{a b:Addr}{o:HO}(h:b≠a):upd H a o b=H b:=by unfold upd;rw[if_neg h]
theorem qK{H:Hp}{a:Addr}{o u:HO}:upd (upd H a o) a u=upd H a u:=by
 funext b;unfold upd;split <;> rfl
theorem bQ{H:Hp}{a b:Addr}{o u:HO}(h:H a=some o)(h':H b=some u)(d:o≠u):a≠b:=by
 intro e;subst e;rw[h]at h';exact d (Option.some.inj h')
theorem av{H:Hp}{a b:Addr}{o:HO}(h:H a=some o)(h':H b=none):a≠b:=by
 intro e;subst e;rw[h]at h';cases h'
section
variable (P:Program) (w:World)
def ObjOk(H:Hp)(h:Heap)(a:Addr):HO->Prop
 | .lst xs=>xs.length<=sizeLine/\∃(its:List Value) (n:Nat),Vals xs its/\h.get? a=some { cls:=.type "list",data:=.seq its.toArray n }
 | .tup xs=>xs.length<=sizeLine/\∃ its:List Value,Vals xs its/\IsTup h a its.toArray
 | .dK kvs=>kvs.length<=sizeLine/\(a == sysModules)=false/\∃ vs,KV kvs vs/\h.DictOf (bp P w) a vs
 | .dT kvs=>kvs.length<=sizeLine/\(a == sysModules)=false/\∃ xs:List (List Key×Addr×Value),
   Paired (λ(p:List Key×V) (q:List Key×Addr×Value)=>p.1=q.1/\H q.2.1=some (.tup (p.1.map kV))/\RelV p.2 q.2.2) kvs xs /\
   ∃ o es ep,h.get? a=some o/\o.ExactDict/\o.data=.dict es ep/\es.toList=xs.map (entryOfKey (tupleKind (bp P w)))/\(xs.map (·.1)).Nodup
 | .set S n=>h.SetOf (intKind P w) a S n
 | .ins C dx fs=>H dx=some (.own a)/\fs.length<=1000/\dx≠a/\h.get? a=some (instObj C dx) /\
   ∃ mA,h.Ns1 dx mA/\(∀ f,RelO (fs.lookup f) (mA f))/\PySem.Within mA (fs.map (·.1))
 | .own _=>∃ o,h.get? a=some o
 | .xd fs=>∃ mA,h.Ns1 a mA/\∀ f,RelO (fs.lookup f) (mA f)
 | .rng lo hi=>∃ t u v,h.get? a=some { cls:=.type "range",data:=.fields #[.int lo t,.int hi u,.int 1 v] }
 | .frz o u=>h.get? a=some o/\ObjOk H h a u
 | .tbl ps=>h.get? a=some { cls:=.none,data:=.fields ps }
 | .met f x=>h.get? a=some (methodObj (.ref f) (.ref x))
 | .ext φ=>φ h/\(∃ o,h.get? a=some o)/\∀ h1 h2:Heap,φ h1->(∀ o,h1.get? a=some o->h2.get? a=some o)->φ h2
def HOk(H:Hp)(h:Heap):Prop:=∀ a o,H a=some o->ObjOk P w H h a o
end
section
variable {P:Program}{w:World}{H H':Hp}{h h':Heap}{a:Addr}{o:HO}
theorem ObjOk.lt(x:ObjOk P w H h a o):a<h.objs.size:=by
 cases o with
 | lst xs=>obtain⟨_,_,_,_,e⟩:=x;exact Heap.lt_size e
 | tup xs=>obtain⟨_,_,_,p⟩:=x;exact p.lt
 | dK kvs=>obtain⟨_,_,_,_,o,_,_,e,_⟩:=x;exact Heap.lt_size e
 | dT kvs=>obtain⟨_,_,_,_,o,_,_,e,_⟩:=x;exact Heap.lt_size e
 | set S n=>obtain⟨o,_,_,_,e,_⟩:=x;exact Heap.lt_size e
 | ins C dx fs=>obtain⟨_,_,_,e,_⟩:=x;exact Heap.lt_size e
 | own y=>obtain⟨_,e⟩:=x;exact Heap.lt_size e
 | xd fs=>obtain⟨_,⟨_,_,_,e,_⟩,_⟩:=x;exact Heap.lt_size e
 | rng lo hi=>obtain⟨_,_,_,e⟩:=x;exact Heap.lt_size e
 | frz ob u=>obtain⟨e,_⟩:=x;exact Heap.lt_size e
 | tbl ps=>exact Heap.lt_size (show h.get? a=some _ from x)
 | met f y=>exact Heap.lt_size (show h.get? a=some _ from x)
 | ext φ=>obtain⟨_,⟨_,e⟩,_⟩:=x;exact Heap.lt_size e
theorem Paired.mapP{d c:Type}{F G:d->c->Prop}:∀{l₁:List d}{l₂:List c},Paired F l₁ l₂->(∀ a b,F a b->G a b)->Paired G l₁ l₂
 | _,_,.nil,_=>.nil
 | _,_,.cons r t,f=>.cons (f _ _ r) (Paired.mapP t f)
theorem ObjOk.stay(x:ObjOk P w H h a o)(k:∀ b u,(b=a\/H b=some (.own a))->h.get? b=some u->h'.get? b=some u)
  (I:∀ b,H b=some (.own a)->H' b=some (.own a)) (E:∀ b xs,H b=some (.tup xs)->H' b=some (.tup xs)):ObjOk P w H' h' a o:=by
 induction o with
 | lst xs=>obtain⟨z,l,n,r,e⟩:=x;exact⟨z,l,n,r,k _ _ (.inl rfl) e⟩
 | tup xs=>obtain⟨z,l,r,g,e,c⟩:=x;exact⟨z,l,r,g,k _ _ (.inl rfl) e,c⟩
 | dK kvs=>obtain⟨z,y,G,r,g,i,j,e,c⟩:=x;exact⟨z,y,G,r,g,i,j,k _ _ (.inl rfl) e,c⟩
 | dT kvs =>
  obtain⟨z,y,xs,r,g,i,j,e,c⟩:=x;exact⟨z,y,xs,Paired.mapP r λp q z=>⟨z.1,E _ _ z.2.1,z.2.2⟩,g,i,j,k _ _ (.inl rfl) e,c⟩
 | set S n=>obtain⟨g,i,j,t,e,c⟩:=x;exact⟨g,i,j,t,k _ _ (.inl rfl) e,c⟩
 | ins C dx fs =>
  obtain⟨d,z,F,e,s,⟨A,i,j,D,c⟩,r⟩:=x;exact⟨I _ d,z,F,k _ _ (.inl rfl) e,s,⟨A,i,j,k _ _ (.inr d) D,c⟩,r⟩
 | own y=>obtain⟨g,e⟩:=x;exact⟨g,k _ _ (.inl rfl) e⟩
 | xd fs=>obtain⟨s,⟨A,i,j,e,c⟩,r⟩:=x;exact⟨s,⟨A,i,j,k _ _ (.inl rfl) e,c⟩,r⟩
 | rng lo hi=>obtain⟨t,u,v,e⟩:=x;exact⟨t,u,v,k _ _ (.inl rfl) e⟩
 | frz g u ih=>obtain⟨e,q⟩:=x;exact⟨k _ _ (.inl rfl) e,ih q⟩
 | tbl ps =>
  have e:h.get? a=some { cls:=.none,data:=.fields ps }:=x;show h'.get? a=some { cls:=.none,data:=.fields ps };exact k a _ (.inl rfl) e
 | met f y =>
  have e:h.get? a=some (methodObj (.ref f) (.ref y)):=x;show h'.get? a=some (methodObj (.ref f) (.ref y));exact k a _ (.inl rfl) e
 | ext φ=>obtain⟨p,⟨o,e⟩,B⟩:=x;exact⟨B _ _ p λo q=>k _ _ (.inl rfl) q,⟨o,k _ _ (.inl rfl) e⟩,B⟩
theorem HOk.lt(x:HOk P w H h)(e:H a=some o):a<h.objs.size:=(x a o e).lt
theorem HOk.fresh(x:HOk P w H h)(e:h.objs.size<=a):H a=none:=by
 cases q:H a with
 | none=>rfl
 | some u=>exact absurd (Nat.lt_of_lt_of_le (x.lt q) e) (Nat.lt_irrefl _)
theorem HOk.kept(x:HOk P w H h)(k:∀ b u,h.get? b=some u->h'.get? b=some u):HOk P w H h':=λa o e =>
 (x a o e).stay (λb u _ q=>k b u q) (λ_ q=>q) λ_ _ q=>q
theorem HOk.laid(x:HOk P w H h)(k:∀ b u,h.get? b=some u->h'.get? b=some u)(g:h.objs.size<=a)(d:ObjOk P w (upd H a o) h' a o):HOk P w (upd H a o) h':=λb u e=>by
 have f:=x.fresh g
 by_cases hb:b=a
 .subst hb;rw[ad]at e;cases e;exact d
 .rw[ai hb]at e
  exact(x b u e).stay (λc v _ q=>k c v q) (λc q=>by rw[ai (av q f)];exact q) λc xs q=>by rw[ai (av q f)];exact q
end
def Rd(H:Hp)(a:Addr)(u:HO):Prop:=H a=some u\/∃ o,H a=some (.frz o u)
theorem Rd.ok{P:Program}{w:World}{H:Hp}{h:Heap}{a:Addr}{u:HO}(r:Rd H a u)(x:HOk P w H h):ObjOk P w H h a u:=by
 rcases r with r | ⟨o,r⟩
 .exact x a u r
 .obtain⟨_,q⟩:=x a _ r
  exact q
def Mut:Option HO->Prop
 | some (.lst _)=>True
 | some (.dK _)=>True
 | some (.dT _)=>True
 | some (.set _ _)=>True
 | some (.ins _ _ _)=>True
 | some (.ext _)=>True
 | _=>False
section
variable {P:Program}{w:World}{H:Hp}{h h':Heap}{x e:Addr}{o':HO}
theorem HOk.write(p:HOk P w H h)(g:Mut (H x))(n:e=x\/H e=some (.own x))(k:∀ b u,b≠e->h.get? b=some u->h'.get? b=some u)(j:∃ u,h'.get? e=some u)
  (i:ObjOk P w (upd H x o') h' x o'):HOk P w (upd H x o') h':=λb u q=>by
 have a:∀ c y,H c=some (.own y)->c≠x:=λc y r z=>by subst z;rw[r]at g;exact g
 have d:∀ c f,H c=some (.tup f)->c≠x:=λc f r z=>by subst z;rw[r]at g;exact g
 by_cases hb:b=x
 .subst hb;rw[ad]at q;cases q;exact i
 .rw[ai hb]at q
  by_cases hbe:b=e
  .have l:H b=some (.own x):=by
    rcases n with z | z
    .exact absurd (hbe.trans z) hb
    .rw[hbe];exact z
   rw[q]at l;cases l;obtain⟨v,o⟩:=j;exact⟨v,by rw[hbe];exact o⟩
  .refine(p b u q).stay (λc v hc r=>k c v ?_ r) (λc r=>by rw[ai (a c b r)];exact r) λc f r=>by rw[ai (d c f r)];exact r
   rcases hc with rfl | hc
   .exact hbe
   .rintro rfl
    rcases n with z | z
    .exact a c b hc z
    .rw[hc]at z;cases z;exact hb rfl
end
structure Un(fs ex:List Addr)(H H':Hp)(h h':Heap):Prop where
 keep:∀ b o,h.get? b=some o->H b=none->b ∉ fs->b ∉ ex->h'.get? b=some o
 slot:∀ b o,h.get? b=some o->H b=none->b∈fs->b ∉ ex->∃ sl,h'.get? b=some { o with slots:=sl }
 free:∀ b o,h.get? b=some o->H b=none->b ∉ ex->H' b=none
 there:∀ b o,h.get? b=some o->b ∉ ex->∃ o',h'.get? b=some o'
 tups:∀ b xs,H b=some (.tup xs)->H' b=some (.tup xs)
 frzs:∀ b o u,H b=some (.frz o u)->H' b=some (.frz o u)
 tbls:∀ b ps,H b=some (.tbl ps)->∃ more,H' b=some (.tbl (ps++more))
section
variable {fs fs' ex ex':List Addr}{H H1 H2:Hp}{h h1 h2 h':Heap}{a x e:Addr}{o:HO}
theorem Un.any(u:Un fs ex H H1 h h1){b:Addr}{ob:Obj}(q:h.get? b=some ob)(n:H b=none)(a:b ∉ ex):∃ sl,h1.get? b=some { ob with slots:=sl }:=by
 by_cases hb:b∈fs
 .exact u.slot b ob q n hb a
 .exact⟨ob.slots,u.keep b ob q n hb a⟩
theorem Un.kept(k:∀ b u,h.get? b=some u->h'.get? b=some u):Un fs ex H H h h' :=
 ⟨λb a q _ _ _=>k b a q,λb a q _ _ _=>⟨a.slots,k b a q⟩,λ_ _ _ n _=>n,λb a q _=>⟨a,k b a q⟩,λ_ _ q=>q,λ_ _ _ q=>q,λ_ ps q=>⟨#[],by rw[q];simp⟩⟩
theorem Un.refl:Un fs ex H H h h:=Un.kept λ_ _ q=>q
theorem Un.laid(k:∀ b u,h.get? b=some u->h'.get? b=some u)(d:h.objs.size<=a)(c:H a=none):Un fs ex H (upd H a o) h h' where
 keep:=λb u q _ _ _=>k b u q
 slot:=λb u q _ _ _=>⟨u.slots,k b u q⟩
 free:=λb u q n _=>by rw[ai (Nat.ne_of_lt (Nat.lt_of_lt_of_le (Heap.lt_size q) d))];exact n
 there:=λb u q _=>⟨u,k b u q⟩
 tups:=λb f q=>by rw[ai (av q c)];exact q
 frzs:=λb u f q=>by rw[ai (av q c)];exact q
 tbls:=λb g q=>⟨#[],by rw[ai (av q c),q];simp⟩
theorem Un.write(a:Mut (H x))(l:e=x\/H e=some (.own x))(k:∀ b u,b≠e->h.get? b=some u->h'.get? b=some u)(d:∃ u,h'.get? e=some u):Un fs ex H (upd H x o) h h':=by
 have g:∀ b,H b=none->b≠x:=λb n z=>by subst z;rw[n]at a;exact a
 have f:∀ b,H b=none->b≠e:=λb n z=>by
  subst z
  rcases l with r | r
  .exact g b n r
  .rw[n]at r;cases r
 have c:∀ b u,H b=some u->¬Mut (some u)->b≠x:=λb u q j z=>by subst z;rw[q]at a;exact j a
 refine⟨λb u q n _ _=>k b u (f b n) q,λb u q n _ _=>⟨u.slots,k b u (f b n) q⟩,λb u q n _=>by rw[ai (g b n)];exact n,λb u q _=>?_,
  λb i q=>by rw[ai (c b _ q λz=>z)];exact q,λb u i q=>by rw[ai (c b _ q λz=>z)];exact q,λb ps q=>⟨#[],by rw[ai (c b _ q λz=>z),q];simp⟩⟩
 by_cases hbe:b=e
 .subst hbe;exact d
 .exact⟨u,k b u hbe q⟩
end
def trk(h:Heap)(H:Hp):List Addr:=(List.range h.objs.size).filter λa=>(H a).isSome
def j2(h:Heap)(H:Hp):Heap:=PySem.W.hideAll h (trk h H)
theorem tj(h:Heap)(H:Hp):(j2 h H).objs.size=h.objs.size:=PySem.W.hideAll_size _ _
theorem u4{h:Heap}{H:Hp}{b:Addr}{o:Obj}(e:h.get? b=some o)(n:H b=none):(j2 h H).get? b=some o :=
 PySem.W.hideAll_get _ e λa=>by
  have q:(H b).isSome=true:=(mem_filter.mp a).2;rw[n]at q;simp at q
theorem wD{h:Heap}{H:Hp}{b:Addr}{o:Obj}(e:(j2 h H).get? b=some o):h.get? b=some o/\H b=none:=by
 have a:h.get? b=some o:=PySem.W.of_hideAll (trk h H) e;refine⟨a,?_⟩;cases q:H b with
 | none=>rfl
 | some x =>
  have c:b∈trk h H:=mem_filter.mpr ⟨mem_range.mpr (Heap.lt_size a),by simp[q]⟩;have z:(j2 h H).get? b=none:=PySem.W.hideAll_none (trk h H) c;rw[z]at e;cases e
def wN(g h:Heap)(L:Addr):List (Addr×Obj):=(List.range h.objs.size).filterMap λa=>if a=L\/(g.get? a).isSome=true then none else (h.get? a).map λo=>(a,o)
def rest(g h:Heap)(L d:Addr):List (Addr×Obj):=(wN g h L).filter λp=>decide (p.1≠d)
structure Mod(K:Frag)(mg:Str->Option Value)(base:Heap):Prop where
 kin:K.In base
 glob:base.Ns mainGlobals mg
 blt:∃ mb,base.Ns builtinsNs mb/\∀ x:Str,x ≠ "__name__" -> mb x=bootBuiltins x
 nolimit:base.NoLimit
structure Cx where
 prog:Program
 w:World
 K:Frag
 mg:Str->Option Value
 base:Heap
 A:Around
 N:List Str
 s₀:Shared
 H₀:Hp
 env:Env
 outer:List Env
 stack:List Env
 ex:List Addr
 fn:Str->Bool
 calm:Bool
 pn:List (Addr×Obj)
 xe:Value->Shared->Prop
def frs(l:List Env):List Addr:=l.filterMap (·.frame)
abbrev Cx.fs(X:Cx):List Addr:=frs X.outer
def Vis(sc:Scope)(x:Str):Prop:=sc.names.lookup x = some .local\/sc.names.lookup x = some .cell\/sc.names.lookup x = some .free
def Loc(sc:Scope)(x:Str):Prop:=sc.names.lookup x = some .local\/sc.names.lookup x = some .cell
def BQ(env:Env)(h:Heap)(m:Str->Option Value)(x:Str)(u:Value):Prop :=
 (env.kindOf x = some .local/\m x = some u)\/((env.kindOf x = some .cell\/env.kindOf x = some .free)/\∃ c,env.cells.lookup x = some c/\h.IsCell c (some u))
structure Cx.Ok(X:Cx):Prop where
 mod:Mod X.K X.mg X.base
 kind:X.env.scope.kind=.function
 glob:X.env.globals=mainGlobals
 blt:X.env.builtins=builtinsNs
 above:X.s₀.heap.objs.size<=X.env.locals
 inj:∀ x y c,X.env.cells.lookup x=some c->X.env.cells.lookup y=some c->x=y
 has:∀ x,(X.env.kindOf x=some .cell\/X.env.kindOf x=some .free)->∃ c,X.env.cells.lookup x=some c
 cab:∀ x c,X.fn x=true->X.env.cells.lookup x=some c->X.s₀.heap.objs.size<=c
 hd:X.calm=true->X.A.handled=none
 frames:X.A.frames=some X.stack
 stk:X.stack = X.outer\/(X.stack = X.env :: X.outer/\X.env.frame = some X.env.locals)
 exf:∀ b ∈ X.ex,b≠X.env.locals/\∀ x c,X.env.cells.lookup x = some c->c≠b
 bs:∀ b o,X.base.get? b=some o->X.s₀.heap.get? b=some o/\X.H₀ b=none
 bsz:X.base.objs.size<=X.s₀.heap.objs.size
 noex:∀ b o,X.base.get? b=some o->b ∉ X.ex
 exfs:∀ b∈X.ex,b ∉ X.fs
 funs:X.s₀.heap.FunFrames X.base X.outer
 frf:∀ b∈X.fs,X.H₀ b=none
structure Inv(X:Cx)(pins:List (Addr×Obj))(σ:List (Option V))(H:Hp)(s:Shared):Prop where
 ok:X.Ok
 os:s.os=X.s₀.os
 bare:AllBare s.gens
 base:Un X.fs X.ex X.H₀ H X.s₀.heap s.heap
 loc:∃ m,s.heap.Ns X.env.locals m/\∀(i:Nat) (x:Str) (v:V),X.N[i]? = some x->σ[i]? = some (some v)->Vis X.env.scope x->∃ u,RelV v u/\BQ X.env s.heap m x u
 cell:∀ x c,X.env.cells.lookup x=some c->∃ v,s.heap.IsCell c v
 free:H X.env.locals = none
 freeC:∀ x c,X.env.cells.lookup x=some c->H c=none
 pin:∀ p ∈ X.pn ++ pins,s.heap.get? p.1 = some p.2/\H p.1 = none/\p.1≠X.env.locals/\p.1 ∉ X.fs/\∀ v,p.2.data≠.cell v
 hok:HOk X.prog X.w H s.heap
 len:σ.length=X.N.length
section
variable {X:Cx}{pins:List (Addr×Obj)}{σ:List (Option V)}{H H':Hp}{s:Shared}{h':Heap}
theorem Cx.Ok.nofr(c:X.Ok){b:Addr}{o:Obj}(e:X.base.get? b=some o):b ∉ X.fs:=λa=>by
 have:=(c.funs.mem a).1;rw[e]at this;cases this
theorem Inv.bs(I:Inv X pins σ H s):∀ b o,X.base.get? b=some o->s.heap.get? b=some o/\H b=none:=λb o e =>
 ⟨I.base.keep b o (I.ok.bs b o e).1 (I.ok.bs b o e).2 (I.ok.nofr e) (I.ok.noex b o e),I.base.free b o (I.ok.bs b o e).1 (I.ok.bs b o e).2 (I.ok.noex b o e)⟩
theorem Inv.bk(I:Inv X pins σ H s):∀ b o,X.base.get? b=some o->s.heap.get? b=some o:=λb o e=>(I.bs b o e).1
theorem Inv.mod(I:Inv X pins σ H s):Mod X.K X.mg X.base:=I.ok.mod
theorem Inv.kIn(I:Inv X pins σ H s):X.K.In s.heap:=I.ok.mod.kin.keeps I.bk
theorem Inv.lt(I:Inv X pins σ H s):X.env.locals < s.heap.objs.size:=let ⟨_,hn,_⟩:=I.loc;hn.lt
theorem Inv.sz(I:Inv X pins σ H s):X.s₀.heap.objs.size<=s.heap.objs.size:=Nat.le_trans I.ok.above (Nat.le_of_lt I.lt)
theorem Inv.nofs(I:Inv X pins σ H s){a:Addr}(h:s.heap.objs.size<=a):a ∉ X.fs:=λb=>by
 obtain⟨_,o,c,_⟩:=I.ok.funs.mem b;exact absurd (Nat.lt_of_lt_of_le (Heap.lt_size c) (Nat.le_trans I.sz h)) (Nat.lt_irrefl _)
theorem Inv.cne(I:Inv X pins σ H s):∀ x c,X.env.cells.lookup x = some c->c≠X.env.locals:=λx c e z=>by
 obtain⟨v,o,f,d⟩:=I.cell x c e;obtain⟨m,⟨i,g,h,b,a,_⟩,_⟩:=I.loc;rw[z,b]at f;cases f;rw[a]at d;cases d
theorem Inv.funs(I:Inv X pins σ H s):s.heap.FunFrames X.base X.outer:=by
 have a:∀(l:List Env),(∀ b∈frs l,b∈X.fs)->X.s₀.heap.FunFrames X.base l->s.heap.FunFrames X.base l:=by
  intro l
  induction l with
  | nil=>intro _ _;trivial
  | cons env r ih =>
   intro g h;obtain⟨p,⟨L,o,c,i,n,k⟩,j⟩:=h;have f:L∈X.fs:=g L (by unfold frs;rw[List.filterMap_cons,c];exact mem_cons_self);obtain⟨q,e⟩:=I.base.slot L o n (I.ok.frf L f) f λz=>I.ok.exfs L z f
   exact⟨p,⟨L,_,c,i,e,k⟩,ih (λb d=>g b (by unfold frs;rw[List.filterMap_cons,c];exact mem_cons_of_mem _ d)) j⟩
 exact a X.outer (λ_ d=>d) I.ok.funs
theorem Inv.stack(I:Inv X pins σ H s):s.heap.FunFrames X.base X.stack:=by
 rcases I.ok.stk with e | ⟨e,a⟩
 .rw[e];exact I.funs
 .rw[e]
  obtain⟨m,b,_⟩:=I.loc;refine .cons (by rw[I.ok.kind];decide) a b ?_ I.funs;exact Heap.get?_none_of_le (Nat.le_trans I.ok.bsz I.ok.above)
theorem Inv.stkSub(I:Inv X pins σ H s):∀ b ∈ frs X.stack,b ∈ X.env.locals :: X.fs:=λb a=>by
 rcases I.ok.stk with e | ⟨e,c⟩
 .rw[e]at a;exact mem_cons_of_mem _ a
 .rw[e]at a
  unfold frs at a;rw[List.filterMap_cons,c]at a;exact a
theorem Inv.stkFree(I:Inv X pins σ H s):∀ b∈frs X.stack,H b=none:=λb hb=>by
 rcases mem_cons.mp (I.stkSub b hb) with e | hb
 .rw[e];exact I.free
 .obtain⟨_,o,a,_⟩:=I.ok.funs.mem hb
  exact I.base.free b o a (I.ok.frf b hb) λz=>I.ok.exfs b z hb
theorem Inv.step{g':Array GenState}{t':Nat}{d':Drawn}{ch:List Addr}(I:Inv X pins σ H s)
  (j:∀ b ∈ ch,(b ∈ X.ex\/X.s₀.heap.objs.size<=b)/\b≠X.env.locals/\(∀ x c,X.env.cells.lookup x = some c->c≠b)/\∀ p ∈ X.pn ++ pins,p.1≠b)
  (g:∀ b o,b≠X.env.locals->b ∉ X.fs->b ∉ ch->s.heap.get? b = some o->H b = none->h'.get? b = some o)
  (B:∀ b o,b≠X.env.locals->b ∈ X.fs->b ∉ ch->s.heap.get? b = some o->H b = none->∃ sl,h'.get? b = some { o with slots:=sl }) (f:∀ b o,b ∉ ch->s.heap.get? b = some o->H b = none->H' b = none)
  (C:∀ b o,b ∉ ch->s.heap.get? b=some o->∃ o',h'.get? b=some o')
  (J:∀ b xs,H b=some (.tup xs)->H' b=some (.tup xs)) (G:∀ b o u,H b=some (.frz o u)->H' b=some (.frz o u)) (K:∀ b ps,H b=some (.tbl ps)->∃ more,H' b=some (.tbl (ps++more)))
  (Z:∀ m,s.heap.Ns X.env.locals m->h'.Ns X.env.locals m) (M:HOk X.prog X.w H' h') (W:AllBare g') :
  Inv X pins σ H' { s with heap:=h',gens:=g',drawn:=d',toks:=t' }:=by
 have L:∀ b o,X.s₀.heap.get? b = some o->b≠X.env.locals:=λb o e=>Nat.ne_of_lt (Nat.lt_of_lt_of_le (Heap.lt_size e) I.ok.above)
 have A:∀ b o,X.s₀.heap.get? b=some o->b ∉ X.ex->b ∉ ch:=λb o e a D=>by
  rcases(j b D).1 with z | z
  .exact a z
  .exact absurd (Nat.lt_of_lt_of_le (Heap.lt_size e) z) (Nat.lt_irrefl _)
 have h:∀ x c,X.env.cells.lookup x=some c->∀ v,s.heap.IsCell c v->h'.IsCell c v:=λx c e v ⟨o,E,O⟩=>by
  have w:c ∉ ch:=λz=>(j c z).2.2.1 x c e rfl
  by_cases hc:c∈X.fs
  .obtain⟨sl,q⟩:=B c o (I.cne x c e) hc w E (I.freeC x c e)
   exact⟨_,q,O⟩
  .exact⟨o,g c o (I.cne x c e) hc w E (I.freeC x c e),O⟩
 refine⟨I.ok,I.os,W,⟨λb o e n D a=>?_,λb o e n D a=>?_,λb o e n a=>?_,λb o e a=>?_,λb xs e=>J b xs (I.base.tups b xs e),λb o xs e=>G b o xs (I.base.frzs b o xs e),λb ps e=>?_⟩,?_,λx c e=>?_,?_,λx c e=>?_,λp hp=>?_,M,I.len⟩
 .exact g b o (L b o e) D (A b o e a) (I.base.keep b o e n D a) (I.base.free b o e n a)
 .obtain⟨sl,y⟩:=I.base.slot b o e n D a
  obtain⟨N,F⟩:=B b _ (L b o e) D (A b o e a) y (I.base.free b o e n a);exact⟨N,F⟩
 .obtain⟨o',y⟩:=I.base.there b o e a
  exact f b o' (A b o e a) y (I.base.free b o e n a)
 .obtain⟨o',y⟩:=I.base.there b o e a
  exact C b o' (A b o e a) y
 .obtain⟨T,y⟩:=I.base.tbls b ps e
  obtain⟨m2,F⟩:=K b _ y;exact⟨T++m2,by rw[F,Array.append_assoc]⟩
 .obtain⟨m,S,R⟩:=I.loc
  refine⟨m,Z m S,λi x v y F Y=>?_⟩;obtain⟨u,r,l⟩:=R i x v y F Y;refine⟨u,r,?_⟩
  rcases l with l | ⟨k,c,e,z⟩
  .exact .inl l
  .exact .inr ⟨k,c,e,h x c e _ z⟩
 .obtain⟨v,z⟩:=I.cell x c e
  exact⟨v,h x c e v z⟩
 .obtain⟨m,⟨o,_,_,E,_⟩,_⟩:=I.loc
  exact f _ o (λz=>(j _ z).2.1 rfl) E I.free
 .obtain⟨v,o,E,O⟩:=I.cell x c e
  exact f c o (λz=>(j c z).2.2.1 x c e rfl) E (I.freeC x c e)
 .obtain⟨e,n,Q,P,d⟩:=I.pin p hp
  have w:p.1 ∉ ch:=λz=>(j p.1 z).2.2.2 p hp rfl
  exact⟨g p.1 p.2 Q P w e n,f p.1 p.2 w e n,Q,P,d⟩
theorem Inv.un{t':Nat}(I:Inv X pins σ H s)(u:Un X.fs [] H H' s.heap h')(d:HOk X.prog X.w H' h'):Inv X pins σ H' { s with heap:=h',toks:=t' }:=by
 obtain⟨m,⟨o,j,k,g,r⟩,_⟩:=id I.loc;obtain⟨p,i⟩:=u.any g I.free (by simp)
 exact I.step (g':=s.gens) (d':=s.drawn) (ch:=[]) (λ_ z=>nomatch z) (λb o _ hb _ e n=>u.keep b o e n hb (by simp)) (λb o _ hb _ e n=>u.slot b o e n hb (by simp)) (λb o _ e n=>u.free b o e n (by simp)) (λb o _ e=>u.there b o e (by simp)) u.tups u.frzs u.tbls (λm' hm=>by
  obtain⟨l,c,f,a,h⟩:=hm;rw[g]at a;cases a
  exact⟨_,c,f,i,h⟩) d I.bare
theorem Inv.call{g':Array GenState}{t':Nat}{d':Drawn}{ch:List Addr}(I:Inv X pins σ H s)(u:Un (frs X.stack) ch H H' s.heap h')(h:HOk X.prog X.w H' h')(q:AllBare g')
  (d:∀ b ∈ ch,(b ∈ X.ex\/X.s₀.heap.objs.size<=b)/\b≠X.env.locals/\(∀ x c,X.env.cells.lookup x = some c->c≠b)/\∀ p ∈ X.pn ++ pins,p.1≠b) :
  Inv X pins σ H' { s with heap:=h',gens:=g',drawn:=d',toks:=t' }:=by
 obtain⟨m,⟨o,w,y,k,r⟩,_⟩:=id I.loc;obtain⟨B,j⟩:=u.any k I.free λz=>(d _ z).2.1 rfl
 exact I.step (ch:=ch) d (λb o j v a e n=>u.keep b o e n (λz=>(mem_cons.mp (I.stkSub b z)).elim j v) a) (λb o _ _ a e n=>u.any e n a) (λb o a e n=>u.free b o e n a) (λb o a e=>u.there b o e a) u.tups u.frzs u.tbls (λm' hm=>by
  obtain⟨A,g,i,f,l⟩:=hm;rw[k]at f;cases f
  exact⟨_,g,i,j,l⟩) h q
theorem Inv.turned{t':Nat}{a:Addr}(I:Inv X pins σ H s)(k:∀ b o,b≠a->s.heap.get? b = some o->h'.get? b = some o)(l:H a = none)(g:a≠X.env.locals)
  (A:a∈X.ex\/X.s₀.heap.objs.size<=a) (w:∀ x c,X.env.cells.lookup x=some c->c≠a) (i:∀ p∈X.pn++pins,p.1≠a):Inv X pins σ H { s with heap:=h',toks:=t' }:=by
 have f:∀ b u,H b=some u->b≠a:=λb u e z=>by rw[z,l]at e;cases e
 refine I.step (g':=s.gens) (d':=s.drawn) (ch:=[a]) (λb y=>?_) (λb o _ _ d e _=>k b o (λz=>d (by simp[z])) e) (λb o _ _ d e _=>⟨o.slots,k b o (λz=>d (by simp[z])) e⟩) (λ_ _ _ _ n=>n)
  (λb o d e=>⟨o,k b o (λz=>d (by simp[z])) e⟩) (λ_ _ e=>e) (λ_ _ _ e=>e) (λb ps e=>⟨#[],by rw[e];simp⟩) (λm hm=>?_) (λb u e=>?_) I.bare
 .have e:b=a:=by simpa using y
  subst e;exact⟨A,g,w,i⟩
 .obtain⟨o,h,j,B,r⟩:=hm
  exact⟨o,h,j,k _ o (Ne.symm g) B,r⟩
 .refine(I.hok b u e).stay (λc v d q=>k c v ?_ q) (λ_ q=>q) λ_ _ q=>q
  rcases d with z | z
  .rw[z];exact f b u e
  .exact f c _ z
theorem Inv.tok(I:Inv X pins σ H s)(t:Nat):Inv X pins σ H { s with toks:=t }:=I.un (h':=s.heap) (t':=t) Un.refl I.hok
theorem Inv.kept{t':Nat}(I:Inv X pins σ H s)(k:∀ b u,s.heap.get? b=some u->h'.get? b=some u):Inv X pins σ H { s with heap:=h',toks:=t' }:=I.un (Un.kept k) (I.hok.kept k)
theorem Inv.laid{a:Addr}{o:HO}{t':Nat}(I:Inv X pins σ H s)(k:∀ b u,s.heap.get? b=some u->h'.get? b=some u)(c:s.heap.objs.size<=a)(d:ObjOk X.prog X.w (upd H a o) h' a o) :
  Inv X pins σ (upd H a o) { s with heap:=h',toks:=t' }:=I.un (Un.laid k c (I.hok.fresh c)) (I.hok.laid k c d)
theorem Inv.write{x e:Addr}{o:HO}{t':Nat}(I:Inv X pins σ H s)(f:Mut (H x))(d:e=x\/H e=some (.own x))(k:∀ b u,b≠e->s.heap.get? b=some u->h'.get? b=some u)(a:∃ u,h'.get? e=some u)
  (c:ObjOk X.prog X.w (upd H x o) h' x o):Inv X pins σ (upd H x o) { s with heap:=h',toks:=t' }:=I.un (Un.write f d k a) (I.hok.write f d k a c)
theorem Inv.weak{σ':List (Option V)}(I:Inv X pins σ H s)(a:σ'.length=σ.length)(w:∀(i:Nat) v,σ'[i]? = some (some v)->σ[i]? = some (some v)):Inv X pins σ' H s :=
 ⟨I.ok,I.os,I.bare,I.base,let ⟨m,hn,hl'⟩:=I.loc;⟨m,hn,λi x v d c b=>hl' i x v d (w i v c) b⟩,I.cell,I.free,I.freeC,I.pin,I.hok,a.trans I.len⟩
theorem Inv.pins_of{a:List (Addr×Obj)}(I:Inv X pins σ H s)(h:∀ p ∈ a,s.heap.get? p.1 = some p.2/\H p.1 = none/\p.1≠X.env.locals/\p.1 ∉ X.fs/\∀ v,p.2.data≠.cell v):Inv X a σ H s :=
 ⟨I.ok,I.os,I.bare,I.base,I.loc,I.cell,I.free,I.freeC,λp b=>(mem_append.mp b).elim (λz=>I.pin p (mem_append_left _ z)) (h p),I.hok,I.len⟩
theorem jQ{N:List Str}(c:N.Nodup){i j:Nat}{x:Str}(a:N[i]? = some x)(b:N[j]? = some x):i=j:=by
 obtain⟨h,f⟩:=List.getElem?_eq_some_iff.mp a;obtain⟨g,d⟩:=List.getElem?_eq_some_iff.mp b;exact(List.getElem_inj c).mp (f.trans d.symm)
theorem kE{M:Model}{A:Around}{E:Value->Shared->Prop}{i:Nat}{x:Str}{v:V}{u:Value}{Q:Unit->Shared->Prop}(I:Inv X pins σ H s)(hN:X.N.Nodup)(N:X.N[i]? = some x)(w:Loc X.env.scope x)(r:RelV v u)
  (h:∀ s',Inv X pins (σ.set i (some v)) H s'->(∃ a,Heap.SameBut a s.heap s'.heap/\(a = X.env.locals\/X.env.cells.lookup x = some a))->Q () s') (hf:X.fn x = true\/X.env.scope.names.lookup x = some .local:=by first | exact .inl rfl | exact .inr rfl | assumption):wpAny M A (storeName X.env x u) Q E s:=by
 obtain⟨m,Z,hl⟩:=id I.loc;have O:(X.env.scope.kind == .class || (X.env.scope.kind == .module && X.env.locals != X.env.globals)) = false:=by rw[I.ok.kind];rfl
 have C:i<σ.length:=by rw[I.len];exact(List.getElem?_eq_some_iff.mp N).1
 have G:=I.cne
 have l:∀{a:Addr}{J:Heap},(∃ o,s.heap.get? a=some o/\H a=none)->Heap.SameBut a s.heap J->HOk X.prog X.w H J:=λ{a J} ha f b ob e=>by
  obtain⟨_,_,B⟩:=ha;refine(I.hok b ob e).stay (λc S hc q=>(f.2 c ?_).trans q) (λ_ q=>q) λ_ _ q=>q
  rintro rfl
  rcases hc with rfl | hc
  .rw[B]at e;cases e
  .rw[B]at hc;cases hc
 rcases w with hk | hk
 .refine wpAny_storeName_local hk Z (λJ ab f=>?_) O
  obtain⟨oL,_,_,W,_⟩:=id Z;refine h _ ⟨I.ok,I.os,I.bare,⟨λb o e n F w=>?_,λb o e n F w=>?_,I.base.free,λb o e w=>?_,I.base.tups,I.base.frzs,I.base.tbls⟩,⟨_,ab,λj y v' g e2 e3=>?_⟩,λy c e=>?_,I.free,I.freeC,λp hp=>?_,l ⟨oL,W,I.free⟩ f,by simpa using I.len⟩ ⟨_,f,.inl rfl⟩
  .exact(f.2 b (Nat.ne_of_lt (Nat.lt_of_lt_of_le (Heap.lt_size e) I.ok.above))).trans (I.base.keep b o e n F w)
  .obtain⟨sl,g⟩:=I.base.slot b o e n F w
   exact⟨sl,(f.2 b (Nat.ne_of_lt (Nat.lt_of_lt_of_le (Heap.lt_size e) I.ok.above))).trans g⟩
  .obtain⟨o',g⟩:=I.base.there b o e w
   exact⟨o',(f.2 b (Nat.ne_of_lt (Nat.lt_of_lt_of_le (Heap.lt_size e) I.ok.above))).trans g⟩
  .by_cases hj:j=i
   .subst hj
    rw[N]at g;cases g;rw[List.getElem?_set_self C]at e2;cases e2;exact⟨u,r,.inl ⟨hk,by simp⟩⟩
   .rw[List.getElem?_set_ne (Ne.symm hj)]at e2
    obtain⟨u',r',q⟩:=hl j y v' g e2 e3;refine⟨u',r',?_⟩
    rcases q with⟨k,e⟩ | ⟨k,c,e,z⟩
    .refine .inl ⟨k,?_⟩
     have:y≠x:=λe=>hj (jQ hN g (e ▸ N))
     simp[this,e]
    .exact .inr ⟨k,c,e,z.sameBut f (G y c e)⟩
  .obtain⟨S,z⟩:=I.cell y c e
   exact⟨S,z.sameBut f (G y c e)⟩
  .obtain⟨e,n,R,Y,d⟩:=I.pin p hp
   exact⟨(f.2 p.1 R).trans e,n,R,Y,d⟩
 .have D:X.fn x=true:=by
   rcases hf with z | z
   .exact z
   .rw[z]at hk;cases hk
  obtain⟨c,hc⟩:=I.ok.has x (.inl hk);obtain⟨S,z⟩:=I.cell x c hc;refine wpAny_storeName_cell I.ok.kind hk hc z (λJ L f=>?_);obtain⟨oc,P,K⟩:=id z;refine h { s with heap:=J } ⟨I.ok,I.os,I.bare,⟨λb o e n F w=>?_,λb o e n F w=>?_,I.base.free,λb o e w=>?_,I.base.tups,I.base.frzs,I.base.tbls⟩,⟨m,Z.sameBut f (Ne.symm (G x c hc)),λj y v' g e2 e3=>?_⟩,λy T e=>?_,I.free,I.freeC,λp hp=>?_,l ⟨oc,P,I.freeC x c hc⟩ f,by simpa using I.len⟩ ⟨c,f,.inr hc⟩
  .exact(f.2 b (Nat.ne_of_lt (Nat.lt_of_lt_of_le (Heap.lt_size e) (I.ok.cab x c D hc)))).trans (I.base.keep b o e n F w)
  .obtain⟨sl,g⟩:=I.base.slot b o e n F w
   exact⟨sl,(f.2 b (Nat.ne_of_lt (Nat.lt_of_lt_of_le (Heap.lt_size e) (I.ok.cab x c D hc)))).trans g⟩
  .obtain⟨o',g⟩:=I.base.there b o e w
   exact⟨o',(f.2 b (Nat.ne_of_lt (Nat.lt_of_lt_of_le (Heap.lt_size e) (I.ok.cab x c D hc)))).trans g⟩
  .by_cases hj:j=i
   .subst hj
    rw[N]at g;cases g;rw[List.getElem?_set_self C]at e2;cases e2;exact⟨u,r,.inr ⟨.inl hk,c,hc,L⟩⟩
   .rw[List.getElem?_set_ne (Ne.symm hj)]at e2
    obtain⟨u',r',q⟩:=hl j y v' g e2 e3;refine⟨u',r',?_⟩
    rcases q with q | ⟨k,T,e,z'⟩
    .exact .inl q
    .refine .inr ⟨k,T,e,z'.sameBut f ?_⟩
     rintro rfl;exact hj (jQ hN g (I.ok.inj _ _ _ e hc ▸ N))
  .by_cases hcc:T=c
   .subst hcc;exact⟨_,L⟩
   .obtain⟨w2,z2⟩:=I.cell y T e
    exact⟨w2,z2.sameBut f hcc⟩
  .obtain⟨e,n,R,Y,d⟩:=I.pin p hp
   refine⟨(f.2 p.1 ?_).trans e,n,R,Y,d⟩;intro q;rw[q,P]at e;have q':oc=p.2:=Option.some.inj e;exact d S (by rw[<- q'];exact K)
theorem fc{M:Model}{A:Around}{E:Value->Shared->Prop}{i:Nat}{x:Str}{v:V}{u:Value}{Q:Unit->Shared->Prop}(I:Inv X pins σ H s)(a:X.N.Nodup)(b:X.N[i]? = some x)(f:Loc X.env.scope x)(r:RelV v u)
  (h:∀ s',Inv X pins (σ.set i (some v)) H s'->Q () s') (d:X.fn x = true\/X.env.scope.names.lookup x = some .local:=by first | exact .inl rfl | exact .inr rfl | assumption):wpAny M A (storeName X.env x u) Q E s :=
 kE I a b f r (λs' c _=>h s' c) d
theorem Inv.call'{s':Shared}{ch:List Addr}(I:Inv X pins σ H s)(h:s'.os=s.os)(u:Un (frs X.stack) ch H H' s.heap s'.heap)(a:HOk X.prog X.w H' s'.heap)(f:AllBare s'.gens)
  (d:∀ b ∈ ch,(b ∈ X.ex\/X.s₀.heap.objs.size<=b)/\b≠X.env.locals/\(∀ x c,X.env.cells.lookup x = some c->c≠b)/\∀ p ∈ X.pn ++ pins,p.1≠b):Inv X pins σ H' s':=by
 obtain⟨i,g',d',t',g⟩:=s';have e:g=s.os:=h;subst e;exact I.call (g':=g') (t':=t') (d':=d') u a f d
end
abbrev XK:=Value->Option Addr->Hp->Prop
abbrev St:=List (Option V)
abbrev VK:=V->Hp->Prop
abbrev TE:=St->Hp->VK->Prop
abbrev TT:=St->Hp->(Bool->Hp->Prop)->Prop
abbrev TA:=St->Hp->(List V->Hp->Prop)->Prop
structure Ends where
 nx:St->Hp->Prop
 rt:VK
 bk:St->Hp->Prop:=λ_ _=>False
 ct:St->Hp->Prop:=λ_ _=>False
abbrev TS:=Ends->St->Hp->Prop
def EP(X:Cx)(pins:List (Addr×Obj))(σ:St)(Q:VK)(u:Value)(s':Shared):Prop:=∃ v H',Inv X pins σ H' s'/\RelV v u/\Q v H'
def TP(X:Cx)(pins:List (Addr×Obj))(σ:St)(Q:Bool->Hp->Prop)(b:Bool)(s':Shared):Prop:=∃ H',Inv X pins σ H' s'/\Q b H'
def AP(X:Cx)(pins:List (Addr×Obj))(σ:St)(Q:List V->Hp->Prop)(us:List Value)(s':Shared):Prop:=∃ vs H',Inv X pins σ H' s'/\Vals vs us/\Q vs H'
def SP(X:Cx)(pins:List (Addr×Obj))(D:Ends)(f:Flow)(s':Shared):Prop :=
 match f with
 | .next=>∃ σ' H',Inv X pins σ' H' s'/\D.nx σ' H'
 | .brk=>∃ σ' H',Inv X pins σ' H' s'/\D.bk σ' H'
 | .cont=>∃ σ' H',Inv X pins σ' H' s'/\D.ct σ' H'
 | .ret u=>∃ v σ' H',Inv X pins σ' H' s'/\RelV v u/\D.rt v H'
def PE(X:Cx)(e:Expr)(t:TE):Prop :=
 ∀(pins:List (Addr×Obj)) (s:Shared) (σ:St) (H:Hp) (Q:VK),Inv X pins σ H s->t σ H Q->wpAny (model X.prog X.w) X.A (eval e X.env) (EP X pins σ Q) X.xe s
def PT(X:Cx)(e:Expr)(t:TT):Prop :=
 ∀(pins:List (Addr×Obj)) (s:Shared) (σ:St) (H:Hp) (Q:Bool->Hp->Prop),Inv X pins σ H s->t σ H Q->wpAny (model X.prog X.w) X.A (isTrue e X.env (eval e X.env)) (TP X pins σ Q) X.xe s
def PW(X:Cx)(e:Expr)(t:TT):Prop :=
 ∀(whole:Sem Value) (pins:List (Addr×Obj)) (s:Shared) (σ:St) (H:Hp) (Q:Bool->Hp->Prop),Inv X pins σ H s->t σ H Q->wpAny (model X.prog X.w) X.A (isTrue e X.env whole) (TP X pins σ Q) X.xe s
theorem PW.pt{X:Cx}{e:Expr}{t:TT}(h:PW X e t):PT X e t:=h _
def PA(X:Cx)(es:List Expr)(t:TA):Prop :=
 ∀(pos:Pos) (pins:List (Addr×Obj)) (s:Shared) (σ:St) (H:Hp) (Q:List V->Hp->Prop),Inv X pins σ H s->t σ H Q->wpAny (model X.prog X.w) X.A (spliced (backTo pos (starEach es X.env))) (AP X pins σ Q) X.xe s
def PS(X:Cx)(st:Stmt)(t:TS):Prop :=
 ∀(pins:List (Addr×Obj)) (s:Shared) (σ:St) (H:Hp) (D:Ends),Inv X pins σ H s->t D σ H->wpAny (model X.prog X.w) X.A (exec st X.env) (SP X pins D) X.xe s
def PSs(X:Cx)(st:List Stmt)(t:TS):Prop :=
 ∀(pins:List (Addr×Obj)) (s:Shared) (σ:St) (H:Hp) (D:Ends),Inv X pins σ H s->t D σ H->wpAny (model X.prog X.w) X.A (execs st X.env) (SP X pins D) X.xe s
theorem thn{c:Type}{t:Sem c}{Q b:c->Shared->Prop}{M:Model}{A:Around}{E:Value->Shared->Prop}{s:Shared}(h:wpAny M A t Q E s)(d:∀ a s,Q a s->b a s):wpAny M A t b E s:=wpAny_mono h d λ_ _ x=>x
section
variable {X:Cx}
def BL(i:Nat):TE:=λσ H Q=>∃ v,σ[i]? = some (some v)/\Q v H
def tC(v:V):TE:=λ_ H Q=>Q v H
theorem zY{i:Nat}{x:Str}{j:Pos}(o:X.N[i]? = some x)(y:Vis X.env.scope x)(f:(x == ("__debug__" : Str))=false:=by decide)(g:(x == ("__classdict__" : Str))=false:=by decide):PE X (.Name x j) (BL i):=by
 intro d s q H Q I h;obtain⟨v,e,h⟩:=h;obtain⟨m,w,n⟩:=I.loc;obtain⟨u,r,l⟩:=n i x v o e y
 have b:EP X d q Q u s:=⟨v,H,I,r,h⟩
 rcases l with⟨hk,p⟩ | ⟨hk,c,k,a⟩
 .exact wpAny_Name (wpAny_loadName_local I.ok.kind hk w p b) f
 .rcases hk with hk | hk
  .exact wpAny_Name (wpAny_loadName_cell I.ok.kind hk k a b) f
  .exact wpAny_Name (wpAny_loadName_free I.ok.kind hk k a b g) f
theorem am{i j pos}:PE X (.Constant (.int i) j pos) (tC (.int i)):=λ_ _ _ H _ I h=>wpAny_Constant_int ⟨.int i,H,I.tok _,⟨_,rfl⟩,h⟩
theorem jt{b j pos}:PE X (.Constant (.bool b) j pos) (tC (.bl b)):=λ_ _ _ H _ I h=>Constant_bool ⟨.bl b,H,I,rfl,h⟩
theorem zg{j pos}:PE X (.Constant .none j pos) (tC .non):=λ_ _ _ H _ I h=>Constant_none ⟨.non,H,I,rfl,h⟩
def Gl(X:Cx)(x:Str):Prop:=X.env.kindOf x=some .globalImplicit
theorem fR{E:Value->Shared->Prop}{a:List (Addr×Obj)}{s:Shared}{d:St}{H:Hp}{x:Str}{u:Value}{b:Pos}{Q:Value->Shared->Prop}(I:Inv X a d H s)(f:Gl X x)(c:X.mg x=some u)(h:Q u s)
  (g:(x == ("__debug__" : Str))=false:=by decide):wpAny (model X.prog X.w) X.A (eval (.Name x b) X.env) Q E s :=
 Calls.Name_function_global I.ok.kind f (Calls.loadGlobal_global (by rw[I.ok.glob];exact I.mod.glob.keeps I.bk) c h) g
theorem jy{E:Value->Shared->Prop}{a:List (Addr×Obj)}{s:Shared}{d:St}{H:Hp}{x:Str}{u:Value}{b:Pos}{Q:Value->Shared->Prop}(I:Inv X a d H s)(i:Gl X x)(c:X.mg x=none)(k:bootBuiltins x=some u)(h:Q u s)
  (f:x ≠ "__name__" := by decide) (j:(x == ("__debug__" : Str))=false:=by decide):wpAny (model X.prog X.w) X.A (eval (.Name x b) X.env) Q E s:=by
 obtain⟨n,l,g⟩:=I.mod.blt;exact Calls.Name_function_global I.ok.kind i (Calls.loadGlobal_builtin (by rw[I.ok.glob];exact I.mod.glob.keeps I.bk) c (by rw[I.ok.blt];exact l.keeps I.bk) ((g x f).trans k) h) j
theorem xA{x:Str}{v:V}{u:Value}{a:Pos}(b:Gl X x)(c:X.mg x=some u)(r:RelV v u)(d:(x == ("__debug__" : Str))=false:=by decide):PE X (.Name x a) (tC v) :=
 λ_ _ _ H _ I h=>fR I b c ⟨v,H,I,r,h⟩ d
theorem qe{x:Str}{v:V}{u:Value}{a:Pos}(d:Gl X x)(b:X.mg x=none)(g:bootBuiltins x=some u)(r:RelV v u)(c:x ≠ "__name__" := by decide)(f:(x == ("__debug__" : Str))=false:=by decide):PE X (.Name x a) (tC v) :=
 λ_ _ _ H _ I h=>jy I d b g ⟨v,H,I,r,h⟩ c f
variable {a b:Expr}{ta tb:TE}{pos:Pos}
variable {tA tB':TT}{rest:List Expr}
def Cg(t u:TT):TT:=λσ H Q=>t σ H λc H1=>if c=true then u σ H1 Q else Q false H1
def tOr(t u:TT):TT:=λσ H Q=>t σ H λc H1=>if c=true then Q true H1 else u σ H1 Q
def BP(t:TT):TT:=λσ H Q=>t σ H λc H1=>Q (!c) H1
theorem qd(f:PT X a tA):PW X (.BoolOp .And [a] pos) tA:=by
 intro g b s d H Q I h;refine isTrue_and (thn (f b s d H Q I h) λc i e=>?_);cases c with
 | true=>exact isTrue_and_nil e
 | false=>exact e
theorem oK(f:PT X a tA):PW X (.BoolOp .Or [a] pos) tA:=by
 intro g b s d H Q I h;refine isTrue_or (thn (f b s d H Q I h) λc i e=>?_);cases c with
 | false=>exact isTrue_or_nil e
 | true=>exact e
theorem uE(l:PT X a tA)(n:PW X (.BoolOp .And (b::rest) pos) tB'):PW X (.BoolOp .And (a::b::rest) pos) (Cg tA tB'):=by
 intro k d s f H Q I h;refine isTrue_and (thn (l d s f H _ I h) λc o ⟨g,j,i⟩=>?_);cases c with
 | true=>exact n k d o f g Q j i
 | false=>exact⟨g,j,i⟩
theorem qR(l:PT X a tA)(n:PW X (.BoolOp .Or (b::rest) pos) tB'):PW X (.BoolOp .Or (a::b::rest) pos) (tOr tA tB'):=by
 intro k d s f H Q I h;refine isTrue_or (thn (l d s f H _ I h) λc o ⟨g,j,i⟩=>?_);cases c with
 | true=>exact⟨g,j,i⟩
 | false=>exact n k d o f g Q j i
theorem mD(g:PT X a tA):PT X (.UnaryOp .Not a pos) (BP tA):=by
 intro b s f H Q I h;exact isTrue_not (g b s f H (λc d=>Q (!c) d) I h)
theorem oH{op}{t:TE}(h:PE X a t):PE X (.BoolOp op [a] pos) t:=λb s d H Q I c=>BoolOp_one (h b s d H Q I c)
end
def SqL(K:Frag)(H:Hp)(a:Addr)(xs:List V):Prop :=
 Rd H a (.lst xs) \/
  ∃(o:Obj) (its:Array Value) (n:Nat),K.lookup a=some o/\o.cls=.type "list" /\ o.dict=none/\o.data=.seq its n/\its.size<=sizeLine/\Vals xs its.toList
def SqT(K:Frag)(H:Hp)(a:Addr)(xs:List V):Prop :=
 Rd H a (.tup xs) \/
  ∃(o:Obj) (its:Array Value) (n:Nat),K.lookup a=some o/\o.cls=.type "tuple" /\ o.data=.seq its n/\its.size<=sizeLine/\Vals xs its.toList
def Ca:Value->Option V
 | .none=>some .non
 | .bool b=>some (.bl b)
 | .int i _=>some (.int i)
 | .str x _=>some (.str x)
 | .bytes b _=>some (.byt b)
 | .float b _=>some (.flt b)
 | .ref a=>some (.ref a)
 | .type n=>some (.ty n)
 | _=>none
theorem RelV.abs{x:V}{u:Value}(r:RelV x u):Ca u=some x:=by
 cases x with
 | non=>cases r;rfl
 | bl _=>cases r;rfl
 | int _=>obtain⟨t,rfl⟩:=r;rfl
 | str _=>obtain⟨t,rfl⟩:=r;rfl
 | byt _=>obtain⟨t,rfl⟩:=r;rfl
 | flt _=>obtain⟨t,rfl⟩:=r;rfl
 | ref _=>cases r;rfl
 | ty _=>cases r;rfl
theorem RelV.inj{x y:V}{u:Value}(r:RelV x u)(q:RelV y u):x=y:=Option.some.inj (r.abs.symm.trans q.abs)
theorem Vals.inj:∀{xs ys:List V}{us:List Value},Vals xs us->Vals ys us->xs=ys
 | _,_,_,.nil,.nil=>rfl
 | _,_,_,.cons r t,.cons r' t'=>by rw[r.inj r',Vals.inj t t']
section
variable {X:Cx}{pins:List (Addr×Obj)}{σ:St}{H:Hp}{s:Shared}{a:Addr}{xs ys:List V}
theorem SqL.of{K:Frag}(h:H a=some (.lst xs)):SqL K H a xs:=.inl (.inl h)
theorem SqT.of{K:Frag}(h:H a=some (.tup xs)):SqT K H a xs:=.inl (.inl h)
theorem Inv.list(I:Inv X pins σ H s)(h:SqL X.K H a xs):∃ its:List Value,Vals xs its/\PlainL s.heap a its.toArray/\xs.length<=sizeLine:=by
 rcases h with h | ⟨o,its,n,f,c,b,d,g,r⟩
 .obtain⟨z,its,n,r,e⟩:=h.ok I.hok
  exact⟨its,r,⟨_,n,e,rfl,rfl,rfl⟩,z⟩
 .refine⟨its.toList,r,⟨o,n,I.kIn a o f,c,b,by simpa using d⟩,?_⟩
  have e:=r.length;simp only[Array.length_toList]at e;lia
theorem Inv.tuple(I:Inv X pins σ H s)(h:SqT X.K H a xs):∃ its:List Value,Vals xs its/\IsTup s.heap a its.toArray/\xs.length<=sizeLine:=by
 rcases h with h | ⟨o,its,n,d,c,b,f,r⟩
 .obtain⟨z,its,r,p⟩:=h.ok I.hok
  exact⟨its,r,p,z⟩
 .refine⟨its.toList,r,⟨o,I.kIn a o d,c,n,by simpa using b⟩,?_⟩
  have e:=r.length;simp only[Array.length_toList]at e;lia
theorem Inv.list_inj(I:Inv X pins σ H s)(h:SqL X.K H a xs)(h':SqL X.K H a ys):xs=ys:=by
 obtain⟨c,r,⟨o,n,e,_,_,d⟩,_⟩:=I.list h;obtain⟨b,i,⟨k,j,f,_,_,g⟩,_⟩:=I.list h';rw[e]at f;cases f;rw[d]at g;injection g with d1 _
 have:c=b:=by simpa using congrArg Array.toList d1
 subst this;exact r.inj i
theorem Inv.tuple_inj(I:Inv X pins σ H s)(h:SqT X.K H a xs)(h':SqT X.K H a ys):xs=ys:=by
 obtain⟨c,r,⟨o,e,_,n,d⟩,_⟩:=I.tuple h;obtain⟨b,i,⟨k,f,_,j,g⟩,_⟩:=I.tuple h';rw[e]at f;cases f;rw[d]at g;injection g with d1 _
 have:c=b:=by simpa using congrArg Array.toList d1
 subst this;exact r.inj i
end
abbrev Cx.wish(X:Cx)(E:Value->Shared->Prop):Cx:={ X with xe:=E }
abbrev Cx.nox(X:Cx):Cx:=X.wish λ_ _=>False
theorem Cx.Ok.wish{X:Cx}(a:X.Ok)(E:Value->Shared->Prop):(X.wish E).Ok :=
 ⟨a.mod,a.kind,a.glob,a.blt,a.above,a.inj,a.has,a.cab,a.hd,a.frames,a.stk,a.exf,a.bs,a.bsz,a.noex,a.exfs,a.funs,a.frf⟩
theorem Cx.Ok.unwish{X:Cx}{E:Value->Shared->Prop}(a:(X.wish E).Ok):X.Ok :=
 ⟨a.mod,a.kind,a.glob,a.blt,a.above,a.inj,a.has,a.cab,a.hd,a.frames,a.stk,a.exf,a.bs,a.bsz,a.noex,a.exfs,a.funs,a.frf⟩
section
variable {X:Cx}{pins:List (Addr×Obj)}{σ:St}{H:Hp}{s:Shared}{E:Value->Shared->Prop}
theorem Inv.wish(I:Inv X pins σ H s)(E:Value->Shared->Prop):Inv (X.wish E) pins σ H s:=⟨I.ok.wish E,I.os,I.bare,I.base,I.loc,I.cell,I.free,I.freeC,I.pin,I.hok,I.len⟩
theorem Inv.unwish(I:Inv (X.wish E) pins σ H s):Inv X pins σ H s:=⟨I.ok.unwish,I.os,I.bare,I.base,I.loc,I.cell,I.free,I.freeC,I.pin,I.hok,I.len⟩
theorem SP.unwish{D:Ends}{f:Flow}{s':Shared}(h:SP (X.wish E) pins D f s'):SP X pins D f s':=by
 cases f with
 | next=>obtain⟨a,b,I,q⟩:=h;exact⟨a,b,I.unwish,q⟩
 | brk=>obtain⟨a,b,I,q⟩:=h;exact⟨a,b,I.unwish,q⟩
 | cont=>obtain⟨a,b,I,q⟩:=h;exact⟨a,b,I.unwish,q⟩
 | ret u=>obtain⟨v,a,b,I,r,q⟩:=h;exact⟨v,a,b,I.unwish,r,q⟩
theorem PSs.nox{b:List Stmt}{t:TS}(h:PSs X.nox b t):PSs X b t:=λa s d H D I c =>
 wpAny_mono (h a s d H D (I.wish _) c) (λ_ _ q=>q.unwish) λ_ _ z=>False.elim z
end
section
variable {X:Cx}{st:Stmt}{rest:List Stmt}{t u:TS}{e:Expr}{te:TE}{pos:Pos}
def An:TS:=λD σ H=>D.nx σ H
def aT(t u:TS):TS:=λD σ H=>t { D with nx:=u D } σ H
theorem bK:PSs X [] An:=λ_ _ a H _ I h=>wpAny_execs_nil ⟨a,H,I,h⟩
theorem aj(k:PS X st t)(g:PSs X rest u):PSs X (st::rest) (aT t u):=by
 intro a s d H D I h;refine wpAny_execs_cons (thn (k a s d H { D with nx:=u D } I h) λf j q=>?_);cases f with
 | next =>
  obtain⟨b,c,i,q⟩:=q;exact g a j b c D i q
 | ret v=>exact q
 | brk=>exact q
 | cont=>exact q
theorem ak(c:PS X st t):PSs X [st] t:=by
 intro a s b H D I h;refine wpAny_execs_cons (thn (c a s b H D I h) λf d q=>?_);cases f with
 | next=>exact wpAny_execs_nil q
 | ret v=>exact q
 | brk=>exact q
 | cont=>exact q
theorem Inv.quiet{a:List (Addr×Obj)}{b:St}{H:Hp}{s:Shared}(I:Inv X a b H s):interactive X.env=false:=by simp[interactive,I.ok.kind]
def AI(te:TE):TS:=λD σ H=>te σ H λ_ H1=>D.nx σ H1
theorem cN(g:PE X e te)(i:swapsWith e none pos.line X.env=pure false:=by rfl):PS X (.Expr e pos) (AI te):=by
 intro a s b H D I h;exact wpAny_Expr_any (thn (g a s b H _ I h) λv k ⟨x,c,f,j,d⟩=>⟨b,c,f,d⟩) I.quiet i
def BX(te:TE):TS:=λD σ H=>te σ H D.rt
theorem aw(i:PE X e te):PS X (.Return (some e) pos) (BX te):=by
 intro a s b H D I h;exact wpAny_Return_some (thn (i a s b H _ I h) λv j ⟨x,d,g,c,f⟩=>⟨x,b,d,g,c,f⟩)
def Cf(c:TT)(t u:TS):TS:=λD σ H=>c σ H λb H1=>if b=true then t D σ H1 else u D σ H1
theorem cK{c:Expr}{a b:List Stmt}{i:TT}(q:PT X c i)(o:PSs X a t)(p:PSs X b u):PS X (.If c a b pos) (Cf i t u):=by
 intro f s g H D I h;refine wpAny_If (thn (q f s g H _ I h) λd l ⟨j,n,k⟩=>?_);cases d with
 | true=>exact o f l g j D n k
 | false=>exact p f l g j D n k
def zo:TS:=λ_ _ _=>False
theorem u6:PS X st zo:=λ_ _ _ _ _ _ h=>h.elim
end
abbrev TG:=V->St->Hp->(St->Hp->Prop)->Prop
abbrev TGs:=List V->St->Hp->(St->Hp->Prop)->Prop
def PG(X:Cx)(target:Expr)(t:TG):Prop :=
 ∀(pins:List (Addr×Obj)) (s:Shared) (σ:St) (H:Hp) (v:V) (u:Value) (Q:St->Hp->Prop),Inv X pins σ H s->RelV v u->t v σ H Q ->
  wpAny (model X.prog X.w) X.A (assign target X.env u) (λ_ s'=>∃ σ' H',Inv X pins σ' H' s'/\Q σ' H') X.xe s
def PGs(X:Cx)(ts:List Expr)(t:TGs):Prop :=
 ∀(pins:List (Addr×Obj)) (s:Shared) (σ:St) (H:Hp) (vs:List V) (us:List Value) (Q:St->Hp->Prop),Inv X pins σ H s->Vals vs us->t vs σ H Q ->
  wpAny (model X.prog X.w) X.A (assignInOrder ((assignEach ts X.env).map (·.2)) us) (λ_ s'=>∃ σ' H',Inv X pins σ' H' s'/\Q σ' H') X.xe s
abbrev v4:=V->V->V->Hp->(Hp->Prop)->Prop
def zG(X:Cx)(t:v4):Prop :=
 ∀(pins:List (Addr×Obj)) (s:Shared) (σ:St) (H:Hp) (o i v:V) (ov iv u:Value) (Q:Hp->Prop),Inv X pins σ H s->RelV o ov->RelV i iv->RelV v u->t o i v H Q ->
  wpAny (model X.prog X.w) X.A (setItem ov iv u) (λ_ s'=>∃ H',Inv X pins σ H' s'/\Q H') X.xe s
abbrev TIp:=V->V->Hp->VK->Prop
def PIp(X:Cx)(op:Operator)(t:TIp):Prop :=
 ∀(pins:List (Addr×Obj)) (s:Shared) (σ:St) (H:Hp) (x y:V) (v u:Value) (Q:VK),Inv X pins σ H s->RelV x v->RelV y u->t x y H Q ->
  wpAny (model X.prog X.w) X.A (inplaceOp op v u) (EP X pins σ Q) X.xe s
section
variable {X:Cx}{pos:Pos}
def p7(i:Nat):TG:=λv σ H Q=>Q (σ.set i (some v)) H
theorem ap{i:Nat}{x:Str}(b:X.N.Nodup)(c:X.N[i]? = some x)(g:Loc X.env.scope x)(f:X.fn x = true\/X.env.scope.names.lookup x = some .local:=by first | exact .inl rfl | exact .inr rfl | assumption):PG X (.Name x pos) (p7 i):=by
 intro a s j H v u Q I r h;exact wpAny_assign_Name (fc I b c g r (λk d=>⟨_,H,d,h⟩) f)
def BN:TGs:=λvs σ H Q=>vs=[]/\Q σ H
inductive gCons(t:TG)(u:TGs)(vs:List V)(σ:St)(H:Hp)(Q:St->Hp->Prop):Prop
 | mk(v:V)(r:List V)(h0:vs=v::r)(h1:t v σ H λσ' H'=>u r σ' H' Q):gCons t u vs σ H Q
theorem aZ:PGs X [] BN:=by
 intro a s b H d c Q I r h;obtain⟨e,h⟩:=h;subst e;cases r;exact assignInOrder_nil ⟨b,H,I,h⟩
theorem au{e:Expr}{b:List Expr}{t:TG}{u:TGs}(l:PG X e t)(f:PGs X b u)
  (n:(assignEach (e::b) X.env).map (·.2)=assign e X.env::(assignEach b X.env).map (·.2):=by rfl):PGs X (e::b) (gCons t u):=by
 intro a s d H q w Q I r h;obtain⟨v,p,o,h⟩:=h;subst o;cases r with
 | cons r rr =>
  rw[n];refine assignInOrder_cons (thn (l a s d H _ _ _ I r h) λ_ j ⟨c,g,k,i⟩=>?_);exact f a j c g _ _ Q k rr i
inductive gTup(K:Frag)(n:Nat)(t:TGs)(v:V)(σ:St)(H:Hp)(Q:St->Hp->Prop):Prop
 | mk(a:Addr)(xs:List V)(h0:v=.ref a)(h1:SqT K H a xs)(h2:xs.length=n)(h3:t xs σ H Q):gTup K n t v σ H Q
theorem eh{d:List Expr}{k:Nat}{t:TGs}{n:Nat}(z:X.calm=true)(h:PGs X d t)
  (x:(assignEach d X.env).length=n:=by rfl) (g:(assignEach d X.env).findIdx? (·.1)=none:=by rfl):PG X (.Tuple d k pos) (gTup X.K n t):=by
 intro c s i H v u Q I r f;obtain⟨a,q,D,w,l,f⟩:=f;subst D;cases r;obtain⟨B,j,p,E⟩:=I.tuple w;refine assign_Tuple_tuple (I.ok.hd z) p (by simp[x,<- l,j.length]) g λy C=>?_
 have A:Inv X c i H { s with heap:=y }:=I.kept (t':=s.toks) λb o e=>C b o (Nat.ne_of_lt (Heap.lt_size e)) e
 exact h c _ i H q _ Q A (by simpa using j) f
def Cl(to ti:TE)(t:v4):TG:=λv σ H Q=>to σ H λo H1=>ti σ H1 λi H2=>t o i v H2 λH3=>Q σ H3
theorem pF{o i:Expr}{c d:TE}{t:v4}(p:PE X o c)(w:PE X i d)(f:zG X t)
  (A:∀ v,assign (.Subscript o i pos) X.env v=(do
   let ov <- holding [v] (eval o X.env)
   let iv <- holding [v,ov] (eval i X.env)
   standAt pos
   holding [v,ov,iv] (setItem ov iv v)
   release [v,ov,iv] []):=by intro _;rfl):PG X (.Subscript o i pos) (Cl c d t):=by
 intro a s b H v u Q I r h;rw[A];refine wpAny_bind (wpAny_holding (thn (p a s b H _ I h) λov g ⟨x,D,j,z,B⟩=>?_));refine wpAny_bind (wpAny_holding (thn (w a g b D _ j B) λiv F ⟨y,k,C,G,E⟩=>?_));refine wpAny_bind (wpAny_standAt (wpAny_bind (wpAny_holding (thn (f a F b k x y v ov iv u _ C z G r E) λ_ J ⟨q,l,n⟩=>?_))));exact wpAny_release ⟨b,q,l,n⟩
def yX(te:TE)(g:TG):TS:=λD σ H=>te σ H λx H1=>g x σ H1 D.nx
theorem gx{tg e:Expr}{c:TE}{g:TG}(o:PE X e c)(f:PG X tg g)(r:swapsWithSole [tg] e pos.line X.env=pure false:=by rfl)(j:swappedStores [tg] e X.env=pure none:=by rfl)
  (p:(assignEach [tg] X.env).map (·.2)=[assign tg X.env]:=by rfl):PS X (.Assign [tg] e pos) (yX c g):=by
 intro a s b H D I h;refine wpAny_Assign_stores (thn (o a s b H _ I h) λv l ⟨x,i,n,d,k⟩=>?_) r j;rw[p];exact thn (f a l b i x v _ n d k) λ_ u q=>q
theorem aD{i:Nat}{x:Str}{e:Expr}{c:TE}{a:Pos}(d:X.N.Nodup)(f:X.N[i]? = some x)(r:Loc X.env.scope x)(q:PE X e c)(u:swapsWith e (some (.Name x a)) pos.line X.env = pure false:=by rfl)(o:X.fn x = true\/X.env.scope.names.lookup x = some .local:=by first | exact .inl rfl | exact .inr rfl | assumption) :
  PS X (.Assign [.Name x a] e pos) (yX c (p7 i)):=by
 intro b s g H D I h;refine wpAny_Assign_Name (thn (q b s g H _ I h) λv z ⟨y,l,p,j,n⟩=>?_) u;exact fc p d f r j (λw k=>⟨_,l,k,n⟩) o
def BJ(i j:Nat)(ta:TA):TS:=λD σ H=>ta σ H λvs H1=>∃ v w,vs=[v,w]/\D.nx ((σ.set i (some v)).set j (some w)) H1
theorem Ae{i j:Nat}{x y:Str}{a b:Expr}{u:TA}{n f r:Pos}{kt k2 pt2}(J:X.calm=true)(A:X.N.Nodup)(O:X.N[i]? = some x)(T:X.N[j]? = some y)(l:i≠j)
  (E:X.env.scope.names.lookup x = some .local) (C:X.env.scope.names.lookup y = some .local) (Q:PA X [a,b] u)
  (G:swappedStores [.Tuple [.Name x n,.Name y f] kt r] (.Tuple [a,b] k2 pt2) X.env=pure (some [x,y]))
  (K:swapsWithSole [.Tuple [.Name x n,.Name y f] kt r] (.Tuple [a,b] k2 pt2) pos.line X.env=pure false:=by rfl) :
  PS X (.Assign [.Tuple [.Name x n,.Name y f] kt r] (.Tuple [a,b] k2 pt2) pos) (BJ i j u):=by
 intro c s B H D I h;rw[exec_Assign_arm];refine wpAny_bind (wpAny_standAt ?_);rw[K];refine wpAny_bind (wpAny_pure ?_);rw[if_neg (by decide)];refine wpAny_bind (Tuple_ (thn (Q _ c s B H _ I h) λS d ⟨Y,F,L,P,k⟩=>?_));obtain⟨v,w,N,k⟩:=k;subst N
 obtain⟨u1,u2,rfl,rv,rw'⟩:∃ u1 u2,S=[u1,u2]/\RelV v u1/\RelV w u2:=by
  cases P with
  | cons p q =>
   cases q with
   | cons p' q' =>
    cases q';exact⟨_,_,rfl,p,p'⟩
 refine wpAny_newObj_type ?_ (by show 2<=sizeLine;decide);have R:Inv X c B F { d with heap:=d.heap.push { cls:=.type "tuple",data:=.seq [u1,u2].toArray } }:=L.kept (t':=d.toks) λb o e=>Heap.get?_push_of_some _ e
 rw[G];refine wpAny_bind (wpAny_pure ?_);show wpAny (model X.prog X.w) X.A (do rule "assign.swapped-stores";let items <- unpackItems (.ref d.heap.objs.size) 2 none;assignInOrder [λv=>bindName X.env y v,λv=>bindName X.env x v] items.reverse;pure Flow.next) _ _ _;refine wpAny_bind (wpAny_rule (wpAny_bind (unpackItems_tuple (items:=#[u1,u2]) (I.ok.hd J) (IsTup.new d.heap _) λh' g=>?_)));have M:=R.kept (h':=h') (t':=d.toks) λb o e=>g b o (Nat.ne_of_lt (Heap.lt_size e)) e
 show wpAny _ _ (assignInOrder [λv=>bindName X.env y v,λv=>bindName X.env x v] [u2,u1] >>= λ_=>pure Flow.next) _ _ _;refine wpAny_bind (assignInOrder_cons (wpAny_bindName (fc M A T (.inl C) rw' (λs2 W=>?_) (.inr C))));refine assignInOrder_cons (wpAny_bindName (fc W A O (.inl E) rv (λZ z=>assignInOrder_nil (wpAny_pure ?_)) (.inr E)));rw[List.set_comm _ _ (Ne.symm l)]at z;exact⟨_,F,z,k⟩
def Ci(i:Nat)(te:TE)(ti:TIp):TS:=λD σ H=>∃ x,σ[i]? = some (some x)/\te σ H λy H1=>ti x y H1 λz H2=>D.nx (σ.set i (some z)) H2
theorem wc{i:Nat}{x:Str}{e:Expr}{q:TE}{op:Operator}{A:TIp}{f:Pos}(P:X.N.Nodup)(o:X.N[i]? = some x)(j:Loc X.env.scope x)(Y:PE X e q)(O:PIp X op A)(E:X.fn x = true\/X.env.scope.names.lookup x = some .local:=by first | exact .inl rfl | exact .inr rfl | assumption) :
  PS X (.AugAssign (.Name x f) op e pos) (Ci i q A):=by
 intro a s p H D I h;obtain⟨v,N,h⟩:=h;obtain⟨m,C,B⟩:=I.loc;have g:Vis X.env.scope x:=by rcases j with k | k;exact .inl k;exact .inr (.inl k)
 obtain⟨u,r,l⟩:=B i x v o N g;refine wpAny_AugAssign_Name ?_
 have n:wpAny (model X.prog X.w) X.A (eval e X.env) (λw d=>wpAny (model X.prog X.w) X.A (inplaceOp op u w) (λr s₃=>wpAny (model X.prog X.w) X.A (storeName X.env x r) (λ_=>SP X a D .next) X.xe s₃) X.xe d) X.xe s:=by
  refine thn (Y a s p H _ I h) λw J ⟨y,T,K,Q,R⟩=>?_
  refine thn (O a J p T v y u w _ K r Q R) λz s2 ⟨zv,L,S,Z,W⟩=>?_
  exact fc S P o j Z (λs3 M=>⟨_,L,M,W⟩) E
 rcases l with⟨hk,G⟩ | ⟨hk,c,F,b⟩
 .exact wpAny_loadName_local I.ok.kind hk C G n
 .rcases hk with hk | hk
  .exact wpAny_loadName_cell I.ok.kind hk F b n
  .rcases j with k | k
   .have:X.env.scope.names.lookup x=some .free:=hk
    rw[k]at this;cases this
   .have:X.env.scope.names.lookup x=some .free:=hk
    rw[k]at this;cases this
def Bn(to ti te:TE)(tget:V->V->Hp->VK->Prop)(tip:TIp)(tset:v4):TS:=λD σ H=>to σ H λo H1=>ti σ H1 λi H2=>tget o i H2 λx H3=>te σ H3 λy H4=>tip x y H4 λz H5=>tset o i z H5 λH6=>D.nx σ H6
def Al(X:Cx)(t:V->V->Hp->VK->Prop):Prop :=
 ∀(pins:List (Addr×Obj)) (s:Shared) (σ:St) (H:Hp) (o i:V) (ov iv:Value) (Q:VK),Inv X pins σ H s->RelV o ov->RelV i iv->t o i H Q ->
  wpAny (model X.prog X.w) X.A (getItem ov iv) (EP X pins σ Q) X.xe s
theorem w5{o i e:Expr}{n u q:TE}{c:V->V->Hp->VK->Prop}{f:TIp}{b:v4}{op:Operator}{g:Pos}(N:PE X o n)(S:PE X i u)(T:Al X c)(he:PE X e q)(hp:PIp X op f)(y:zG X b)
  (Y:∀ ov iv new,augStore i ov iv new=(do holding [new,ov,iv] (setItem ov iv new);release [new,ov,iv] [];pure .next):=by intros;rfl):PS X (.AugAssign (.Subscript o i g) op e pos) (Bn n u q c f b):=by
 intro a s d H D I h;refine wpAny_AugAssign_SubscriptAny (thn (N a s d H _ I h) λov E ⟨k,H1,F,p,Z⟩=>?_) Y;refine thn (S a E d H1 _ F Z) λiv s2 ⟨l,J,I2,r,q2⟩=>?_
 refine thn (T a s2 d J k l ov iv _ I2 p r q2) λj G ⟨R,P,K,O,L⟩=>?_
 refine thn (he a G d P _ K L) λv s4 ⟨x,B,I4,r4,q4⟩=>?_
 refine thn (hp a s4 d B R x j v _ I4 O r4 q4) λnew W ⟨w,M,C,z,Q⟩=>?_
 exact thn (y a W d M k l w ov iv new _ C p r z Q) λ_ s6 ⟨A,I6,q6⟩=>⟨d,A,I6,q6⟩
def ipI(f:Int->Int->Int):TIp:=λx y H Q=>∃ i j,x=.int i/\y=.int j/\Q (.int (f i j)) H
theorem pD:PIp X .Add (ipI λi j=>i+j):=by
 intro a s g H x y v u Q I c d h;obtain⟨i,j,f,b,q⟩:=h;subst f;subst b;obtain⟨t,rfl⟩:=c;obtain⟨k,rfl⟩:=d;exact iadd_int ⟨.int _,H,I.tok _,⟨_,rfl⟩,q⟩
end
section
variable {X:Cx}{pos:Pos}
def Ah(c:TT)(tb:TS):TS:=λD σ H=>∃ W:Nat->St->Hp->Prop,(∃ m,W m σ H)/\∀ m σ H,W m σ H ->
 c σ H λb H1=>if b=true then ∃ N:St->Hp->Prop,(∀ σ' H',N σ' H'->∃ m',m'<m/\W m' σ' H')/\tb { D with nx:=N,ct:=N,bk:=D.nx } σ H1 else D.nx σ H1
theorem jm{c:Expr}{body:List Stmt}{w:TT}{y:TS}(C:PassesOwn (model X.prog X.w) X.A X.env X.xe)(F:PT X c w)(L:PSs X body y):PS X (.While c body [] pos) (Ah w y):=by
 intro d s K H D I h;obtain⟨W,⟨O,Q⟩,i⟩:=h;refine wpAny_While (codeAny_whileLoop (λn M=>∃ σ' H',Inv X d σ' H' M/\W n σ' H') ?_ O ⟨K,H,I,Q⟩);rintro n G ⟨g,B,J,E⟩;refine wpAny_passesOwn C (thn (F d G g B _ J (i n g B E)) λb P ⟨x,A,l⟩=>?_);cases b with
 | true =>
  obtain⟨N,z,l⟩:=l;rw[if_pos rfl];refine wpAny_passesOwn C (thn (L d P g x _ A l) λf R k=>?_);cases f with
  | next =>
   obtain⟨a,j,r,u⟩:=k;obtain⟨p,q,o⟩:=z a j u;exact⟨p,q,a,j,r,o⟩
  | cont =>
   obtain⟨a,j,r,u⟩:=k;obtain⟨p,q,o⟩:=z a j u;exact⟨p,q,a,j,r,o⟩
  | brk=>exact k
  | ret v=>exact k
 | false =>
  rw[if_neg Bool.false_ne_true];exact wpAny_execs_nil ⟨g,x,A,l⟩
end
structure It where
 go:Nat->Hp->Prop
 yld:Nat->Hp->V->Hp->Prop
 stop:Nat->Hp->Prop
def eB(X:Cx)(pins:List (Addr×Obj))(H:Hp)(b:Addr):Prop :=
 H b = none/\b≠X.env.locals/\b ∉ X.fs/\(b ∈ X.ex\/X.s₀.heap.objs.size<=b)/\(∀ x c,X.env.cells.lookup x = some c->c≠b)/\∀ p ∈ X.pn ++ pins,p.1≠b
theorem Inv.fpOk{X:Cx}{a:List (Addr×Obj)}{f:St}{H H':Hp}{s:Shared}{b:Addr}(I:Inv X a f H s)(d:s.heap.objs.size<=b)(g:H' b=none):eB X a H' b:=by
 refine⟨g,Nat.ne_of_gt (Nat.lt_of_lt_of_le I.lt d),I.nofs d,.inr (Nat.le_trans I.sz d),λx c e z=>?_,λp hp z=>?_⟩
 .obtain⟨v,q⟩:=I.cell x c e
  exact absurd (Nat.lt_of_lt_of_le q.lt (by rw[z];exact d)) (Nat.lt_irrefl _)
 .exact absurd (Nat.lt_of_lt_of_le (Heap.lt_size (I.pin p hp).1) (by rw[z];exact d)) (Nat.lt_irrefl _)
structure Turn(P:Program)(w:World)(K:Frag)(tg:Expr)(J:It)(fp:List Addr)(it:Addr)(tn:Nat->Heap->Prop):Prop where
 mem:it∈fp
 obj:∀ i h,tn i h->∀ b∈fp,∃ o,h.get? b=some o/\∀ v,o.data≠.cell v
 keep:∀ i h h',tn i h->(∀ b∈fp,∀ o,h.get? b=some o->h'.get? b=some o)->tn i h'
 item:∀(X:Cx),X.prog=P->X.w=w->X.K=K->X.calm=true->∀(i:Nat) (pins:List (Addr×Obj)) (s:Shared) (σ:St) (H:Hp) (E:Value->Shared->Prop),Inv X pins σ H s->(∀ b∈fp,eB X pins H b)->tn i s.heap->J.go i H ->
  wpAny (model P w) X.A (pyNext (.ref it)) (λr s1=>∃ u,r=some u /\
   wpAny (model P w) X.A (letOwnedTupleGo tg (.ref it) u) (λ_ s2=>∃ x H',Inv X pins σ H' s2/\RelV x u/\J.yld i H x H'/\tn (i+1) s2.heap/\∀ b∈fp,H' b=none) E s1) E s
 done:∀(X:Cx),X.prog=P->X.w=w->X.K=K->X.calm=true->∀(i:Nat) (pins:List (Addr×Obj)) (s:Shared) (σ:St) (H:Hp) (E:Value->Shared->Prop),Inv X pins σ H s->(∀ b∈fp,eB X pins H b)->tn i s.heap->J.stop i H ->
  wpAny (model P w) X.A (pyNext (.ref it)) (λr s1=>r=none/\Inv X pins σ H s1) E s
 self:∀(A:Around) (i:Nat) (s:Shared) (Q:Value->Shared->Prop) (E:Value->Shared->Prop),tn i s.heap->Q (.ref it) s->wpAny (model P w) A (pyIter (.ref it)) Q E s
abbrev TI:=St->Hp->(It->Hp->Prop)->Prop
def PIE(X:Cx)(pins:List (Addr×Obj))(σ:St)(tg:Expr)(R:It->Hp->Prop)(itv:Value)(s2:Shared):Prop :=
 ∃(it:Addr) (fp:List Addr) (tn:Nat->Heap->Prop) (J:It) (H':Hp),itv=.ref it/\Inv X pins σ H' s2/\Turn X.prog X.w X.K tg J fp it tn/\tn 0 s2.heap/\(∀ b∈fp,eB X pins H' b)/\R J H'
def PI(X:Cx)(tg iter:Expr)(wi:TI):Prop :=
 ∀(pins:List (Addr×Obj)) (s:Shared) (σ:St) (H:Hp) (R:It->Hp->Prop),Inv X pins σ H s->wi σ H R ->
  wpAny (model X.prog X.w) X.A (eval iter X.env) (λv s1=>wpAny (model X.prog X.w) X.A (pyIter v) (PIE X pins σ tg R) X.xe s1) X.xe s
theorem mW{M:Model}{A:Around}{E:Value->Shared->Prop}{s:Shared}{tg:Expr}{b:Addr}{u:Value}{o:Obj}{n:String}{vs:Array Value}{Q:Unit->Shared->Prop}(g:s.heap.get? b=some o)(f:o.cls=.type n)(d:o.data=.fields vs)
  (c:["enumerate","zip","dict_itemiterator","dict_reverseitemiterator","odict_iterator","itertools.zip_longest","itertools.pairwise"].contains n=false) (a:Q () s):wpAny M A (letOwnedTupleGo tg (.ref b) u) Q E s:=by
 unfold letOwnedTupleGo
 cases tg <;> first
  | exact wpAny_pure a
  | (cases u <;> first
    | exact wpAny_pure a
    | (refine wpAny_bind (wpAny_load g ?_)
       rw[f,d];show wpAny M A (if (["enumerate","zip","dict_itemiterator","dict_reverseitemiterator","odict_iterator","itertools.zip_longest","itertools.pairwise"].contains n && vs[0]? == some (rawInt _))=true then _ else _) Q E s;rw[if_neg (by intro h;rw[c,Bool.false_and]at h;cases h)]
       exact wpAny_pure a))
def Itl(K:Frag)(a:Addr):It :=
 ⟨λi H=>∃ xs x,SqL K H a xs/\xs[i]? = some x,λi H x H'=>H'=H/\∀ xs,SqL K H a xs->xs[i]? = some x,λi H=>∃ xs,SqL K H a xs/\xs.length<=i⟩
def Itt(K:Frag)(a:Addr):It :=
 ⟨λi H=>∃ xs x,SqT K H a xs/\xs[i]? = some x,λi H x H'=>H'=H/\∀ xs,SqT K H a xs->xs[i]? = some x,λi H=>∃ xs,SqT K H a xs/\xs.length<=i⟩
def Itr(lo:Int)(n:Nat):It:=⟨λi _=>i<n,λi H x H'=>H'=H/\x=.int (lo+i),λi _=>n<=i⟩
theorem tw{P:Program}{w:World}{K:Frag}{tg:Expr}(a l:Addr):Turn P w K tg (Itl K a) [l] l (λi h=>h.IsListIter l a i) where
 mem:=by simp
 obj:=λi h f b j=>by
  have e:b=l:=by simpa using j
  subst e;obtain⟨o,e,c,d⟩:=f;exact⟨o,e,λv z=>by rw[d]at z;cases z⟩
 keep:=λi h r f k=>f.at λo e=>k l (by simp) o e
 item:=by
  intro X C A F R i g s S H E I q f G;subst C A F;obtain⟨W,x,y,L⟩:=G;obtain⟨J,Q,p,hz⟩:=I.list y;obtain⟨u,hu,T⟩:=Q.get L;obtain⟨D,M,f2,B,N,O⟩:=q l (by simp);refine wpAny_pyNext_list_item f p.isList (x:=u) (by simpa using hu) λr n sb=>?_
  have Y:Inv X g S H { s with heap:=r }:=I.turned (t':=s.toks) (λb o j e=>(sb.2 b j).trans e) D M B N O;obtain⟨o,e,c,d⟩:=id n;exact⟨u,rfl,mW (s:={ s with heap:=r }) e c d (by decide) ⟨x,H,Y,T,⟨rfl,λys hy=>by rw[I.list_inj hy y];exact L⟩,n,λb j=>(q b j).1⟩⟩
 done:=by
  intro X C A F R i g s S H E I q f G;subst C A F;obtain⟨W,y,L⟩:=G;obtain⟨J,Q,p,hz⟩:=I.list y;obtain⟨D,M,f2,B,N,O⟩:=q l (by simp);have hl:=Q.length
  exact wpAny_pyNext_list_end (I.ok.hd R) f p.isList (by simp;lia) λr Z=>⟨rfl,I.turned (t':=s.toks) (λb o j e=>Z b o j e) D M B N O⟩
 self:=λ_ _ _ _ _ f h=>wpAny_pyIter_listiter f h
theorem pp{P:Program}{w:World}{K:Frag}{tg:Expr}(a n:Addr):Turn P w K tg (Itt K a) [n] n (λi h=>h.IsTupleIter n a i) where
 mem:=by simp
 obj:=λi h f b j=>by
  have e:b=n:=by simpa using j
  subst e;obtain⟨o,e,c,d⟩:=f;exact⟨o,e,λv z=>by rw[d]at z;cases z⟩
 keep:=λi h y f k=>f.at λo e=>k n (by simp) o e
 item:=by
  intro X D B G R i g s S H E I r f J;subst D B G;obtain⟨W,x,A,L⟩:=J;obtain⟨l,Q,p,hz⟩:=I.tuple A;obtain⟨u,hu,T⟩:=Q.get L;obtain⟨F,M,f2,C,N,O⟩:=r n (by simp);refine wpAny_pyNext_tuple_item f (show s.heap.IsTuple a l.toArray from p) (x:=u) (by simpa using hu) λy q sb=>?_
  have Y:Inv X g S H { s with heap:=y }:=I.turned (t':=s.toks) (λb o j e=>(sb.2 b j).trans e) F M C N O;obtain⟨o,e,c,d⟩:=id q;exact⟨u,rfl,mW (s:={ s with heap:=y }) e c d (by decide) ⟨x,H,Y,T,⟨rfl,λys hy=>by rw[I.tuple_inj hy A];exact L⟩,q,λb j=>(r b j).1⟩⟩
 done:=by
  intro X D B G R i g s S H E I r f J;subst D B G;obtain⟨W,A,L⟩:=J;obtain⟨l,Q,p,hz⟩:=I.tuple A;obtain⟨F,M,f2,C,N,O⟩:=r n (by simp);have hl:=Q.length
  exact wpAny_pyNext_tuple_end (I.ok.hd R) f (show s.heap.IsTuple a l.toArray from p) (by simp;lia) λy Z=>⟨rfl,I.turned (t':=s.toks) (λb o j e=>Z b o j e) F M C N O⟩
 self:=λ_ _ _ _ _ f h=>wpAny_pyIter_tupleiter f h
theorem pN{P:Program}{w:World}{K:Frag}{tg:Expr}(d:Addr)(lo:Int)(n:Nat):Turn P w K tg (Itr lo n) [d] d (λi h=>IsRangeIter h d (lo+(i:Nat)*1) ((n:Int) - (i:Nat)) 1) where
 mem:=by simp
 obj:=λi h a b f=>by
  have e:b=d:=by simpa using f
  subst e
  exact⟨_,a,λv z=>by
   have N:Data.fields _=Data.cell v:=z
   cases N⟩
 keep:=λi h l a k=>k d (by simp) _ a
 item:=by
  intro X u p y q i c s G H E I j a A;subst u p y;obtain⟨x,C,O,r,B,D⟩:=j d (by simp);have W:=Walks.range (prog:=X.prog) (w:=X.w) (I.ok.hd q) d lo 1 n;refine W.item i s _ _ A a λv l F M g Q=>?_
  obtain⟨t,rfl⟩:=M;have J:Inv X c G H { s with heap:=l,toks:=F }:=I.turned (λb o f e=>Q b o (by simpa using f) e) x C r B D;refine⟨_,rfl,mW (s:={ s with heap:=l,toks:=F }) (n := "range_iterator") g rfl rfl (by decide) ⟨.int (lo+i),H,J,⟨t,?_⟩,⟨rfl,rfl⟩,g,λb f=>(j b f).1⟩⟩;rw[Int.mul_one]
 done:=by
  intro X u p y q i c s G H E I j a A;subst u p y;obtain⟨x,C,O,r,B,D⟩:=j d (by simp)
  exact wpAny_pyNext_range_end (I.ok.hd q) a (by have:n<=i:=A;lia) λl L=>⟨rfl,I.turned (t':=s.toks) (λb o f e=>L b o f e) x C r B D⟩
 self:=λ_ _ _ _ _ a h=>wpAny_pyIter_rangeiter a h
section
variable {X:Cx}{tg:Expr}
theorem ui{c:List (Addr×Obj)}{d:St}{H:Hp}{s:Shared}{R:It->Hp->Prop}{E:Value->Shared->Prop}{lo a:Int}{t u v:Tok}{tk:Nat}(I:Inv X c d H s)(j:-(2 ^ 62)<=lo)(i:lo<2 ^ 62)(h:-(2 ^ 62)<=a)(k:a<2 ^ 62)
  (q:R (Itr lo (a - lo).toNat) H):wpAny (model X.prog X.w) X.A (pyIter (.ref s.heap.objs.size)) (PIE X c d tg R) E { s with heap:=s.heap.push { cls:=.type "range",data:=.fields #[.int lo t,.int a u,.int 1 v] },toks:=tk }:=by
 refine wpAny_pyIter_range (IsRange.new ..) (small_one j i h k) ?_;have f:Inv X c d H { s with heap:=s.heap.push { cls:=.type "range",data:=.fields #[.int lo t,.int a u,.int 1 v] },toks:=tk }:=I.kept λb o e=>Heap.get?_push_of_some _ e
 refine⟨(s.heap.push { cls:=.type "range",data:=.fields #[.int lo t,.int a u,.int 1 v] }).objs.size,[(s.heap.push { cls:=.type "range",data:=.fields #[.int lo t,.int a u,.int 1 v] }).objs.size],_,_,H,rfl,
  f.kept (t':=tk) λb o e=>Heap.get?_push_of_some _ e,pN _ lo (a - lo).toNat,?_,λb hb=>?_,q⟩
 .have l:lo+((0:Nat):Int)*1=lo:=by simp
  have g:(((a - lo).toNat:Nat):Int) - ((0:Nat):Int)=Builtin.Range.rangeSize lo a 1:=by rw[rangeSize_one];split <;> lia
  show IsRangeIter _ _ (lo+((0:Nat):Int)*1) ((((a - lo).toNat:Nat):Int) - ((0:Nat):Int)) 1;rw[l,g];exact Heap.get?_push_size _ rfl
 .have e:b=(s.heap.push { cls:=.type "range",data:=.fields #[.int lo t,.int a u,.int 1 v] }).objs.size:=by simpa using hb
  subst e;exact f.fpOk (Nat.le_refl _) (f.hok.fresh (Nat.le_refl _))
def AU(ta:TA):TI:=λσ H R=>ta σ H λvs H1=>∃ j:Int,vs=[.int j]/\-(2 ^ 62)<=j/\j<2 ^ 62/\R (Itr 0 j.toNat) H1
theorem dO{a:Expr}{f:TA}{p b:Pos}(l:Gl X "range")(g:X.mg "range" = none)(o:PA X [a] f)(v:starEach [a] X.env=[(false,eval a X.env)]:=by rfl):PI X tg (.Call (.Name "range" p) [a] [] b) (AU f):=by
 intro c s i H R I h;refine Call_ (jy I l g boot_range (PyProof.Rows.callWith_type1 (thn (o b c s i H _ I h) λz y ⟨x,w,u,k,d⟩=>?_) v rfl));obtain⟨j,e,d,n,q⟩:=d;subst e;cases k with
 | cons r rr =>
  cases rr;obtain⟨t,rfl⟩:=r;exact call_range_1 (ui u (by lia) (by lia) d n (by simpa using q))
def Ck(wi:TI)(g:TG)(tb:TS):TS:=λD σ H=>wi σ H λJ H1=>∃ W:Nat->Nat->St->Hp->Prop,(∃ m,W 0 m σ H1)/\∀ i m σ H,W i m σ H ->
 (J.stop i H/\D.nx σ H)\/(J.go i H/\∃ N:St->Hp->Prop,(∀ σ' H',N σ' H'->∃ m',m'<m/\W (i+1) m' σ' H')/\∀ x H',J.yld i H x H'->g x σ H' λσ2 H2=>tb { D with nx:=N,ct:=N,bk:=D.nx } σ2 H2)
def jF(fp:List Addr)(h:Heap):List (Addr×Obj):=fp.filterMap λb=>(h.get? b).map λo=>(b,o)
theorem eJ{a:List Addr}{h:Heap}{b:Addr}{o:Obj}(c:b∈a)(e:h.get? b=some o):(b,o)∈jF a h:=List.mem_filterMap.mpr ⟨b,c,by rw[e];rfl⟩
theorem sO{a:List Addr}{h:Heap}{p:Addr×Obj}(d:p∈jF a h):p.1∈a/\h.get? p.1=some p.2:=by
 obtain⟨b,c,e⟩:=List.mem_filterMap.mp d;cases q:h.get? b with
 | none=>rw[q]at e;cases e
 | some o =>
  rw[q]at e;have f:(b,o)=p:=Option.some.inj e;subst f;exact⟨c,q⟩
theorem Inv.pinned{a:List (Addr×Obj)}{f:St}{H:Hp}{s:Shared}{c:List Addr}(I:Inv X a f H s)(j:∀ b∈c,eB X a H b)(q:∀ b∈c,∃ o,s.heap.get? b=some o/\∀ v,o.data≠.cell v):Inv X (a++jF c s.heap) f H s :=
 I.pins_of λp k=>(mem_append.mp k).elim (λz=>I.pin p (mem_append_right _ z)) λz=>by
  obtain⟨g,e⟩:=sO z;obtain⟨i,l,n,_⟩:=j p.1 g;obtain⟨o,h,d⟩:=q p.1 g;rw[e]at h;cases h;exact⟨e,i,l,n,d⟩
theorem Inv.unpinned{a pl:List (Addr×Obj)}{b:St}{H:Hp}{s:Shared}(I:Inv X (a++pl) b H s):Inv X a b H s:=I.pins_of λp c=>I.pin p (mem_append_right _ (mem_append_left _ c))
theorem cV{y:Expr}{body:List Stmt}{wi:TI}{g:TG}{tb:TS}{ab:Pos}(L:PassesOwn (model X.prog X.w) X.A X.env X.xe)(hc:X.calm=true)(hi:PI X tg y wi)(hg:PG X tg g)(q:PSs X body tb)
  (hs:∀ x,foldedSetIterable y X.env x=pure x:=by intro _;rfl):PS X (.For tg y body [] ab) (Ck wi g tb):=by
 intro c s σ H D I h;refine wpAny_For (thn (hi c s σ H _ I h) λv s1 h1=>thn h1 λitv s2 h2=>?_) hs;obtain⟨it,M,tn,J,H2,e,I2,T,P,f2,W,⟨m0,w0⟩,B⟩:=h2;subst e
 have k:∀{H':Hp},(∀ b∈M,H' b=none)->∀ b∈M,eB X c H' b:=λhn b q=>⟨hn b q,(f2 b q).2⟩
 refine codeAny_forLoop_any (λn s'=>∃ i σ' H',Inv X c σ' H' s'/\tn i s'.heap/\(∀ b∈M,H' b=none)/\W i n σ' H') ?_ m0 ⟨0,σ,H2,I2,P,λb q=>(f2 b q).1,w0⟩;rintro n s3 ⟨i,j,O,I3,E,K,w3⟩
 rcases B i n j O w3 with⟨F,qn⟩ | ⟨go,N,hN,G⟩
 .refine wpAny_passesOwn L (thn (T.done X rfl rfl rfl hc i c s3 j O X.xe I3 (k K) E F) λr s4 ⟨S,I4⟩=>?_)
  subst S;exact wpAny_execs_nil ⟨j,O,I4,qn⟩
 .refine wpAny_passesOwn L (thn (T.item X rfl rfl rfl hc i c s3 j O X.xe I3 (k K) E go) λr s4 ⟨u,S,h4⟩=>?_)
  subst S;refine wpAny_passesOwn L (thn h4 λ_ s5 ⟨x,H5,I5,r5,y5,A,Q⟩=>?_);have Z:=I5.pinned (k Q) (T.obj _ _ A);refine wpAny_passesOwn L (thn (hg _ s5 j H5 x u _ Z r5 (G x H5 y5)) λ_ s6 ⟨R,H6,I6,q6⟩=>?_);refine wpAny_passesOwn L (thn (q _ s6 R H6 _ I6 q6) λf Y z=>?_)
  have l:∀{a:St}{p:Hp},Inv X (c++jF M s5.heap) a p Y->N a p->∃ m,m<n/\∃ i σ' H',Inv X c σ' H' Y/\tn i Y.heap/\(∀ b∈M,H' b=none)/\W i m σ' H':=λ{a p} w C=>by
   obtain⟨m',hm,w7⟩:=hN a p C;refine⟨m',hm,i+1,a,p,w.unpinned,T.keep _ _ _ A λb q o e=>(w.pin (b,o) (mem_append_right _ (mem_append_right _ (eJ q e)))).1,λb q=>?_,w7⟩;obtain⟨o,e,d⟩:=T.obj _ _ A b q;exact(w.pin (b,o) (mem_append_right _ (mem_append_right _ (eJ q e)))).2.1
  cases f with
  | next=>obtain⟨a,p,w,C⟩:=z;exact l w C
  | cont=>obtain⟨a,p,w,C⟩:=z;exact l w C
  | brk=>obtain⟨a,p,w,z⟩:=z;exact⟨a,p,w.unpinned,z⟩
  | ret v=>obtain⟨x7,a,p,w,r7,z⟩:=z;exact⟨x7,a,p,w.unpinned,r7,z⟩
end
theorem dC{K:Frag}{a:Addr}{xs:List V}{g:TG}{d:TS}{D:Ends}{b:St}{H:Hp}(c:Nat->St->Hp->Prop)(n:c 0 b H)(f:∀ i b H,i<=xs.length->c i b H->SqL K H a xs)
  (l:∀ i x b H,xs[i]? = some x->c i b H->g x b H λσ2 H2=>d { D with nx:=c (i+1),ct:=c (i+1),bk:=D.nx } σ2 H2) (k:∀ b H,c xs.length b H->D.nx b H) :
  ∃ W:Nat->Nat->St->Hp->Prop,(∃ m,W 0 m b H)/\∀ i m b H,W i m b H ->
   ((Itl K a).stop i H/\D.nx b H)\/((Itl K a).go i H/\∃ N:St->Hp->Prop,(∀ σ' H',N σ' H'->∃ m',m'<m/\W (i+1) m' σ' H')/\∀ x H',(Itl K a).yld i H x H'->g x b H' λσ2 H2=>d { D with nx:=N,ct:=N,bk:=D.nx } σ2 H2):=by
 refine⟨λi m b H=>m=xs.length - i/\i<=xs.length/\c i b H,⟨xs.length,by simp,Nat.zero_le _,n⟩,?_⟩;rintro i m b H ⟨rfl,h,p⟩;have q:=f i b H h p
 by_cases hlt:i<xs.length
 .refine .inr ⟨⟨xs,xs[i],q,by simp[hlt]⟩,c (i+1),λσ' H' j=>⟨xs.length - (i+1),by lia,rfl,hlt,j⟩,λx H' y=>?_⟩
  obtain⟨e,y⟩:=y;subst e;exact l i x b _ (y xs q) p
 .have e:i=xs.length:=by lia
  subst e;exact .inl ⟨⟨xs,q,Nat.le_refl _⟩,k b H p⟩
theorem hJ{lo:Int}{n:Nat}{g:TG}{c:TS}{D:Ends}{a:St}{H:Hp}(b:Nat->St->Hp->Prop)(j:b 0 a H)
  (h:∀ i a H,i<n->b i a H->g (.int (lo+i)) a H λσ2 H2=>c { D with nx:=b (i+1),ct:=b (i+1),bk:=D.nx } σ2 H2) (f:∀ a H,b n a H->D.nx a H) :
  ∃ W:Nat->Nat->St->Hp->Prop,(∃ m,W 0 m a H)/\∀ i m a H,W i m a H ->
   ((Itr lo n).stop i H/\D.nx a H)\/((Itr lo n).go i H/\∃ N:St->Hp->Prop,(∀ σ' H',N σ' H'->∃ m',m'<m/\W (i+1) m' σ' H')/\∀ x H',(Itr lo n).yld i H x H'->g x a H' λσ2 H2=>c { D with nx:=N,ct:=N,bk:=D.nx } σ2 H2):=by
 refine⟨λi m a H=>m=n - i/\i<=n/\b i a H,⟨n,by simp,Nat.zero_le _,j⟩,?_⟩;rintro i m a H ⟨rfl,k,p⟩
 by_cases hlt:i<n
 .refine .inr ⟨hlt,b (i+1),λσ' H' d=>⟨n - (i+1),by lia,rfl,hlt,d⟩,λx H' y=>?_⟩
  obtain⟨e,y⟩:=y;subst e y;exact h i a _ hlt p
 .have e:i=n:=by lia
  subst e;exact .inl ⟨Nat.le_refl _,f a H p⟩
abbrev R2:=V->V->Hp->VK->Prop
def OpR(X:Cx)(f:Value->Value->Sem Value)(r:R2):Prop :=
 ∀(pins:List (Addr×Obj)) (s:Shared) (σ:St) (H:Hp) (x y:V) (v u:Value) (Q:VK),Inv X pins σ H s->RelV x v->RelV y u->r x y H Q ->
  wpAny (model X.prog X.w) X.A (f v u) (EP X pins σ Q) X.xe s
def UnR(X:Cx)(f:Value->Sem Value)(r:V->Hp->VK->Prop):Prop :=
 ∀(pins:List (Addr×Obj)) (s:Shared) (σ:St) (H:Hp) (x:V) (v:Value) (Q:VK),Inv X pins σ H s->RelV x v->r x H Q ->
  wpAny (model X.prog X.w) X.A (f v) (EP X pins σ Q) X.xe s
def CallR(X:Cx)(f:Value)(r:List V->Hp->VK->Prop):Prop :=
 ∀(pins:List (Addr×Obj)) (s:Shared) (σ:St) (H:Hp) (xs:List V) (us:List Value) (Q:VK),Inv X pins σ H s->Vals xs us->r xs H Q ->
  wpAny (model X.prog X.w) X.A (call f us) (EP X pins σ Q) X.xe s
def Cb(X:Cx)(r:V->Hp->(Bool->Hp->Prop)->Prop):Prop :=
 ∀(pins:List (Addr×Obj)) (s:Shared) (σ:St) (H:Hp) (x:V) (v:Value) (Q:Bool->Hp->Prop),Inv X pins σ H s->RelV x v->r x H Q ->
  wpAny (model X.prog X.w) X.A (truthy v) (TP X pins σ Q) X.xe s
def tOp(r:R2)(ta tb:TE):TE:=λσ H Q=>ta σ H λx H1=>tb σ H1 λy H2=>r x y H2 Q
def tUn(r:V->Hp->VK->Prop)(ta:TE):TE:=λσ H Q=>ta σ H λx H1=>r x H1 Q
def rI(C:Int->Int->Prop)(g:Int->Int->V):R2:=λx y H Q=>∃ i j,x=.int i/\y=.int j/\C i j/\Q (g i j) H
def rI0(g:Int->Int->V):R2:=λx y H Q=>∃ i j,x=.int i/\y=.int j/\Q (g i j) H
def rU(g:Int->V):V->Hp->VK->Prop:=λx H Q=>∃ i,x=.int i/\Q (g i) H
section
variable {X:Cx}{a b c:Expr}{ta tb tc:TE}{pos:Pos}
theorem zF(j:PE X a ta)(l:PE X b tb){c:List (Addr×Obj)}{s:Shared}{d:St}{H:Hp}{R:V->V->Hp->Prop}(I:Inv X c d H s)
  (h:ta d H λx H1=>tb d H1 λy H2=>R x y H2){Q:Value->Shared->Prop}{f:Value->Value->Sem Value}
  (n:∀ v u s2 x y H2,Inv X c d H2 s2->RelV x v->RelV y u->R x y H2->wpAny (model X.prog X.w) X.A (f v u) Q X.xe s2) :
  wpAny (model X.prog X.w) X.A (eval a X.env) (λv s₁=>wpAny (model X.prog X.w) X.A (eval b X.env) (λu s₂=>wpAny (model X.prog X.w) X.A (f v u) Q X.xe s₂) X.xe s₁) X.xe s:=by
 refine thn (j c s d H _ I h) λv o ⟨x,H1,p,g,k⟩=>?_
 refine thn (l c o d H1 _ p k) λu s2 ⟨y,H2,q,r,i⟩=>?_
 exact n v u s2 x y H2 q g r i
theorem ay{op:Operator}{r:R2}(o:OpR X (binaryOp op) r)(g:PE X a ta)(j:PE X b tb):PE X (.BinOp a op b pos) (tOp r ta tb):=by
 intro c s d H Q I h;exact wpAny_BinOp (zF g j I h λv u i x y l n k f q=>o c i d l x y v u Q n k f q)
theorem iF{op:UnaryOp}{r:V->Hp->VK->Prop}(l:UnR X (unaryOp op) r)(g:PE X a ta):PE X (.UnaryOp op a pos) (tUn r ta):=by
 intro b s c H Q I h;exact UnaryOp_ (thn (g b s c H _ I h) λv j ⟨x,f,k,d,i⟩=>l b j c f x v Q k d i)
theorem opI{f:Value->Value->Sem Value}{C:Int->Int->Prop}{g:Int->Int->Int}
  (a:∀(i j:Int) (t u:Tok) (s:Shared) (Q:Value->Shared->Prop) (E:Value->Shared->Prop),C i j->Q (.int (g i j) s.toks) { s with toks:=s.toks+1 }->wpAny (model X.prog X.w) X.A (f (.int i t) (.int j u)) Q E s) :
  OpR X f (rI C λi j=>.int (g i j)):=by
 intro b s n H x y v u Q I k c h;obtain⟨i,j,rfl,rfl,d,q⟩:=h;obtain⟨t,rfl⟩:=k;obtain⟨l,rfl⟩:=c;exact a i j t l s _ _ d ⟨.int (g i j),H,I.tok _,⟨_,rfl⟩,q⟩
theorem BC{f:Value->Value->Sem Value}{g:Int->Int->Int}
  (a:∀(i j:Int) (t u:Tok) (s:Shared) (Q:Value->Shared->Prop) (E:Value->Shared->Prop),Q (.int (g i j) s.toks) { s with toks:=s.toks+1 }->wpAny (model X.prog X.w) X.A (f (.int i t) (.int j u)) Q E s) :
  OpR X f (rI0 λi j=>.int (g i j)):=by
 intro b s l H x y v u Q I d c h;obtain⟨i,j,rfl,rfl,q⟩:=h;obtain⟨t,rfl⟩:=d;obtain⟨k,rfl⟩:=c;exact a i j t k s _ _ ⟨.int (g i j),H,I.tok _,⟨_,rfl⟩,q⟩
theorem yG{f:Value->Value->Sem Value}{g:Int->Int->Bool}
  (a:∀(i j:Int) (t u:Tok) (s:Shared) (Q:Value->Shared->Prop) (E:Value->Shared->Prop),Q (.bool (g i j)) s->wpAny (model X.prog X.w) X.A (f (.int i t) (.int j u)) Q E s) :
  OpR X f (rI0 λi j=>.bl (g i j)):=by
 intro b s l H x y v u Q I d c h;obtain⟨i,j,rfl,rfl,q⟩:=h;obtain⟨t,rfl⟩:=d;obtain⟨k,rfl⟩:=c;exact a i j t k s _ _ ⟨.bl (g i j),H,I,rfl,q⟩
def BV(i j:Int):Prop:=0<j/\j<1073741824
def CMul(i j:Int):Prop:=(-(2 ^ 64)<i/\i<2 ^ 64)\/(-(2 ^ 64)<j/\j<2 ^ 64)
theorem CMul.ok{i j:Int}(h:CMul i j):IntMulOk i j:=by
 rcases h with⟨a,b⟩ | ⟨a,b⟩
 .exact .of_left (intBits_le_64 a b)
 .exact .of_right (intBits_le_64 a b)
theorem op_add:OpR X (binaryOp .Add) (rI0 λi j=>.int (i+j)):=BC λ_ _ _ _ _ _ _ q=>add_int q
theorem op_sub:OpR X (binaryOp .Sub) (rI0 λi j=>.int (i - j)):=BC λ_ _ _ _ _ _ _ q=>sub_int q
theorem op_mod:OpR X (binaryOp .Mod) (rI (λ_ j=>0<j) λi j=>.int (i % j)):=opI λi j _ _ _ _ _ a q=>by
 have b:(0:Int)<j:=a;exact mod_int' (by lia) (by rw[Int.fmod_eq_emod_of_nonneg i (by lia)];exact q)
theorem unI{f:Value->Sem Value}{g:Int->Int}
  (a:∀(i:Int) (t:Tok) (s:Shared) (Q:Value->Shared->Prop) (E:Value->Shared->Prop),Q (.int (g i) s.toks) { s with toks:=s.toks+1 }->wpAny (model X.prog X.w) X.A (f (.int i t)) Q E s) :
  UnR X f (rU λi=>.int (g i)):=by
 intro b s d H x v Q I c h;obtain⟨i,rfl,q⟩:=h;obtain⟨t,rfl⟩:=c;exact a i t s _ _ ⟨.int (g i),H,I.tok _,⟨_,rfl⟩,q⟩
theorem zf:UnR X (unaryOp .USub) (rU λi=>.int (-i)):=unI λ_ _ _ _ _ q=>neg_int q
end
def AS:V->V->Bool
 | .non,.non=>true | .non,.int _=>true | .int _,.non=>true | .non,.bl _=>true | .bl _,.non=>true | .non,.str _=>true | .str _,.non=>true
 | .int _,.int _=>true | .bl _,.bl _=>true | .str _,.str _=>true | .byt _,.byt _=>true
 | .int _,.str _=>true | .str _,.int _=>true | .bl _,.str _=>true | .str _,.bl _=>true
 | _,_=>false
def rEq:R2:=λx y H Q=>AS x y=true/\Q (.bl (decide (x=y))) H
def rNe:R2:=λx y H Q=>AS x y=true/\Q (.bl (!decide (x=y))) H
theorem je{i j:Int}:decide (V.int i=V.int j)=(i == j):=by
 rw[Bool.eq_iff_iff];simp
theorem kU{i j:Bool}:decide (V.bl i=V.bl j)=(i == j):=by
 rw[Bool.eq_iff_iff];simp
theorem i8{i j:Str}:decide (V.str i=V.str j)=(i == j):=by
 rw[Bool.eq_iff_iff];simp
theorem qM{i j:Array UInt8}:decide (V.byt i=V.byt j)=(i.toList == j.toList):=by
 rw[Bool.eq_iff_iff];cases i;cases j;simp
section
variable {X:Cx}{a b c:Expr}{ta tb tc:TE}{pos:Pos}
theorem aQ{a:List (Addr×Obj)}{c:St}{H:Hp}{s:Shared}{Q:VK}{k b:Bool}(I:Inv X a c H s)(q:Q (.bl k) H)(e:k=b):EP X a c Q (.bool b) s:=by
 subst e;exact⟨.bl k,H,I,rfl,q⟩
theorem op_eq:OpR X (compareOp .Eq) rEq:=by
 intro f s g H x y v u Q I d a h;obtain⟨c,q⟩:=h;cases x with
 | non =>
  cases d;cases y with
  | non=>cases a;exact PySem.EqNone.eq_none_none (aQ I q (by simp))
  | bl j=>cases a;exact PySem.EqNone.eq_none_bool (aQ I q (by simp))
  | int j=>obtain⟨b,rfl⟩:=a;exact PySem.EqNone.eq_none_int (aQ I q (by simp))
  | str j=>obtain⟨b,rfl⟩:=a;exact PySem.EqNone.eq_none_str (aQ I q (by simp))
  | _=>exact absurd (show false=true from c) Bool.false_ne_true
 | bl i =>
  cases d;cases y with
  | non=>cases a;exact PySem.EqNone.eq_bool_none (aQ I q (by simp))
  | bl j=>cases a;exact eq_bool (aQ I q kU)
  | str j=>obtain⟨b,rfl⟩:=a;exact PySem.EqMixed.eq_bool_str (aQ I q (by simp))
  | _=>exact absurd (show false=true from c) Bool.false_ne_true
 | int i =>
  obtain⟨t,rfl⟩:=d;cases y with
  | non=>cases a;exact PySem.EqNone.eq_int_none (aQ I q (by simp))
  | int j=>obtain⟨b,rfl⟩:=a;exact eq_int (aQ I q je)
  | str j=>obtain⟨b,rfl⟩:=a;exact PySem.EqMixed.eq_int_str (aQ I q (by simp))
  | _=>exact absurd (show false=true from c) Bool.false_ne_true
 | str i =>
  obtain⟨t,rfl⟩:=d;cases y with
  | non=>cases a;exact PySem.EqNone.eq_str_none (aQ I q (by simp))
  | bl j=>cases a;exact PySem.EqMixed.eq_str_bool (aQ I q (by simp))
  | int j=>obtain⟨b,rfl⟩:=a;exact PySem.EqMixed.eq_str_int (aQ I q (by simp))
  | str j=>obtain⟨b,rfl⟩:=a;exact eq_str (aQ I q i8)
  | _=>exact absurd (show false=true from c) Bool.false_ne_true
 | byt i =>
  obtain⟨t,rfl⟩:=d;cases y with
  | byt j=>obtain⟨b,rfl⟩:=a;exact PySem.W.eq_bytes (aQ I q qM)
  | _=>exact absurd (show false=true from c) Bool.false_ne_true
 | _=>cases y <;> exact absurd (show false=true from c) Bool.false_ne_true
theorem op_ne:OpR X (compareOp .NotEq) rNe:=by
 intro f s g H x y v u Q I d a h;obtain⟨c,q⟩:=h;cases x with
 | non =>
  cases d;cases y with
  | non=>cases a;exact PySem.EqNone.ne_none_none (aQ I q (by simp))
  | bl j=>cases a;exact PySem.EqNone.ne_none_bool (aQ I q (by simp))
  | int j=>obtain⟨b,rfl⟩:=a;exact PySem.EqNone.ne_none_int (aQ I q (by simp))
  | str j=>obtain⟨b,rfl⟩:=a;exact PySem.EqNone.ne_none_str (aQ I q (by simp))
  | _=>exact absurd (show false=true from c) Bool.false_ne_true
 | bl i =>
  cases d;cases y with
  | non=>cases a;exact PySem.EqNone.ne_bool_none (aQ I q (by simp))
  | bl j=>cases a;exact ne_bool (aQ I q (congrArg not kU))
  | str j=>obtain⟨b,rfl⟩:=a;exact PySem.EqMixed.ne_bool_str (aQ I q (by simp))
  | _=>exact absurd (show false=true from c) Bool.false_ne_true
 | int i =>
  obtain⟨t,rfl⟩:=d;cases y with
  | non=>cases a;exact PySem.EqNone.ne_int_none (aQ I q (by simp))
  | int j=>obtain⟨b,rfl⟩:=a;exact ne_int (aQ I q (congrArg not je))
  | str j=>obtain⟨b,rfl⟩:=a;exact PySem.EqMixed.ne_int_str (aQ I q (by simp))
  | _=>exact absurd (show false=true from c) Bool.false_ne_true
 | str i =>
  obtain⟨t,rfl⟩:=d;cases y with
  | non=>cases a;exact PySem.EqNone.ne_str_none (aQ I q (by simp))
  | bl j=>cases a;exact PySem.EqMixed.ne_str_bool (aQ I q (by simp))
  | int j=>obtain⟨b,rfl⟩:=a;exact PySem.EqMixed.ne_str_int (aQ I q (by simp))
  | str j=>obtain⟨b,rfl⟩:=a;exact ne_str (aQ I q (congrArg not i8))
  | _=>exact absurd (show false=true from c) Bool.false_ne_true
 | byt i =>
  obtain⟨t,rfl⟩:=d;cases y with
  | byt j=>obtain⟨b,rfl⟩:=a;exact PySem.W.ne_bytes (aQ I q (congrArg not qM))
  | _=>exact absurd (show false=true from c) Bool.false_ne_true
 | _=>cases y <;> exact absurd (show false=true from c) Bool.false_ne_true
theorem op_lt:OpR X (compareOp .Lt) (rI0 λi j=>.bl (decide (i<j))):=yG λ_ _ _ _ _ _ _ q=>lt_int q
theorem op_le:OpR X (compareOp .LtE) (rI0 λi j=>.bl (decide (i<=j))):=yG λ_ _ _ _ _ _ _ q=>le_int q
theorem op_gt:OpR X (compareOp .Gt) (rI0 λi j=>.bl (decide (j<i))):=yG λ_ _ _ _ _ _ _ q=>gt_int q
theorem sj:OpR X (compareOp .Lt) (λx y H Q=>∃ i j,x=.str i/\y=.str j/\Q (.bl (decide (i.cps.toList<j.cps.toList))) H):=by
 intro a s d H x y v u Q I c b h;obtain⟨i,j,rfl,rfl,q⟩:=h;obtain⟨t,rfl⟩:=c;obtain⟨f,rfl⟩:=b;exact lt_str (aQ I q rfl)
theorem OpR.or{f:Value->Value->Sem Value}{r c:R2}(h:OpR X f r)(h':OpR X f c):OpR X f (λx y H Q=>r x y H Q\/c x y H Q):=by
 intro a s b H x y v u Q I g d q
 rcases q with q | q
 .exact h a s b H x y v u Q I g d q
 .exact h' a s b H x y v u Q I g d q
theorem bw(b:Expr){op:CmpOp}(h:op≠.In:=by decide)(d:op≠.NotIn:=by decide):behindInMarks op b=false:=by
 have c:(op == CmpOp.In)=false:=by cases op <;> first | rfl | exact absurd rfl h
 have a:(op == CmpOp.NotIn)=false:=by cases op <;> first | rfl | exact absurd rfl d
 cases b <;> simp[behindInMarks,c,a]
theorem kT{op:CmpOp}{r:R2}(p:OpR X (compareOp op) r)(i:PE X a ta)(k:PE X b tb)(d:behindInMarks op b=false):PE X (.Compare a [op] [b] pos) (tOp r ta tb):=by
 intro c s f H Q I h;exact wpAny_Compare1 (zF i k I h λv u j x y n o l g q=>p c j f n x y v u Q o l g q) d
def Ak(K:Frag)(x:V)(H:Hp)(k:Bool):Prop :=
 match x with
 | .non=>k=false
 | .bl b=>k=b
 | .int i=>k=(i != 0)
 | .str y=>y.length<=sizeLine/\k=((y.length:Int) != 0)
 | .byt y=>y.size<=sizeLine/\k=((y.size:Int) != 0)
 | .ref p=>(∃ xs,SqL K H p xs/\k = !xs.isEmpty)\/(∃ xs,SqT K H p xs/\k = !xs.isEmpty)\/∃ kvs,H p=some (.dK kvs)/\k = !kvs.isEmpty
 | _=>False
theorem pq{κ:Type}{a:List (κ×V)}{vs:List (κ×Value)}(r:KV a vs):(!vs.isEmpty) = !a.isEmpty:=by
 cases r <;> rfl
theorem jG{xs:List V}{its:List Value}(r:Vals xs its):(!its.toArray.isEmpty) = !xs.isEmpty:=by
 cases r <;> simp
theorem fu:(sizeLine:Nat)<2 ^ 63:=by rw[sizeLine_eq];decide
theorem zU:Cb X (λx H Q=>∃ k,Ak X.K x H k/\Q k H):=by
 intro u s z H x v Q I g h;obtain⟨k,e,q⟩:=h;have w:=fu;have A:sizeLine=16777216:=sizeLine_eq;cases x with
 | non =>
  cases g;have a:k=false:=e;subst a;exact truthy_none ⟨H,I,q⟩
 | bl b =>
  cases g;have a:k=b:=e;subst a;exact wpAny_truthy_bool ⟨H,I,q⟩
 | int i =>
  obtain⟨t,rfl⟩:=g;have a:k=(i != 0):=e;subst a;exact PySem.P.truthy_int ⟨H,I,q⟩
 | str y =>
  obtain⟨t,rfl⟩:=g;obtain⟨hy,a⟩:y.length<=sizeLine/\k=((y.length:Int) != 0):=e;subst a;exact PySem.P.truthy_str (by lia) ⟨H,I.tok _,q⟩
 | byt y =>
  obtain⟨t,rfl⟩:=g;obtain⟨hy,a⟩:y.size<=sizeLine/\k=((y.size:Int) != 0):=e;subst a;exact PySem.W.truthy_bytes (by lia) ⟨H,I.tok _,q⟩
 | ref p =>
  cases g;have a:(∃ f,SqL X.K H p f/\k = !f.isEmpty)\/(∃ f,SqT X.K H p f/\k = !f.isEmpty)\/∃ c,H p=some (.dK c)/\k = !c.isEmpty:=e
  rcases a with⟨f,j,a⟩ | ⟨f,j,a⟩ | ⟨c,j,a⟩
  .subst a
   obtain⟨n,r,l,o⟩:=I.list j;have d:=r.length;exact wpAny_truthy_list l.isList (by simp only[size_toArray];lia) ⟨H,I.tok _,by rw[jG r];exact q⟩
  .subst a
   obtain⟨n,r,l,o⟩:=I.tuple j;have d:=r.length;exact truthy_tuple l (by simp only[size_toArray];lia) ⟨H,I.tok _,by rw[jG r];exact q⟩
  .subst a
   obtain⟨o,hS,vs,r,m⟩:c.length<=sizeLine/\(p == sysModules)=false/\∃ vs,KV c vs/\s.heap.DictOf (bp X.prog X.w) p vs:=I.hok p _ j;have d:c.length=vs.length:=Paired.length r;exact wpAny_truthy_dict hS m (by lia) ⟨H,I.tok _,by rw[pq r];exact q⟩
 | _=>exact(show False from e).elim
theorem jI(f:PE X a ta)(l:∀ whole,isTrue a X.env whole=(do let v <- whole;standAt a.pos;holding [v] (truthy v))) :
  PT X a (λσ H Q=>ta σ H λx H'=>∃ k,Ak X.K x H' k/\Q k H'):=by
 intro b s σ H Q I h;exact isTrue_plain (thn (f b s σ H _ I h) λv i ⟨x,d,j,c,g⟩=>zU b i σ d x v Q j c g) (l _)
theorem o6:OpR X (binaryOp .Add) (λx y H Q=>∃ i j,x=.str i/\y=.str j/\i.length+j.length<=sizeLine/\Q (.str (i++j)) H):=by
 intro a s k H x y v u Q I c b h;obtain⟨i,j,rfl,rfl,d,q⟩:=h;obtain⟨t,rfl⟩:=c;obtain⟨f,rfl⟩:=b;exact add_str (λf g=>⟨.str (i++j),H,I.tok _,⟨_,rfl⟩,q⟩) d
theorem eC{x:V}{us:List Value}(r:Vals [x] us):∃ u,us=[u]/\RelV x u:=by
 cases r with
 | cons r1 r2=>cases r2;exact⟨_,rfl,r1⟩
theorem vW{x y:V}{us:List Value}(r:Vals [x,y] us):∃ u w',us=[u,w']/\RelV x u/\RelV y w':=by
 cases r with
 | cons r1 r2 =>
  cases r2 with
  | cons r3 r4=>cases r4;exact⟨_,_,rfl,r1,r3⟩
theorem uh:CallR X (.builtin "abs") (λxs H Q=>∃ i,xs=[.int i]/\Q (.int (if i<0 then -i else i)) H):=by
 intro a s d H xs c Q I r h;obtain⟨i,rfl,q⟩:=h;obtain⟨u,rfl,t,rfl⟩:=eC r
 exact call_abs_int λu b=>⟨.int (if i<0 then -i else i),H,I.tok _,⟨_,rfl⟩,q⟩
inductive rTwo(f:Int->Int->Int)(xs:List V)(H:Hp)(Q:VK):Prop
 | mk(i j:Int)(h0:xs=[.int i,.int j])(h1:Q (.int (f i j)) H):rTwo f xs H Q
theorem kn(b:X.calm=true):CallR X (.builtin "max") (rTwo λi j=>if j > i then j else i):=by
 intro a s f H g o Q I r h;obtain⟨i,j,rfl,q⟩:=h;obtain⟨u,d,rfl,⟨t,rfl⟩,⟨n,rfl⟩⟩:=vW r
 refine max_two_ints (I.ok.hd b) λl c k=>⟨_,H,I.kept k,?_,q⟩
 by_cases hj:j > i
 .rw[if_pos hj,if_pos hj];exact⟨_,rfl⟩
 .rw[if_neg hj,if_neg hj];exact⟨_,rfl⟩
theorem kD(b:X.calm=true):CallR X (.builtin "min") (rTwo λi j=>if j<i then j else i):=by
 intro a s f H g o Q I r h;obtain⟨i,j,rfl,q⟩:=h;obtain⟨u,d,rfl,⟨t,rfl⟩,⟨n,rfl⟩⟩:=vW r
 refine min_two_ints (I.ok.hd b) λl c k=>⟨_,H,I.kept k,?_,q⟩
 by_cases hj:j<i
 .rw[if_pos hj,if_pos hj];exact⟨_,rfl⟩
 .rw[if_neg hj,if_neg hj];exact⟨_,rfl⟩
end
structure ObjM(h:Heap)(x dx C:Addr)(mA:Str->Option Value):Prop where
 obj:h.get? x=some (instObj C dx)
 ns:h.Ns1 dx mA
 ne:dx≠x
theorem rV{h:Heap}{dx:Addr}{d:Str->Option Value}(n:h.Ns1 dx d):∃ od,h.get? dx=some od/\∀ name,lookIn name od=some (d name):=by
 obtain⟨o,c,p,k,i,l,_,f⟩:=n;refine⟨o,k,λname=>?_⟩;have e:=f name;unfold nsFind findBy at e;rw[<- Array.find?_toList]at e;unfold lookIn;rw[i];dsimp only
 split
 .rename_i y q
  rw[q]at e;exact congrArg some e
 .rename_i q
  rw[q]at e
  have a:c.toList.any (·.refKey)=false:=by
   rw[List.any_eq_false];intro y g;obtain⟨z,t,b⟩:=l y (Array.mem_toList_iff.mp g);simp[DictEntry.refKey,b]
  have j:¬c.toList.any (·.refKey)=true:=by rw[a];exact Bool.false_ne_true
  rw[if_neg j];exact congrArg some e
theorem ObjM.look{h:Heap}{x dx C:Addr}{a:Str->Option Value}(I:ObjM h x dx C a):∃ od,InstAt h x (instObj C dx) C (some od)/\∀ name,lookIn name od=some (a name) :=
 let ⟨od,ho,hl⟩:=rV I.ns
 ⟨od,⟨I.obj,rfl,rfl,ho⟩,hl⟩
section
variable {prog:Program}{w:World}{A:Around}{E:Value->Shared->Prop}{s:Shared}{K:Frag}{x dx C f:Addr}{mA:Str->Option Value}{name:Str}{v:Value}
theorem xN{a:Bool}{Q:Value->Shared->Prop}(X:K.In s.heap)(I:ObjM s.heap x dx C mA)(d:plainGet K C name=true)(i:hasDictIn K C=true)
  (f:findIn K (.ref C) name=some none) (g:mA name=some v) (b:handedIn v=true) (h:Q v { s with toks:=s.toks+1 }) :
  wpAny (model prog w) A (getAttr (.ref x) name a) Q E s:=by
 obtain⟨j,J,c⟩:=I.look;exact PySem.W.get_value X J (plainGet_of d).1 (PySem.W.findObj_own i f rfl (by rw[c,g])) b h
theorem tX{pl:Sem Bool}{Q:Value×List Value->Shared->Prop}(X:K.In s.heap)(I:ObjM s.heap x dx C mA)(a:plainGet K C name=true)
  (d:findIn K (.ref C) name=some (some (.ref f))) (c:isFn K (.ref f)=true) (g:mA name=none) (h:Q (.ref f,[.ref x]) s) :
  wpAny (model prog w) A (getMethod (.ref x) name pl) Q E s:=by
 obtain⟨i,J,b⟩:=I.look;exact PySem.W.method_fn X J (plainGet_of a).1 (plainGet_of a).2 d (beq_iff_eq.mp c) (by show(lookIn name i).map (·.isSome)=some false;rw[b,g];rfl) h
theorem wU{k:List Str}{Q:Unit->Shared->Prop}(X:K.In s.heap)(I:ObjM s.heap x dx C mA)
  (p:findIn K (.ref C) "__setattr__" = some (some (.builtin "object.__setattr__"))) (B:plainOver K C=true) (q:takerIn K C name=some none) (D:hasDictIn K C=true)
  (n:PySem.Within mA k) (hsz:k.length<=sizeLine)
  (h:∀ h',ObjM h' x dx C (λy=>if y=name then some v else mA y)->Heap.SameBut dx s.heap h'->Q () { s with heap:=h',toks:=s.toks+2 }) :
  wpAny (model prog w) A (setAttr (.ref x) name v) Q E s:=by
 obtain⟨G,J,F⟩:=I.look;refine PySem.W.set_plain X J p (PySem.W.osa_open (s:={ s with toks:=s.toks+1 }) (r:=none) X J B q λb=>?_);obtain⟨L,o,i⟩:=any_some D;have u:s.heap.get? x=some ⟨.ref C,some dx,.plain,#[]⟩:=I.obj;refine wpAny_bind (wpAny_pure (wpAny_bind (wpAny_bind (wpAny_loadPart u (wpAny_bind (PySem.W.Looks.here (s:={ s with toks:=s.toks+1 }) (looks_clsIn X o) ?_))))));rw[i];refine wpAny_pure (a:=some dx) (wpAny_bind (wpAny_pure (wpAny_bind ?_)));refine wpAny_nsSet1 (s:={ s with toks:=s.toks+1 }) I.ns λh' d c=>?_
 obtain⟨H,l,z,f,g,j⟩:=d.count (PySem.Within.cons name v n);refine wpAny_bind (wpAny_lookBehind f (by rw[g];exact pastItsLine_dict (Nat.le_trans j (by rw[length_cons];lia))) ?_);exact wpAny_pure (h _ ⟨(c.2 _ (Ne.symm I.ne)).trans I.obj,d,I.ne⟩ c)
theorem vg{R:Result->Shared->Prop}{vs:List Value}{b:List (Str×Value)}(X:K.In s.heap)(i:makesIn K C=true)
  (c:findIn K (.ref C) "__init__" = some (some (.ref f))) (j:typeIn K (.ref f)=some (.type "function"))
  (h:codeAny (model prog w) (A.under (.builtin "type.__call__" ⟨.ref C::vs,b⟩)) (.call (.ref f) ⟨.ref (s.heap.objs.size+1)::vs,b⟩) (PySem.W.InitBack (s.heap.objs.size+1) R)
   { s with heap:=(s.heap.push emptyDict).push (instObj C s.heap.objs.size) }) :
  codeAny (model prog w) A (.call (.ref C) ⟨vs,b⟩) R s:=by
 obtain⟨l,g,d,t,k⟩:=s;exact PySem.W.make_core (PySem.W.makes_of X i) (looks_findIn X c) (λa=>PySem.W.bind_fn X a j) (.inl rfl) h
end
def fX(f:Str)(v:V):List (Str×V)->List (Str×V)
 | []=>[(f,v)]
 | (g,x)::r=>if g=f then (g,v)::r else (g,x)::fX f v r
theorem iN(f g:Str)(v:V):∀ fs:List (Str×V),(fX f v fs).lookup g=if g=f then some v else fs.lookup g
 | []=>by
  show List.lookup g [(f,v)]=_
  by_cases h:g=f
  .have a:(g == f)=true:=beq_iff_eq.mpr h
   simp only[List.lookup,a,if_pos h]
  .have a:(g == f)=false:=beq_eq_false_iff_ne.mpr h
   simp only[List.lookup,a,if_neg h]
 | (k,x)::r=>by
  have b:=iN f g v r;rw[show fX f v ((k,x)::r)=(if k=f then (k,v)::r else (k,x)::fX f v r) from rfl]
  by_cases hk:k=f
  .rw[if_pos hk]
   by_cases h:g=k
   .have a:(g == k)=true:=beq_iff_eq.mpr h
    simp only[List.lookup,a,if_pos (h.trans hk)]
   .have a:(g == k)=false:=beq_eq_false_iff_ne.mpr h
    simp only[List.lookup,a,if_neg (λe:g=f=>h (e.trans hk.symm))]
  .rw[if_neg hk]
   by_cases h:g=k
   .have a:(g == k)=true:=beq_iff_eq.mpr h
    simp only[List.lookup,a,if_neg (λe:g=f=>hk (h.symm.trans e))]
   .have a:(g == k)=false:=beq_eq_false_iff_ne.mpr h
    simp only[List.lookup,a];exact b
theorem io(f:Str)(v:V):∀ fs:List (Str×V),f∈(fX f v fs).map (·.1)/\∀ g,g∈fs.map (·.1)->g∈(fX f v fs).map (·.1)
 | []=>⟨by simp[fX],λg h=>by simp at h⟩
 | (k,x)::r=>by
  obtain⟨b,a⟩:=io f v r;rw[show fX f v ((k,x)::r)=(if k=f then (k,v)::r else (k,x)::fX f v r) from rfl]
  by_cases hk:k=f
  .rw[if_pos hk]
   subst hk;exact⟨by simp,λg h=>by simpa using h⟩
  .rw[if_neg hk]
   refine⟨?_,λg h=>?_⟩
   .rw[map_cons]
    exact mem_cons_of_mem _ b
   .rw[map_cons]at h ⊢
    rcases mem_cons.mp h with e | e
    .exact mem_cons.mpr (.inl e)
    .exact mem_cons_of_mem _ (a g e)
theorem iL(f:Str)(v:V):∀ fs:List (Str×V),(fX f v fs).length<=fs.length+1
 | []=>by simp[fX]
 | (k,x)::r=>by
  have a:=iL f v r;rw[show fX f v ((k,x)::r)=(if k=f then (k,v)::r else (k,x)::fX f v r) from rfl]
  by_cases hk:k=f
  .rw[if_pos hk,length_cons,length_cons];lia
  .rw[if_neg hk,length_cons,length_cons];lia
theorem RelO.some_of{v:V}{o:Option Value}(r:RelO (some v) o):∃ u,o=some u/\RelV v u:=by
 cases o with
 | none=>exact(show False from r).elim
 | some u=>exact⟨u,rfl,r⟩
theorem RelO.none_of{o:Option Value}(r:RelO none o):o=none:=by
 cases o with
 | none=>rfl
 | some u=>exact(show False from r).elim
theorem rE{v:V}{u:Value}(r:RelV v u):handedIn u=true:=by
 cases v with
 | non=>cases(show u=Value.none from r);rfl
 | bl b=>cases(show u=Value.bool b from r);rfl
 | int i=>obtain⟨t,e⟩:=(show ∃ t,u=Value.int i t from r);cases e;rfl
 | str x=>obtain⟨t,e⟩:=(show ∃ t,u=Value.str x t from r);cases e;rfl
 | byt b=>obtain⟨t,e⟩:=(show ∃ t,u=Value.bytes b t from r);cases e;rfl
 | flt b=>obtain⟨t,e⟩:=(show ∃ t,u=Value.float b t from r);cases e;rfl
 | ref a=>cases(show u=Value.ref a from r);rfl
 | ty n=>cases(show u=Value.type n from r);rfl
section
variable {P:Program}{w:World}{H H':Hp}{h h':Heap}{a C dx:Addr}{fs fs':List (Str×V)}
theorem jj(b:HOk P w H h)(e:H a=some (.ins C dx fs)):∃ mA,ObjM h a dx C mA/\(∀ f,RelO (fs.lookup f) (mA f))/\PySem.Within mA (fs.map (·.1))/\fs.length<=1000/\H dx=some (.own a):=by
 obtain⟨d,z,c,g,mA,n,r,q⟩:=(show ObjOk P w H h a (.ins C dx fs) from b a _ e)
 exact⟨mA,⟨g,n,c⟩,r,q,z,d⟩
end
structure Cls(K:Frag)(C:Addr):Prop where
 pg:plainGet K C Str.empty=true
 hd:hasDictIn K C=true
 po:plainOver K C=true
 sa:findIn K (.ref C) "__setattr__" = some (some (.builtin "object.__setattr__"))
theorem Cls.get{K:Frag}{C:Addr}(c:Cls K C)(f:Str):plainGet K C f=true:=c.pg
def NoAttr(K:Frag)(C:Addr)(f:Str):Prop:=findIn K (.ref C) f=some none
theorem NoAttr.taker{K:Frag}{C:Addr}{f:Str}(n:NoAttr K C f):takerIn K C f=some none:=by
 unfold takerIn;rw[show findIn K (.ref C) f=some none from n];rfl
structure Meth(K:Frag)(C:Addr)(m:Str)(f:Addr):Prop where
 at_:findIn K (.ref C) m=some (some (.ref f))
 fn:isFn K (.ref f)=true
 kp:keepIn K (.ref f)=true
section
variable {X:Cx}{pins:List (Addr×Obj)}{σ:St}{H:Hp}{s:Shared}{a C dx:Addr}{fs:List (Str×V)}{f:Str}{v:V}{A:Around}{E:Value->Shared->Prop}
theorem oW{b:Bool}{Q:Value->Shared->Prop}(I:Inv X pins σ H s)(e:H a=some (.ins C dx fs))(c:Cls X.K C)(n:NoAttr X.K C f)(l:fs.lookup f=some v)
  (h:∀ u s',Inv X pins σ H s'->RelV v u->Q u s'):wpAny (model X.prog X.w) A (getAttr (.ref a) f b) Q E s:=by
 obtain⟨g,O,r,_,_,_⟩:=jj I.hok e;obtain⟨u,i,d⟩:=RelO.some_of (v:=v) (o:=g f) (by rw[<- l];exact r f);exact xN I.kIn O (c.get f) c.hd n i (rE d) (h u _ (I.tok _) d)
theorem jD{m:Str}{g:Addr}{pl:Sem Bool}{Q:Value×List Value->Shared->Prop}(I:Inv X pins σ H s)(e:H a=some (.ins C dx fs))(c:Cls X.K C)(k:Meth X.K C m g)(l:fs.lookup m=none)
  (h:Q (.ref g,[.ref a]) s):wpAny (model X.prog X.w) A (getMethod (.ref a) m pl) Q E s:=by
 obtain⟨b,O,r,_,_,_⟩:=jj I.hok e;have d:b m=none:=RelO.none_of (by rw[<- l];exact r m);exact tX I.kIn O (c.get m) k.at_ k.fn d h
theorem pR{y:V}{u:Value}{Q:Unit->Shared->Prop}(I:Inv X pins σ H s)(e:H a=some (.ins C dx fs))(c:Cls X.K C)(n:NoAttr X.K C f)(D:fs.length<1000)(l:RelV y u)
  (h:∀ s',Inv X pins σ (upd H a (.ins C dx (fX f y fs))) s'->Q () s'):wpAny (model X.prog X.w) A (setAttr (.ref a) f u) Q E s:=by
 obtain⟨j,O,r,i,_,k⟩:=jj I.hok e;have w:(fs.map (·.1)).length<=sizeLine:=by rw[length_map,sizeLine_eq];lia
 refine wU I.kIn O c.sa c.po n.taker c.hd i w λv d B=>h _ ?_
 have p:∃ o,v.get? dx=some o:=let ⟨o,_,_,e',_⟩:=d.ns;⟨o,e'⟩;refine I.write (x:=a) (e:=dx) (by rw[e];exact True.intro) (.inr k) (λb q hb z=>(B.2 b hb).trans z) p ?_;refine⟨by rw[ai O.ne];exact k,?_,O.ne,d.obj,_,d.ns,λg=>?_,λg hg=>?_⟩
 .have:=iL f y fs;lia
 .show RelO ((fX f y fs).lookup g) (if g=f then some u else j g)
  rw[iN]
  by_cases q:g=f
  .rw[if_pos q,if_pos q];exact l
  .rw[if_neg q,if_neg q];exact r g
 .by_cases q:g=f
  .rw[q];exact(io f y fs).1
  .refine(io f y fs).2 g (i g λz=>hg ?_)
   show(if g=f then some u else j g)=none;rw[if_neg q];exact z
theorem Inv.made(I:Inv X pins σ H s):Inv X pins σ (upd (upd H s.heap.objs.size (.own (s.heap.objs.size+1))) (s.heap.objs.size+1) (.ins C s.heap.objs.size []))
  { s with heap:=(s.heap.push emptyDict).push (instObj C s.heap.objs.size) }:=by
 have d:(s.heap.push emptyDict).get? s.heap.objs.size=some emptyDict:=Heap.get?_push_size s.heap rfl
 have f:((s.heap.push emptyDict).push (instObj C s.heap.objs.size)).get? (s.heap.objs.size+1)=some (instObj C s.heap.objs.size):=by
  have:=Heap.get?_push_size (s.heap.push emptyDict) (o:=instObj C s.heap.objs.size) rfl;rwa [Heap.size_push]at this
 have g:(s.heap.push emptyDict).Ns s.heap.objs.size (λ_=>none):=⟨emptyDict,#[],_,d,rfl,(λe he=>absurd he (by simp)),λ_=>rfl⟩
 have h:=I.laid (a:=s.heap.objs.size) (o:=.own (s.heap.objs.size+1)) (h':=s.heap.push emptyDict) (t':=s.toks) (λb u q=>Heap.get?_push_of_some _ q) (Nat.le_refl _) ⟨_,d⟩;refine h.laid (a:=s.heap.objs.size+1) (o:=.ins C s.heap.objs.size []) (t':=s.toks) (λb u q=>Heap.get?_push_of_some _ q) (Nat.le_of_eq (Heap.size_push _ _)) ?_;have c:s.heap.objs.size≠s.heap.objs.size+1:=Nat.ne_of_lt (Nat.lt_succ_self _);refine⟨by rw[ai c,ad],Nat.zero_le _,c,f,λ_=>none,(Heap.Ns1.of_empty g).at λo q=>Heap.get?_push_of_some _ q,λ_=>True.intro,λy hy=>absurd rfl hy⟩
theorem xh{prog:Program}{w:World}{env:Env}{e:Expr}{f:Str}{a:Pos}{s:Shared}{Q:Value->Shared->Prop}(b:attributeBase e f env (eval e env)=eval e env)
  (h:wpAny (model prog w) A (eval e env) (λo s₁=>wpAny (model prog w) A (getAttr o f true) Q E s₁) E s):wpAny (model prog w) A (eval (.Attribute e f a) env) Q E s :=
 Attribute_any_ h (by rw[arm_eval_Attribute,b])
end
def Bc(K:Frag)(ta:TE)(f:Str):TE:=λσ H Q=>ta σ H λx H1=>∃ a C dx fs v,x=.ref a/\H1 a=some (.ins C dx fs)/\Cls K C/\NoAttr K C f/\fs.lookup f=some v/\Q v H1
def BW(K:Frag)(ta tv:TE)(f:Str):TS:=λD σ H=>tv σ H λy H1=>ta σ H1 λx H2=>∃ a C dx fs,x=.ref a/\H2 a=some (.ins C dx fs)/\Cls K C/\NoAttr K C f/\fs.length<1000 /\
 D.nx σ (upd H2 a (.ins C dx (fX f y fs)))
section
variable {X:Cx}{o e value:Expr}{f:Str}{pos pos' tpos:Pos}{ta tv:TE}
theorem ci(y:PE X e ta)(o:attributeBase e f X.env (eval e X.env)=eval e X.env):PE X (.Attribute e f pos) (Bc X.K ta f):=by
 intro b s d H Q I h;refine xh o (thn (y b s d H _ I h) λu A ⟨x,i,p,r,a,C,D,B,v,j,w,c,n,l,q⟩=>?_);subst j;obtain rfl:u=Value.ref a:=r
 exact oW p w c n l λE z g k=>⟨v,i,g,k,q⟩
theorem ly(j:PE X o ta)(v:PE X value tv)(w:swapsWith value (some (.Attribute o f pos')) pos.line X.env=pure false):PS X (.Assign [.Attribute o f pos'] value pos) (BW X.K ta tv f):=by
 intro b s d H D I h;refine plainObj_wpAny_Assign_Attribute (thn (v b s d H _ I h) λu k ⟨y,g,p,i,q⟩=>thn (j b k d g _ p q) λov s2 ⟨x,H2,I2,rx,a,C,dx,fs,ex,ea,c,n,l,q2⟩=>?_) w;subst ex;obtain rfl:ov=Value.ref a:=rx
 exact pR I2 ea c n l i λz r=>⟨d,_,r,q2⟩
end
section
variable {X:Cx}{pins:List (Addr×Obj)}{σ:St}{H:Hp}{s:Shared}{A:Around}{E:Value->Shared->Prop}{Q:Value->Shared->Prop}{c:Value}{b:Bool}
inductive TyOf(K:Frag)(H:Hp):V->Value->Prop where
 | non:TyOf K H .non (.type "NoneType")
 | bl (x:Bool):TyOf K H (.bl x) (.type "bool")
 | int (i:Int):TyOf K H (.int i) (.type "int")
 | str (x:Str):TyOf K H (.str x) (.type "str")
 | flt (x:UInt64):TyOf K H (.flt x) (.type "float")
 | lst {a:Addr}{xs:List V}(e:H a=some (.lst xs)):TyOf K H (.ref a) (.type "list")
 | frz {a:Addr}{o:Obj}{xs:List V}(e:H a=some (.frz o (.lst xs))):TyOf K H (.ref a) (.type "list")
 | tup {a:Addr}{xs:List V}(e:H a=some (.tup xs)):TyOf K H (.ref a) (.type "tuple")
 | dK {a:Addr}{kvs:List (Key×V)}(e:H a=some (.dK kvs)):TyOf K H (.ref a) (.type "dict")
 | dT {a:Addr}{kvs:List (List Key×V)}(e:H a=some (.dT kvs)):TyOf K H (.ref a) (.type "dict")
 | ins {a C dx:Addr}{fs:List (Str×V)}(e:H a=some (.ins C dx fs)) (cl:Cls K C) (ha:findIn K (.ref C) "__class__" = some (some (.builtin "object.__class__")))
   (hn:specialIn K (.builtin "object.__class__") "__get__" = some (some (.builtin "getset_descriptor.__get__"))) (htk:takesIn K (.builtin "object.__class__")=some true)
   (hm:mroIn K C (.type "object")=some true):TyOf K H (.ref a) (.ref C)
end
structure Room(k:Nat)(A:Around):Prop where
 hd:A.handled=none
 dp:A.depth+3*k+5<recursionLimit
 un:A.units+16*k+200<cLine
theorem Room.mono{j k:Nat}{A:Around}(r:Room k A)(h:j<=k):Room j A:=⟨r.hd,by have:=r.dp;lia,by have:=r.un;lia⟩
theorem Room.deeper{k:Nat}{A:Around}(r:Room (k+1) A)(env:Env):Room k (A.deeper env) :=
 ⟨r.hd,by have:=r.dp;show A.depth+1+3*k+5<_;lia,by have:=r.un;show A.units+3+16*k+200<_;lia⟩
theorem oU{A:Around}{C:Addr}{us:List Value}{a:List (Str×Value)}:(A.under (.builtin "type.__call__" ⟨.ref C::us,a⟩)).depth=A.depth+1:=by
 first | rfl | simp[Around.under,Code.weight,Code.isCreation,Code.isGuard,Code.isCaller,Code.frames,Code.isFrame,guardIds]
theorem oF{A:Around}{C:Addr}{us:List Value}{a:List (Str×Value)}:(A.under (.builtin "type.__call__" ⟨.ref C::us,a⟩)).units=A.units+1:=by
 first | rfl | simp[Around.under,Code.cUnits,Code.frames,Code.isFrame]
theorem Room.make{k:Nat}{A:Around}(r:Room (k+1) A)(C:Addr)(us:List Value)(a:List (Str×Value)):Room k (A.under (.builtin "type.__call__" ⟨.ref C::us,a⟩)) :=
 ⟨r.hd,by have:=r.dp;rw[oU];lia,by have:=r.un;rw[oF];lia⟩
theorem Room.depth{k:Nat}{A:Around}(r:Room k A):A.depth<recursionLimit:=by have:=r.dp;lia
theorem Room.units{k:Nat}{A:Around}(r:Room k A):A.units+64<cLine:=by have:=r.un;lia
def vy:TA:=λ_ H Q=>Q [] H
def vi(ta:TE)(tr:TA):TA:=λσ H Q=>ta σ H λx H1=>tr σ H1 λxs H2=>Q (x::xs) H2
section
variable {X:Cx}{e:Expr}{es:List Expr}{te:TE}{t:TA}{pos:Pos}
theorem ae:PA X [] vy:=λ_ _ _ _ H Q I h=>Calls.spliced_nil ⟨[],H,I,.nil,h⟩
theorem aa(k:PE X e te)(n:PA X es t)(r:starEach (e::es) X.env=(false,eval e X.env)::starEach es X.env:=by rfl):PA X (e::es) (vi te t):=by
 intro b a s c H Q I h;rw[r];show wpAny _ _ (spliced ((false,eval e X.env)::backTo b (starEach es X.env))) _ _ s;refine Calls.spliced_cons (thn (k a s c H _ I h) λu p ⟨x,i,o,f,l⟩=>?_)
 exact thn (n b a p c i _ o l) λy w ⟨d,q,g,v,j⟩=>⟨x::d,q,g,.cons f v,j⟩
def BT(t:TA):TE:=λσ H Q=>t σ H λxs H1=>xs.length<=sizeLine/\∀ p,H1 p=none->Q (.ref p) (upd H1 p (.tup xs))
def AJ(t:TA):TE:=λσ H Q=>t σ H λxs H1=>xs.length<=sizeLine/\∀ p,H1 p=none->Q (.ref p) (upd H1 p (.lst xs))
theorem bI{x1}(h:PA X es t):PE X (.Tuple es x1 pos) (BT t):=by
 intro a s g H Q I j;refine wpAny_Tuple_spliced (thn (h pos a s g H _ I j) λl c ⟨i,d,f,r,z,q⟩=>⟨by rw[<- r.length];exact z,?_⟩);have k:d c.heap.objs.size=none:=f.hok.fresh (Nat.le_refl _);refine⟨.ref c.heap.objs.size,upd d c.heap.objs.size (.tup i),f.laid (t':=c.toks) (λb u e=>Heap.get?_push_of_some _ e) (Nat.le_refl _) ?_,rfl,q _ k⟩;exact⟨z,l,r,⟨_,Heap.get?_push_size _ rfl,rfl,_,rfl⟩⟩
theorem cq(h:PA X es t):PE X (.List es pos) (AJ t):=by
 intro a s g H Q I j;refine wpAny_List_spliced (thn (h pos a s g H _ I j) λl c ⟨i,d,f,r,z,q⟩=>⟨by rw[<- r.length];exact z,?_⟩);have k:d c.heap.objs.size=none:=f.hok.fresh (Nat.le_refl _);refine⟨.ref c.heap.objs.size,upd d c.heap.objs.size (.lst i),f.laid (t':=c.toks) (λb u e=>Heap.get?_push_of_some _ e) (Nat.le_refl _) ?_,rfl,q _ k⟩;exact⟨z,l,0,r,Heap.get?_push_size _ rfl⟩
end
abbrev Sp:=List V->Hp->VK->XK->Prop
abbrev CXT:=List Env->Hp->Shared->XK->Value->Shared->Prop
structure Env0(P:Program)(w:World)(K:Frag)(mg:Str->Option Value)(base:Heap)(A:Around)(outer:List Env)(s:Shared)(H:Hp):Prop where
 frames:A.frames=some outer
 mod:Mod K mg base
 bs:∀ b o,base.get? b=some o->s.heap.get? b=some o/\H b=none
 bsz:base.objs.size<=s.heap.objs.size
 funs:s.heap.FunFrames base outer
 frf:∀ b∈frs outer,H b=none
 hok:HOk P w H s.heap
 bare:AllBare s.gens
def CE(outer:List Env)(P:Program)(w:World)(H:Hp)(s:Shared)(Q:VK)(u:Value)(s':Shared):Prop :=
 ∃ v H',s'.os=s.os/\AllBare s'.gens/\Un (frs outer) [] H H' s.heap s'.heap/\HOk P w H' s'.heap/\RelV v u/\Q v H'
def CR(CX:CXT)(outer:List Env)(P:Program)(w:World)(H:Hp)(s:Shared)(Q:VK)(E:XK)(r:Result)(s':Shared):Prop :=
 match r with
 | .ok (.ret u)=>CE outer P w H s Q u s'
 | .ok _=>False
 | .error e=>CX outer H s E e s'
structure FnOk(P:Program)(w:World)(K:Frag)(mg:Str->Option Value)(base:Heap)(CX:CXT)(k:Nat)(f:Addr)(fd:FuncData)(ps:List Str)(sp:Sp):Prop where
 len:∀ vs H Q E,sp vs H Q E->vs.length=ps.length
 run:∀(A:Around) (outer:List Env) (s:Shared) (H:Hp) (args:Args) (us:List Value) (vs:List V) (Q:VK) (E:XK),Room k A->Env0 P w K mg base A outer s H->BindsTo s fd args (ps.zip us)->Vals vs us->sp vs H Q E ->
  codeAny (model P w) A (.call (.ref f) args) (CR CX outer P w H s Q E) s
theorem FnOk.mono{P:Program}{w:World}{K:Frag}{mg:Str->Option Value}{a:Heap}{CX:CXT}{j k:Nat}{f:Addr}{d:FuncData}{ps:List Str}{sp:Sp}(F:FnOk P w K mg a CX j f d ps sp)(h:j<=k) :
  FnOk P w K mg a CX k f d ps sp:=⟨F.len,λA b s H c l g Q E i=>F.run A b s H c l g Q E (i.mono h)⟩
theorem Env0.make{P:Program}{w:World}{K:Frag}{mg:Str->Option Value}{b:Heap}{A:Around}{a:List Env}{s:Shared}{H:Hp}(e:Env0 P w K mg b A a s H)(C:Addr)(us:List Value)(c:List (Str×Value)) :
  Env0 P w K mg b (A.under (.builtin "type.__call__" ⟨.ref C::us,c⟩)) a s H:=⟨by first | exact e.frames | (simpa[Around.under,Code.envs,Code.isFrame,pushEnvs] using e.frames),e.mod,e.bs,e.bsz,e.funs,e.frf,e.hok,e.bare⟩
section
variable {X:Cx}{pins:List (Addr×Obj)}{σ:St}{H:Hp}{s s':Shared}
theorem Inv.env0(I:Inv X pins σ H s):Env0 X.prog X.w X.K X.mg X.base X.A X.stack s H :=
 ⟨I.ok.frames,I.ok.mod,I.bs,Nat.le_trans I.ok.bsz I.sz,I.stack,I.stkFree,I.hok,I.bare⟩
theorem Inv.after{Q:VK}{u:Value}(I:Inv X pins σ H s)(h:CE X.stack X.prog X.w H s Q u s'):EP X pins σ Q u s':=by
 obtain⟨v,i,k,a,j,c,r,q⟩:=h;obtain⟨l,g,d,t,f⟩:=s';obtain rfl:f=s.os:=k;exact⟨v,i,I.call (h':=l) (g':=g) (d':=d) (t':=t) (ch:=[]) j c a (λb z=>absurd z (by simp)),r,q⟩
end
def Bv(sp:Sp)(dvs:List V)(E:XK)(t:TA):TE:=λσ H Q=>t σ H λvs H1=>sp (vs++dvs) H1 Q E
def xZ(C:Addr)(m:Str)(sp:Sp)(dvs:List V)(E:XK)(ta:TE)(t:TA):TE:=λσ H Q=>ta σ H λx H1=>∃ a dx fs,x=.ref a/\H1 a=some (.ins C dx fs)/\fs.lookup m=none /\
 t σ H1 λvs H2=>sp (x::(vs++dvs)) H2 Q E
def At(C:Addr)(sp:Sp)(dvs:List V)(E:XK)(t:TA):TE:=λσ H Q=>t σ H λvs H1=>∀ x dx,H1 x=none->H1 dx=none->dx≠x ->
 sp (.ref x::(vs++dvs)) (upd (upd H1 dx (.own x)) x (.ins C dx [])) (λv H2=>v=.non/\Q (.ref x) H2) E
def Binds(K:Frag)(fd:FuncData)(ps:List Str)(ds:List Value):Prop :=
 ∀(s:Shared) (us:List Value),K.In s.heap->(us++ds).length=ps.length->BindsTo s fd ⟨us,[]⟩ (ps.zip (us++ds))
theorem Binds.all{K:Frag}{b:FuncData}{ps:List Str}(h:∀ us:List Value,us.length=ps.length->bindArgs b ⟨us,[]⟩=pure (ps.zip us)):Binds K b ps []:=λs us _ a=>by
 rw[append_nil]at a ⊢;exact .of_eq (h us a)
def fj(CX:CXT)(X:Cx)(E:XK):Prop:=∀(pins:List (Addr×Obj)) (σ:St) (H:Hp) (s:Shared) (e:Value) (s':Shared),Inv X pins σ H s->CX X.stack H s E e s'->X.xe e s'
section
variable {X:Cx}{CX:CXT}{k:Nat}{f C:Addr}{fd:FuncData}{ps:List Str}{sp:Sp}{dvs:List V}{ds:List Value}{E:XK}{x m:Str}{p pos apos:Pos}{e o:Expr}{es:List Expr}{ta:TE}{t:TA}
theorem o4{a:List (Addr×Obj)}{c:St}{H:Hp}{s:Shared}{Q:VK}{us:List Value}{vs:List V}(F:FnOk X.prog X.w X.K X.mg X.base CX k f fd ps sp)(j:Room k X.A)(i:Binds X.K fd ps ds)(l:Vals dvs ds)(n:fj CX X E)
  (I:Inv X a c H s) (r:Vals vs us) (h:sp (vs++dvs) H Q E):wpAny (model X.prog X.w) X.A (call (.ref f) us) (EP X a c Q) X.xe s:=by
 have d:Vals (vs++dvs) (us++ds):=r.append l;have g:(us++ds).length=ps.length:=by rw[<- d.length];exact F.len _ _ _ _ h
 refine wpAny_call (codeAny_mono (F.run X.A X.stack s H ⟨us,[]⟩ (us++ds) (vs++dvs) Q E j I.env0 (i s us I.kIn g) d h) λr o b=>?_);cases r with
 | error e=>exact n a c H s e o I b
 | ok fl =>
  cases fl with
  | ret u=>exact I.after b
  | next=>exact False.elim b
  | brk=>exact False.elim b
  | cont=>exact False.elim b
theorem aq(F:FnOk X.prog X.w X.K X.mg X.base CX k f fd ps sp)(n:Room k X.A)(j:Gl X x)(g:X.mg x=some (.ref f))(y:keepIn X.K (.ref f)=true)(o:Binds X.K fd ps ds)(u:Vals dvs ds)(w:fj CX X E)
  (l:PA X (e::es) t) (c:(x == ("__debug__" : Str))=false:=by decide) (v:starEach (e::es) X.env=(false,eval e X.env)::starEach es X.env:=by rfl) (b:(backTo pos (starEach es X.env)).any (·.1)=false:=by rfl) :
  PE X (.Call (.Name x p) (e::es) [] pos) (Bv sp dvs E t):=by
 intro a s i H Q I h;refine wpAny_Call_Name_kw (fR I j g ?_ c);refine callWith_K (h₀:=X.base) I.ok.mod.kin y (thn (l pos a s i H _ I h) λC B ⟨A,z,d,r,q⟩=>⟨d.kIn,?_⟩) v b;exact o4 F n o u w d r q
theorem fU{pl:Sem Bool}(N:PE X o ta)(c:Cls X.K C)(i:Meth X.K C m f)(F:FnOk X.prog X.w X.K X.mg X.base CX k f fd ps sp)(D:Room k X.A)(G:Binds X.K fd ps ds)(M:Vals dvs ds)(J:fj CX X E)(B:PA X (e::es) t)
  (g:starEach (e::es) X.env=(false,eval e X.env)::starEach es X.env:=by rfl) (d:(backTo pos (starEach es X.env)).any (·.1)=false:=by rfl)
  (w:eval (.Call (.Attribute o m apos) (e::es) [] pos) X.env=(do
   let ov <- eval o X.env
   standAt apos.atName
   let (f,first) <- holding [ov] (getMethod ov m pl)
   callWith pos f first (backTo pos (starEach (e::es) X.env)) (backToKw pos (keywordEach [] X.env))):=by rfl) :
  PE X (.Call (.Attribute o m apos) (e::es) [] pos) (xZ C m sp dvs E ta t):=by
 intro b s n H Q I h;refine methodCall_KW (pl:=pl) (thn (N b s n H _ I h) λu z ⟨x,K,j,v,a,R,O,y,A,l,q⟩=>?_) w;subst y;obtain rfl:u=Value.ref a:=v;refine jD j A c i l ?_;refine callWith_K (first:=[.ref a]) (h₀:=X.base) I.ok.mod.kin i.kp (thn (B pos b z n K _ j q) λus S ⟨vs,P,p,r,L⟩=>⟨p.kIn,?_⟩) g d;exact o4 (us:=.ref a::us) (vs:=.ref a::vs) F D G M J p (.cons rfl r) L
theorem ax{pl:Sem Bool}(A:PE X o ta)(c:Cls X.K C)(g:Meth X.K C m f)(F:FnOk X.prog X.w X.K X.mg X.base CX k f fd ps sp)(p:Room k X.A)(r:Binds X.K fd ps ds)(v:Vals dvs ds)(z:fj CX X E)
  (i:eval (.Call (.Attribute o m apos) [] [] pos) X.env=(do
   let ov <- eval o X.env
   standAt apos.atName
   let (f,first) <- holding [ov] (getMethod ov m pl)
   callWith pos f first (backTo pos (starEach [] X.env)) (backToKw pos (keywordEach [] X.env))):=by rfl) :
  PE X (.Call (.Attribute o m apos) [] [] pos) (xZ C m sp dvs E ta vy):=by
 intro b s j H Q I h;refine methodCall_KW (pl:=pl) (thn (A b s j H _ I h) λu G ⟨x,D,d,w,a,B,J,n,y,l,q⟩=>?_) i;subst n;obtain rfl:u=Value.ref a:=w;refine jD d y c g l ?_;exact callWith_K0 (first:=[.ref a]) d.kIn g.kp (o4 (us:=[.ref a]) (vs:=[.ref a]) F p r v z d (.cons rfl .nil) q)
structure Mk(K:Frag)(C f:Addr):Prop where
 makes:makesIn K C=true
 init:findIn K (.ref C) "__init__" = some (some (.ref f))
 fn:isFn K (.ref f)=true
 kp:keepIn K (.ref C)=true
theorem vw{b:List (Addr×Obj)}{d:St}{H:Hp}{s:Shared}{Q:VK}{us:List Value}{vs:List V}(M:Mk X.K C f)(F:FnOk X.prog X.w X.K X.mg X.base CX k f fd ps sp)(n:Room (k+1) X.A)(o:Binds X.K fd ps ds)(q:Vals dvs ds)
  (A:fj CX X E) (I:Inv X b d H s) (r:Vals vs us)
  (h:∀ x dx,H x=none->H dx=none->dx≠x->sp (.ref x::(vs++dvs)) (upd (upd H dx (.own x)) x (.ins C dx [])) (λv H2=>v=.non/\Q (.ref x) H2) E) :
  wpAny (model X.prog X.w) X.A (call (.ref C) us) (EP X b d Q) X.xe s:=by
 have g:=h (s.heap.objs.size+1) s.heap.objs.size (I.hok.fresh (Nat.le_succ _)) (I.hok.fresh (Nat.le_refl _)) (Nat.ne_of_lt (Nat.lt_succ_self _));have c:=Inv.made (C:=C) I;have i:Vals (V.ref (s.heap.objs.size+1)::(vs++dvs)) (Value.ref (s.heap.objs.size+1)::(us++ds)):=.cons rfl (r.append q)
 have j:(Value.ref (s.heap.objs.size+1)::us++ds).length=ps.length:=by
  have e:=i.length;rw[F.len _ _ _ _ g]at e;exact e.symm
 refine wpAny_call (vg (f:=f) I.kIn M.makes M.init (beq_iff_eq.mp M.fn) (codeAny_mono (F.run _ X.stack _ _ ⟨Value.ref (s.heap.objs.size+1)::us,[]⟩ (Value.ref (s.heap.objs.size+1)::(us++ds)) _ _ E (n.make C us [])
  (c.env0.make C us []) (o _ (Value.ref (s.heap.objs.size+1)::us) c.kIn j) i g) λr B a=>?_))
 cases r with
 | error e=>exact A b d _ _ e B c a
 | ok fl =>
  cases fl with
  | ret u =>
   obtain⟨v,l,z,w,p,y⟩:=c.after a;subst p;exact⟨w,⟨V.ref (s.heap.objs.size+1),l,z,rfl,y⟩⟩
  | next=>exact False.elim a
  | brk=>exact False.elim a
  | cont=>exact False.elim a
theorem dI(M:Mk X.K C f)(F:FnOk X.prog X.w X.K X.mg X.base CX k f fd ps sp)(n:Room (k+1) X.A)(j:Gl X x)(g:X.mg x=some (.ref C))(o:Binds X.K fd ps ds)(u:Vals dvs ds)(w:fj CX X E)
  (l:PA X (e::es) t) (c:(x == ("__debug__" : Str))=false:=by decide) (v:starEach (e::es) X.env=(false,eval e X.env)::starEach es X.env:=by rfl) (b:(backTo pos (starEach es X.env)).any (·.1)=false:=by rfl) :
  PE X (.Call (.Name x p) (e::es) [] pos) (At C sp dvs E t):=by
 intro a s i H Q I h;refine wpAny_Call_Name_kw (fR I j g ?_ c);refine callWith_K (h₀:=X.base) I.ok.mod.kin M.kp (thn (l pos a s i H _ I h) λB A ⟨z,y,d,r,q⟩=>⟨d.kIn,?_⟩) v b;exact vw M F n o u w d r q
end
section
variable {X:Cx}{CX:CXT}{k:Nat}{f C:Addr}{fd:FuncData}{ps ks:List Str}{sp:Sp}{E:XK}{x m:Str}{p pos apos kpos:Pos}{e o:Expr}{es:List Expr}{kws:List Keyword}{te ta:TE}{t tk:TA}{nm:Option Str}
variable {g:List Value->List Value->List Value}{gV:List V->List V->List V}
end
structure FnScope(N P:List Str)(sc:Scope):Prop where
 kind:sc.kind=.function
 co:sc.isCoroutine=false
 gen:sc.isGenerator=false
 nd:N.Nodup
 pre:N.take P.length=P
 par:∀ x ∈ P,sc.names.lookup x = some .local\/sc.names.lookup x = some .cell
 nofree:∀ y∈sc.names,y.2≠.free
theorem kj{a:Str->Option NameKind}{x:Str}:∀{binds:List (Str×Value)}{m:Str->Option Value},(∀ v,(x,v) ∉ binds)->bindL a binds m x=m x
 | [],_,_=>rfl
 | (n,v)::r,m,h=>by
  unfold bindL;rw[kj λw b=>h w (mem_cons_of_mem _ b)]
  split
  .have:x≠n:=by rintro rfl;exact h v mem_cons_self
   simp[this]
  .rfl
theorem kL{a:Str->Option NameKind}{x:Str}:∀{binds:List (Str×Value)}{m:Str->Option Value},(∀ v,(x,v) ∉ binds)->bindC a binds m x=m x
 | [],_,_=>rfl
 | (n,v)::r,m,h=>by
  unfold bindC;rw[kL λw b=>h w (mem_cons_of_mem _ b)]
  split
  .rfl
  .have:x≠n:=by rintro rfl;exact h v mem_cons_self
   simp[this]
theorem kS{a:Str->Option NameKind}{x:Str}{v:Value}:∀{P:List Str}{vs:List Value}{i:Nat}{m:Str->Option Value},P.Nodup->P[i]? = some x->vs[i]? = some v->a x = some .local ->
  bindL a (P.zip vs) m x=some v
 | [],_,_,_,_,h,_,_=>by simp at h
 | _::_,[],_,_,_,_,h,_=>by simp at h
 | p::P,w::vs,0,m,nd,h1,h2,hk=>by
  simp at h1 h2;subst h1;subst h2;show bindL a ((p,w)::P.zip vs) m p=_;unfold bindL;rw[kj λv b=>(nodup_cons.mp nd).1 (of_mem_zip b).1,if_pos hk];simp
 | p::P,w::vs,i+1,m,nd,h1,h2,hk=>by
  show bindL a ((p,w)::P.zip vs) m x=_;unfold bindL;exact kS (i:=i) (nodup_cons.mp nd).2 (by simpa using h1) (by simpa using h2) hk
theorem ky{a:Str->Option NameKind}{x:Str}{v:Value}:∀{P:List Str}{vs:List Value}{i:Nat}{m:Str->Option Value},P.Nodup->P[i]? = some x->vs[i]? = some v->a x≠some .local ->
  bindC a (P.zip vs) m x=some v
 | [],_,_,_,_,h,_,_=>by simp at h
 | _::_,[],_,_,_,_,h,_=>by simp at h
 | p::P,w::vs,0,m,nd,h1,h2,hk=>by
  simp at h1 h2;subst h1;subst h2;show bindC a ((p,w)::P.zip vs) m p=_;unfold bindC;rw[kL λv b=>(nodup_cons.mp nd).1 (of_mem_zip b).1,if_neg hk];simp
 | p::P,w::vs,i+1,m,nd,h1,h2,hk=>by
  show bindC a ((p,w)::P.zip vs) m x=_;unfold bindC;exact ky (i:=i) (nodup_cons.mp nd).2 (by simpa using h1) (by simpa using h2) hk
def start(N:List Str)(vs:List V):St:=vs.map some++List.replicate (N.length - vs.length) none
def dZ(CX:CXT)(P:Program)(w:World)(K:Frag)(mg:Str->Option Value)(base:Heap)(N:List Str)(qual:Str)(scope:Scope)(f:Addr)(cd:Value)(A:Around)(outer:List Env)(s:Shared)(H:Hp)(E:XK):Cx where
 prog:=P
 w:=w
 K:=K
 mg:=mg
 base:=base
 A:=A.deeper (envOfC qual scope s.heap.objs.size f cd)
 N:=N
 s₀:=s
 H₀:=H
 env:=envOfC qual scope s.heap.objs.size f cd
 outer:=outer
 stack:=envOfC qual scope s.heap.objs.size f cd::outer
 ex:=[]
 calm:=true
 fn:=λ_=>true
 pn:=[]
 xe:=λe s'=>wpAny (model P w) (A.deeper (envOfC qual scope s.heap.objs.size f cd)) (leaving (envOfC qual scope s.heap.objs.size f cd) e) (λ_ s''=>CX outer H s E e s'') (λe' s''=>CX outer H s E e' s'') s'
theorem m3{a:Scope}{n:Nat}{x:Str}(h:a.names.lookup x=some .cell):∃ c,(cellsFrom n a.names []).lookup x=some c:=by
 have q:=cellsFrom_some a.names n [] (.inl h);exact Option.isSome_iff_exists.mp q
theorem ke{CX:CXT}{P:Program}{w:World}{K:Frag}{mg:Str->Option Value}{l:Heap}{N ps:List Str}{g:Str}{scope:Scope}{f:Addr}{I:Value}{A:Around}{d:List Env}{s J:Shared}{H:Hp}{E:XK}{us:List Value}{vs:List V}
  (S:FnScope N ps scope) (R:A.handled=none) (o:Env0 P w K mg l A d s H) (X:vs.length=ps.length) (r:Vals vs us)
  (x:InCallC s s.heap.objs.size (bindL (envOfC g scope s.heap.objs.size f I).kindOf (ps.zip us) λ_=>none) (cellsFrom (s.heap.objs.size+1) scope.names []) (bindC (envOfC g scope s.heap.objs.size f I).kindOf (ps.zip us) λ_=>none) J) :
  Inv (dZ CX P w K mg l N g scope f I A d s H E) [] (start N vs) H J:=by
 have O:ps.length<=N.length:=by have:=congrArg List.length S.pre;rw[length_take]at this;lia
 obtain⟨G,W,rfl,L⟩:=x.done;have B:∀ b:Addr,b ∉ (dZ CX P w K mg l N g scope f I A d s H E).ex:=λb z=>absurd (show b∈([]:List Addr) from z) (by simp)
 refine⟨⟨o.mod,S.kind,rfl,rfl,Nat.le_refl _,λy z c G j=>?_,λy hy=>?_,λy c _ h=>?_,λ_=>R,Around.frames_deeper o.frames,.inr ⟨rfl,rfl⟩,λb z=>absurd z (B b),o.bs,o.bsz,λb _ _=>B b,λb z=>absurd z (B b),o.funs,o.frf⟩,
  rfl,o.bare,Un.kept L,⟨_,x.toInCall.ns,λi y v G j Y=>?_⟩,λy c h=>⟨_,x.cell y c h⟩,o.hok.fresh (Nat.le_refl _),λy c h=>?_,λp D=>absurd (show p∈([]:List (Addr×Obj)) from D) (by simp),o.hok.kept L,?_⟩
 .exact name_of_addr x.apart (PySem.mem_of_lookup G) (PySem.mem_of_lookup j)
 .have hy:scope.names.lookup y=some .cell\/scope.names.lookup y=some .free:=hy
  rcases hy with hy | hy
  .exact m3 hy
  .exact absurd rfl (S.nofree _ (PySem.mem_of_lookup hy))
 .exact Nat.le_of_lt (x.above y c (PySem.mem_of_lookup h))
 .have F:i<vs.length:=by
   unfold start at j
   by_cases F:i<vs.length
   .exact F
   .rw[List.getElem?_append_right (by simpa using F)]at j
    rw[List.getElem?_replicate]at j
    split at j <;> cases j
  have Q:vs[i]? = some v:=by
   unfold start at j;rw[List.getElem?_append_left (by simpa using F),List.getElem?_map]at j;cases e:vs[i]? with
   | none=>rw[e]at j;cases j
   | some a=>rw[e]at j;cases j;rfl
  obtain⟨u,M,T⟩:=r.get Q
  have D:ps[i]? = some y:=by
   rw[<- S.pre,List.getElem?_take_of_lt (by lia)];exact G
  have C:ps.Nodup:=by rw[<- S.pre];exact S.nd.sublist (List.take_sublist _ _)
  refine⟨u,T,?_⟩
  rcases S.par y (List.mem_of_getElem? D) with k | k
  .exact .inl ⟨k,kS C D M k⟩
  .obtain⟨c,e⟩:=m3 (n:=s.heap.objs.size+1) k
   refine .inr ⟨.inl k,c,e,?_⟩;have q:=x.cell y c e;rw[ky C D M (by show scope.names.lookup y≠_;rw[k];decide)]at q;exact q
 .exact o.hok.fresh (Nat.le_of_lt (x.above y c (PySem.mem_of_lookup h)))
 .unfold start
  show _=N.length;rw[length_append,length_map,List.length_replicate];lia
theorem vU{CX:CXT}{P:Program}{w:World}{K:Frag}{mg:Str->Option Value}{g:Heap}{k:Nat}{f:Addr}{name a:Str}{d:Arguments}{body:List Stmt}{scope:Scope}{Y W C T c ct oc:Value}{an od:Option Addr}
  {F:Array (Option Value)}{N ps:List Str}{sp:Sp}(lk:K.lookup f=some ⟨oc,od,.func (fnOf name a d body scope Y W C T an c ct),F⟩) (M:codeIn K c a=true) (S:FnScope N ps scope)
  (D:∀ vs H Q E,sp vs H Q E->vs.length=ps.length)
  (j:∀(A:Around) (outer:List Env) (s:Shared) (H:Hp) (vs:List V) (Q:VK) (E:XK),Room k (A.deeper (envOfC a scope s.heap.objs.size f c))->sp vs H Q E ->
   ∃ t,PSs (dZ CX P w K mg g N a scope f c A outer s H E) body t/\t { nx:=λ_ H'=>Q .non H',rt:=Q } (start N vs) H) :
  FnOk P w K mg g CX (k+1) f (fnOf name a d body scope Y W C T an c ct) ps sp:=by
 refine⟨D,λA outer s H X us vs Q E G z hb r p=>?_⟩;have hl:=D _ _ _ _ p;have KX:K.In s.heap:=z.mod.kin.keeps λb o e=>(z.bs b o e).1
 have O:s.heap.NoLimit:=z.mod.nolimit.keeps λb o e=>(z.bs b o e).1
 have i:∀ y ∈ ps.zip us,scope.names.lookup y.1 = some .local\/(scope.names.lookup y.1 = some .cell/\((cellsFrom (s.heap.objs.size + 1) scope.names []).lookup y.1).isSome = true):=λ⟨n,v⟩ hy=>by
  rcases S.par n (of_mem_zip hy).1 with q | q
  .exact .inl q
  .exact .inr ⟨q,cellsFrom_some _ _ _ (.inl q)⟩
 refine codeAny_call_function G.depth (KX _ _ lk) rfl S.co S.gen rfl (codeRec_of KX M) (hb _ _ _ _ ?_);refine wpAny_newFunctionEnv_cells S.kind i λab he Z x=>?_
 subst he;refine⟨O.keeps x.toInCall.keep,codeAny_func ?_⟩;obtain⟨t,ht,hq⟩:=j A outer s H vs Q E (G.deeper _) p;have I:Inv (dZ CX P w K mg g N a scope f c A outer s H E) [] (start N vs) H Z:=ke S G.hd z hl r x;refine wpAny_mono (ht [] Z (start N vs) H _ I hq) (λfl L l=>?_) λe L l=>l
 have B:∀{h:St}{H':Hp}{v:V}{u:Value},Inv (dZ CX P w K mg g N a scope f c A outer s H E) [] h H' L->RelV v u->Q v H'->CE outer P w H s Q u L :=
  λ{h H' v u} J R q=>⟨v,H',J.os,J.bare,J.base,J.hok,R,q⟩
 cases fl with
 | ret u =>
  obtain⟨v,h,H',J,R,q⟩:=l;exact B J R q
 | next =>
  obtain⟨h,H',J,q⟩:=l;exact B (v:=V.non) (u:=Value.none) J rfl q
 | brk =>
  obtain⟨_,_,_,q⟩:=l;exact False.elim q
 | cont =>
  obtain⟨_,_,_,q⟩:=l;exact False.elim q
section
variable {X:Cx}{x:Str}{p pos:Pos}{e:Expr}{es:List Expr}{t:TA}{id T:String}{r:List V->Hp->VK->Prop}
def tCB(r:List V->Hp->VK->Prop)(t:TA):TE:=λσ H Q=>t σ H λvs H1=>r vs H1 Q
theorem aL(u:CallR X (.builtin id) r)(j:Gl X x)(f:X.mg x=none)(w:bootBuiltins x=some (.builtin id))(l:PA X (e::es) t)(g:x ≠ "__name__" := by decide)(c:(x == ("__debug__" : Str))=false:=by decide)
  (y:starEach (e::es) X.env=(false,eval e X.env)::starEach es X.env:=by rfl) (b:(backTo pos (starEach es X.env)).any (·.1)=false:=by rfl):PE X (.Call (.Name x p) (e::es) [] pos) (tCB r t):=by
 intro a s d H Q I h;refine wpAny_Call_Name_kw (jy I j f w ?_ g c);exact PyProof.Rows.callWith_builtin1 (thn (l pos a s d H _ I h) λz q ⟨n,k,v,i,o⟩=>u a q d k n z Q v i o) y b
theorem dN(u:CallR X (.type T) r)(j:Gl X x)(f:X.mg x=none)(w:bootBuiltins x=some (.type T))(l:PA X (e::es) t)(g:x ≠ "__name__" := by decide)(c:(x == ("__debug__" : Str))=false:=by decide)
  (y:starEach (e::es) X.env=(false,eval e X.env)::starEach es X.env:=by rfl) (b:(backTo pos (starEach es X.env)).any (·.1)=false:=by rfl):PE X (.Call (.Name x p) (e::es) [] pos) (tCB r t):=by
 intro a s d H Q I h;refine wpAny_Call_Name_kw (jy I j f w ?_ g c);exact PyProof.Rows.callWith_type1 (thn (l pos a s d H _ I h) λz q ⟨n,k,v,i,o⟩=>u a q d k n z Q v i o) y b
end
end L2
namespace HT
open PySem PyProof.Rows
section
open PySem.SeqAt
open PySem.AutoSeq1 (wpAny_loadPart')
open PySem.MeetsSeq PySem.MeetsSeq2 PySem.MeetsSeq3
end
section
variable {prog:Program}{w:World}{A:Around}{E:Value->Shared->Prop}{s:Shared}
theorem cat_tup{t b:Addr}{vs a:List Value}{Q:Value->Shared->Prop}(v:IsTup s.heap t vs.toArray)(y:IsTup s.heap b a.toArray)(q:vs≠[])
  (z:a=[]->Q (.ref t) s) (x:a≠[]->Q (.ref s.heap.objs.size) { s with heap:=s.heap.push { cls:=.type "tuple",data:=.seq (vs++a).toArray } })
  (hsz:vs.length+a.length<=sizeLine):wpAny (model prog w) A (binaryOp .Add (.ref t) (.ref b)) Q E s:=by
 obtain⟨⟨cls,p,data,o⟩,i,l,n,u⟩:=id v;obtain⟨⟨r,d,j,g⟩,c,h,k,f⟩:=id y;simp only at l u h f;subst l u h f;have e:vs.toArray++a.toArray=(vs++a).toArray:=by simp
 by_cases hw:a=[]
 .exact concat_meets ⟨_,i,rfl⟩ ⟨_,c,rfl⟩ noFill_tuple_add seq_tuple_add PySem.F.slot_tuple_add PySem.F.entry_tuple_add (PySem.F.args_tuple_add_2 _ _)
   (tuple_addW1 t b vs.toArray a.toArray n k p d o g (by simpa using q) (by simp[hw])) ⟨i,c,z hw⟩
 .refine concat_meets ⟨_,i,rfl⟩ ⟨_,c,rfl⟩ noFill_tuple_add seq_tuple_add PySem.F.slot_tuple_add PySem.F.entry_tuple_add (PySem.F.args_tuple_add_2 _ _)
   (tuple_addW2 t b vs.toArray a.toArray n k p d o g (by simpa using q) (by simpa using hw) (by rw[size_toArray,size_toArray];exact hsz)) ⟨i,c,?_⟩
  rw[e];exact x hw
def sIx(n d:Nat):Option Int->Nat
 | none=>d
 | some v=>if v<0 then (v+(n:Int)).toNat else min v.toNat n
theorem sIx_nat(n d k:Nat):sIx n d (some (k:Int))=min k n:=by
 show(if (k:Int)<0 then ((k:Int)+(n:Int)).toNat else min (k:Int).toNat n)=min k n;rw[if_neg (by lia),Int.toNat_natCast]
end
end HT
namespace L2
open PySem PySem.Spec PyProof.Rows
abbrev TO:=St->Hp->(Option Int->Hp->Prop)->Prop
def PO(X:Cx)(e:Option Expr)(t:TO):Prop :=
 ∀(pins:List (Addr×Obj)) (s:Shared) (σ:St) (H:Hp) (Q:Option Int->Hp->Prop),Inv X pins σ H s->t σ H Q ->
  wpAny (model X.prog X.w) X.A (evalPart e X.env) (λu s'=>∃ o H',Inv X pins σ H' s'/\IsPart u o/\Q o H') X.xe s
def AA(t:TE):TO:=λσ H Q=>t σ H λx H1=>∃ i,x=.int i/\Q (some i) H1
section
variable {X:Cx}{e:Expr}{te:TE}{lo hi:Option Expr}{tl th:TO}{pos p2:Pos}
theorem iZ(h:PE X e te):PO X (some e) (AA te):=by
 intro a s b H Q I f;rw[evalPart_some];refine thn (h a s b H _ I f) λu k ⟨x,d,j,c,g⟩=>?_
 obtain⟨i,rfl,q⟩:=g;obtain⟨t,rfl⟩:=c;exact⟨some i,d,j,.int i t,q⟩
def SlR(X:Cx)(r:V->Option Int->Option Int->Hp->VK->Prop):Prop :=
 ∀(pins:List (Addr×Obj)) (s:Shared) (σ:St) (H:Hp) (x:V) (v vl vu:Value) (lo hi:Option Int) (sl:Addr) (Q:VK),Inv X pins σ H s->RelV x v->s.heap.IsSliceOf sl vl vu .none->IsPart vl lo->IsPart vu hi->r x lo hi H Q ->
  ∃ T id,typeLookup (.type T) "__getitem__" = pure (some (.builtin id))/\s.TypeIs v T/\wpAny (model X.prog X.w) X.A (getItem v (.ref sl)) (EP X pins σ Q) X.xe s
def tSl(r:V->Option Int->Option Int->Hp->VK->Prop)(te:TE)(tl th:TO):TE:=λσ H Q=>te σ H λx H1=>tl σ H1 λl H2=>th σ H2 λu H3=>r x l u H3 Q
theorem nQ{r:V->Option Int->Option Int->Hp->VK->Prop}(y:SlR X r)(G:PE X e te)(f:PO X lo tl)(z:PO X hi th):PE X (.Subscript e (.Slice lo hi none p2) pos) (tSl r te tl th):=by
 intro a s c H Q I h;refine Subscript_ (thn (G a s c H _ I h) λv j ⟨x,C,k,o,w⟩=>?_);refine wpAny_Slice (thn (f a j c C _ k w) λd F ⟨l,n,A,B,D⟩=>thn (z a F c n _ A D) λvu s3 ⟨u,H3,I3,pu,q3⟩=>?_);rw[evalPart_none];refine wpAny_pure ?_;have E:Inv X a c H3 { s3 with heap:=s3.heap.push { cls:=.type "slice",data:=.fields #[d,vu,.none] } }:=I3.kept (t':=s3.toks) λb J q=>Heap.get?_push_of_some _ q
 obtain⟨T,K,g,i,p⟩:=y a { s3 with heap:=s3.heap.push { cls:=.type "slice",data:=.fields #[d,vu,.none] } } c H3 x v d vu l u s3.heap.objs.size Q E o (Heap.IsSliceOf.new ..) B pu q3;show wpAny (model X.prog X.w) X.A (subscriptTail e (.Slice lo hi none p2) v (.ref s3.heap.objs.size)) (EP X a c Q) X.xe { s3 with heap:=s3.heap.push { cls:=.type "slice",data:=.fields #[d,vu,.none] } };exact tail_any (ops:=[.ref s3.heap.objs.size,v]) i g p (by with_unfolding_all rfl)
def eO(xs:List V)(lo hi:Option Int):List V:=(xs.drop (HT.sIx xs.length 0 lo)).take (HT.sIx xs.length xs.length hi - HT.sIx xs.length 0 lo)
theorem iM(xs:List V)(lo a:Option Int):(eO xs lo a).length<=xs.length:=by
 unfold eO;rw[length_take,List.length_drop];lia
def qG(K:Frag):R2:=λx y H Q=>∃ a b xs ys,x=.ref a/\y=.ref b/\SqT K H a xs/\SqT K H b ys/\xs≠[]/\xs.length+ys.length<=sizeLine /\
 (ys=[]->Q (.ref a) H)/\(ys≠[]->∀ p,H p=none->Q (.ref p) (upd H p (.tup (xs++ys))))
theorem Vals.nil_iff{xs:List V}{us:List Value}(r:Vals xs us):us=[]↔xs=[]:=by
 cases r with
 | nil=>simp
 | cons _ _=>simp
theorem wO:OpR X (binaryOp .Add) (qG X.K):=by
 intro g s J H x y v u Q I k p h;obtain⟨a,b,l,j,rfl,rfl,r,B,D,i,A,F⟩:=h;cases k;cases p;obtain⟨C,d,E,_⟩:=I.tuple r;obtain⟨f,c,n,_⟩:=I.tuple B;refine HT.cat_tup E n (λz=>D (d.nil_iff.mp z)) (λz=>⟨.ref a,H,I,rfl,A (c.nil_iff.mp z)⟩) (λz=>?_) (by rw[<- d.length,<- c.length];exact i);refine⟨.ref s.heap.objs.size,_,I.laid (t':=s.toks) (o:=.tup (l++j)) (λb G q=>Heap.get?_push_of_some _ q) (Nat.le_refl _) ?_,rfl,F (λw=>z (c.nil_iff.mpr w)) _ (I.hok.fresh (Nat.le_refl _))⟩;exact⟨by rw[length_append];exact i,_,d.append c,IsTup.new _ _⟩
end
def ixN(n:Nat)(i:Int):Option Nat:=if 0<=i then (if i<n then some i.toNat else none) else if -(n:Int)<=i then some (i+n).toNat else none
def atI{α:Type}(xs:List α)(i:Int):Option α:=(ixN xs.length i).bind λj=>xs[j]?
theorem qV{n:Nat}{i:Int}{j:Nat}(h:ixN n i=some j):seqIndex? i n=some j/\j<n/\-(n:Int)<=i/\i<n:=by
 unfold ixN at h
 by_cases h0:0<=i
 .rw[if_pos h0]at h
  by_cases h1:i<n
  .rw[if_pos h1]at h
   have e:i.toNat=j:=Option.some.inj h;exact⟨by rw[seqIndex_of h0 h1,e],by lia,by lia,h1⟩
  .rw[if_neg h1]at h;cases h
 .rw[if_neg h0]at h
  by_cases h1:-(n:Int)<=i
  .rw[if_pos h1]at h
   have e:(i+n).toNat=j:=Option.some.inj h;exact⟨by rw[seqIndex_neg (by lia) h1,e],by lia,h1,by lia⟩
  .rw[if_neg h1]at h;cases h
theorem ji{a:Type}{xs:List a}{i:Int}{v:a}(h:atI xs i=some v):∃ j,seqIndex? i xs.length=some j/\xs[j]? = some v/\j<xs.length/\-(xs.length:Int)<=i/\i<xs.length:=by
 unfold atI at h;cases e:ixN xs.length i with
 | none=>rw[e]at h;cases h
 | some j =>
  rw[e]at h;obtain⟨d,c,b,f⟩:=qV e;exact⟨j,d,h,c,b,f⟩
theorem gL{a:Type}{xs:List a}{j:Nat}{v:a}(h:xs[j]? = some v):atI xs (j:Int)=some v:=by
 have b:j<xs.length:=(List.getElem?_eq_some_iff.mp h).1
 have e:ixN xs.length (j:Int)=some j:=by
  unfold ixN;rw[if_pos (by lia),if_pos (by lia)];simp
 unfold atI;rw[e];exact h
theorem gY{a:Type}(xs:List a)(v:a):atI (xs++[v]) (-1)=some v:=by
 have b:(xs++[v]).length=xs.length+1:=by simp
 have e:ixN (xs++[v]).length (-1)=some xs.length:=by
  unfold ixN;rw[b,if_neg (by decide),if_pos (by lia)]
  congr 1
  lia
 unfold atI;rw[e];show(xs++[v])[xs.length]? = some v;simp
def wM(b:Expr):Prop:=∀ o i,subscripted b false o i=operate [o,i] (getItem o i)
def IxR(X:Cx)(r:R2):Prop :=
 ∀(value slice:Expr) (pins:List (Addr×Obj)) (s:Shared) (σ:St) (H:Hp) (x y:V) (v u:Value) (Q:VK),Inv X pins σ H s->RelV x v->RelV y u->r x y H Q ->
  subscripted slice false v u=operate [v,u] (getItem v u)->wpAny (model X.prog X.w) X.A (subscriptTail value slice v u) (EP X pins σ Q) X.xe s
def MtR(X:Cx)(id:String)(r:V->List V->Hp->VK->Prop):Prop :=
 ∀(pins:List (Addr×Obj)) (s:Shared) (σ:St) (H:Hp) (x:V) (xs:List V) (v:Value) (us:List Value) (Q:VK),Inv X pins σ H s->RelV x v->Vals xs us->r x xs H Q ->
  wpAny (model X.prog X.w) X.A (call (.builtin id) (v::us)) (EP X pins σ Q) X.xe s
section
variable {X:Cx}{a b:Expr}{ta tb:TE}{pos:Pos}
theorem IxR.or{r f:R2}(h:IxR X r)(h':IxR X f):IxR X (λx y H Q=>r x y H Q\/f x y H Q):=by
 intro b a c s d H x y v u Q I i g q j
 rcases q with q | q
 .exact h b a c s d H x y v u Q I i g q j
 .exact h' b a c s d H x y v u Q I i g q j
theorem cF{r:R2}(k:IxR X r)(i:PE X a ta)(l:PE X b tb)(p:wM b):PE X (.Subscript a b pos) (tOp r ta tb):=by
 intro c s d H Q I h;exact Subscript_ (zF i l I h λv u j x y o f n g q=>k a b c j d o x y v u Q f n g q (p _ _))
inductive rIxL(K:Frag)(x y:V)(H:Hp)(Q:VK):Prop
 | mk(p:Addr)(xs:List V)(i:Int)(v:V)(h0:x=.ref p)(h1:y=.int i)(h2:SqL K H p xs)(h3:atI xs i=some v)(h4:Q v H):rIxL K x y H Q
inductive rIxT(K:Frag)(x y:V)(H:Hp)(Q:VK):Prop
 | mk(p:Addr)(xs:List V)(i:Int)(v:V)(h0:x=.ref p)(h1:y=.int i)(h2:SqT K H p xs)(h3:atI xs i=some v)(h4:Q v H):rIxT K x y H Q
def AM:R2:=λx y H Q=>∃ z i c,x=.str z/\y=.int i/\z.length<=sizeLine/\atI z.cps.toList i=some c/\Q (.str ⟨#[c]⟩) H
theorem ix_list:IxR X (rIxL X.K):=by
 intro g d a s A H x y v u Q I D G h o;obtain⟨p,P,i,z,rfl,rfl,L,M,q⟩:=h;cases D;obtain⟨t,rfl⟩:=G;obtain⟨k,r,l,R⟩:=I.list L;obtain⟨j,c,F,O,E,J⟩:=ji M;obtain⟨w,B,f⟩:=r.get F;have C:=r.length;have N:=fu
 have b:EP X a A Q w s:=⟨z,H,I,f,q⟩
 by_cases h0:0<=i
 .have n:i.toNat=j:=by
   rw[seqIndex_of h0 J]at c;exact Option.some.inj c
  exact item_listR l.isList h0 (by lia) (by rw[n];simpa using B) b o
 .have n:(i+(k.toArray.size:Int)).toNat=j:=by
   rw[seqIndex_neg (by lia) E]at c;rw[size_toArray,<- C];exact Option.some.inj c
  exact subscriptTail_builtinR (x:=w) l.isList.typeIs slot_list_getitem.lookup
   (wpAny_getItem_list_neg (Q:=λr K=>r=w/\EP X a A Q r K) l.isList (by lia) (by rw[size_toArray] <;> lia) (by lia) (by rw[n];simpa using B) ⟨rfl,b⟩) o
theorem ix_tup:IxR X (rIxT X.K):=by
 intro f b a s g H x y v u Q I n B h o;obtain⟨p,N,i,z,rfl,rfl,G,J,q⟩:=h;cases n;obtain⟨t,rfl⟩:=B;obtain⟨C,r,k,P⟩:=I.tuple G;obtain⟨j,D,A,M,L,O⟩:=ji J;obtain⟨w,F,c⟩:=r.get A;have l:=r.length;have K:=fu
 have d:EP X a g Q w s:=⟨z,H,I,c,q⟩
 exact subscriptTail_builtinR (x:=w) k.typeIs slot_tuple_getitem.lookup
  (getItem_tuple (j:=j) (Q:=λr E=>r=w/\EP X a g Q r E) k (by lia) (by lia) (by rw[size_toArray,<- l];exact D) (by simpa using F) ⟨rfl,d⟩) o
theorem zT:IxR X AM:=by
 intro b a d s F H x y v u Q I l w h n;obtain⟨z,i,c,rfl,rfl,G,B,q⟩:=h;obtain⟨t,rfl⟩:=l;obtain⟨E,rfl⟩:=w;obtain⟨j,f,p,D,o,A⟩:=ji B;have g:z.cps.toList.length=z.length:=by simp[Str.length]
 rw[g]at f o A;have C:=fu
 exact tail_any (typeIs_str s z t) slot_str_getitem.lookup (getItem_str (c:=c) (by
  have r:decide (i < -(2 ^ 63:Int))=false:=decide_eq_false (by lia);have k:decide (i >= 2 ^ 63)=false:=decide_eq_false (by lia)
  rw[r,k,Bool.or_false]) (by rw[f];simpa using p) ⟨.str ⟨#[c]⟩,H,I.tok _,⟨_,rfl⟩,q⟩) n
def rIx(K:Frag):R2:=λx y H Q=>rIxL K x y H Q\/rIxT K x y H Q\/AM x y H Q
theorem bU:IxR X (rIx X.K):=ix_list.or (ix_tup.or zT)
theorem pI(its:List Value)(n j:Nat)(u:Value):Obj.mapSeq (·.setIfInBounds j u) { cls:=.type "list",data:=.seq its.toArray n }={ cls:=.type "list",data:=.seq (its.set j u).toArray n }:=by
 simp[Obj.mapSeq]
theorem Inv.lst{a:List (Addr×Obj)}{b:St}{H:Hp}{s:Shared}{p:Addr}{xs:List V}(I:Inv X a b H s)(h:H p=some (.lst xs)) :
  ∃(its:List Value) (n:Nat),Vals xs its/\s.heap.get? p=some { cls:=.type "list",data:=.seq its.toArray n }/\xs.length<=sizeLine:=by
 obtain⟨z,its,n,r,e⟩:=I.hok p _ h;exact⟨its,n,r,e,z⟩
theorem Inv.lstUpd{a:List (Addr×Obj)}{d:St}{H:Hp}{s:Shared}{p:Addr}{xs ys:List V}{its its':List Value}{n c:Nat}{f:Obj->Obj}(I:Inv X a d H s)(h:H p=some (.lst xs))
  (j:s.heap.get? p=some { cls:=.type "list",data:=.seq its.toArray n }) (g:f { cls:=.type "list",data:=.seq its.toArray n }={ cls:=.type "list",data:=.seq its'.toArray c }) (r:Vals ys its') (hz:ys.length<=sizeLine) (t:Nat) :
  Inv X a d (upd H p (.lst ys)) { s with heap:=s.heap.update p f,toks:=t }:=by
 have e:(s.heap.update p f).get? p=some { cls:=.type "list",data:=.seq its'.toArray c }:=by
  rw[Heap.get?_update_self f j (by rw[g] <;> rfl),g]
 refine I.write (x:=p) (e:=p) (by rw[h];trivial) (.inl rfl) (λb u i q=>(Heap.get?_update_other _ _ (Ne.symm i)).trans q) ⟨_,e⟩ ?_;exact⟨hz,its',c,r,e⟩
def Br:V->V->V->Hp->(Hp->Prop)->Prop:=λo i v H Q=>∃ p xs k j,o=.ref p/\i=.int k/\H p=some (.lst xs)/\ixN xs.length k=some j/\Q (upd H p (.lst (xs.set j v)))
theorem gR:zG X Br:=by
 intro a s A H o i v K L u Q I D F E h;obtain⟨p,z,k,j,rfl,rfl,y,C,q⟩:=h;cases D;obtain⟨t,rfl⟩:=F;obtain⟨b,n,r,f,B⟩:=I.lst y;obtain⟨c,J,w,l⟩:=qV C;have d:=r.length;have G:=fu
 have x:Inv X a A (upd H p (.lst (z.set j v))) { s with heap:=s.heap.update p (Obj.mapSeq (·.setIfInBounds j u)) } :=
  I.lstUpd y f (pI b n j u) (r.set E j) (by rw[List.length_set];exact B) s.toks
 by_cases h0:0<=k
 .have g:k.toNat=j:=by
   rw[seqIndex_of h0 l]at c;exact Option.some.inj c
  exact PySem.W.ki_setAt f h0 (by lia) (by rw[size_toArray,<- d];exact l) (by rw[g];exact⟨_,x,q⟩)
 .have g:(k+(b.toArray.size:Int)).toNat=j:=by
   rw[seqIndex_neg (by lia) w]at c;rw[size_toArray,<- d];exact Option.some.inj c
  exact PySem.W.ki_setBack f (by lia) (by rw[size_toArray,<- d];exact w) (by lia) (by rw[g];exact⟨_,x,q⟩)
theorem lP(lo a:Option Int)(n:Nat):(sliceBounds lo a none n).1=((HT.sIx n 0 lo:Nat):Int)/\(sliceBounds lo a none n).2.1=((HT.sIx n n a:Nat):Int)/\(sliceBounds lo a none n).2.2=1:=by
 refine⟨?_,?_,rfl⟩
 .cases lo with
  | none=>simp[sliceBounds,HT.sIx]
  | some i =>
   simp only[sliceBounds,HT.sIx,Option.getD_none,show(1:Int) > 0 by decide,if_true]
   by_cases h:i<0
   .simp only[h,if_true] <;> lia
   .simp only[h,if_false] <;> lia
 .cases a with
  | none=>simp[sliceBounds,HT.sIx]
  | some i =>
   simp only[sliceBounds,HT.sIx,Option.getD_none,show(1:Int) > 0 by decide,if_true]
   by_cases h:i<0
   .simp only[h,if_true] <;> lia
   .simp only[h,if_false] <;> lia
theorem j5(its:List Value)(lo a:Option Int):slicePick its.toArray lo a none=((its.drop (HT.sIx its.length 0 lo)).take (HT.sIx its.length its.length a - HT.sIx its.length 0 lo)).toArray:=by
 obtain⟨c,d,b⟩:=lP lo a its.toArray.size;unfold slicePick;rw[c,d,b]
 simp only[sliceRange_one,pick_run,size_toArray] <;> rfl
def BZ(K:Frag):V->Option Int->Option Int->Hp->VK->Prop:=λx lo hi H Q=>∃ a xs,x=.ref a/\SqL K H a xs/\∀ p,H p=none->Q (.ref p) (upd H p (.lst (eO xs lo hi)))
theorem rk:SlR X (BZ X.K):=by
 intro j s z H x v B A f g D Q I n p k l h;obtain⟨a,c,rfl,u,q⟩:=h;cases n;obtain⟨w,r,i,y⟩:=I.list u;have d:=r.length;refine⟨"list",_,slot_list_getitem.lookup,i.isList.typeIs,?_⟩;refine wpAny_getItem_list_slice i.isList p k l .none (by simp) ?_ (by rw[size_toArray] <;> lia);rw[j5,<- d];refine⟨.ref s.heap.objs.size,_,I.laid (t':=s.toks) (o:=.lst (eO c f g)) (λb C q=>Heap.get?_push_of_some _ q) (Nat.le_refl _) ?_,rfl,q _ (I.hok.fresh (Nat.le_refl _))⟩;exact⟨Nat.le_trans (iM c f g) y,_,0,(r.drop (HT.sIx c.length 0 f)).take (HT.sIx c.length c.length g - HT.sIx c.length 0 f),Heap.get?_push_size _ rfl⟩
def gI:V->Bool
 | .non=>true
 | .bl _=>true
 | .int _=>true
 | .str _=>true
 | _=>false
def eqV:V->V->Bool
 | .non,.non=>true
 | .bl a,.bl b=>a == b
 | .bl a,.int b=>(if a then 1 else 0) == b
 | .int a,.bl b=>a == (if b then 1 else 0)
 | .int a,.int b=>a == b
 | .str a,.str b=>a == b
 | _,_=>false
theorem zi{A:Around}{s:Shared}{y x:V}{u v:Value}(f:RelV y u)(c:RelV x v)(h:gI y=true)(g:gI x=true):SeqAt.EqAt A s u v (eqV y x):=by
 cases y with
 | non =>
  cases f;cases x with
  | non=>cases c;exact SeqAt.EqAt.same _
  | bl b=>cases c;exact SeqAt.EqAt.none_bool b
  | int b=>obtain⟨t,rfl⟩:=c;exact SeqAt.EqAt.none_int b t
  | str b=>obtain⟨t,rfl⟩:=c;exact SeqAt.EqAt.none_str b t
  | _=>exact absurd (show false=true from g) Bool.false_ne_true
 | bl a =>
  cases f;cases x with
  | non=>cases c;exact SeqAt.EqAt.bool_none a
  | bl b=>cases c;exact SeqAt.EqAt.bool_bool a b
  | int b=>obtain⟨t,rfl⟩:=c;exact SeqAt.EqAt.bool_int a b t
  | str b=>obtain⟨t,rfl⟩:=c;exact SeqAt.EqAt.bool_str a b t
  | _=>exact absurd (show false=true from g) Bool.false_ne_true
 | int a =>
  obtain⟨d,rfl⟩:=f;cases x with
  | non=>cases c;exact SeqAt.EqAt.int_none a d
  | bl b=>cases c;exact SeqAt.EqAt.int_bool a d b
  | int b=>obtain⟨t,rfl⟩:=c;exact SeqAt.EqAt.int_int a d b t
  | str b=>obtain⟨t,rfl⟩:=c;exact SeqAt.EqAt.int_str a d b t
  | _=>exact absurd (show false=true from g) Bool.false_ne_true
 | str a =>
  obtain⟨d,rfl⟩:=f;cases x with
  | non=>cases c;exact SeqAt.EqAt.str_none a d
  | bl b=>cases c;exact SeqAt.EqAt.str_bool a d b
  | int b=>obtain⟨t,rfl⟩:=c;exact SeqAt.EqAt.str_int a d b t
  | str b=>obtain⟨t,rfl⟩:=c;exact SeqAt.EqAt.str_str a d b t
  | _=>exact absurd (show false=true from g) Bool.false_ne_true
 | _=>exact absurd (show false=true from h) Bool.false_ne_true
def eqU(x:V)(u:Value):Bool:=match u with
 | .none=>eqV .non x
 | .bool b=>eqV (.bl b) x
 | .int i _=>eqV (.int i) x
 | .str z _=>eqV (.str z) x
 | _=>false
theorem tO{x y:V}{u:Value}(r:RelV y u)(f:gI y=true):eqU x u=eqV y x:=by
 cases y with
 | non=>cases r;rfl
 | bl b=>cases r;rfl
 | int i=>obtain⟨t,rfl⟩:=r;rfl
 | str z=>obtain⟨t,rfl⟩:=r;rfl
 | _=>exact absurd (show false=true from f) Bool.false_ne_true
theorem lc{x:V}:∀{xs:List V}{us:List Value},Vals xs us->xs.all gI=true->us.any (eqU x)=xs.any λy=>eqV y x
 | _,_,.nil,_=>rfl
 | y::xs,u::us,.cons r t,f=>by
  rw[all_cons,Bool.and_eq_true]at f;rw[any_cons,any_cons,tO r f.1,lc t f.2]
theorem jx{A:Around}{s:Shared}{x:V}{v:Value}(a:RelV x v)(b:gI x=true):∀{xs:List V}{us:List Value},Vals xs us->xs.all gI=true->∀ u∈us,SeqAt.EqAt A s u v (eqU x u)
 | _,_,.nil,_=>λu hu=>by cases hu
 | y::xs,u::us,.cons r t,f=>λc hu=>by
  rw[all_cons,Bool.and_eq_true]at f
  rcases mem_cons.mp hu with rfl | hu
  .rw[tO r f.1];exact zi r a f.1 b
  .exact jx a b t f.2 c hu
def inV(x:V)(xs:List V):Bool:=xs.any λy=>eqV y x
inductive rIn(K:Frag)(neg:Bool)(x y:V)(H:Hp)(Q:VK):Prop
 | mk(p:Addr)(xs:List V)(h0:y=.ref p)(h1:SqL K H p xs\/SqT K H p xs)(h2:gI x=true)(h3:xs.all gI=true)(h4:Q (.bl (if neg then !inV x xs else inV x xs)) H):rIn K neg x y H Q
theorem sF:OpR X (compareOp .In) (rIn X.K false):=by
 intro i s l H x y v u Q I f j h;obtain⟨p,n,rfl,hq,g,b,q⟩:=h;cases j
 rcases hq with hq | hq
 .obtain⟨a,r,c,k⟩:=I.list hq
  refine SeqAt.in_listAt (eqU x) c.isList (λw d=>jx f g r b w (by simpa using d)) ⟨.bl _,H,I,rfl,?_⟩;rw[show a.toArray.any (eqU x)=a.any (eqU x) by simp,lc r b];exact q
 .obtain⟨a,r,c,k⟩:=I.tuple hq
  refine SeqAt.in_tupleAt (eqU x) c (λw d=>jx f g r b w (by simpa using d)) ⟨.bl _,H,I,rfl,?_⟩;rw[show a.toArray.any (eqU x)=a.any (eqU x) by simp,lc r b];exact q
theorem mj:CallR X (.builtin "len") (λxs H Q=>∃ p ys,xs=[.ref p]/\(SqL X.K H p ys\/SqT X.K H p ys)/\Q (.int ys.length) H):=by
 intro f s j H xs l Q I r h;obtain⟨p,ys,rfl,hq,q⟩:=h;obtain⟨u,rfl,g⟩:=eC r;cases g;have k:=fu
 rcases hq with hq | hq
 .obtain⟨d,c,b,i⟩:=I.list hq
  have a:=c.length;exact Calls.call_len_list b.isList (by simp only[size_toArray] <;> lia) ⟨.int ys.length,H,I.tok _,⟨s.toks+1,by rw[size_toArray,a]⟩,q⟩
 .obtain⟨d,c,b,i⟩:=I.tuple hq
  have a:=c.length;exact len_tuple b (by simp only[size_toArray] <;> lia) ⟨.int ys.length,H,I.tok _,⟨s.toks+1,by rw[size_toArray,a]⟩,q⟩
theorem call_len_str:CallR X (.builtin "len") (λxs H Q=>∃ z,xs=[.str z]/\z.length<=sizeLine/\Q (.int z.length) H):=by
 intro a s b H xs f Q I r h;obtain⟨z,rfl,d,q⟩:=h;obtain⟨u,rfl,t,rfl⟩:=eC r;have c:=fu;exact len_str (by lia) ⟨.int z.length,H,I.tok _,⟨_,rfl⟩,q⟩
theorem CallR.or{f:Value}{r c:List V->Hp->VK->Prop}(h:CallR X f r)(h':CallR X f c):CallR X f (λxs H Q=>r xs H Q\/c xs H Q):=by
 intro a s b H xs g Q I d q
 rcases q with q | q
 .exact h a s b H xs g Q I d q
 .exact h' a s b H xs g Q I d q
inductive rListOf(K:Frag)(xs:List V)(H:Hp)(Q:VK):Prop
 | mk(p:Addr)(ys:List V)(h0:xs=[.ref p])(h1:SqL K H p ys\/SqT K H p ys)(h2:∀ l,H l=none->Q (.ref l) (upd H l (.lst ys))):rListOf K xs H Q
theorem gC:CallR X (.type "list") (rListOf X.K):=by
 intro k s A H C D Q I r h;obtain⟨p,w,rfl,hq,q⟩:=h;obtain⟨u,rfl,B⟩:=eC r;cases B
 have g:∀(a:List Value),Vals w a->w.length<=sizeLine->∀(c:Heap) (f:Nat),(∀ b o',s.heap.get? b=some o'->c.get? b=some o') ->
   c.get? s.heap.objs.size=some { cls:=.type "list",dict:=none,data:=.seq a.toArray f,slots:=#[] }->EP X k A Q (.ref s.heap.objs.size) { s with heap:=c }:=λa d j c f i e =>
  ⟨.ref s.heap.objs.size,_,I.laid (t':=s.toks) i (Nat.le_refl _) (show ObjOk X.prog X.w _ c _ (.lst w) from⟨j,a,f,d,e⟩),rfl,q _ (I.hok.fresh (Nat.le_refl _))⟩
 rcases hq with hq | hq
 .obtain⟨a,d,v,j⟩:=I.list hq
  have l:=d.length;obtain⟨o,z,y,n,x⟩:=v.isList;exact call_list_seq p (.inl rfl) z y x (λc f i e=>g a d j c f i e) (by simp only[size_toArray] <;> lia)
 .obtain⟨a,d,v,j⟩:=I.tuple hq
  have l:=d.length;obtain⟨o,z,y,n,x⟩:=v;exact call_list_seq p (.inr rfl) z y x (λc f i e=>g a d j c f i e) (by simp only[size_toArray] <;> lia)
theorem gm:CallR X (.type "tuple") (λxs H Q=>∃ p ys,xs=[.ref p]/\((SqL X.K H p ys/\∀ l,H l=none->Q (.ref l) (upd H l (.tup ys)))\/(SqT X.K H p ys/\Q (.ref p) H))):=by
 intro a s j H xs z Q I r h;obtain⟨p,ys,rfl,h⟩:=h;obtain⟨u,rfl,x⟩:=eC r;cases x
 rcases h with⟨g,q⟩ | ⟨g,q⟩
 .obtain⟨c,i,f,n⟩:=I.list g
  have v:=i.length;refine call_tuple_list f.isList (λd w=>?_) (by simp only[size_toArray] <;> lia);have k:Inv X a j H { s with heap:=d }:=I.kept (t':=s.toks) w
  have y:Inv X a j (upd H d.objs.size (.tup ys)) { s with heap:=d.push { cls:=.type "tuple",data:=.seq c.toArray } } :=
   k.laid (t':=s.toks) (λb o e=>Heap.get?_push_of_some _ e) (Nat.le_refl _) (show ObjOk X.prog X.w _ _ _ (.tup ys) from⟨n,c,i,IsTup.new _ _⟩)
  exact⟨.ref d.objs.size,_,y,rfl,q _ (k.hok.fresh (Nat.le_refl _))⟩
 .obtain⟨c,i,f,n⟩:=I.tuple g
  exact call_tuple_same f ⟨.ref p,H,I,rfl,q⟩
def tyV(K:Frag)(T:String)(x:V)(H:Hp):Prop:=match x with
 | .str _=>T = "str"
 | .int _=>T = "int"
 | .ref p=>(T = "list" /\ ∃ xs,SqL K H p xs)\/(T = "tuple" /\ ∃ o,K.lookup p=some o/\o.cls=.type "tuple" /\ o.dict=none) \/
   (T = "dict" /\ ((∃ kvs,H p=some (.dK kvs))\/∃ kvs,H p=some (.dT kvs)))\/(T = "set" /\ ∃ S n,H p=some (.set S n))
 | _=>False
theorem vk{f:List (Addr×Obj)}{l:St}{H:Hp}{s:Shared}{T:String}{x:V}{v:Value}(I:Inv X f l H s)(r:RelV x v)(ty:tyV X.K T x H) :
  s.TypeIs v T/\∀ a,v=.ref a->∃ ob,s.heap.get? a=some ob/\ob.dict=none:=by
 cases x with
 | str z =>
  obtain⟨t,rfl⟩:=r;cases(show T = "str" from ty);exact⟨typeIs_str s z t,λ_ e=>nomatch e⟩
 | int i =>
  obtain⟨t,rfl⟩:=r;cases(show T = "int" from ty);exact⟨typeIs_int s i t,λ_ e=>nomatch e⟩
 | ref p =>
  cases r
  rcases ty with⟨rfl,y,q⟩ | ⟨rfl,o,b,u,j⟩ | ⟨rfl,b⟩ | ⟨rfl,S,n,b⟩
  .obtain⟨w,_,k,_⟩:=I.list q
   refine⟨k.isList.typeIs,λa e=>?_⟩;cases e;obtain⟨o,n,e,c,j,_⟩:=k;exact⟨o,e,j⟩
  .refine⟨⟨o,I.kIn p o b,u⟩,λa e=>?_⟩
   cases e;exact⟨o,I.kIn _ o b,j⟩
  .have z:∃ o,s.heap.get? p=some o/\o.ExactDict:=by
    rcases b with⟨h,b⟩ | ⟨h,b⟩
    .obtain⟨_,_,_,_,o,_,_,e,d,_⟩:=I.hok p _ b
     exact⟨o,e,d⟩
    .obtain⟨_,_,_,_,o,_,_,e,d,_⟩:=I.hok p _ b
     exact⟨o,e,d⟩
   obtain⟨o,e,d⟩:=z;refine⟨⟨o,e,d.1⟩,λa g=>?_⟩;cases g;exact⟨o,e,d.2.1⟩
  .obtain⟨o,_,_,_,e,d,_⟩:=I.hok p _ b
   refine⟨⟨o,e,d.1⟩,λa g=>?_⟩;cases g;exact⟨o,e,d.2.1⟩
 | _=>exact False.elim ty
def yR(K:Frag)(T:String)(r:V->List V->Hp->VK->Prop)(to:TE):TE:=λσ H Q=>to σ H λx H1=>tyV K T x H1/\r x [] H1 Q
def tBM(K:Frag)(T:String)(r:V->List V->Hp->VK->Prop)(to:TE)(t:TA):TE:=λσ H Q=>to σ H λx H1=>tyV K T x H1/\t σ H1 λxs H2=>r x xs H2 Q
variable {o e:Expr}{es:List Expr}{to:TE}{t:TA}{name:Str}{apos cpos:Pos}{T id:String}{r:V->List V->Hp->VK->Prop}
theorem wp(y:PlainAttrs T)(d:Slot T name id)(f:typeOf (.builtin id)=pure (.type "method_descriptor"))(k:MtR X id r)(z:PE X o to)
  (c:attributeBase o name X.env (eval o X.env)=eval o X.env:=by rfl) (b:(apos.endLine == cpos.line)=true:=by rfl):PE X (.Call (.Attribute o name apos) [] [] cpos) (yR X.K T r to):=by
 intro a s g H Q I h;refine wpAny_Call_method0_late c b (thn (z a s g H _ I h) λv w ⟨x,p,j,i,n,q⟩=>?_);obtain⟨u,l⟩:=vk j i n;exact⟨T,id,y,d,f,u,l,Calls.callWith_builtin rfl (PySem.evalArgs_none (k a w g p x [] v [] Q j i .nil q))⟩
theorem yw(B:PlainAttrs T)(g:Slot T name id)(i:typeOf (.builtin id)=pure (.type "method_descriptor"))(w:MtR X id r)(C:PE X o to)(D:PA X (e::es) t)
  (d:attributeBase o name X.env (eval o X.env)=eval o X.env:=by rfl)
  (f:((backTo cpos (starEach (e::es) X.env)).all (λx=>!x.1) && (backToKw cpos (keywordEach [] X.env)).all (λx=>x.1.isSome)
   && decide ((e::es).length+([]:List Keyword).length+(if ([]:List Keyword).isEmpty then 0 else 1)<30))=true:=by rfl)
  (c:(apos.endLine == cpos.line)=true:=by rfl) (u:starEach (e::es) X.env=(false,eval e X.env)::starEach es X.env:=by rfl) (b:(backTo cpos (starEach es X.env)).any (·.1)=false:=by rfl) :
  PE X (.Call (.Attribute o name apos) (e::es) [] cpos) (tBM X.K T r to t):=by
 intro a s j H Q I h;refine wpAny_Call_method_late d f c rfl (thn (C a s j H _ I h) λv z ⟨x,K,l,n,p,E⟩=>?_);obtain⟨F,y⟩:=vk l n p;refine⟨T,id,B,g,i,F,y,?_⟩;have k:=D cpos a z j K _ l E;rw[u]at k ⊢;refine Calls.callWith_builtin (by show(false || (backTo cpos (starEach es X.env)).any (·.1))=false;rw[b] <;> rfl) (Calls.evalArgs_plain ?_);exact thn k λJ M ⟨q,A,G,N,L⟩=>w a M j A x q v J Q G n N L
end
def MtM(X:Cx)(id:String)(r:V->List V->Hp->VK->Prop):Prop :=
 ∀(pins:List (Addr×Obj)) (s:Shared) (σ:St) (H:Hp) (x:V) (xs:List V) (v:Value) (us:List Value) (Q:VK),Inv X pins σ H s->RelV x v->Vals xs us->r x xs H Q ->
  wpAny (model X.prog X.w) X.A (call (.builtin id) (v::us)) (EP X pins σ Q) X.xe s
theorem Vals.one:∀{x:V}{us:List Value},Vals [x] us->∃ u,us=[u]/\RelV x u
 | _,_,.cons r .nil=>⟨_,rfl,r⟩
theorem Vals.zero:∀{us:List Value},Vals [] us->us=[]
 | _,.nil=>rfl
theorem Vals.dropLast{xs:List V}{us:List Value}(h:Vals xs us):Vals xs.dropLast us.dropLast:=by
 induction h with
 | nil=>exact .nil
 | cons r t ih =>
  cases t with
  | nil=>exact .nil
  | cons q t'=>exact .cons r ih
theorem Vals.rep{xs:List V}{us:List Value}(h:Vals xs us):∀ k:Nat,Vals (List.replicate k xs).flatten (List.replicate k us).flatten
 | 0=>.nil
 | k+1=>by
  rw[replicate_succ,replicate_succ,flatten_cons,flatten_cons];exact Vals.append h (Vals.rep h k)
theorem pG{c:Type}(l:List c):l.eraseIdx (l.length - 1)=l.dropLast:=by
 induction l with
 | nil=>rfl
 | cons a r ih =>
  cases r with
  | nil=>rfl
  | cons b r =>
   have e:(a::b::r).length - 1=((b::r).length - 1)+1:=by
    have d:(a::b::r).length=r.length+2:=rfl;have f:(b::r).length=r.length+1:=rfl;lia
   rw[e,List.eraseIdx_cons_succ,ih]
   all_goals rfl
theorem kM(its:List Value):∀(k:Nat) (acc:List Value),
  List.foldl (λx1 x2=>x1++x2) acc.toArray (List.replicate k its.toArray)=(acc++(List.replicate k its).flatten).toArray
 | 0,acc=>by simp
 | k+1,acc=>by
  have e:acc.toArray++its.toArray=(acc++its).toArray:=by simp
  have a:(acc++its)++(List.replicate k its).flatten=acc++(List.replicate (k+1) its).flatten:=by
   rw[replicate_succ,flatten_cons,append_assoc]
  rw[<- a,<- kM its k (acc++its),<- e,replicate_succ,foldl_cons]
section
variable {X:Cx}{pins:List (Addr×Obj)}{σ:St}{H:Hp}{s:Shared}{l b:Addr}{xs ys zs:List V}
theorem Inv.lset{its its':List Value}{n:Nat}{f:Array Value->Array Value}{t':Nat}(I:Inv X pins σ H s)(a:H l=some (.lst xs))
  (e:s.heap.get? l=some { cls:=.type "list",data:=.seq its.toArray n }) (c:f its.toArray=its'.toArray) (d:Vals ys its') (hz:ys.length<=sizeLine) :
  Inv X pins σ (upd H l (.lst ys)) { s with heap:=s.heap.update l (Obj.mapSeq f),toks:=t' }:=by
 have q:=PySem.IsL.update e f;rw[c]at q;refine I.write (x:=l) (e:=l) (by rw[a];exact trivial) (.inl rfl) (λh u b g=>(Heap.get?_update_other s.heap (Obj.mapSeq f) (Ne.symm b)).trans g) ⟨_,q⟩ ?_;exact⟨hz,its',_,d,q⟩
theorem Inv.lnew{its:List Value}{t':Nat}(I:Inv X pins σ H s)(a:Vals ys its)(hz:ys.length<=sizeLine) :
  Inv X pins σ (upd H s.heap.objs.size (.lst ys)) { s with heap:=s.heap.push { cls:=.type "list",data:=.seq its.toArray },toks:=t' } :=
 I.laid (λ_ _ q=>Heap.get?_push_of_some _ q) (Nat.le_refl _) ⟨hz,its,0,a,Heap.get?_push_size _ rfl⟩
theorem Inv.fresh(I:Inv X pins σ H s):H s.heap.objs.size=none:=I.hok.fresh (Nat.le_refl _)
theorem Inv.lstM(I:Inv X pins σ H s)(a:H l=some (.lst xs)):xs.length<=sizeLine/\∃(its:List Value) (n:Nat),Vals xs its/\xs.length=its.length/\s.heap.get? l=some { cls:=.type "list",data:=.seq its.toArray n }:=by
 obtain⟨z,its,n,r,e⟩:=I.hok l _ a;exact⟨z,its,n,r,r.length,e⟩
theorem nj{n:Nat}(h:n<=sizeLine):Builtin.List.listTooLong n=false:=by
 unfold Builtin.List.listTooLong;exact decide_eq_false (by lia)
end
section
variable {X:Cx}
inductive rAppend(x:V)(vs:List V)(H:Hp)(Q:VK):Prop
 | mk(l:Addr)(xs:List V)(y:V)(h0:x=.ref l)(h1:vs=[y])(h2:H l=some (.lst xs))(h3:xs.length<sizeLine)(h4:Q .non (upd H l (.lst (xs++[y])))):rAppend x vs H Q
theorem kh:MtM X "list.append" rAppend:=by
 intro c s j H x o v w Q I g f h;obtain⟨l,k,y,rfl,rfl,b,p,q⟩:=h;cases g;obtain⟨u,rfl,d⟩:=f.one;obtain⟨z,a,n,r,i,e⟩:=I.lstM b;refine call_meets F.slot_list_append ⟨_,e,rfl⟩ F.entry_list_append (F.args_list_append_2 _ _) (PySem.list_append l a.toArray n u (by rw[size_toArray];lia)) ⟨e,?_⟩;refine⟨.non,_,I.lset (its':=a++[u]) b e (by simp) (r.append (.cons d .nil)) ?_,rfl,q⟩;rw[length_append,length_singleton];lia
def p5:V->List V->Hp->VK->Prop:=λx vs H Q=>∃ l b xs zs,x=.ref l/\vs=[.ref b]/\H l=some (.lst xs)/\H b=some (.lst zs)/\xs.length+zs.length<=sizeLine/\Q .non (upd H l (.lst (xs++zs)))
theorem rP:MtM X "list.extend" p5:=by
 intro g s J H x D v M Q I p y h;obtain⟨l,b,E,G,rfl,rfl,i,A,L,q⟩:=h;cases p;obtain⟨u,rfl,o⟩:=y.one;cases o;obtain⟨z,c,n,r,C,e⟩:=I.lstM i;obtain⟨K,a,j,B,w,k⟩:=I.lstM A;have f:c.toArray.size+a.toArray.size<=sizeLine:=by rw[size_toArray,size_toArray];lia
 have d:¬(!c.toArray.isEmpty && Builtin.List.listTooLong (c.toArray.size+a.toArray.size))=true:=by
  rw[nj f,Bool.and_false];exact Bool.false_ne_true
 refine call_meets F.slot_list_extend ⟨_,e,rfl⟩ F.entry_list_extend (F.args_list_extend_2 _ _)
  (AutoSeq1.list_extend_list_list_0 l c.toArray n b a.toArray j d (by rw[size_toArray];lia) (by lia)) ⟨e,k,?_⟩
 refine⟨.non,_,I.lset (its':=c++a) i e (by simp) (r.append B) ?_,rfl,q⟩;rw[length_append];lia
def AV:V->List V->Hp->VK->Prop:=λx vs H Q=>∃ l xs y,x=.ref l/\vs=[]/\H l=some (.lst xs)/\xs[xs.length - 1]? = some y/\Q y (upd H l (.lst xs.dropLast))
theorem yU:MtM X "list.pop" AV:=by
 intro f s w H x B v C Q I o k h;obtain⟨l,A,y,rfl,rfl,d,i,q⟩:=h;cases o;have c:=k.zero;subst c;obtain⟨z,a,n,r,g,e⟩:=I.lstM d;obtain⟨u,p,j⟩:=r.get i
 have b:a.toArray[a.toArray.size - 1]? = some u:=by
  show a.toArray[a.length - 1]? = some u;rw[<- Array.getElem?_toList,<- g];exact p
 refine call_meets F.slot_list_pop ⟨_,e,rfl⟩ F.entry_list_pop (F.args_list_pop_1 _) (MeetsSeq.list_pop_last l a.toArray n u b (by rw[size_toArray];lia)) ⟨e,?_⟩;refine⟨y,_,I.lset (its':=a.dropLast) d e ?_ r.dropLast ?_,j,q⟩
 .show a.toArray.eraseIdxIfInBounds (a.toArray.size - 1)=a.dropLast.toArray
  rw[size_toArray,List.eraseIdxIfInBounds_toArray,pG]
 .rw[List.length_dropLast]
  lia
def vJ:V->List V->Hp->VK->Prop:=λx vs H Q=>∃ l xs,x=.ref l/\vs=[]/\H l=some (.lst xs)/\Q .non (upd H l (.lst []))
theorem vn:MtM X "list.clear" vJ:=by
 intro d s j H x o v p Q I g f h;obtain⟨l,k,rfl,rfl,c,q⟩:=h;cases g;have b:=f.zero;subst b;obtain⟨z,a,n,r,i,e⟩:=I.lstM c;refine call_meets F.slot_list_clear ⟨_,e,rfl⟩ F.entry_list_clear (F.args_list_clear_1 _) (AutoSeq1.list_clear_list_0 l a.toArray n (by rw[size_toArray];lia)) ⟨e,?_⟩;exact⟨.non,_,I.lset (its':=[]) (ys:=[]) c e rfl .nil (Nat.zero_le _),rfl,q⟩
inductive rCat(x y:V)(H:Hp)(Q:VK):Prop
 | mk(l b:Addr)(xs zs:List V)(h0:x=.ref l)(h1:y=.ref b)(h2:H l=some (.lst xs))(h3:H b=some (.lst zs))(h4:xs.length+zs.length<=sizeLine)(h5:∀ p,H p=none->Q (.ref p) (upd H p (.lst (xs++zs)))):rCat x y H Q
theorem zN:OpR X (binaryOp .Add) rCat:=by
 intro d s E H x y v u Q I o k h;obtain⟨l,b,D,C,rfl,rfl,i,j,G,q⟩:=h;cases o;cases k;obtain⟨z,c,n,r,A,e⟩:=I.lstM i;obtain⟨F,a,B,w,g,f⟩:=I.lstM j;refine PySem.P.add_list e f ?_ (by rw[size_toArray,size_toArray];lia);have p:c.toArray++a.toArray=(c++a).toArray:=by simp
 rw[p];exact⟨.ref _,_,I.lnew (t':=s.toks) (r.append w) (by rw[length_append];lia),rfl,q _ I.fresh⟩
def Cc:R2:=λx y H Q=>∃ l k xs,x=.ref l/\y=.int k/\H l=some (.lst xs)/\-(2 ^ 63)<=k/\k<2 ^ 63/\xs.length*k.toNat<=sizeLine /\
 ∀ p,H p=none->Q (.ref p) (upd H p (.lst (List.replicate k.toNat xs).flatten))
theorem xq{a:Type}(xs:List a)(k:Nat):(List.replicate k xs).flatten.length=k*xs.length:=by
 induction k with
 | zero=>simp
 | succ k ih=>rw[replicate_succ,flatten_cons,length_append,ih,Nat.succ_mul,Nat.add_comm]
theorem zk:OpR X (binaryOp .Mult) Cc:=by
 intro p s M H x y v u Q I B E h;obtain⟨l,k,L,rfl,rfl,K,G,D,w,q⟩:=h;cases B;obtain⟨t,rfl⟩:=E;obtain⟨z,b,n,r,A,e⟩:=I.lstM K;have g:b.toArray.size*k.toNat<=sizeLine:=by rw[size_toArray,<- A];exact w
 have i:¬b.toArray.size*k.toNat > (2 ^ 63 - 1)/8:=by
  have:(sizeLine:Nat)<=(2 ^ 63 - 1)/8:=by decide
  lia
 have d:¬(!Builtin.List.listFitsIndex k)=true:=by
  rw[fitsIndex_both G D];exact Bool.false_ne_true
 have c:¬Builtin.List.listTooLong (b.toArray.size*k.toNat)=true:=by
  rw[nj g];exact Bool.false_ne_true
 have f:List.foldl (λj o=>j++o) #[] (List.replicate (if b.toArray.isEmpty=true then 0 else k.toNat) b.toArray)=(List.replicate k.toNat b).flatten.toArray:=by
  have C:∀ m:Nat,List.foldl (λj o=>j++o) #[] (List.replicate m b.toArray)=(List.replicate m b).flatten.toArray:=λm=>by
   have:=kM b m [];rw[nil_append]at this;exact this
  rw[C];cases b with
  | nil=>simp
  | cons a r'=>rw[if_neg (by simp)]
 refine wpAny_binaryOp_repeat_ref (T := "list") (U := "int") (by decide) ⟨_,e,rfl⟩ (λJ=>typeIs_int J k t) noFill_list_mul F.fills_int_mul F.slot_int_rmul repeat_list F.slot_int_index.lookup
  (call_meets F.slot_int_rmul (typeIs_int s k t) F.entry_int_rmul (F.args_int_rmul_2 _ _) (int___rmul___int_list k t l b.toArray n)
   ⟨e,rfl,⟨_,e,rfl⟩,call_meets F.slot_list_mul ⟨_,e,rfl⟩ F.entry_list_mul (F.args_list_mul_2 _ _) (AutoListH.list___mul___list_int_3 l b.toArray n k t d i c) ⟨e,?_⟩⟩)
 rw[f];exact⟨.ref _,_,I.lnew (t':=s.toks) (r.rep k.toNat) (by rw[xq,Nat.mul_comm];exact w),rfl,q _ I.fresh⟩
end
section
variable {prog:Program}{w:World}{A:Around}{E:Value->Shared->Prop}{s:Shared}
set_option maxRecDepth 100000 in
end
section
variable {X:Cx}
end
end L2
namespace Att
open PySem PySem.W PySem.Calls PyProof.Rows
theorem iP{P:Params}{h:Heap}:∀(ns:List Int) (vs:List Value),WellAll P h vs (ns.map WData.int)->IntsAre vs ns:=by
 intro ns
 induction ns with
 | nil =>
  intro vs w;rw[map_nil]at w;cases w;exact .nil
 | cons n ns ih =>
  intro vs w;rw[map_cons]at w;cases w with
  | cons a b =>
   cases a;exact .cons _ _ (ih _ b)
theorem sZ{l:OpenLaw}{n:Nat}(u:l.most=some n){P:Params}{h:Heap}{args:List WData}{c:List Value}
  (b:l.row.toRowW.claim.pre args=true) (k:WellAll P h c args) :
  ∃ a vs ns,c=[Value.ref a]/\args=[WData.list (ns.map WData.int)]/\h.get? a=some { cls:=.type "list",data:=.seq vs.toArray }/\IntsAre vs ns/\ns.length<=n:=by
 have j:WShape.hasAll [] args [.list .int]=true:=(pre_splitW b).1;have o:l.pre.holds [] { args:=args }=true:=(pre_splitW b).2;obtain⟨d,r,rfl,w,v⟩:=hasAllW_cons j;obtain rfl:=hasAllW_nil v;obtain⟨x,rfl,s⟩:=hasW_list w;obtain⟨ns,rfl⟩:=items_int s
 have f:ns.length<=n:=by
  unfold OpenLaw.pre at o
  have i:(WTm.not (.lt (.lit (.int (n:Int))) (.len (.arg 0)))).holds [] { args:=[.list (ns.map .int)] }=true:=by
   have i:=(holds_andW o).1;rw[u]at i;exact i
  have g:=condW_of i (w_not (w_lt w_lit (w_len_list (w_arg rfl))));rw[length_map]at g;refine Nat.le_of_not_lt λq=>?_
  have p:(n:Int)<((ns.length:Nat):Int):=by lia
  first
   | (rw[decide_eq_true p]at g;exact absurd g (by decide))
   | (simp at g;lia)
 cases k with
 | cons w1 w2 =>
  cases w2;cases w1 with
  | list ho hall=>exact⟨_,_,ns,rfl,rfl,ho,iP ns _ hall,f⟩
theorem rY(l:OpenLaw)(args:List WData):l.row.toRowW.claim.post args (.bool true) args=true :=
 postW_of (r:=l.row.toRowW) (X:=(true == true))
  (show WShape.has [] (.bool true) .bool=true by first | rfl | decide | simp[WShape.has,WShape.arms,WShape.armsAll])
  (show(WTm.eq .res (.lit (.bool true))).value [] { args:=args,res:=some (.bool true),after:=args }=some (.bool (true == true)) from w_eq_bool (w_res rfl) w_lit) rfl
theorem attach_call{l:OpenLaw}{n:Nat}{q:Program}{b:List Str}{A:(Str->Option Value)->Heap->Prop}{v:World->Heap->Prop}{d:DefRec}
  (C:l.most=some n) (k:d.params.defaults=[])
  (h:∀(w:World) (s₀ s₁:Shared) (mg mb:Str->Option Value) (fa:Addr) (o:Obj) (pm cd doc:Value) (a:Addr) (vs:List Value) (ns:List Int),
   Ground q b [] A w s₀ mg mb s₁.heap->v w s₁.heap ->
   s₁.heap.get? fa=some o->o.data=.func (docDef d.name d.params d.body d.scope pm cd doc)->s₁.heap.CodeRec cd d.name->mg d.name=some (.ref fa) ->
   s₁.heap.get? a=some { cls:=.type "list",data:=.seq vs.toArray }->IntsAre vs ns->ns.length<=n->s₁.gens = #[] ->
   codeAny (model l.prog w) callerA (.call (.ref fa) ⟨[.ref a],[]⟩) (λr s'=>r=.ok (.ret (.bool true))/\OldK s₁.heap s'.heap/\s'.os=s₁.os/\AllBare s'.gens) s₁) :
  WalkO q b A v l.row.toRowW d [] (λf vs=>PySem.call f vs):=by
 intro w s₀ s₁ mg mb G Y fa o pm cd doc I E J O u B p K y x P g z L s M;obtain rfl:I=.none:=Dflts.none B k;obtain rfl:E=.none:=Dflts.noKw B;obtain⟨a,vs,ns,rfl,rfl,i,c,j⟩:=sZ C g s;refine enter_call (codeAny_mono (h w s₀ s₁ mg mb fa o pm cd doc a vs ns G Y J (fd_plain O) u p i c j K) λr s' N=>?_);obtain⟨rfl,H,F,D⟩:=N;exact⟨.inl ⟨.bool true,.bool true,[],rfl,λ_=>rfl,.bool true,rY l _,λ_=>⟨List.Pairwise.nil,λ_ hm=>(nomatch hm)⟩⟩,H,F,D⟩
section
variable {prog:Program}{w:World}{A:Around}{E:Value->Shared->Prop}{s:Shared}{K:Frag}
end
end Att
namespace L2
open PySem PySem.Spec PyProof.Rows
theorem kq:∀{vs:List Value}{ns:List Int},IntsAre vs ns->Vals (ns.map V.int) vs
 | _,_,.nil=>.nil
 | _,_,.cons n t h=>.cons ⟨t,rfl⟩ (kq h)
abbrev KOf{K:Frag}{h:Heap}(_:K.In h):Frag:=K
def bR(s:Stmt)(j:Nat):Stmt:=match s with
 | .ClassDef _ _ _ body _ _ _ _ _ _ _=>body.getD j (.Pass ⟨0,0,0,0⟩)
 | _=>.Pass ⟨0,0,0,0⟩
def ag(s:Stmt):Arguments:=match s with
 | .FunctionDef _ a _ _ _ _ _ _ _ _=>a
 | _=>{ posonlyargs:=[],args:=[],vararg:=none,kwonlyargs:=[],kw_defaults:=[],kwarg:=none,defaults:=[] }
def af(s:Stmt):List Stmt:=match s with
 | .FunctionDef _ _ b _ _ _ _ _ _ _=>b
 | _=>[]
def ac(s:Stmt):Scope:=match s with
 | .FunctionDef _ _ _ _ _ _ sc _ _ _=>sc
 | _=>{ kind:=.function,names:=[],isGenerator:=false,isCoroutine:=false }
abbrev CX0:CXT:=λ_ _ _ _ _ _=>False
abbrev E0:XK:=λ_ _ _=>False
theorem ar{X:Cx}:fj CX0 X E0:=λ_ _ _ _ _ _ _ h=>h.elim
structure Fun(K:Frag)(x qual:Str)(st:Stmt)(f:Addr)(fd:FuncData):Prop where
 ex:∃(oc:Value) (od:Option Addr) (kV doc pm:Value) (an:Option Addr) (cdv ct:Value) (osl:Array (Option Value)),
  fd=fnOf x qual (ag st) (af st) (ac st) .none kV doc pm an cdv ct/\K.lookup f=some ⟨oc,od,.func fd,osl⟩/\codeIn K cdv qual=true
 kp:keepIn K (.ref f)=true
section
variable {P:Program}{w:World}{K:Frag}{mg:Str->Option Value}{base:Heap}
theorem Fun.ok{x a:Str}{c:Stmt}{f:Addr}{j:FuncData}{N ps:List Str}{k:Nat}{sp:Sp}(F:Fun K x a c f j)(S:FnScope N ps (ac c))(i:∀ vs H Q E,sp vs H Q E->vs.length=ps.length)
  (b:∀(cdv:Value) (A:Around) (outer:List Env) (s:Shared) (H:Hp) (vs:List V) (Q:VK) (E:XK),Room k (A.deeper (envOfC a (ac c) s.heap.objs.size f cdv))->sp vs H Q E ->
   ∃ t,PSs (dZ CX0 P w K mg base N a (ac c) f cdv A outer s H E).nox (af c) t/\t { nx:=λ_ H'=>Q .non H',rt:=Q } (start N vs) H):FnOk P w K mg base CX0 (k+1) f j ps sp:=by
 obtain⟨r,B,z,p,u,v,cdv,y,l,rfl,n,g⟩:=F.ex;refine vU n g S i λA outer s H vs Q E o d=>?_
 obtain⟨t,h,q⟩:=b cdv A outer s H vs Q E o d;exact⟨t,h.nox,q⟩
theorem Fun.binds{x a:Str}{b:Stmt}{f:Addr}{c:FuncData}{ps:List Str}(F:Fun K x a b f c)
  (h:∀(kV doc pm:Value) (an:Option Addr) (cdv ct:Value) (us:List Value),us.length=ps.length->bindArgs (fnOf x a (ag b) (af b) (ac b) .none kV doc pm an cdv ct) ⟨us,[]⟩=pure (ps.zip us)):Binds K c ps []:=by
 obtain⟨i,k,kV,doc,pm,an,cdv,ct,d,rfl,j,g⟩:=F.ex;exact .all (h kV doc pm an cdv ct)
theorem ao{x a:Str}{d:Stmt}{f:Addr}{p:Value}{od j:Option Addr}{h:Array (Option Value)}{o g i b n:Value}(l:K.lookup f=some ⟨p,od,.func (fnOf x a (ag d) (af d) (ac d) .none o g i j b n),h⟩)
  (c:codeIn K b a=true) (k:keepIn K (.ref f)=true):Fun K x a d f (fnOf x a (ag d) (af d) (ac d) .none o g i j b n):=⟨⟨p,od,o,g,i,j,b,n,h,rfl,l,c⟩,k⟩
end
theorem iH{A:Around}{k:Nat}(a:Room k A):A.units+1<cLine:=Nat.lt_of_le_of_lt (Nat.add_le_add_left (by decide:1<=64) _) a.units
section
variable {X:Cx}
end
theorem BS{c A B:Prop}[Decidable c](b:c->A)(a:¬c->B):if c then A else B:=by
 by_cases h:c
 .rw[if_pos h]
  exact b h
 .rw[if_neg h]
  exact a h
def Same(H H':Hp):Prop:=∀ b o,H b=some o->H' b=some o
theorem Same.refl(H:Hp):Same H H:=λ_ _ h=>h
theorem Same.trans{H d f:Hp}(a:Same H d)(b:Same d f):Same H f:=λc o h=>b c o (a c o h)
theorem Same.free{H H':Hp}(e:Same H H'){l:Addr}(h:H' l=Option.none):H l=Option.none:=by
 cases q:H l with
 | none=>rfl
 | some o =>
  rw[e l o q]at h;cases h
end L2
set_option maxHeartbeats 4000000
namespace L2
open PySem PySem.Spec PyProof.Rows
def Its(x:Str):It:=⟨λi _=>i<x.cps.size,λi H y H'=>H'=H/\∃ c,x.cps[i]? = some c/\y=.str ⟨#[c]⟩,λi _=>x.cps.size<=i⟩
theorem oe{P:Program}{w:World}{K:Frag}{tg:Expr}(x:Str)(q:Addr){ty:String}{t:Tok}(n:ty = "str_ascii_iterator" \/ ty = "str_iterator") :
  Turn P w K tg (Its x) [q] q (λi h=>h.IsStrIter q ty x t i) where
 mem:=by simp
 obj:=λi h f b a=>by
  have e:b=q:=by simpa using a
  subst e;obtain⟨o,e,c,d⟩:=f;exact⟨o,e,λv z=>by rw[d]at z;cases z⟩
 keep:=λi h l f k=>by
  obtain⟨o,e,r⟩:=f;exact⟨o,k q (by simp) o e,r⟩
 item:=by
  intro X J F L G i j s Q H E I u f R;subst J F L;have p:i<x.cps.size:=R;obtain⟨A,C,S,y,B,D⟩:=u q (by simp)
  rcases n with rfl | rfl
  .refine wpAny_pyNext_ascii_item f (c:=x.cps[i]) (by simp[p]) λl g O=>?_
   have M:Inv X j Q H { s with heap:=l,toks:=s.toks+1 }:=I.turned (λb o a e=>(O.2 b a).trans e) A C y B D;obtain⟨o,e,c,d⟩:=id g;exact⟨_,rfl,mW (s:={ s with heap:=l,toks:=s.toks+1 }) e c d (by decide) ⟨.str ⟨#[x.cps[i]]⟩,H,M,⟨_,rfl⟩,⟨rfl,x.cps[i],by simp[p],rfl⟩,g,λb a=>(u b a).1⟩⟩
  .refine wpAny_pyNext_wide_item f (c:=x.cps[i]) (by simp[p]) λl g O=>?_
   have M:Inv X j Q H { s with heap:=l,toks:=s.toks+1 }:=I.turned (λb o a e=>(O.2 b a).trans e) A C y B D;obtain⟨o,e,c,d⟩:=id g;exact⟨_,rfl,mW (s:={ s with heap:=l,toks:=s.toks+1 }) e c d (by decide) ⟨.str ⟨#[x.cps[i]]⟩,H,M,⟨_,rfl⟩,⟨rfl,x.cps[i],by simp[p],rfl⟩,g,λb a=>(u b a).1⟩⟩
 done:=by
  intro X J F L G i j s Q H E I u f R;subst J F L;have p:x.cps.size<=i:=R;obtain⟨A,C,S,y,B,D⟩:=u q (by simp)
  rcases n with rfl | rfl
  .exact wpAny_pyNext_ascii_end (I.ok.hd G) f (by simp[p]) λl N=>⟨rfl,I.turned (t':=s.toks) (λb o a e=>N b o a e) A C y B D⟩
  .exact wpAny_pyNext_wide_end (I.ok.hd G) f (by simp[p]) λl N=>⟨rfl,I.turned (t':=s.toks) (λb o a e=>N b o a e) A C y B D⟩
 self:=λ_ _ _ _ _ f h=>by
  rcases n with rfl | rfl
  .exact wpAny_pyIter_striter_ascii f h
  .exact wpAny_pyIter_striter_wide f h
def Cj(tl:TE):TI:=λσ H R=>tl σ H λx H1=>∃ z,x=.str z/\R (Its z) H1
theorem zR{X:Cx}{tg l:Expr}{tl:TE}(f:PE X l tl):PI X tg l (Cj tl):=by
 intro a s g H R I h;refine thn (f a s g H _ I h) λv c ⟨x,j,d,i,k⟩=>?_
 obtain⟨z,e,q⟩:=k;subst e;obtain⟨t,rfl⟩:=i;refine wpAny_pyIter_strU ?_;refine⟨c.heap.objs.size,[c.heap.objs.size],_,_,j,rfl,d.kept (t':=c.toks) λb o e=>Heap.get?_push_of_some _ e,oe (ty:=strIterType z) (t:=t) z _ ?_,⟨_,Heap.get?_push_size _ rfl,rfl,rfl⟩,λb hb=>?_,q⟩
 .unfold strIterType
  split
  .exact .inl rfl
  .exact .inr rfl
 .have e:b=c.heap.objs.size:=by simpa using hb
  subst e;exact d.fpOk (Nat.le_refl _) (d.hok.fresh (Nat.le_refl _))
def Wk:St->St->Prop
 | [],[]=>True
 | Option.none::r,_::q=>Wk r q
 | some a::r,b::q=>b=some a/\Wk r q
 | _,_=>False
theorem Wk.len:∀{a b:St},Wk a b->a.length=b.length
 | [],[],_=>rfl
 | Option.none::r,_::q,h=>congrArg (· + 1) (Wk.len (a:=r) (b:=q) h)
 | some _::r,_::q,h=>congrArg (· + 1) (Wk.len (a:=r) (b:=q) h.2)
 | [],_::_,h=>h.elim
 | Option.none::_,[],h=>h.elim
 | some _::_,[],h=>h.elim
theorem Wk.get:∀{a b:St},Wk a b->∀(i:Nat) v,a[i]? = some (some v)->b[i]? = some (some v)
 | [],[],_,i,v,e=>by simp at e
 | Option.none::r,y::q,h,0,v,e=>by simp at e
 | Option.none::r,y::q,h,i+1,v,e=>by simpa using Wk.get (a:=r) (b:=q) h i v (by simpa using e)
 | some x::r,y::q,h,0,v,e=>by
  have c:x=v:=by simpa using e
  rw[h.1,c] <;> simp
 | some x::r,y::q,h,i+1,v,e=>by simpa using Wk.get (a:=r) (b:=q) h.2 i v (by simpa using e)
 | [],_::_,h,_,_,_=>h.elim
 | Option.none::_,[],h,_,_,_=>h.elim
 | some _::_,[],h,_,_,_=>h.elim
def cQ(cells:List (Str×Addr)):List (Str×NameKind)->List (Str×Addr)->List (Str×Addr)
 | [],acc=>acc
 | (n,k)::r,acc=>if k == .free then cQ cells r ((n,(cells.lookup n).getD 0)::acc) else cQ cells r acc
theorem dG{d:Scope}{env:Env}(h:∀ y∈d.names,y.2=.free->∃ c,env.cells.lookup y.1=some c):closureFor d env=pure (cQ env.cells d.names []):=by
 unfold closureFor
 have g:∀(l:List (Str×NameKind)) (b:List (Str×Addr)),(∀ y∈l,y.2=.free->∃ c,env.cells.lookup y.1=some c) ->
   (forIn l b λx r=>match x with | (name,kind)=>if (kind == .free)=true then do let a <- cellOf env name;pure (ForInStep.yield ((name,a)::r)) else pure (ForInStep.yield r):Sem (List (Str×Addr)))=pure (cQ env.cells l b):=by
  intro l
  induction l with
  | nil=>intro b _;rfl
  | cons y r ih =>
   intro b i;obtain⟨n,k⟩:=y;have j:∀ y∈r,y.2=.free->∃ c,env.cells.lookup y.1=some c:=λy q=>i y (mem_cons_of_mem _ q)
   rw[List.forIn_cons]
   by_cases hk:k=.free
   .subst hk
    obtain⟨c,p⟩:=i (n,.free) mem_cons_self rfl;have s:cellOf env n=pure c:=by unfold cellOf;rw[p]
    have f:cQ env.cells ((n,.free)::r) b=cQ env.cells r ((n,c)::b):=by
     show(if (NameKind.free == NameKind.free)=true then cQ env.cells r ((n,(env.cells.lookup n).getD 0)::b) else cQ env.cells r b)=_;rw[if_pos (by decide),p];rfl
    rw[f,<- ih ((n,c)::b) j];show(do let x <- (if (NameKind.free == NameKind.free)=true then do let a <- cellOf env n;pure (ForInStep.yield ((n,a)::b)) else pure (ForInStep.yield b):Sem _);_)=_;rw[if_pos (by decide),s];rfl
   .have o:(k == NameKind.free)=false:=by simpa using hk
    have f:cQ env.cells ((n,k)::r) b=cQ env.cells r b:=by
     show(if (k == NameKind.free)=true then cQ env.cells r ((n,(env.cells.lookup n).getD 0)::b) else cQ env.cells r b)=_;rw[o];rfl
    rw[f,<- ih b j];show(do let x <- (if (k == NameKind.free)=true then do let a <- cellOf env n;pure (ForInStep.yield ((n,a)::b)) else pure (ForInStep.yield b):Sem _);_)=_;rw[o];rfl
 have:=g d.names [] h
 first | exact this | (rw[this];rfl) | simpa using this
theorem dB{a:List (Str×Addr)}:∀{l:List (Str×NameKind)}{acc:List (Str×Addr)}{n:Str}{c:Addr},(∀ y∈l,y.2=.free->∃ c,a.lookup y.1=some c)->(∀ n c,acc.lookup n=some c->a.lookup n=some c) ->
  (cQ a l acc).lookup n=some c->a.lookup n=some c
 | [],acc,n,c,_,ha,e=>ha n c e
 | (m,k)::r,acc,n,c,hl,ha,e=>by
  have h:∀ y∈r,y.2=.free->∃ c,a.lookup y.1=some c:=λy i=>hl y (mem_cons_of_mem _ i)
  have b:(if (k == NameKind.free)=true then cQ a r ((m,(a.lookup m).getD 0)::acc) else cQ a r acc).lookup n=some c:=e
  by_cases hk:(k == NameKind.free)=true
  .rw[if_pos hk]at b
   refine dB h (λn c z=>?_) b;obtain⟨d,j⟩:=hl (m,k) mem_cons_self (by simpa using hk);rw[lookup_cons]at z
   by_cases hn:(n == m)=true
   .rw[hn]at z
    have:n=m:=by simpa using hn
    subst this;have g:a.lookup n=some d:=j;rw[g]at z ⊢;simpa using z
   .have f:(n == m)=false:=by simpa using hn
    rw[f]at z;exact ha n c z
  .rw[if_neg hk]at b
   exact dB h ha b
theorem dP{b:List (Str×Addr)}:∀{l:List (Str×NameKind)}{acc:List (Str×Addr)}{n:Str},((n,NameKind.free)∈l\/∃ c,acc.lookup n=some c)->∃ c,(cQ b l acc).lookup n=some c
 | [],acc,n,h=>by
  rcases h with h | h
  .cases h
  .exact h
 | (m,k)::r,acc,n,h=>by
  show ∃ c,(if (k == NameKind.free)=true then cQ b r ((m,(b.lookup m).getD 0)::acc) else cQ b r acc).lookup n=some c
  have d:∀ a,n=m\/(∃ c,acc.lookup n=some c)->∃ c,((m,a)::acc).lookup n=some c:=λa z=>by
   rw[lookup_cons]
   by_cases hn:(n == m)=true
   .rw[hn];exact⟨_,rfl⟩
   .have f:(n == m)=false:=by simpa using hn
    rw[f]
    rcases z with z | z
    .exact absurd (by simpa using z) hn
    .exact z
  by_cases hk:(k == NameKind.free)=true
  .rw[if_pos hk]
   refine dP ?_
   rcases h with h | h
   .rcases mem_cons.mp h with e | h
    .exact .inr (d _ (.inl (congrArg Prod.fst e)))
    .exact .inl h
   .exact .inr (d _ (.inr h))
  .rw[if_neg hk]
   refine dP ?_
   rcases h with h | h
   .rcases mem_cons.mp h with e | h
    .have:k=.free:=(congrArg Prod.snd e).symm
     rw[this]at hk;exact absurd (by decide) hk
    .exact .inl h
   .exact .inr h
def rlb(env:Env)(p:Str×NameKind):Str×NameKind:=if (p.2 == NameKind.free && env.scope.kind == ScopeKind.function && env.kindOf p.1 == some NameKind.cell)=true then (p.1,NameKind.cell) else p
theorem gi(a:Scope)(env:Env):(relabel a env).names=a.names.map (rlb env):=rfl
theorem pW(env:Env)(p:Str×NameKind):(rlb env p).1=p.1:=by
 unfold rlb
 split <;> rfl
theorem mZ{env:Env}{p:Str×NameKind}(h:p.2≠.cell)(h2:(rlb env p).2=.cell\/(rlb env p).2=.free):p.2=.free:=by
 unfold rlb at h2
 split at h2
 .rename_i q
  rw[Bool.and_eq_true,Bool.and_eq_true]at q;simpa using q.1.1
 .rcases h2 with h2 | h2
  .exact absurd h2 h
  .exact h2
theorem gg{env:Env}:∀{names:List (Str×NameKind)}{x:Str}{k:NameKind},(∀ y∈names,y.2≠.cell)->(k=.cell\/k=.free)->(names.map (rlb env)).lookup x=some k->(x,NameKind.free)∈names
 | [],x,k,_,_,e=>by simp at e
 | p::r,x,k,hc,hk,e=>by
  have g:∀ y∈r,y.2≠.cell:=λy c=>hc y (mem_cons_of_mem _ c)
  have f:rlb env p=(p.1,(rlb env p).2):=by rw[<- pW env p]
  rw[map_cons,f,lookup_cons]at e
  by_cases hx:x=p.1
  .have a:(x == p.1)=true:=by simpa using hx
   rw[a]at e;have b:(rlb env p).2=k:=Option.some.inj e;have d:=mZ (env:=env) (hc p mem_cons_self) (by rw[b];exact hk);have:(x,NameKind.free)=p:=by rw[hx,<- d]
   rw[this];exact mem_cons_self
  .have a:(x == p.1)=false:=by simpa using hx
   rw[a]at e;exact mem_cons_of_mem _ (gg g hk e)
theorem eN{env:Env}{a:Scope}{x:Str}{k:NameKind}(b:∀ y∈a.names,y.2≠.cell)(c:k=.cell\/k=.free)(e:(relabel a env).names.lookup x=some k):(x,NameKind.free)∈a.names :=
 gg (env:=env) b c (by rw[<- gi];exact e)
def jB(ix:List (Option Nat))(σ:St):St:=ix.map λo=>o.bind λi=>(σ[i]?).join
def FreeOk(XN:List Str)(env:Env)(sc:Scope):List Str->List (Option Nat)->Prop
 | [],[]=>True
 | _::N,Option.none::ix=>FreeOk XN env sc N ix
 | y::N,some i::ix=>XN[i]? = some y/\env.kindOf y=some .cell/\(relabel sc env).names.lookup y=some .cell/\FreeOk XN env sc N ix
 | _,_=>False
theorem FreeOk.len{a:List Str}{env:Env}{b:Scope}:∀{N:List Str}{ix:List (Option Nat)},FreeOk a env b N ix->ix.length=N.length
 | [],[],_=>rfl
 | _::N,Option.none::ix,h=>congrArg (· + 1) (FreeOk.len (N:=N) (ix:=ix) h)
 | _::N,some _::ix,h=>congrArg (· + 1) (FreeOk.len (N:=N) (ix:=ix) h.2.2.2)
 | [],_::_,h=>h.elim
 | _::_,[],h=>h.elim
theorem FreeOk.get{b:List Str}{env:Env}{c:Scope}:∀{N:List Str}{ix:List (Option Nat)},FreeOk b env c N ix->∀(j:Nat) (y:Str) (i:Nat),N[j]? = some y->ix[j]? = some (some i) ->
  b[i]? = some y/\env.kindOf y=some .cell/\(relabel c env).names.lookup y=some .cell
 | [],[],_,j,y,i,e,_=>by simp at e
 | _::N,Option.none::ix,h,0,y,i,e,e2=>by simp at e2
 | _::N,Option.none::ix,h,j+1,y,i,e,e2=>FreeOk.get (N:=N) (ix:=ix) h j y i (by simpa using e) (by simpa using e2)
 | z::N,some k::ix,h,0,y,i,e,e2=>by
  have d:z=y:=by simpa using e
  have a:k=i:=by simpa using e2
  subst d;subst a;exact⟨h.1,h.2.1,h.2.2.1⟩
 | _::N,some _::ix,h,j+1,y,i,e,e2=>FreeOk.get (N:=N) (ix:=ix) h.2.2.2 j y i (by simpa using e) (by simpa using e2)
 | [],_::_,h,_,_,_,_,_=>h.elim
 | _::_,[],h,_,_,_,_,_=>h.elim
def cxB(X:Cx)(sc:Scope)(C:Addr)(N:List Str)(s₀:Shared)(H₀:Hp)(fp:List Addr):Cx :=
 { X with N:=N,s₀:=s₀,H₀:=H₀,env:=compEnvC sc (cQ X.env.cells sc.names []) C X.env,outer:=X.stack,ex:=fp,fn:=λ_=>false,pn:=[],xe:=λ_ _=>False }
structure CompOk(X:Cx)(sc:Scope)(N:List Str)(ix:List (Option Nat)):Prop where
 kind:sc.kind=.function
 nocell:(sc.names.all λy=>y.2 != .cell)=true
 names:(sc.names.all λy=>y.2 != .local || sc.names.lookup y.1 == some .local) = true
 free:(sc.names.all λy=>y.2 != .free || X.env.scope.names.lookup y.1 == some .cell)=true
 fr:FreeOk X.N X.env sc N ix
section
variable {X:Cx}{sc:Scope}{N:List Str}{ix:List (Option Nat)}{pins:List (Addr×Obj)}{σ:St}{H:Hp}{s:Shared}
theorem CompOk.cells(c:CompOk X sc N ix)(d:X.Ok):∀ y∈sc.names,y.2=.free->∃ c,X.env.cells.lookup y.1=some c:=λy a e=>by
 have h:=all_eq_true.mp c.free y a;rw[e]at h;have b:X.env.scope.names.lookup y.1=some .cell:=by simpa using h
 exact d.has y.1 (.inl b)
theorem CompOk.nc(c:CompOk X sc N ix):∀ y∈sc.names,y.2≠.cell:=λy a=>by simpa using all_eq_true.mp c.nocell y a
theorem CompOk.nm(c:CompOk X sc N ix):∀ y ∈ sc.names,y.2 = .local->sc.names.lookup y.1 = some .local:=λy a e=>by
 have h:=all_eq_true.mp c.names y a;rw[e]at h;simpa using h
theorem sy{C:Addr}{E:List Addr}{h₁:Heap}{t':Nat}(c:CompOk X sc N ix)(I:Inv X pins σ H s)(B:∀ b∈E,eB X pins H b)(F:∀ b∈E,b<s.heap.objs.size)(D:s.heap.objs.size<=C)
  (L:h₁.Ns C (λ_=>none)) (f:∀ b o,s.heap.get? b=some o->h₁.get? b=some o):Inv (cxB X sc C N s H E) [] (jB ix σ) H { s with heap:=h₁,toks:=t' }:=by
 have h:=c.cells I.ok;have a:∀ n c,(cQ X.env.cells sc.names []).lookup n=some c->X.env.cells.lookup n=some c:=λn c e=>dB h (λn c z=>by simp at z) e
 refine⟨⟨I.ok.mod,c.kind,I.ok.glob,I.ok.blt,D,λx y d R M=>I.ok.inj x y d (a x d R) (a y d M),λx hx=>?_,λx d z=>absurd z (by simp[cxB]),I.ok.hd,I.ok.frames,.inl rfl,λb hb=>⟨?_,λx d e=>?_⟩,I.bs,Nat.le_trans I.ok.bsz I.sz,λb o e hb=>?_,λb hb hs=>?_,I.stack,I.stkFree⟩,
  rfl,I.bare,Un.kept f,⟨_,L,λj y v O k Z=>?_⟩,λx d e=>?_,I.hok.fresh D,λx d e=>I.freeC x d (a x d e),λp hp=>absurd (show p∈([]:List (Addr×Obj)) from hp) (by simp),I.hok.kept f,?_⟩
 .refine dP (.inl ?_)
  rcases hx with hx | hx
  .exact eN c.nc (.inl rfl) (show(relabel sc X.env).names.lookup x=some .cell from hx)
  .exact eN c.nc (.inr rfl) (show(relabel sc X.env).names.lookup x=some .free from hx)
 .exact Nat.ne_of_lt (Nat.lt_of_lt_of_le (F b hb) D)
 .exact(B b hb).2.2.2.2.1 x d (a x d e)
 .rcases(B b hb).2.2.2.1 with z | z
  .exact I.ok.noex b o e z
  .exact absurd (Nat.lt_of_lt_of_le (Heap.lt_size e) (Nat.le_trans I.ok.bsz z)) (Nat.lt_irrefl _)
 .rcases mem_cons.mp (I.stkSub b hs) with z | z
  .exact(B b hb).2.1 z
  .exact(B b hb).2.2.1 z
 .have T:∃ i,ix[j]? = some (some i)/\σ[i]? = some (some v):=by
   unfold jB at k;rw[List.getElem?_map]at k;cases q:ix[j]? with
   | none=>rw[q]at k;cases k
   | some o =>
    rw[q]at k;cases o with
    | none=>cases k
    | some i =>
     refine⟨i,rfl,?_⟩;have g:(σ[i]?).join=some v:=Option.some.inj k;cases q2:σ[i]? with
     | none=>rw[q2]at g;cases g
     | some w=>rw[q2]at g;exact congrArg some g
  obtain⟨i,P,Q⟩:=T;obtain⟨S,G,J⟩:=c.fr.get j y i O P;obtain⟨m,Y,K⟩:=I.loc;obtain⟨u,r,l⟩:=K i y v S Q (.inr (.inl G));refine⟨u,r,?_⟩
  rcases l with⟨z,_⟩ | ⟨_,d,W,A⟩
  .rw[G]at z;cases z
  .obtain⟨d',hd'⟩:∃ d',(cQ X.env.cells sc.names []).lookup y=some d':=dP (.inl (eN c.nc (.inl rfl) J))
   have:=a y d' hd';rw[W]at this;cases this;exact .inr ⟨.inl J,d,hd',A.keeps f⟩
 .obtain⟨v,z⟩:=I.cell x d (a x d e)
  exact⟨v,z.keeps f⟩
 .show(jB ix σ).length=N.length
  unfold jB;rw[length_map,c.fr.len]
theorem n8{C:Addr}{c:List Addr}{a:List (Addr×Obj)}{σ':St}{H':Hp}{s':Shared}(I:Inv X pins σ H s)(g:∀ b∈c,eB X pins H b)(J:Inv (cxB X sc C N s H c) a σ' H' s'):Inv X pins σ H' s':=by
 refine I.call' (ch:=c) J.os J.base J.hok J.bare λb f=>?_
 obtain⟨k,i,l,j,h,d⟩:=g b f;exact⟨j,i,h,d⟩
end
def PTs(X:Cx)(ifs:List Expr)(t:TT):Prop :=
 ∀(pins:List (Addr×Obj)) (s:Shared) (σ:St) (H:Hp) (Q:Bool->Hp->Prop),Inv X pins σ H s->t σ H Q ->
  wpAny (model X.prog X.w) X.A (forIn ifs true λc r=>if r=true then do let ok <- isTrue c X.env (eval c X.env);pure (ForInStep.yield ok) else pure (ForInStep.yield r)) (TP X pins σ Q) X.xe s
def Ce:TT:=λ_ H Q=>Q true H
theorem bb{X:Cx}:PTs X [] Ce:=λ_ _ _ H _ I h=>wpAny_tests_nil ⟨H,I,h⟩
theorem iY{X:Cx}{c:Expr}{t:TT}(h:PT X c t):PTs X [c] t:=λa s d H Q I b=>wpAny_tests_one (h a s d H Q I b)
def iJ(J:It)(D:Addr)(σb:St)(g:TG)(tt:TT)(te:TE)(Q:Hp->List V->Prop)(W:Nat->Nat->List V->Hp->Prop):Prop :=
 ∀ i m ys H,W i m ys H->H D=some (.lst ys)/\((J.stop i H/\Q H ys)\/(J.go i H/\∀ x H3,J.yld i H x H3->g x σb H3 λσ4 H4=>Wk σb σ4/\tt σ4 H4 λb H5 =>
  if b=true then te σ4 H5 λy H6=>H6 D=some (.lst ys)/\ys.length<sizeLine/\∃ m',m'<m/\W (i+1) m' (ys++[y]) (upd H6 D (.lst (ys++[y]))) else ∃ m',m'<m/\W (i+1) m' ys H5))
def va(ix:List (Option Nat))(wi:TI)(g:TG)(tt:TT)(te:TE):TE:=λσ H Q=>wi σ H λJ H1=>∀ D,H1 D=none->∃ W,(∃ m,W 0 m [] (upd H1 D (.lst [])))/\iJ J D (jB ix σ) g tt te (λH _=>Q (.ref D) H) W
section
variable {X:Cx}{sc:Scope}{N:List Str}{ix:List (Option Nat)}{elt tg iter:Expr}{ifs:List Expr}{pos:Pos}{wi:TI}{g:TG}{tt:TT}{te:TE}
structure Blk(X:Cx)(sc:Scope)(N:List Str)(tg elt:Expr)(ifs:List Expr)(g:TG)(tt:TT)(te:TE):Prop where
 tg:∀ C s H fp,PG (cxB X sc C N s H fp) tg g
 tests:∀ C s H fp,PTs (cxB X sc C N s H fp) ifs tt
 elt:∀ C s H fp,PE (cxB X sc C N s H fp) elt te
theorem kF{J:It}{k:List Addr}{it D:Addr}{F:Nat->Heap->Prop}{a:St}{Q:Hp->List V->Prop}{R:Result->Shared->Prop}{W:Nat->Nat->List V->Hp->Prop}
  (hc:X.calm=true) (an:X.xe=λ_ _=>False) (T:Turn X.prog X.w X.K tg J k it F) (hg:PG X tg g) (ht:PTs X ifs tt) (he:PE X elt te) (p:iJ J D a g tt te Q W)
  (c:∀{H':Hp},(∀ b∈k,H' b=none)->∀ b∈k,eB X [] H' b)
  (ab:∀{σ':St}{H':Hp}{s':Shared}{ys:List V},Inv X [] σ' H' s'->Q H' ys->R (.ok .next) s')
  {m0 i0:Nat}{s:List V}{G:Hp}{S:Shared}(I0:Inv X [] a G S) (K:F i0 S.heap) (Y:∀ b∈k,G b=none) (w0:W i0 m0 s G) :
  codeAny (model X.prog X.w) X.A (.compLoop (.ListComp elt [⟨tg,iter,ifs,0⟩] sc pos) 0 (.ref it) (.ref D) X.env) R S:=by
 have f:∀{E':Value->Shared->Prop}(e:Value) (s':Shared),X.xe e s'->E' e s':=λ{E'} e s' z=>by rw[an]at z;exact z.elim
 refine codeAny_loop rfl (λn s'=>∃ i ys H',Inv X [] a H' s'/\F i s'.heap/\(∀ b∈k,H' b=none)/\W i n ys H') ?_ m0 ⟨i0,s,G,I0,K,Y,w0⟩;rintro n O ⟨i,ys,Z,I3,A,E,w3⟩;show wpAny _ X.A ((compTurn (.ListComp elt [⟨tg,iter,ifs,0⟩] sc pos) 0 (.ref it) (.ref D) X.env).onRaise (λx=>do noteFrame x X.env;theTreesLotGoes x)) _ _ O;refine wpAny_noted ?_;rw[compTurn_list];refine wpAny_bind (wpAny_standAt (wpAny_bind ?_));obtain⟨a0,next⟩:=p i n ys Z w3
 rcases next with⟨B,q⟩ | ⟨go,C⟩
 .refine thn (T.done X rfl rfl rfl hc i [] O a Z _ I3 (c E) A B) λr s4 ⟨hr,I4⟩=>?_
  subst hr;exact wpAny_pure (ab I4 q)
 .refine thn (T.item X rfl rfl rfl hc i [] O a Z _ I3 (c E) A go) λr s4 ⟨u,hr,h4⟩=>?_
  subst hr;refine wpAny_bind (thn h4 λ_ s5 ⟨x,H5,I5,r5,y5,h,M⟩=>?_);have as:=I5.pinned (c M) (T.obj _ _ h)
  have pJ:∀{σ':St}{H':Hp}{s':Shared},Inv X ([]++jF k s5.heap) σ' H' s'->Wk a σ'->Inv X [] a H' s'/\F (i+1) s'.heap/\∀ b∈k,H' b=none:=λ{σ' H' s'} l w=>by
   refine⟨(l.unpinned).weak w.len w.get,T.keep _ _ _ h λb H o e=>(l.pin (b,o) (mem_append_right _ (mem_append_right _ (eJ H e)))).1,λb H=>?_⟩;obtain⟨o,e,d⟩:=T.obj _ _ h b H;exact(l.pin (b,o) (mem_append_right _ (mem_append_right _ (eJ H e)))).2.1
  refine wpAny_bind (wpAny_mono (hg _ s5 a H5 x u _ as r5 (C x H5 y5)) (λ_ s6 ⟨j,H6,I6,w,q6⟩=>?_) f);refine wpAny_bind (wpAny_mono (ht _ s6 j H6 _ I6 q6) (λok s7 ⟨H7,l,q7⟩=>?_) f);cases ok with
  | false =>
   obtain⟨I,L,w7⟩:=q7;obtain⟨b1,N,b3⟩:=pJ l w;exact wpAny_pure ⟨rfl,I,L,i+1,ys,H7,b1,N,b3,w7⟩
  | true =>
   refine wpAny_bind (wpAny_bind (wpAny_mono (he _ s7 j H7 _ l q7) (λv s8 ⟨y,H8,I8,r8,P,al,I,L,w8⟩=>?_) f));refine wpAny_bind (wpAny_mono (kh _ s8 j H8 (.ref D) [y] (.ref D) [v] (λ_ H9=>H9=upd H8 D (.lst (ys++[y]))) I8 rfl (.cons r8 .nil) ⟨D,ys,y,rfl,rfl,P,al,rfl⟩) (λ_ s9 ⟨z,H9,I9,_,e9⟩=>?_) f);subst e9;obtain⟨b1,N,b3⟩:=pJ I9 w;exact wpAny_pure (wpAny_pure ⟨rfl,I,L,i+1,ys++[y],_,b1,N,b3,w8⟩)
theorem kz{a:List (Addr×Obj)}{L:St}{H:Hp}{s:Shared}{E:Value->Shared->Prop}{RR:Value->Addr->Result->Shared->Prop}{S:Addr}{i:List Addr}{w:Nat->Heap->Prop}{J:It}{Q:Addr->Hp->List V->Prop}
  (hc:X.calm=true) (c:CompOk X sc N ix) (B:Blk X sc N tg elt ifs g tt te) (I:Inv X a L H s) (T:Turn X.prog X.w X.K tg J i S w) (Z:w 0 s.heap) (hf:∀ b∈i,eB X a H b)
  (h:∀ D,H D=none->∃ W,(∃ m,W 0 m [] (upd H D (.lst [])))/\iJ J D (jB ix L) g tt te (Q D) W)
  (hR:∀ D C H' s' ys,Inv X a L H' s'->eB X a H' C->(∃ m,s'.heap.Ns C m)->Q D H' ys->RR (.ref D) C (.ok .next) s') :
  wpAny (model X.prog X.w) X.A (newList []) (λacc s₃=>wpAny (model X.prog X.w) X.A (newFunctionEnv sc X.env.globals (cQ X.env.cells sc.names []) [] X.env.qual none .none (some X.env)) (λcenv s₄ =>
   codeAny (model X.prog X.w) X.A (.compStart (.ListComp elt [⟨tg,iter,ifs,0⟩] sc pos) 0 (.ref S) acc { cenv with scope:=relabel sc X.env }) (RR acc cenv.locals) s₄) E s₃) E s:=by
 have Y:∀ b∈i,b<s.heap.objs.size:=λb f=>let ⟨o,e,_⟩:=T.obj _ _ Z b f;Heap.lt_size e
 refine wpAny_newObj_type ?_ (by show 0<=sizeLine;exact Nat.zero_le _);have hD:H s.heap.objs.size=none:=I.hok.fresh (Nat.le_refl _);obtain⟨W,⟨m0,w0⟩,v⟩:=h s.heap.objs.size hD;have F:Inv X a L (upd H s.heap.objs.size (.lst [])) { s with heap:=s.heap.push { cls:=.type "list",data:=.seq ([]:List Value).toArray } }:=I.lnew (t':=s.toks) (its:=[]) .nil (Nat.zero_le _);have k1:∀ b o,s.heap.get? b=some o->(s.heap.push { cls:=.type "list",data:=.seq ([]:List Value).toArray }).get? b=some o:=λb o e=>Heap.get?_push_of_some _ e
 have R:∀ b∈i,b≠s.heap.objs.size:=λb f=>Nat.ne_of_lt (Y b f)
 have j:∀ b∈i,eB X a (upd H s.heap.objs.size (.lst [])) b:=λb f=>⟨by rw[ai (R b f)];exact(hf b f).1,(hf b f).2⟩
 have G:w 0 (s.heap.push { cls:=.type "list",data:=.seq ([]:List Value).toArray }):=T.keep _ _ _ Z λb _ o e=>k1 b o e
 generalize hs1:({ s with heap:=s.heap.push { cls:=.type "list",data:=.seq ([]:List Value).toArray } }:Shared)=s1 at F;have k:s1.heap=s.heap.push { cls:=.type "list",data:=.seq ([]:List Value).toArray }:=by rw[<- hs1]
 generalize hDe:s.heap.objs.size=D at *;show wpAny _ _ _ _ _ s1;refine wpAny_newFunctionEnv c.nc (by intro y hy;simp at hy) (λh₁ hns₁ hsb₁=>?_) c.kind;have A:∀ b o,s1.heap.get? b=some o->h₁.get? b=some o:=λb o e=>(hsb₁.2 b (Nat.ne_of_lt (Heap.lt_size e))).trans (Heap.get?_push_of_some _ e)
 have l:∀ b∈i,b<s1.heap.objs.size:=λb f=>by
  obtain⟨o,e,_⟩:=T.obj _ _ G b f;rw[k];exact Heap.lt_size e
 have J0:=sy (h₁:=h₁) (t':=s1.toks+([]:List (Str×Value)).length) c F j l (Nat.le_refl _) (by simpa using hns₁) A;have K:w 0 h₁:=T.keep _ _ _ (by rw[k];exact G:w 0 s1.heap) λb _ o e=>A b o e
 have P:∀{H':Hp},(∀ b∈i,H' b=none)->∀ b∈i,eB (cxB X sc s1.heap.objs.size N s1 (upd H D (.lst [])) i) [] H' b:=λ{H'} M b f=>by
  obtain⟨f0,f1,f2,f3,f4,f5⟩:=j b f;refine⟨M b f,Nat.ne_of_lt (l b f),?_,.inl f,λx d e=>f4 x d (dB (c.cells I.ok) (λn c z=>by simp at z) e),λp hp=>absurd (show p∈([]:List (Addr×Obj)) from hp) (by simp)⟩;intro z
  rcases mem_cons.mp (F.stkSub b z) with q | q
  .exact f1 q
  .exact f2 q
 have O:∀{u:St}{H':Hp}{s':Shared}{ys:List V},Inv (cxB X sc s1.heap.objs.size N s1 (upd H D (.lst [])) i) [] u H' s'->Q D H' ys->RR (.ref D) s1.heap.objs.size (.ok .next) s':=λ{u H' s' ys} J q =>
  hR D _ H' s' ys (n8 F j J) (F.fpOk (Nat.le_refl _) J.free) (let ⟨m,M,_⟩:=J.loc;⟨m,M⟩) q
 have r:codeAny (model X.prog X.w) X.A (.compLoop (.ListComp elt [⟨tg,iter,ifs,0⟩] sc pos) 0 (.ref S) (.ref D) (cxB X sc s1.heap.objs.size N s1 (upd H D (.lst [])) i).env) (RR (.ref D) s1.heap.objs.size) { s1 with heap:=h₁,toks:=s1.toks+([]:List (Str×Value)).length } :=
  kF (X:=cxB X sc s1.heap.objs.size N s1 (upd H D (.lst [])) i) hc rfl T (B.tg _ _ _ _) (B.tests _ _ _ _) (B.elt _ _ _ _) v P O J0 K (λb f=>(j b f).1) w0
 exact codeAny_compStart_list r (T.self _ 0 _ _ _ K r)
theorem ba(p:X.calm=true)(c:CompOk X sc N ix)(z:PI X tg iter wi)(B:Blk X sc N tg elt ifs g tt te)(r:∀ x,foldedSetIterable iter X.env x=pure x:=by intro _;rfl):PE X (.ListComp elt [⟨tg,iter,ifs,0⟩] sc pos) (va ix wi g tt te):=by
 intro a s k H Q I h;rw[eval_ListComp];refine wpAny_comprehension_free (use:=none) rfl r (dG (c.cells I.ok)) c.kind c.nm (thn (z a s k H _ I h) λY j d=>thn d λitv s₂ h₂=>?_);obtain⟨it,fp,R,J,Z,e,G,T,f,l,O⟩:=h₂;subst e;refine kz (RR:=λi C=>compPost (model X.prog X.w) X.A X.xe none (EP X a k Q) i C) (Q:=λD H _=>Q (.ref D) H) p c B G T f l O ?_;intro D C M L S w n K q;refine⟨_,K.choose_spec,λW y=>⟨.ref D,M,?_,rfl,q⟩⟩;obtain⟨v,F,l,u,E,P⟩:=n;exact w.turned (t':=L.toks) (λb o A e=>(y.2 b A).trans e) v F u E P
theorem lJ{i:Nat}{y:Str}{j f:Pos}(R:X.calm = true)(hN:X.N.Nodup)(hy:X.N[i]? = some y)(E:X.env.scope.names.lookup y = some .local)
  (w:swapsWith (.ListComp elt [⟨tg,iter,ifs,0⟩] sc pos) (some (.Name y j)) f.line X.env=pure true)
  (c:CompOk X sc N ix) (hi:PI X tg iter wi) (B:Blk X sc N tg elt ifs g tt te) (S:∀ x,foldedSetIterable iter X.env x=pure x:=by intro _;rfl) :
  PS X (.Assign [.Name y j] (.ListComp elt [⟨tg,iter,ifs,0⟩] sc pos) f) (yX (va ix wi g tt te) (p7 i)):=by
 intro d s G H r I h;rw[exec_Assign_Name_used _ _ _ _ w];refine wpAny_bind (wpAny_standAt (wpAny_bind ?_));show wpAny _ X.A (do let _ <- comprehension (.ListComp elt [⟨tg,iter,ifs,0⟩] sc pos) sc X.env _ (newList []) false (eval iter X.env) (some (assign (.Name y j) X.env))) _ _ s
 refine wpAny_bind (wpAny_mono (wpAny_comprehension_free (use:=some (assign (.Name y j) X.env)) (Q:=λ_ l=>SP X d r .next l) rfl S (dG (c.cells I.ok)) c.kind c.nm
  (thn (hi d s G H _ I h) λxv F k=>thn k λitv s₂ h₂=>?_)) (λ_ l hq=>wpAny_pure (wpAny_pure hq)) λ_ _ e=>e)
 obtain⟨it,fp,tn,J,H2,e,I2,T,p,M,q2⟩:=h₂;subst e;refine kz (RR:=λu C=>compPost (model X.prog X.w) X.A X.xe (some (assign (.Name y j) X.env)) (λ_ l=>SP X d r .next l) u C) (Q:=λD H _=>r.nx (G.set i (some (.ref D))) H) R c B I2 T p M q2 ?_;intro D C H' l ys I' P ns q;show wpAny _ X.A (assign (.Name y j) X.env (.ref D)) _ _ _;obtain⟨Y,L,M,W,K,f5⟩:=P;refine wpAny_assign_Name (kE I' hN hy (.inl E) (v:=.ref D) rfl (λs2 Z ⟨a,sb,ha⟩=>?_) (.inr E));obtain⟨m,O⟩:=ns
 have A:C≠a:=by
  rcases ha with z | z
  .rw[z];exact L
  .exact λe=>K y a z e.symm
 refine⟨m,O.sameBut sb A,λh3 n=>⟨_,H',?_,q⟩⟩;exact Z.turned (t':=s2.toks) (λb o hb e=>(n.2 b hb).trans e) Y L W K f5
end
section
variable {κ:Type} [DecidableEq κ]
def cH(kvs:List (κ×V))(k:κ):Option V:=(kvs.find? λkv=>decide (kv.1=k)).map (·.2)
def ez(kvs:List (κ×V))(k:κ)(v:V):List (κ×V) :=
 if (kvs.any λkv=>decide (kv.1=k))=true then kvs.map (λkv=>if kv.1=k then (kv.1,v) else kv) else kvs++[(k,v)]
theorem bu{p:κ×V}{r:List (κ×V)}{k:κ}(e:p.1=k):cH (p::r) k=some p.2:=by simp[cH,List.find?_cons,e]
theorem bv{p:κ×V}{r:List (κ×V)}{k:κ}(e:¬p.1=k):cH (p::r) k=cH r k:=by simp[cH,List.find?_cons,e]
theorem fb(k:κ):∀ kvs:List (κ×V),(kvs.any λkv=>decide (kv.1=k))=(cH kvs k).isSome
 | []=>rfl
 | p::r=>by
  rw[any_cons]
  by_cases e:p.1=k
  .simp only[bu e,decide_eq_true e,Bool.true_or,Option.isSome_some]
  .rw[bv e,decide_eq_false e,Bool.false_or];exact fb k r
theorem mO(k j:κ)(y:V):∀ kvs:List (κ×V),cH (kvs.map λkv=>if kv.1=k then (kv.1,y) else kv) j=(cH kvs j).map λx=>if j=k then y else x
 | []=>rfl
 | p::r=>by
  have a:=mO k j y r;rw[map_cons]
  by_cases h:p.1=k
  .rw[if_pos h]
   by_cases e:p.1=j
   .rw[bu (p:=(p.1,y)) e,bu e,Option.map_some,if_pos (e.symm.trans h)]
   .rw[bv (p:=(p.1,y)) e,bv e,a]
  .rw[if_neg h]
   by_cases e:p.1=j
   .rw[bu (p:=p) e,bu e,Option.map_some,if_neg (λz=>h (e.trans z))]
   .rw[bv (p:=p) e,bv e,a]
theorem kJ(k j:κ)(y:V):∀ kvs:List (κ×V),cH kvs k=none->cH (kvs++[(k,y)]) j=if j=k then some y else cH kvs j
 | [],_=>by
  by_cases e:k=j
  .rw[if_pos e.symm];exact bu (p:=(k,y)) e
  .rw[if_neg (λz=>e z.symm)];exact bv (p:=(k,y)) e
 | p::r,hn=>by
  rw[cons_append];have a:¬p.1=k:=λz=>by rw[bu z]at hn;cases hn
  rw[bv a]at hn;have b:=kJ k j y r hn
  by_cases e:p.1=j
  .rw[bu e,bu e,if_neg (λz=>a (e.trans z))]
  .rw[bv e,bv e,b]
theorem uR(b:List (κ×V))(k j:κ)(y:V):cH (ez b k y) j=if j=k then some y else cH b j:=by
 unfold ez
 by_cases a:(b.any λc=>decide (c.1=k))=true
 .rw[if_pos a,mO]
  rw[fb]at a
  by_cases e:j=k
  .obtain⟨x,d⟩:=Option.isSome_iff_exists.mp a
   rw[if_pos e,e,d,Option.map_some,if_pos rfl]
  .rw[if_neg e]
   cases cH b j with
   | none=>rfl
   | some x=>rw[Option.map_some,if_neg e]
 .rw[if_neg a]
  refine kJ k j y b ?_;rw[fb]at a;cases q:cH b k with
  | none=>rfl
  | some x=>rw[q]at a;exact(a rfl).elim
theorem fw(a:List (κ×V))(k:κ)(v:V):(ez a k v).length<=a.length+1:=by
 unfold ez
 split
 .rw[length_map];lia
 .rw[length_append,length_cons,List.length_nil];lia
theorem uq{a:List (κ×V)}{k:κ}(v:V)(h:cH a k=none):ez a k v=a++[(k,v)]:=by
 unfold ez;rw[fb,h];exact if_neg (by decide)
theorem RelO.isSome_eq{o:Option V}{u:Option Value}(r:RelO o u):o.isSome=u.isSome:=by
 cases o with
 | none=>cases u with
  | none=>rfl
  | some _=>exact(show False from r).elim
 | some _=>cases u with
  | none=>exact(show False from r).elim
  | some _=>rfl
theorem RelO.getD{o:Option V}{u:Option Value}{d:V}{d':Value}(r:RelO o u)(a:RelV d d'):RelV (o.getD d) (u.getD d'):=by
 cases o with
 | none=>cases u with
  | none=>exact a
  | some _=>exact(show False from r).elim
 | some _=>cases u with
  | none=>exact(show False from r).elim
  | some _=>exact r
theorem KV.val{a:List (κ×V)}{vs:List (κ×Value)}(r:KV a vs)(k:κ):RelO (cH a k) (valueAt vs k):=by
 unfold KV at r
 induction r with
 | nil=>exact True.intro
 | @cons p q ps qs h t ih =>
  obtain⟨d,f⟩:=h
  by_cases e:p.1=k
  .have c:q.1=k:=d.symm.trans e
   have b:valueAt (q::qs) k=some q.2:=by simp[valueAt,List.find?_cons,c]
   rw[bu e,b];exact f
  .have c:¬q.1=k:=λz=>e (d.trans z)
   have b:valueAt (q::qs) k=valueAt qs k:=by simp[valueAt,List.find?_cons,c]
   rw[bv e,b];exact ih
theorem KV.any{a:List (κ×V)}{vs:List (κ×Value)}(r:KV a vs)(k:κ):(a.any λkv=>decide (kv.1=k))=vs.any λkv=>decide (kv.1=k):=by
 unfold KV at r
 induction r with
 | nil=>rfl
 | cons h t ih=>rw[any_cons,any_cons,ih,h.1]
theorem KV.repl{a:List (κ×V)}{vs:List (κ×Value)}(r:KV a vs)(k:κ){y:V}{u:Value}(c:RelV y u) :
  KV (a.map λkv=>if kv.1=k then (kv.1,y) else kv) (vs.map λkv=>if kv.1=k then (kv.1,u) else kv):=by
 unfold KV at r ⊢
 induction r with
 | nil=>exact .nil
 | @cons p q ps qs h t ih =>
  rw[map_cons,map_cons];refine .cons ?_ ih;obtain⟨b,d⟩:=h
  by_cases e:p.1=k
  .rw[if_pos e,if_pos (b.symm.trans e)];exact⟨b,c⟩
  .rw[if_neg e,if_neg (λz=>e (b.trans z))];exact⟨b,d⟩
theorem KV.put{a:List (κ×V)}{vs:List (κ×Value)}(r:KV a vs)(k:κ){y:V}{u:Value}(b:RelV y u):KV (ez a k y) (stored vs k u):=by
 unfold ez stored;rw[r.any k]
 by_cases e:(vs.any λc=>decide (c.1=k))=true
 .rw[if_pos e,if_pos e];exact r.repl k b
 .rw[if_neg e,if_neg e];exact Paired.snoc r ⟨rfl,b⟩
theorem KV.length{a:List (κ×V)}{vs:List (κ×Value)}(r:KV a vs):a.length=vs.length:=Paired.length r
end
theorem pV{P:Program}{w:World}{k:Key}{u:Value}(r:RelV (kV k) u):(bp P w).is k u=true:=by
 cases k with
 | inl i=>obtain⟨t,e⟩:=(show ∃ t,u=Value.int i t from r);subst e;exact nP P w i t
 | inr x=>obtain⟨t,e⟩:=(show ∃ t,u=Value.str x t from r);subst e;exact m5 P w x t
theorem kc{P:Program}{w:World}:∀{ks:List Key}{us:List Value},Vals (ks.map kV) us->ItemsAre (bp P w) ks us
 | [],_,r=>by rw[map_nil]at r;cases r;exact .nil
 | k::ks,_,r=>by
  rw[map_cons]at r;cases r with
  | cons h t=>exact .cons (pV h) (kc t)
abbrev KT(H:Hp):List (List Key×V)->List (List Key×Addr×Value)->Prop:=Paired λp q=>p.1=q.1/\H q.2.1=some (.tup (p.1.map kV))/\RelV p.2 q.2.2
theorem KT.val{H:Hp}{a:List (List Key×V)}{xs:List (List Key×Addr×Value)}(r:KT H a xs)(k:List Key):RelO (cH a k) ((atKey xs k).map (·.2)):=by
 induction r with
 | nil=>exact True.intro
 | @cons p q ps qs h t ih =>
  obtain⟨d,_,f⟩:=h
  by_cases e:p.1=k
  .have c:q.1=k:=d.symm.trans e
   have b:atKey (q::qs) k=some q.2:=by simp[atKey,List.find?_cons,c]
   rw[bu e,b];exact f
  .have c:¬q.1=k:=λz=>e (d.trans z)
   have b:atKey (q::qs) k=atKey qs k:=by simp[atKey,List.find?_cons,c]
   rw[bv e,b];exact ih
theorem KT.repl{H:Hp}{a:List (List Key×V)}{xs:List (List Key×Addr×Value)}(r:KT H a xs)(k:List Key){y:V}{u:Value}(f:RelV y u) :
  KT H (a.map λkv=>if kv.1=k then (kv.1,y) else kv) (xs.map (putAt k u)):=by
 induction r with
 | nil=>exact .nil
 | @cons p q ps qs h t ih =>
  rw[map_cons,map_cons];refine .cons ?_ ih;obtain⟨b,c,d⟩:=h;unfold putAt
  by_cases e:p.1=k
  .rw[if_pos e,if_pos (b.symm.trans e)];exact⟨b,c,f⟩
  .rw[if_neg e,if_neg (λz=>e (b.trans z))];exact⟨b,c,d⟩
theorem KT.put{H:Hp}{a:List (List Key×V)}{xs:List (List Key×Addr×Value)}(r:KT H a xs)(k:List Key){b:Addr}{y:V}{u:Value}(d:H b=some (.tup (k.map kV)))(c:RelV y u) :
  KT H (ez a k y) (storedH xs k b u):=by
 have e:(a.any λf=>decide (f.1=k))=(atKey xs k).isSome:=by
  rw[fb,(r.val k).isSome_eq,Option.isSome_map]
 unfold ez storedH;rw[e]
 by_cases q:(atKey xs k).isSome=true
 .rw[if_pos q,if_pos q];exact r.repl k c
 .rw[if_neg q,if_neg q];exact Paired.snoc r ⟨rfl,d,c⟩
theorem KT.keeps{H H':Hp}{a:List (List Key×V)}{xs:List (List Key×Addr×Value)}(r:KT H a xs)(c:∀ b ys,H b=some (.tup ys)->H' b=some (.tup ys)):KT H' a xs :=
 Paired.mapP r λ_ _ z=>⟨z.1,c _ _ z.2.1,z.2.2⟩
section
variable {P:Program}{w:World}{H:Hp}{h:Heap}{a:Addr}
theorem yB{u:HO}(b:HOk P w H h)(e:Rd H a u):ObjOk P w H h a u:=e.ok b
theorem m4{b:List (Key×V)}(c:HOk P w H h)(e:Rd H a (.dK b)):b.length<=sizeLine/\(a == sysModules)=false/\∃ vs,KV b vs/\h.DictOf (bp P w) a vs :=
 show ObjOk P w H h a (.dK b) from yB c e
theorem AH{b:List (Key×V)}(c:HOk P w H h)(e:H a=some (.dK b)):b.length<=sizeLine/\(a == sysModules)=false/\∃ vs,KV b vs/\h.DictOf (bp P w) a vs:=m4 c (.inl e)
theorem jW{ks:List Key}(f:HOk P w H h)(e:H a=some (.tup (ks.map kV))):(tupleKind (bp P w)).is h ks a:=by
 obtain⟨_,b,r,o,g,d,n,c⟩:=(show ObjOk P w H h a (.tup (ks.map kV)) from f a _ e)
 exact⟨o,b.toArray,n,g,d,c,by simpa using kc r⟩
theorem mX{b:List (List Key×V)}(d:HOk P w H h)(e:Rd H a (.dT b)):b.length<=sizeLine/\(a == sysModules)=false /\
  ∃ xs,KT H b xs/\h.DictOfH (tupleKind (bp P w)) a xs:=by
 obtain⟨z,y,xs,r,o,f,i,n,j,g,s,k⟩:=(show ObjOk P w H h a (.dT b) from yB d e)
 refine⟨z,y,xs,r,o,f,i,n,j,g,s,λx hx=>?_,k⟩
 have c:∀{l:List (List Key×V)}{m:List (List Key×Addr×Value)},KT H l m->∀ x∈m,(tupleKind (bp P w)).is h x.1 x.2.1:=by
  intro l m q
  induction q with
  | nil=>intro x hx;exact nomatch hx
  | @cons p q ps qs hq t ih =>
   intro x hx
   rcases mem_cons.mp hx with e | hx
   .subst e
    exact jW d (by rw[<- hq.1];exact hq.2.1)
   .exact ih x hx
 exact c r x hx
theorem v7{b:List (List Key×V)}(c:HOk P w H h)(e:H a=some (.dT b)):b.length<=sizeLine/\(a == sysModules)=false /\
  ∃ xs,KT H b xs/\h.DictOfH (tupleKind (bp P w)) a xs:=mX c (.inl e)
end
def u7(H:Hp)(a:Addr)(y:V)(r:Option V):Prop :=
 (∃ kvs k,Rd H a (.dK kvs)/\y=kV k/\r=cH kvs k)\/∃ kvs k b,Rd H a (.dT kvs)/\y=.ref b/\H b=some (.tup (k.map kV))/\r=cH kvs k
def Ay(H:Hp)(a:Addr)(y v:V)(H':Hp):Prop :=
 (∃ kvs k,H a=some (.dK kvs)/\y=kV k/\kvs.length<sizeLine/\H'=upd H a (.dK (ez kvs k v))) \/
 ∃ kvs k b,H a=some (.dT kvs)/\y=.ref b/\H b=some (.tup (k.map kV))/\kvs.length<sizeLine/\H'=upd H a (.dT (ez kvs k v))
section
variable {X:Cx}{pins:List (Addr×Obj)}{σ:St}{H:Hp}{s:Shared}{a:Addr}{y v:V}{u r:Value}{o:Option V}{A:Around}{E:Value->Shared->Prop}
theorem Inv.big(I:Inv X pins σ H s):sysModules<s.heap.objs.size:=by
 have h:mainGlobals<s.heap.objs.size:=(I.mod.glob.keeps I.bk).lt;exact Nat.lt_trans (by decide) h
theorem sW{Q:Value->Shared->Prop}(F:A.units+1<cLine)(I:Inv X pins σ H s)(g:u7 H a y (some v))(r:RelV y u)(h:∀ w' s',Inv X pins σ H s'->RelV v w'->Q w' s') :
  wpAny (model X.prog X.w) A (getItem (.ref a) u) Q E s:=by
 rcases g with⟨f,k,e,n,l⟩ | ⟨f,k,b,e,n,D,l⟩
 .subst n
  obtain⟨z,B,x,c,j⟩:=m4 I.hok e;obtain⟨w',i,d⟩:=RelO.some_of (v:=v) (o:=valueAt x k) (by rw[l];exact c.val k);exact wpAny_getItem_of (pV r) j.mapOf i (h w' _ (I.tok _) d)
 .subst n
  cases(show u=Value.ref b from r);obtain⟨z,B,w,c,j⟩:=mX I.hok e;obtain⟨w',i,d⟩:=RelO.some_of (v:=v) (o:=(atKey w k).map (·.2)) (by rw[l];exact c.val k);obtain⟨p,C,q⟩:=Option.map_eq_some_iff.mp i;refine wpAny_getItem_heap (tupleKind_room_in1 F) (jW I.hok D) j C ?_;rw[q];exact h w' _ (I.tok _) d
theorem mh{h':Heap}{t':Nat}{ob:HO}(I:Inv X pins σ H s)(d:Mut (H a))(h:Heap.SameBut a s.heap h')(g:∃ q,h'.get? a=some q)(c:ObjOk X.prog X.w (upd H a ob) h' a ob) :
  Inv X pins σ (upd H a ob) { s with heap:=h',toks:=t' } :=
 I.write (x:=a) (e:=a) d (.inl rfl) (λb q f z=>(h.2 b f).trans z) g c
theorem yH{P:Program}{w:World}{H':Hp}{h':Heap}{b:List (Key×V)}{vs:List (Key×Value)}(z:b.length<=sizeLine)(d:(a == sysModules)=false)(c:KV b vs)(f:h'.DictOf (bp P w) a vs) :
  ObjOk P w H' h' a (.dK b):=⟨z,d,vs,c,f⟩
theorem rZ{H':Hp}{Q:Unit->Shared->Prop}(S:A.units+1<cLine)(I:Inv X pins σ H s)(g:Ay H a y v H')(G:RelV y u)(J:RelV v r)(h:∀ s',Inv X pins σ H' s'->Q () s') :
  wpAny (model X.prog X.w) A (setItem (.ref a) u r) Q E s:=by
 rcases g with⟨f,k,e,C,l,B⟩ | ⟨f,k,b,e,C,F,l,B⟩
 .subst C B
  obtain⟨z,x,L,d,p⟩:=AH I.hok e;have w:L.length<=sizeLine:=by rw[<- d.length];exact z
  have n:(ez f k v).length<=sizeLine:=by have:=fw f k v;lia
  refine wpAny_setItem_pairs (hsz:=w) (pV G) p λD i o=>h _ ?_
  have W:∃ q,D.get? a=some q:=let ⟨q,_,_,j,_⟩:=i;⟨q,j⟩;exact mh I (by rw[e];exact True.intro) o W (yH n x (d.put k J) i)
 .subst C B
  cases(show u=Value.ref b from G);obtain⟨z,x,O,d,p⟩:=v7 I.hok e;have w:O.length<=sizeLine:=by rw[<- Paired.length d];exact z
  have n:(ez f k v).length<=sizeLine:=by have:=fw f k v;lia
  refine wpAny_setItem_heap (hsz:=w) (tupleKind_room_in1 S) (jW I.hok F) p λD i o=>h _ ?_
  obtain⟨q,T,K,j,P,N,M,_,R⟩:=i;refine mh I (by rw[e];exact True.intro) o ⟨q,j⟩ ⟨n,x,_,(d.put k F J).keeps λc ys ec=>?_,q,T,K,j,P,N,M,R⟩;rw[ai (bQ ec e (λz=>nomatch z))];exact ec
end
section
variable {X:Cx}{pins:List (Addr×Obj)}{σ:St}{H:Hp}{s:Shared}{a:Addr}{kvs:List (Key×V)}{k:Key}{u:Value}{A:Around}{E:Value->Shared->Prop}
end
def AQ(i:Expr):Prop:=∀ ov iv,subscripted i false ov iv=operate [ov,iv] (getItem ov iv)
theorem wS{prog:Program}{w:World}{A:Around}{E:Value->Shared->Prop}{s:Shared}{env:Env}{b a:Expr}{k:Pos}{T q:String}{Q:Value->Shared->Prop}
  (n:typeLookup (.type T) "__getitem__" = pure (some (.builtin q))) (p:AQ a)
  (h:wpAny (model prog w) A (eval b env) (λo s₁=>wpAny (model prog w) A (eval a env) (λi s₂=>s₂.TypeIs o T/\wpAny (model prog w) A (getItem o i) Q E s₂) E s₁) E s) :
  wpAny (model prog w) A (eval (.Subscript b a k) env) Q E s:=by
 refine Subscript_ (wpAny_mono h (λo s₁ j=>wpAny_mono j (λi s₂ c=>?_) λ_ _ x=>x) λ_ _ x=>x);obtain⟨l,c⟩:=c;unfold subscriptTail;refine wpAny_bind ?_;rw[getitemInPython_of_ne l.not_modules];refine wpAny_bind (wpAny_specialOf l n ?_)
 have f:wpAny (model prog w) A (subscripted a false o i) (λr d=>wpAny (model prog w) A (letTemporaryGo b o r >>= λ_=>pure r) Q E d) E s₂:=by
  rw[p o i];exact wpAny_operating (wpAny_mono c (λr d g=>wpAny_bind (wpAny_letTemporaryGo (wpAny_pure g))) λ_ _ x=>x)
 first
  | exact wpAny_pure (wpAny_bind f)
  | exact wpAny_bind (wpAny_pure (wpAny_bind f))
  | exact wpAny_bind f
theorem mJ{X:Cx}{c:List (Addr×Obj)}{h:St}{H:Hp}{s:Shared}{a:Addr}{y:V}{o:Option V}(I:Inv X c h H s)(g:u7 H a y o):s.TypeIs (.ref a) "dict" := by
 rcases g with⟨d,k,e,_,_⟩ | ⟨d,k,b,e,_,_,_⟩
 .obtain⟨_,_,j,_,f⟩:=m4 I.hok e
  exact f.typeIs
 .obtain⟨_,_,i,_,f⟩:=mX I.hok e
  exact f.typeIs
inductive rDGet(x y:V)(H:Hp)(Q:VK):Prop
 | mk(a:Addr)(v:V)(h0:x=.ref a)(h1:u7 H a y (some v))(h2:Q v H):rDGet x y H Q
def AL(td ty:TE):TE:=λσ H Q=>td σ H λx H1=>ty σ H1 λy H2=>rDGet x y H2 Q
def Bx(td ty tv:TE):TS:=λD σ H=>tv σ H λv H1=>td σ H1 λx H2=>ty σ H2 λy H3=>∃ a H4,x=.ref a/\Ay H3 a y v H4/\D.nx σ H4
section
variable {X:Cx}{o i e value:Expr}{pos pos' tpos:Pos}{td ty tv:TE}
theorem qm(j:X.A.units+1<cLine)(z:PE X o td)(f:PE X i ty)(w:AQ i):PE X (.Subscript o i pos) (AL td ty):=by
 intro b s d H Q I h;refine wS PySem.F.slot_dict_getitem.lookup w (thn (z b s d H _ I h) λu n ⟨x,k,p,q,l⟩=>thn (f b n d k _ p l) λiv s2 ⟨y,H2,I2,ry,a,v,ex,g,q2⟩=>?_);subst ex;obtain rfl:u=Value.ref a:=q;exact⟨mJ I2 g,sW j I2 g ry λA B r c=>⟨v,H2,r,c,q2⟩⟩
theorem rq(w:X.A.units+1<cLine)(A:PE X o td)(d:PE X i ty)(p:PE X value tv)(z:swapsWith value (some (.Subscript o i pos')) pos.line X.env=pure false) :
  PS X (.Assign [.Subscript o i pos'] value pos) (Bx td ty tv):=by
 intro b s c H D I h;refine wpAny_Assign_Subscript (thn (p b s c H _ I h) λr l ⟨v,f,n,q,j⟩=>thn (A b l c f _ n j) λu s2 ⟨x,H2,I2,rx,q2⟩=>thn (d b s2 c H2 _ I2 q2) λiv s3 ⟨y,H3,I3,ry,a,H4,ex,g,q3⟩=>?_) z;subst ex;obtain rfl:u=Value.ref a:=rx
 exact rZ w I3 g ry q λB k=>⟨c,H4,k,q3⟩
end
theorem vK{P:Program}{w:World}{H:Hp}(h:Heap)(a:sysModules<h.objs.size):ObjOk P w H (h.push { cls:=.type "dict",data:=.dict #[] }) h.objs.size (.dT []) :=
 ⟨Nat.zero_le _,beq_eq_false_iff_ne.mpr (Ne.symm (Nat.ne_of_lt a)),[],.nil,_,#[],0,Heap.get?_push_size _ rfl,⟨rfl,rfl,rfl⟩,rfl,rfl,nodup_nil⟩
def zC:TE:=λ_ H Q=>∀ p,H p=none->Q (.ref p) (upd H p (.dT []))
section
variable {X:Cx}{pos:Pos}
theorem jY:PE X (.Dict [] [] pos) zC:=λb s c H Q I h =>
 wpAny_Dict_empty ⟨.ref s.heap.objs.size,_,I.laid (a:=s.heap.objs.size) (o:=.dT []) (t':=s.toks) (λ_ _ q=>Heap.get?_push_of_some _ q) (Nat.le_refl _) (vK s.heap I.big),rfl,h _ (I.hok.fresh (Nat.le_refl _))⟩
end
structure M2(X:Cx)(o:Expr)(m:Str)(apos:Pos)(e f:Expr)(cpos:Pos):Prop where
 base:attributeBase o m X.env (eval o X.env)=eval o X.env
 few:((backTo cpos (starEach [e,f] X.env)).all (λx=>!x.1) && (backToKw cpos (keywordEach [] X.env)).all (λx=>x.1.isSome)
  && decide (([e,f]:List Expr).length+([]:List Keyword).length+(if ([]:List Keyword).isEmpty then 0 else 1)<30))=true
 line:(apos.endLine == cpos.line)=true
 trees:backTo cpos (starEach [e,f] X.env)=[(false,eval e X.env),(false,eval f X.env)]
def IsD(H:Hp)(a:Addr):Prop:=(∃ kvs,Rd H a (.dK kvs))\/∃ kvs,Rd H a (.dT kvs)
theorem vG{X:Cx}{f:List (Addr×Obj)}{k:St}{H:Hp}{s:Shared}{a:Addr}(I:Inv X f k H s)(d:IsD H a) :
  s.TypeIs (.ref a) "dict" /\ (∀ b,Value.ref a=.ref b->∃ ob,s.heap.get? b=some ob/\ob.dict=none)/\(a == sysModules)=false:=by
 rcases d with⟨g,e⟩ | ⟨g,e⟩
 .obtain⟨_,i,n,_,c⟩:=m4 I.hok e
  refine⟨c.typeIs,λb q=>?_,i⟩;cases q;obtain⟨ob,_,_,j,h,_⟩:=c;exact⟨ob,j,h.2.1⟩
 .obtain⟨_,i,l,_,c⟩:=mX I.hok e
  refine⟨c.typeIs,λb q=>?_,i⟩;cases q;obtain⟨ob,_,_,j,h,_⟩:=c;exact⟨ob,j,h.2.1⟩
section
variable {X:Cx}{pins:List (Addr×Obj)}{σ:St}{H:Hp}{s:Shared}{a:Addr}{y d:V}{u r:Value}{o:Option V}{A:Around}{E:Value->Shared->Prop}
theorem zS{Q:Value->Shared->Prop}(x:A.units+1<cLine)(I:Inv X pins σ H s)(g:u7 H a y o)(p:RelV y u)(q:RelV d r)(h:∀ w' s',Inv X pins σ H s'->RelV (o.getD d) w'->Q w' s') :
  wpAny (model X.prog X.w) A (call (.builtin "dict.get") [.ref a,u,r]) Q E s:=by
 rcases g with⟨i,k,e,n,l⟩ | ⟨i,k,b,e,n,w,l⟩
 .subst n
  obtain⟨z,j,B,c,f⟩:=m4 I.hok e;refine call_meetsIn PySem.F.slot_dict_get f.typeIs PySem.F.entry_dict_get (PySem.F.args_dict_get_3 _ _ _) (meets_dict_get_default (bp X.prog X.w) a (pV p) j r) ⟨_,f.mapOf,h _ _ (I.tok _) ?_⟩;rw[l];exact(c.val k).getD q
 .subst n
  cases(show u=Value.ref b from p);obtain⟨z,j,v,c,f⟩:=mX I.hok e;refine call_meetsIn PySem.F.slot_dict_get f.typeIs PySem.F.entry_dict_get (PySem.F.args_dict_get_3 _ _ _) (meetsH_dict_get_default (tupleKind (bp X.prog X.w)) a b j r) ⟨tupleKind_room_in1 x,k,v,jW I.hok w,f,h _ _ (I.tok _) ?_⟩;rw[l];exact(c.val k).getD q
end
def yM(td ty tx:TE):TE:=λσ H Q=>td σ H λx H1=>∃ a,x=.ref a/\IsD H1 a/\ty σ H1 λy H2=>tx σ H2 λz H3=>∃ o,u7 H3 a y o/\Q (o.getD z) H3
section
variable {X:Cx}{o e f:Expr}{apos cpos:Pos}{td ty tx:TE}
theorem jv(F:X.A.units+1<cLine)(w:PE X o td)(O:PE X e ty)(k:PE X f tx)(m:M2 X o "get" apos e f cpos):PE X (.Call (.Attribute o "get" apos) [e,f] [] cpos) (yM td ty tx):=by
 intro b s i H Q I h;refine wpAny_Call_method m.base m.few m.line PySem.F.plainAttrs_dict PySem.F.slot_dict_get PySem.F.type_dict_get (thn (w b s i H _ I h) λu p ⟨x,J,j,l,a,n,d,E⟩=>?_);subst n;obtain rfl:u=Value.ref a:=l;obtain⟨C,N,_⟩:=vG j d;refine⟨C,N,?_⟩;rw[m.trees]
 refine Calls.callWith_builtin rfl (Calls.evalArgs_plain (Calls.spliced_cons (thn (O b p i J _ j E) λW L ⟨y,q,G,D,K⟩ =>
  Calls.spliced_cons (thn (k b L i q _ G K) λT R ⟨z,B,r,A,S,g,v⟩=>Calls.spliced_nil ?_))))
 exact zS F r g D A λP Y M c=>⟨_,B,M,c,v⟩
end
section
variable {X:Cx}{pins:List (Addr×Obj)}{σ:St}{H:Hp}{s:Shared}{a:Addr}{kvs:List (Key×V)}{A:Around}{E:Value->Shared->Prop}
end
section
variable {X:Cx}{pins:List (Addr×Obj)}{σ:St}{H:Hp}{s:Shared}{a:Addr}{y:V}{u:Value}{A:Around}{E:Value->Shared->Prop}
end
theorem OpR.imp{X:Cx}{f:Value->Value->Sem Value}{r b:R2}(h:OpR X f r)(i:∀ x y H Q,b x y H Q->r x y H Q):OpR X f b :=
 λa s c H x y v u Q I g d q=>h a s c H x y v u Q I g d (i x y H Q q)
theorem CallR.imp{X:Cx}{f:Value}{r b:List V->Hp->VK->Prop}(h:CallR X f r)(i:∀ xs H Q,b xs H Q->r xs H Q):CallR X f b :=
 λa s c H xs g Q I d q=>h a s c H xs g Q I d (i xs H Q q)
def tV(i:Nat):TE:=λσ H Q=>match σ[i]? with
 | some (some v)=>Q v H
 | _=>False
theorem vr{X:Cx}(i:Nat){x:Str}{c:Pos}(d:X.N[i]? = some x:=by rfl)(j:Vis X.env.scope x:=by first | exact Or.inl rfl | exact Or.inr (Or.inl rfl) | exact Or.inr (Or.inr rfl))(g:(x == ("__debug__" : Str))=false:=by decide)
  (b:(x == ("__classdict__" : Str))=false:=by decide):PE X (.Name x c) (tV i):=λa s f H Q I h=>by
 refine zY d j g b a s f H Q I ?_;unfold tV at h
 split at h
 .rename_i v e
  exact⟨v,e,h⟩
 .exact h.elim
def rI2(g:Int->Int->V):R2:=λx y H Q=>match x,y with
 | .int i,.int j=>Q (g i j) H
 | _,_=>False
def rIC(C:Int->Int->Prop)(g:Int->Int->V):R2:=λx y H Q=>match x,y with
 | .int i,.int j=>C i j/\Q (g i j) H
 | _,_=>False
theorem OpR.i2{X:Cx}{f:Value->Value->Sem Value}{g:Int->Int->V}(h:OpR X f (rI0 g)):OpR X f (rI2 g):=h.imp λx y H Q q=>by
 cases x <;> cases y <;> first | exact⟨_,_,rfl,rfl,q⟩ | exact(show False from q).elim
theorem OpR.ic{X:Cx}{f:Value->Value->Sem Value}{C:Int->Int->Prop}{g:Int->Int->V}(h:OpR X f (rI C g)):OpR X f (rIC C g):=h.imp λx y H Q q=>by
 cases x <;> cases y <;> first | exact⟨_,_,rfl,rfl,q.1,q.2⟩ | exact(show False from q).elim
section
variable {X:Cx}
def Be:R2:=λx y H Q=>match x,y with
 | .int i,.int j=>Q (.int (i+j)) H
 | .str i,.str j=>i.length+j.length<=sizeLine/\Q (.str (i++j)) H
 | _,_=>False
theorem dq:OpR X (binaryOp .Add) Be:=(op_add.or o6).imp λx y H Q q=>by
 cases x <;> cases y <;> first | exact .inl ⟨_,_,rfl,rfl,q⟩ | exact .inr ⟨_,_,rfl,rfl,q.1,q.2⟩ | exact(show False from q).elim
theorem jq:OpR X (binaryOp .Sub) (rI2 λi j=>.int (i - j)):=op_sub.i2
def Ba(i j:Int):Prop:=0<j
def CNn(i j:Int):Prop:=0<=j
theorem cp{i j:Int}(h:0<j:=by decide):Ba i j:=h
theorem cn{i j:Int}(h:0<=j:=by decide):CNn i j:=h
theorem cd{i j:Int}(h:0<j:=by decide)(a:j<1073741824:=by decide):BV i j:=⟨h,a⟩
theorem cl{i j:Int}(h:-(2 ^ 64)<i:=by decide)(a:i<2 ^ 64:=by decide):CMul i j:=.inl ⟨h,a⟩
theorem cr{i j:Int}(h:-(2 ^ 64)<j:=by decide)(a:j<2 ^ 64:=by decide):CMul i j:=.inr ⟨h,a⟩
theorem dY:OpR X (binaryOp .Mod) (rIC Ba λi j=>.int (i % j)):=op_mod.ic
theorem sM:OpR X (compareOp .LtE) (λx y H Q=>∃ i j,x=.str i/\y=.str j/\Q (.bl (!decide (j.cps.toList<i.cps.toList))) H):=by
 intro a s d H x y v u Q I c b h;obtain⟨i,j,rfl,rfl,q⟩:=h;obtain⟨t,rfl⟩:=c;obtain⟨f,rfl⟩:=b;exact PySem.P.le_str (aQ I q rfl)
def yq(f:Int->Int->Bool)(g:Str->Str->Bool):R2:=λx y H Q=>match x,y with
 | .int i,.int j=>Q (.bl (f i j)) H
 | .str i,.str j=>Q (.bl (g i j)) H
 | _,_=>False
theorem xb:OpR X (compareOp .Lt) (yq (λi j=>decide (i<j)) λi j=>decide (i.cps.toList<j.cps.toList)):=(op_lt.or sj).imp λx y H Q q=>by
 cases x <;> cases y <;> first | exact .inl ⟨_,_,rfl,rfl,q⟩ | exact .inr ⟨_,_,rfl,rfl,q⟩ | exact(show False from q).elim
theorem AK:OpR X (compareOp .LtE) (yq (λi j=>decide (i<=j)) λi j=>!decide (j.cps.toList<i.cps.toList)):=(op_le.or sM).imp λx y H Q q=>by
 cases x <;> cases y <;> first | exact .inl ⟨_,_,rfl,rfl,q⟩ | exact .inr ⟨_,_,rfl,rfl,q⟩ | exact(show False from q).elim
theorem Bz:OpR X (compareOp .Gt) (rI2 λi j=>.bl (decide (j<i))):=op_gt.i2
def xQ(neg:Bool):R2:=λx y H Q=>match x,y with
 | .int i,.int j=>Q (.bl (if neg then !decide (i=j) else decide (i=j))) H
 | .str i,.str j=>Q (.bl (if neg then !decide (i=j) else decide (i=j))) H
 | .bl i,.bl j=>Q (.bl (if neg then !decide (i=j) else decide (i=j))) H
 | .non,.non=>Q (.bl (!neg)) H
 | .non,.int _=>Q (.bl neg) H
 | .non,.str _=>Q (.bl neg) H
 | .non,.bl _=>Q (.bl neg) H
 | .int _,.non=>Q (.bl neg) H
 | .str _,.non=>Q (.bl neg) H
 | .bl _,.non=>Q (.bl neg) H
 | .int _,.str _=>Q (.bl neg) H
 | .str _,.int _=>Q (.bl neg) H
 | _,_=>False
theorem pB:OpR X (compareOp .Eq) (xQ false):=op_eq.imp λx y H Q q=>by
 cases x <;> cases y <;> first | exact(show False from q).elim | exact⟨rfl,q⟩ | exact⟨rfl,by rw[je];exact q⟩ | exact⟨rfl,by rw[kU];exact q⟩ | exact⟨rfl,by rw[i8];exact q⟩
theorem BF:OpR X (compareOp .NotEq) (xQ true):=op_ne.imp λx y H Q q=>by
 cases x <;> cases y <;> first | exact(show False from q).elim | exact⟨rfl,q⟩ | exact⟨rfl,by rw[je];exact q⟩ | exact⟨rfl,by rw[kU];exact q⟩ | exact⟨rfl,by rw[i8];exact q⟩
def rU1(g:Int->V):V->Hp->VK->Prop:=λx H Q=>match x with
 | .int i=>Q (g i) H
 | _=>False
theorem iC:UnR X (unaryOp .USub) (rU1 λi=>.int (-i)):=λa s b H x v Q I r q=>zf a s b H x v Q I r (by
 cases x <;> first | exact⟨_,rfl,q⟩ | exact(show False from q).elim)
def mB(Q:Bool->Hp->Prop):VK:=λx H=>match x with
 | .bl c=>Q c H
 | _=>False
variable {a b c:Expr}{ta tb tc:TE}{pos:Pos}{rest:List Expr}
def BG(ta tb:TE):TE:=λσ H Q=>ta σ H (mB λc H1=>if c=true then tb σ H1 Q else Q (.bl false) H1)
def BI(ta:TE):TE:=λσ H Q=>ta σ H (mB λc H1=>Q (.bl (!c)) H1)
theorem jH{Q:Bool->Hp->Prop}{x:V}{H:Hp}(h:mB Q x H):∃ c,x=.bl c/\Q c H:=by
 cases x <;> first | exact⟨_,rfl,h⟩ | exact(show False from h).elim
theorem mM(l:PE X a ta)(n:PE X (.BoolOp .And (b::rest) pos) tb):PE X (.BoolOp .And (a::b::rest) pos) (BG ta tb):=by
 intro d s g H Q I h;refine BoolOp_and (thn (l d s g H _ I h) λv o ⟨x,i,j,k,f⟩=>?_);obtain⟨c,rfl,f⟩:=jH f;cases k;refine wpAny_truthy_bool ?_;cases c with
 | true=>exact n d o g i Q j f
 | false=>exact⟨.bl false,i,j,rfl,f⟩
theorem BB(j:PE X a ta):PE X (.UnaryOp .Not a pos) (BI ta):=by
 intro b s f H Q I h;refine UnaryOp_ (thn (j b s f H _ I h) λv l ⟨x,i,k,g,d⟩=>?_);obtain⟨c,rfl,d⟩:=jH d;cases g;exact not_of (wpAny_truthy_bool ⟨.bl (!c),i,k,rfl,d⟩)
def mT(t:TE):TT:=λσ H Q=>t σ H (mB Q)
theorem gN(h:PE X a ta)(l:∀ whole,isTrue a X.env whole=(do let v <- whole;standAt a.pos;holding [v] (truthy v)):=by intro _;rfl):PT X a (mT ta):=by
 intro b s c H Q I i;refine isTrue_plain (thn (h b s c H _ I i) λv n ⟨x,g,k,f,j⟩=>?_) (l _);obtain⟨d,rfl,q⟩:=jH j;cases f;exact wpAny_truthy_bool ⟨g,k,q⟩
theorem cE{op:CmpOp}{r:R2}(C:OpR X (compareOp op) r)(o:PE X a ta)(q:PE X b tb)(j:behindInMarks op b=false):PT X (.Compare a [op] [b] pos) (mT (tOp r ta tb)):=by
 intro d s f H Q I h
 refine wpAny_isTrue_Compare1 (thn (o d s f H _ I h) λv w ⟨x,n,A,l,p⟩=>thn (q d w f n _ A p) λu s2 ⟨y,H2,I2,r2,q2⟩ =>
  thn (C d s2 f H2 x y v u _ I2 l r2 q2) λc E ⟨z,i,B,D,g⟩=>?_) j
 obtain⟨k,rfl,g⟩:=jH g;cases D;exact wpAny_truthy_bool ⟨i,B,g⟩
def zm(r r':R2)(ta tb tc:TE):TE:=λσ H Q=>ta σ H λx H1=>tb σ H1 λy H2=>r x y H2 (mB λk H3=>if k=true then tc σ H3 λw' H4=>r' y w' H4 Q else Q (.bl false) H3)
theorem w6{op g:CmpOp}{r n:R2}(F:OpR X (compareOp op) r)(l:OpR X (compareOp g) n)(K:PE X a ta)(M:PE X b tb)(q:PE X c tc)
  (A:lastMarks [op,g] [b,c]=false:=by with_unfolding_all rfl):PE X (.Compare a [op,g] [b,c] pos) (zm r n ta tb tc):=by
 intro f s i H Q I h
 refine Compare_chain (thn (K f s i H _ I h) λv C ⟨x,P,D,J,L⟩=>chain_link (thn (M f C i P _ D L) λu s2 ⟨y,H2,I2,r2,q2⟩ =>
  thn (F f s2 i H2 x y v u _ I2 J r2 q2) λd E ⟨z,p,o,G,j⟩=>?_)) A
 obtain⟨k,rfl,j⟩:=jH j;cases G;refine wpAny_truthy_bool ?_;cases k with
 | false=>exact ite_ff ⟨.bl false,p,o,rfl,j⟩
 | true=>exact ite_tt (chain_last (thn (q f E i p _ o j) λw T ⟨N,B,S,R,O⟩=>l f T i B y N u w Q S r2 R O))
open PySem.W in
theorem uD{g:List (Addr×Obj)}{j:St}{H:Hp}{s:Shared}{x:V}{u t:Value}(I:Inv X g j H s)(b:RelV x u)(ty:TyOf X.K H x t) :
  ∃ Hh:Heap->Prop,KitX X.K u t Hh/\Hh s.heap/\u≠.builtin "__main__.__loader__#opaque" := by
 cases ty with
 | non=>cases(show u=Value.none from b);exact⟨_,PySem.W.kitx_none,True.intro,λz=>nomatch z⟩
 | bl y=>cases(show u=Value.bool y from b);exact⟨_,PySem.W.kitx_bool,True.intro,λz=>nomatch z⟩
 | int i=>obtain⟨t,q⟩:=(show ∃ t,u=Value.int i t from b);cases q;exact⟨_,PySem.W.kitx_int,True.intro,λz=>nomatch z⟩
 | str y=>obtain⟨t,q⟩:=(show ∃ t,u=Value.str y t from b);cases q;exact⟨_,PySem.W.kitx_str,True.intro,λz=>nomatch z⟩
 | flt y=>obtain⟨t,q⟩:=(show ∃ t,u=Value.float y t from b);cases q;exact⟨_,PySem.W.kitx_float,True.intro,λz=>nomatch z⟩
 | @lst a d ea =>
  cases(show u=Value.ref a from b)
  obtain⟨_,_,n,_,c⟩:=(show ObjOk X.prog X.w H s.heap a (.lst d) from I.hok a _ ea)
  exact⟨_,kitx_list,⟨_,c,rfl⟩,λz=>nomatch z⟩
 | @frz a ob d ea =>
  cases(show u=Value.ref a from b)
  obtain⟨_,_,_,n,_,c⟩:=(show ObjOk X.prog X.w H s.heap a (.frz ob (.lst d)) from I.hok a _ ea)
  exact⟨_,kitx_list,⟨_,c,rfl⟩,λz=>nomatch z⟩
 | @tup a d ea =>
  cases(show u=Value.ref a from b)
  obtain⟨_,_,_,p⟩:=(show ObjOk X.prog X.w H s.heap a (.tup d) from I.hok a _ ea)
  obtain⟨o,c,f,_⟩:=p;exact⟨_,kitx_tuple,⟨o,c,f⟩,λz=>nomatch z⟩
 | @dK a kvs ea =>
  cases(show u=Value.ref a from b)
  obtain⟨_,_,r,_,p⟩:=(show ObjOk X.prog X.w H s.heap a (.dK kvs) from I.hok a _ ea)
  obtain⟨o,h,k,c,f,_⟩:=p;exact⟨_,kitx_dict,⟨o,c,f.1⟩,λz=>nomatch z⟩
 | @dT a kvs ea =>
  cases(show u=Value.ref a from b)
  obtain⟨_,_,d,_,o,h,k,c,f,_⟩:=(show ObjOk X.prog X.w H s.heap a (.dT kvs) from I.hok a _ ea)
  exact⟨_,kitx_dict,⟨o,c,f.1⟩,λz=>nomatch z⟩
 | @ins a C dx fs ea cl ha hn htk hm =>
  cases(show u=Value.ref a from b);obtain⟨l,O,_⟩:=jj I.hok ea;obtain⟨v,J,_⟩:=O.look;exact⟨_,PySem.W.kitx_own (cl.get _) cl.hd ha hn htk hm,J,λz=>nomatch z⟩
def AW:V->Value
 | .ty n=>.type n
 | .ref a=>.ref a
 | _=>.none
def yf:V->Bool
 | .ty _=>true
 | .ref _=>true
 | _=>false
theorem xS{c:V}{u:Value}(h:yf c=true)(r:RelV c u):u=AW c:=by
 cases c <;> first | exact r | exact absurd (show false=true from h) Bool.false_ne_true
inductive rIsi(K:Frag)(xs:List V)(H:Hp)(Q:VK):Prop
 | mk(x c:V)(t:_)(b:Bool)(h0:xs=[x,c])(h1:yf c=true)(h2:TyOf K H x t)(h3:kitOne K t (AW c)=some b)(h4:Q (.bl b) H):rIsi K xs H Q
theorem mS:CallR X (.builtin "isinstance") (rIsi X.K):=by
 intro a s n H o w Q I r h;obtain⟨x,c,t,b,rfl,i,g,e,q⟩:=h;obtain⟨u,l,rfl,j,f⟩:=vW r;cases xS i f;obtain⟨v,Z,p,k⟩:=uD I j g
 exact PySem.W.kia_one Z I.kIn p e k λd=>⟨.bl b,H,I.tok d,rfl,q⟩
end
theorem yP{Q:V->Prop}{p r:Prop}[Decidable p][Decidable r](q:Q (.bl (decide (p/\r)))):if decide p=true then Q (.bl (decide r)) else Q (.bl false):=by
 by_cases h:p
 .rw[if_pos (decide_eq_true h)]
  have e:decide (p/\r)=decide r:=by by_cases z:r <;> simp[h,z]
  rw[<- e];exact q
 .rw[if_neg (λz=>h (of_decide_eq_true z))]
  have e:decide (p/\r)=false:=decide_eq_false λz=>h z.1
  rw[<- e];exact q
theorem ifP{c:Prop}[Decidable c]{A B:Prop}(a:c)(h:A):if decide c=true then A else B:=by rw[if_pos (decide_eq_true a)];exact h
theorem ifN{c:Prop}[Decidable c]{A B:Prop}(a:¬c)(h:B):if decide c=true then A else B:=by rw[if_neg (λz=>a (of_decide_eq_true z))];exact h
theorem ifC{c:Prop}[Decidable c]{A B:Prop}(b:c->A)(a:¬c->B):if decide c=true then A else B:=by
 by_cases h:c
 .exact ifP h (b h)
 .exact ifN h (a h)
theorem ifB{b:Bool}{A B:Prop}(c:b=true->A)(a:b=false->B):if b=true then A else B:=by
 cases b with
 | true=>rw[if_pos rfl];exact c rfl
 | false=>rw[if_neg Bool.false_ne_true];exact a rfl
theorem eM:bootBuiltins "len" = some (.builtin "len"):=by decide +kernel
theorem gj:bootBuiltins "isinstance" = some (.builtin "isinstance"):=by decide +kernel
theorem t7:bootBuiltins "min" = some (.builtin "min"):=by decide +kernel
theorem v8:bootBuiltins "max" = some (.builtin "max"):=by decide +kernel
theorem lS:bootBuiltins "enumerate" = some (.type "enumerate"):=by decide +kernel
theorem uu:bootBuiltins "range" = some (.type "range"):=by decide +kernel
theorem yS:bootBuiltins "int" = some (.type "int"):=by decide +kernel
theorem xC:bootBuiltins "bool" = some (.type "bool"):=by decide +kernel
theorem lV:bootBuiltins "list" = some (.type "list"):=by decide +kernel
theorem nk:bootBuiltins "tuple" = some (.type "tuple"):=by decide +kernel
theorem gE{X:Cx}{x:Str}{v:V}{a:Pos}(b:Gl X x)(h:∃ u,X.mg x=some u/\RelV v u)(c:(x == ("__debug__" : Str))=false:=by decide):PE X (.Name x a) (tC v) :=
 let ⟨_,e,r⟩:=h
 xA b e r c
def Ar(K:Frag)(tl:TE):TI:=λσ H R=>tl σ H λx H1=>match x with
 | .str z=>R (Its z) H1
 | .ref a=>((∃ xs,SqL K H1 a xs)/\R (Itl K a) H1)\/((∃ xs,SqT K H1 a xs)/\R (Itt K a) H1)
 | _=>False
theorem aY{X:Cx}{tg l:Expr}{tl:TE}(n:PE X l tl):PI X tg l (Ar X.K tl):=by
 intro g s w H R I h;have u:PE X l tl:=n;refine thn (n g s w H _ I h) λv c ⟨x,j,d,r,k⟩=>?_
 cases x with
 | str z =>
  have:=zR (X:=X) (tg:=tg) (l:=l) (tl:=tC (.str z));obtain⟨t,rfl⟩:=r;refine wpAny_pyIter_strU ?_;refine⟨c.heap.objs.size,[c.heap.objs.size],_,_,j,rfl,d.kept (t':=c.toks) λb o e=>Heap.get?_push_of_some _ e,oe (ty:=strIterType z) (t:=t) z _ ?_,⟨_,Heap.get?_push_size _ rfl,rfl,rfl⟩,λb hb=>?_,k⟩
  .unfold strIterType
   split
   .exact .inl rfl
   .exact .inr rfl
  .have e:b=c.heap.objs.size:=by simpa using hb
   subst e;exact d.fpOk (Nat.le_refl _) (d.hok.fresh (Nat.le_refl _))
 | ref a =>
  cases r
  rcases k with⟨⟨y,i⟩,q⟩ | ⟨⟨y,i⟩,q⟩
  .obtain⟨f,B,p,A⟩:=d.list i
   refine wpAny_pyIter_list p.isList ?_;refine⟨c.heap.objs.size,[c.heap.objs.size],_,_,j,rfl,d.kept (t':=c.toks) λb o e=>Heap.get?_push_of_some _ e,tw a _,⟨_,Heap.get?_push_size _ rfl,rfl,rfl⟩,λb hb=>?_,q⟩;have e:b=c.heap.objs.size:=by simpa using hb
   subst e;exact d.fpOk (Nat.le_refl _) (d.hok.fresh (Nat.le_refl _))
  .obtain⟨f,B,p,A⟩:=d.tuple i
   refine wpAny_pyIter_tuple (show c.heap.IsTuple a f.toArray from p) ?_;refine⟨c.heap.objs.size,[c.heap.objs.size],_,_,j,rfl,d.kept (t':=c.toks) λb o e=>Heap.get?_push_of_some _ e,pp a _,⟨_,Heap.get?_push_size _ rfl,rfl,rfl⟩,λb hb=>?_,q⟩;have e:b=c.heap.objs.size:=by simpa using hb
   subst e;exact d.fpOk (Nat.le_refl _) (d.hok.fresh (Nat.le_refl _))
 | _=>exact(show False from k).elim
inductive rLenSq(K:Frag)(p:Addr)(H:Hp)(Q:VK):Prop
 | mk(ys:List V)(h0:SqL K H p ys\/SqT K H p ys)(h1:Q (.int ys.length) H):rLenSq K p H Q
theorem cD{X:Cx}:CallR X (.builtin "len") (λxs H Q=>match xs with
  | [.str z]=>z.length<=sizeLine/\Q (.int z.length) H
  | [.ref p]=>rLenSq X.K p H Q
  | _=>False):=(call_len_str.or mj).imp λxs H Q q=>by
 match xs,q with
 | [.str z],q=>exact .inl ⟨z,rfl,q.1,q.2⟩
 | [.ref p],q=>obtain⟨a,h,q⟩:=q;exact .inr ⟨p,a,rfl,h,q⟩
section
variable {D:Addr}{σb:St}{g:TG}{tt:TT}{te:TE}{Q:Hp->List V->Prop}{H:Hp}{K:Frag}
def rB(D:Addr)(σb:St)(g:TG)(tt:TT)(te:TE)(x:V)(ys:List V)(H:Hp)(P:List V->Hp->Prop):Prop :=
 g x σb H λσ4 H4=>Wk σb σ4/\tt σ4 H4 λb H5=>if b=true then te σ4 H5 λy H6=>H6 D=some (.lst ys)/\ys.length<sizeLine/\P (ys++[y]) (upd H6 D (.lst (ys++[y]))) else P ys H5
theorem aJ{a:Addr}{xs:List V}(c:Nat->List V->Hp->Prop)(k:c 0 [] H)(f:∀ i ys H,c i ys H->SqL K H a xs)(d:∀ i ys H,c i ys H->H D=some (.lst ys))
  (j:∀(i:Nat) x ys H P,xs[i]? = some x->c i ys H->(∀ a b,c (i+1) a b->P a b)->rB D σb g tt te x ys H P) (h:∀ ys H,c xs.length ys H->Q H ys):∃ W,(∃ m,W 0 m [] H)/\iJ (Itl K a) D σb g tt te Q W:=by
 refine⟨λi m ys H=>m=xs.length - i/\i<=xs.length/\c i ys H,⟨_,rfl,Nat.zero_le _,k⟩,?_⟩;rintro i m ys H ⟨rfl,n,p⟩;refine⟨d i ys H p,?_⟩;have q:=f i ys H p
 by_cases hlt:i<xs.length
 .refine .inr ⟨⟨xs,xs[i],q,by simp[hlt]⟩,λx l y=>?_⟩
  obtain⟨rfl,y⟩:=y;exact j i x ys _ (λa b=>∃ m',m'<xs.length - i/\m'=xs.length - (i+1)/\i+1<=xs.length/\c (i+1) a b) (y xs q) p (λa b q=>⟨xs.length - (i+1),by lia,rfl,hlt,q⟩)
 .have e:i=xs.length:=by lia
  subst e;exact .inl ⟨⟨xs,q,Nat.le_refl _⟩,h ys H p⟩
theorem vb{a:Addr}{xs:List V}(c:Nat->List V->Hp->Prop)(k:c 0 [] H)(f:∀ i ys H,c i ys H->SqT K H a xs)(d:∀ i ys H,c i ys H->H D=some (.lst ys))
  (j:∀(i:Nat) x ys H P,xs[i]? = some x->c i ys H->(∀ a b,c (i+1) a b->P a b)->rB D σb g tt te x ys H P) (h:∀ ys H,c xs.length ys H->Q H ys):∃ W,(∃ m,W 0 m [] H)/\iJ (Itt K a) D σb g tt te Q W:=by
 refine⟨λi m ys H=>m=xs.length - i/\i<=xs.length/\c i ys H,⟨_,rfl,Nat.zero_le _,k⟩,?_⟩;rintro i m ys H ⟨rfl,n,p⟩;refine⟨d i ys H p,?_⟩;have q:=f i ys H p
 by_cases hlt:i<xs.length
 .refine .inr ⟨⟨xs,xs[i],q,by simp[hlt]⟩,λx l y=>?_⟩
  obtain⟨rfl,y⟩:=y;exact j i x ys _ (λa b=>∃ m',m'<xs.length - i/\m'=xs.length - (i+1)/\i+1<=xs.length/\c (i+1) a b) (y xs q) p (λa b q=>⟨xs.length - (i+1),by lia,rfl,hlt,q⟩)
 .have e:i=xs.length:=by lia
  subst e;exact .inl ⟨⟨xs,q,Nat.le_refl _⟩,h ys H p⟩
theorem jz{lo:Int}{n:Nat}(c:Nat->List V->Hp->Prop)(j:c 0 [] H)(d:∀ i ys H,c i ys H->H D=some (.lst ys))
  (h:∀(i:Nat) ys H P,i<n->c i ys H->(∀ a b,c (i+1) a b->P a b)->rB D σb g tt te (.int (lo+i)) ys H P) (f:∀ ys H,c n ys H->Q H ys):∃ W,(∃ m,W 0 m [] H)/\iJ (Itr lo n) D σb g tt te Q W:=by
 refine⟨λi m ys H=>m=n - i/\i<=n/\c i ys H,⟨_,rfl,Nat.zero_le _,j⟩,?_⟩;rintro i m ys H ⟨rfl,l,p⟩;refine⟨d i ys H p,?_⟩
 by_cases hlt:i<n
 .refine .inr ⟨hlt,λx k y=>?_⟩
  obtain⟨rfl,rfl⟩:=y;exact h i ys _ (λa b=>∃ m',m'<n - i/\m'=n - (i+1)/\i+1<=n/\c (i+1) a b) hlt p (λa b q=>⟨n - (i+1),by lia,rfl,hlt,q⟩)
 .have e:i=n:=by lia
  subst e;exact .inl ⟨Nat.le_refl _,f ys H p⟩
end
theorem Same.new{H:Hp}{p:Addr}{o:HO}(h:H p=none):Same H (upd H p o):=λb u e=>by rw[ai (av e h)];exact e
mutual
def DV(K:Frag)(H:Hp):PyData->V->Prop
 | .none,x=>x=.non
 | .bool b,x=>x=.bl b
 | .int i,x=>x=.int i
 | .str z,x=>x=.str z
 | .list ds,x=>∃ a xs,x=.ref a/\SqL K H a xs/\DVs K H ds xs
 | .tuple ds,x=>∃ a xs,x=.ref a/\SqT K H a xs/\DVs K H ds xs
 | .dict _,_=>False
def DVs(K:Frag)(H:Hp):List PyData->List V->Prop
 | [],xs=>xs=[]
 | d::ds,xs=>∃ y ys,xs=y::ys/\DV K H d y/\DVs K H ds ys
end
section
variable {X:Cx}{pins:List (Addr×Obj)}{σ:St}{H:Hp}{s:Shared}
mutual
theorem DV.reads(I:Inv X pins σ H s):∀{d:PyData}{x:V}{u:Value},DV X.K H d x->RelV x u->∃ as,Reads s.heap u d as
 | .none,x,u,h,r=>by
  rw[DV]at h;subst h;cases r;exact⟨_,.none⟩
 | .bool b,x,u,h,r=>by
  rw[DV]at h;subst h;cases r;exact⟨_,.bool b⟩
 | .int i,x,u,h,r=>by
  rw[DV]at h;subst h;obtain⟨t,rfl⟩:=r;exact⟨_,.int i t⟩
 | .str z,x,u,h,r=>by
  rw[DV]at h;subst h;obtain⟨t,rfl⟩:=r;exact⟨_,.str z t⟩
 | .list ds,x,u,h,r=>by
  rw[DV]at h;obtain⟨a,l,rfl,g,f⟩:=h;cases r;obtain⟨k,j,⟨o,n,e,c,_,d⟩,_⟩:=I.list g;obtain⟨as,q⟩:=DVs.reads I f j;exact⟨_,.list e c d (by simpa using q)⟩
 | .tuple ds,x,u,h,r=>by
  rw[DV]at h;obtain⟨a,l,rfl,g,f⟩:=h;cases r;obtain⟨k,j,⟨o,e,c,n,d⟩,_⟩:=I.tuple g;obtain⟨as,q⟩:=DVs.reads I f j;exact⟨_,.tuple e c d (by simpa using q)⟩
 | .dict _,x,u,h,r=>by rw[DV]at h;exact h.elim
theorem DVs.reads(I:Inv X pins σ H s):∀{ds:List PyData}{xs:List V}{us:List Value},DVs X.K H ds xs->Vals xs us->∃ as,ReadsAll s.heap us ds as
 | [],xs,us,h,r=>by
  rw[DVs]at h;subst h;cases r;exact⟨_,.nil⟩
 | d::ds,xs,us,h,r=>by
  rw[DVs]at h;obtain⟨y,f,rfl,b,a⟩:=h;cases r with
  | cons r rs =>
   obtain⟨as,q⟩:=DV.reads I b r;obtain⟨c,p⟩:=DVs.reads I a rs;exact⟨_,.cons q p⟩
end
end
inductive rEqD(K:Frag)(neg:Bool)(x y:V)(H:Hp)(Q:VK):Prop
 | mk(d e:PyData)(h0:DV K H d x)(h1:DV K H e y)(h2:SeqAt.shaped d=true)(h3:SeqAt.shaped e=true)(h4:Q (.bl (if neg then !PyData.eqv d e else PyData.eqv d e)) H):rEqD K neg x y H Q
theorem yd{X:Cx}(b:X.A.units+64<cLine):OpR X (compareOp .Eq) (rEqD X.K false):=by
 intro a s p H x y v u Q I k g h;obtain⟨d,e,l,f,j,i,q⟩:=h;obtain⟨r,n⟩:=l.reads I k;obtain⟨o,c⟩:=f.reads I g;exact eq_dataH n c j i b ⟨.bl _,H,I,rfl,q⟩
theorem iD{X:Cx}(b:X.A.units+64<cLine):OpR X (compareOp .NotEq) (rEqD X.K true):=by
 intro a s p H x y v u Q I k g h;obtain⟨d,e,l,f,j,i,q⟩:=h;obtain⟨r,n⟩:=l.reads I k;obtain⟨o,c⟩:=f.reads I g;exact ne_dataH n c j i b ⟨.bl _,H,I,rfl,q⟩
section
variable {X:Cx}{st:Stmt}{rest:List Stmt}{t u:TS}{e:Expr}{te:TE}{tt:TT}
def Bi(t u:TS):TS:=λD σ H=>∃ M:St->Hp->Prop,t { D with nx:=M } σ H/\∀ σ' H',M σ' H'->u D σ' H'
theorem sx(l:PS X st t)(i:PSs X rest u):PSs X (st::rest) (Bi t u):=by
 intro a s d H D I h;obtain⟨M,h,g⟩:=h;refine wpAny_execs_cons (thn (l a s d H { D with nx:=M } I h) λf k q=>?_);cases f with
 | next =>
  obtain⟨b,c,j,q⟩:=q;exact i a k b c D j (g _ _ q)
 | ret v=>exact q
 | brk=>exact q
 | cont=>exact q
end
end L2
namespace L2
abbrev PvS:=Nat->St->Hp->Prop
abbrev PvL:=Nat->List V->Hp->Prop
theorem jK{a c:TS}{D:Ends}{b:St}{H:Hp}:(let B2:TS:=c;aT a B2 D b H)->aT a c D b H:=λh=>h
theorem eQ{d a c:TS}{D:Ends}{b:St}{H:Hp}:(let B3:TS:=c;let B2:TS:=aT a B3;aT d B2 D b H)->aT d (aT a c) D b H:=λh=>h
theorem vF{c f d b:TS}{D:Ends}{a:St}{H:Hp}:(let B4:TS:=b;let B3:TS:=aT d B4;let B2:TS:=aT f B3;aT c B2 D a H)->aT c (aT f (aT d b)) D a H:=λh=>h
theorem A0{c g d b f:TS}{D:Ends}{a:St}{H:Hp}:(let B5:TS:=f;let B4:TS:=aT b B5;let B3:TS:=aT d B4;let B2:TS:=aT g B3;aT c B2 D a H)->aT c (aT g (aT d (aT b f))) D a H:=λh=>h
theorem AO{c i f b g d:TS}{D:Ends}{a:St}{H:Hp}:(let B6:TS:=d;let B5:TS:=aT g B6;let B4:TS:=aT b B5;let B3:TS:=aT f B4;let B2:TS:=aT i B3;aT c B2 D a H)->aT c (aT i (aT f (aT b (aT g d)))) D a H:=λh=>h
theorem yN{o p s n u q j r k i c g a d f b:TS}{D:Ends}{l:St}{H:Hp}:(let B16:TS:=b;let B15:TS:=aT f B16;let B14:TS:=aT d B15;let B13:TS:=aT a B14;let B12:TS:=aT g B13;let B11:TS:=aT c B12;let B10:TS:=aT i B11;let B9:TS:=aT k B10;let B8:TS:=aT r B9;let B7:TS:=aT j B8;let B6:TS:=aT q B7;let B5:TS:=aT u B6;let B4:TS:=aT n B5;let B3:TS:=aT s B4;let B2:TS:=aT p B3;aT o B2 D l H)->aT o (aT p (aT s (aT n (aT u (aT q (aT j (aT r (aT k (aT i (aT c (aT g (aT a (aT d (aT f b)))))))))))))) D l H:=λh=>h
end L2
namespace L2
open PySem PySem.Spec PyProof.Rows
section
variable {X:Cx}{pins:List (Addr×Obj)}{σ:St}{H:Hp}{s:Shared}{h':Heap}
theorem Inv.turnedNew{t':Nat}{ch:List Addr}{a:Addr}{o:HO}(I:Inv X pins σ H s)(k:∀ b u,b ∉ ch->s.heap.get? b=some u->h'.get? b=some u)(l:∀ b∈ch,eB X pins H b)
  (w:s.heap.objs.size<=a) (i:ObjOk X.prog X.w (upd H a o) h' a o):Inv X pins σ (upd H a o) { s with heap:=h',toks:=t' }:=by
 have p:H a=none:=I.hok.fresh w
 have g:∀ b u,H b=some u->b ∉ ch:=λb u e z=>by
  rw[(l b z).1]at e;cases e
 have d:∀ b u,H b=some u->b≠a:=λb u e z=>by
  rw[z,p]at e;cases e
 have j:∀ b u,s.heap.get? b=some u->b≠a:=λb u e=>Nat.ne_of_lt (Nat.lt_of_lt_of_le (Heap.lt_size e) w)
 refine I.step (g':=s.gens) (d':=s.drawn) (ch:=ch) (λb h=>?_) (λb u _ _ f e _=>k b u f e) (λb u _ _ f e _=>⟨u.slots,k b u f e⟩) (λb u _ e n=>?_) (λb u f e=>⟨u,k b u f e⟩)
  (λb C e=>?_) (λb u v e=>?_) (λb ps e=>⟨#[],?_⟩) (λm hm=>?_) (λb u e=>?_) I.bare
 .obtain⟨_,A,_,G,F,E⟩:=l b h
  exact⟨G,A,F,E⟩
 .rw[ai (j b u e)];exact n
 .rw[ai (d b _ e)];exact e
 .rw[ai (d b _ e)];exact e
 .rw[ai (d b _ e),e];simp
 .obtain⟨x,y,B,D,r⟩:=hm
  exact⟨x,y,B,k _ x (λz=>(l _ z).2.1 rfl) D,r⟩
 .by_cases h:b=a
  .subst h
   rw[ad]at e;cases e;exact i
  .rw[ai h]at e
   refine(I.hok b u e).stay (λc v f q=>k c v ?_ q) (λc q=>?_) λc C q=>?_
   .rcases f with z | z
    .rw[z];exact g b u e
    .exact g c _ z
   .rw[ai (d c _ q)];exact q
   .rw[ai (d c _ q)];exact q
theorem Inv.turnedN{t':Nat}{ch:List Addr}(I:Inv X pins σ H s)(k:∀ b u,b ∉ ch->s.heap.get? b=some u->h'.get? b=some u)(f:∀ b∈ch,eB X pins H b):Inv X pins σ H { s with heap:=h',toks:=t' }:=by
 have d:∀ b u,H b=some u->b ∉ ch:=λb u e z=>by
  rw[(f b z).1]at e;cases e
 refine I.step (g':=s.gens) (d':=s.drawn) (ch:=ch) (λb w=>?_) (λb u _ _ a e _=>k b u a e) (λb u _ _ a e _=>⟨u.slots,k b u a e⟩) (λb u _ e n=>n) (λb u a e=>⟨u,k b u a e⟩)
  (λb l e=>e) (λb u v e=>e) (λb ps e=>⟨#[],by rw[e];simp⟩) (λm hm=>?_) (λb u e=>?_) I.bare
 .obtain⟨_,i,_,y,x,p⟩:=f b w
  exact⟨y,i,x,p⟩
 .obtain⟨g,h,j,o,r⟩:=hm
  exact⟨g,h,j,k _ g (λz=>(f _ z).2.1 rfl) o,r⟩
 .refine(I.hok b u e).stay (λc v a q=>k c v ?_ q) (λc q=>q) λc l q=>q
  rcases a with z | z
  .rw[z];exact d b u e
  .exact d c _ z
end
def Ite(a:Addr):It:=⟨λi H=>∃ xs x,H a=some (.lst xs)/\xs[i]? = some x,
 λi H x H'=>∃ p y,H p=none/\x=.ref p/\(∀ xs,H a=some (.lst xs)->xs[i]? = some y)/\H'=upd H p (.tup [.int (i:Nat),y]),λi H=>∃ xs,H a=some (.lst xs)/\xs.length<=i⟩
theorem sT{P:Program}{w:World}{K:Frag}{es:List Expr}{k:Nat}{ab:Pos}(a e c:Addr)(C:e≠c) :
  Turn P w K (.Tuple es k ab) (Ite a) [e,c] e (λi h=>(∃ old,IsEnum h e c i old)/\h.IsListIter c a i) where
 mem:=by simp
 obj:=λi h f b hb=>by
  obtain⟨⟨old,d⟩,o,y,G,h3⟩:=f
  rcases mem_cons.mp hb with rfl | hb
  .exact⟨_,d,λv z=>by cases z⟩
  .rw[mem_singleton.mp hb]
   exact⟨o,y,λv z=>by rw[h3]at z;cases z⟩
 keep:=λi h h' f kp=>by
  obtain⟨⟨old,d⟩,o,y,r⟩:=f;exact⟨⟨old,kp e (by simp) _ d⟩,o,kp c (by simp) o y,r⟩
 item:=by
  intro X Q L R hc i j s σ H E I F f Y;subst Q L R;obtain⟨⟨old,d⟩,g⟩:=f;obtain⟨xs,x,D,Z⟩:=Y;obtain⟨z,p,n,r,A,eo⟩:=I.lstM D;obtain⟨u,hu,ru⟩:=Vals.get r Z
  have l:s.heap.IsList a p.toArray:=⟨_,eo,rfl,_,rfl⟩
  refine wpAny_pyNext_enum_item d g l (x:=u) (by simpa using hu) C λy e1 e2 e3 e4 e5=>?_
  refine⟨_,rfl,wpAny_letOwnedTupleGo_enum e1 λG e6 T=>?_⟩;have B:s.heap.objs.size≠e:=λq=>absurd (Heap.lt_size d) (by rw[<- q];exact Nat.lt_irrefl _)
  have M:s.heap.objs.size≠c:=λq=>by
   obtain⟨o,W,_⟩:=g;exact absurd (Heap.lt_size W) (by rw[<- q];exact Nat.lt_irrefl _)
  have hn:H s.heap.objs.size=none:=I.hok.fresh (Nat.le_refl _);have N:G.get? s.heap.objs.size=some { cls:=.type "tuple",data:=.seq #[.int i s.toks,u] }:=(T.2 _ B).trans e3
  have J:Inv X j σ (upd H s.heap.objs.size (.tup [.int (i:Nat),x])) { s with heap:=G,toks:=s.toks+1 }:=by
   refine I.turnedNew (ch:=[e,c]) (λb o hb q=>?_) F (Nat.le_refl _) ⟨by rw[sizeLine_eq];show 2<=16777216;decide,[.int i s.toks,u],.cons ⟨_,rfl⟩ (.cons ru .nil),_,N,rfl,0,rfl⟩;have b1:b≠e:=λz=>hb (by simp[z])
   have b2:b≠c:=λz=>hb (by simp[z])
   exact(T.2 b b1).trans (e5 b o b1 b2 q)
  refine⟨.ref s.heap.objs.size,_,J,rfl,⟨s.heap.objs.size,x,hn,rfl,λys hy=>?_,rfl⟩,⟨⟨u,?_⟩,?_⟩,λb hb=>?_⟩
  .rw[D]at hy
   cases hy;exact Z
  .have O:IsEnum G e c ((i:Int)+1) u:=e6
   have e7:((i+1:Nat):Int)=(i:Int)+1:=by lia
   rw[e7];exact O
  .obtain⟨o,W,r⟩:=e2
   exact⟨o,(T.2 c (Ne.symm C)).trans W,r⟩
  .have S:b≠s.heap.objs.size:=by
    rcases mem_cons.mp hb with rfl | hb
    .exact B.symm
    .rw[mem_singleton.mp hb];exact M.symm
   rw[ai S];exact(F b hb).1
 done:=by
  intro X Q L R hc i j s σ H E I F f Y;subst Q L R;obtain⟨⟨old,d⟩,g⟩:=f;obtain⟨xs,D,Z⟩:=Y;obtain⟨z,p,n,r,A,eo⟩:=I.lstM D
  have l:s.heap.IsList a p.toArray:=⟨_,eo,rfl,_,rfl⟩
  refine wpAny_pyNext_enum_end (I.ok.hd hc) d g l (by simp;lia) λy eb=>⟨rfl,I.turnedN (ch:=[e,c]) (t':=s.toks) (λb o hb q=>eb b o (λz=>hb (by simp[z])) q) F⟩
 self:=λ_ _ _ _ _ f h=>by
  obtain⟨⟨old,d⟩,_⟩:=f;exact wpAny_pyIter_enum d h
def Ap(ta:TA):TI:=λσ H R=>ta σ H λvs H1=>∃ a xs,vs=[.ref a]/\H1 a=some (.lst xs)/\R (Ite a) H1
theorem gO{X:Cx}{N:List Expr}{k:Nat}{g:Pos}{e:Expr}{v:TA}{p i:Pos}(J:Gl X "enumerate")(E:X.mg "enumerate" = none)(K:PA X [e] v)(D:starEach [e] X.env=[(false,eval e X.env)]:=by rfl) :
  PI X (.Tuple N k g) (.Call (.Name "enumerate" p) [e] [] i) (Ap v):=by
 intro d s w H R I h;refine wpAny_Call_Name_kw (jy I J E lS ?_ (by decide) (by decide));refine PyProof.Rows.callWith_type1 (thn (K i d s w H _ I h) λW c ⟨Q,y,j,G,a,S,l,A,q⟩=>?_) D rfl;subst l;obtain⟨u,rfl,C⟩:=eC G;cases C;obtain⟨z,L,n,r,x,P⟩:=j.lstM A;refine call_enumerate_1 (n:=n) P λF l B T O=>?_
 have M:Inv X d w y { c with heap:=F }:=j.kept (t':=c.toks) O;have o:c.heap.objs.size+1≠c.heap.objs.size:=Nat.succ_ne_self _;refine wpAny_pyIter_enum l ?_;refine⟨c.heap.objs.size+1,[c.heap.objs.size+1,c.heap.objs.size],_,_,y,rfl,M,sT a _ _ o,⟨⟨_,l⟩,B⟩,λb hb=>?_,q⟩
 have f:c.heap.objs.size<=b:=by
  rcases mem_cons.mp hb with rfl | hb
  .lia
  .rw[mem_singleton.mp hb]
   exact Nat.le_refl _
 exact j.fpOk f (j.hok.fresh f)
theorem jU{a:Addr}{xs:List V}{g:TG}{f:TS}{D:Ends}{c:St}{H:Hp}(d:Nat->St->Hp->Prop)(r:d 0 c H)(h:∀ i c H,d i c H->H a=some (.lst xs))
  (o:∀(i:Nat) x c H p,xs[i]? = some x->d i c H->H p=none->g (.ref p) c (upd H p (.tup [.int (i:Nat),x])) λσ2 H2=>f { D with nx:=d (i+1),ct:=d (i+1),bk:=D.nx } σ2 H2) (l:∀ c H,d xs.length c H->D.nx c H) :
  ∃ W:Nat->Nat->St->Hp->Prop,(∃ m,W 0 m c H)/\∀ i m c H,W i m c H ->
   ((Ite a).stop i H/\D.nx c H)\/((Ite a).go i H/\∃ N:St->Hp->Prop,(∀ σ' H',N σ' H'->∃ m',m'<m/\W (i+1) m' σ' H')/\∀ x H',(Ite a).yld i H x H'->g x c H' λσ2 H2=>f { D with nx:=N,ct:=N,bk:=D.nx } σ2 H2):=by
 refine⟨λi m c H=>m=xs.length - i/\i<=xs.length/\d i c H,⟨_,rfl,Nat.zero_le _,r⟩,?_⟩;rintro i m c H ⟨rfl,s,p⟩;have q:=h i c H p
 by_cases hlt:i<xs.length
 .refine .inr ⟨⟨xs,xs[i],q,by simp[hlt]⟩,d (i+1),λσ' H' j=>⟨_,by lia,rfl,hlt,j⟩,λx H' y=>?_⟩
  obtain⟨b,v,k,rfl,n,rfl⟩:=y;exact o i v c H b (n xs q) p k
 .have e:i=xs.length:=by lia
  subst e;exact .inl ⟨⟨xs,q,Nat.le_refl _⟩,l c H p⟩
theorem kd{D:Addr}{d:St}{g:TG}{h:TT}{f:TE}{Q:Hp->List V->Prop}{H:Hp}{a:Addr}{xs:List V}(c:Nat->List V->Hp->Prop)(u:c 0 [] H)(k:∀ i ys H,c i ys H->H a=some (.lst xs))(j:∀ i ys H,c i ys H->H D=some (.lst ys))
  (s:∀(i:Nat) x ys H p P,xs[i]? = some x->c i ys H->H p=none->(∀ a b,c (i+1) a b->P a b)->rB D d g h f (.ref p) ys (upd H p (.tup [.int (i:Nat),x])) P) (n:∀ ys H,c xs.length ys H->Q H ys):∃ W,(∃ m,W 0 m [] H)/\iJ (Ite a) D d g h f Q W:=by
 refine⟨λi m ys H=>m=xs.length - i/\i<=xs.length/\c i ys H,⟨_,rfl,Nat.zero_le _,u⟩,?_⟩;rintro i m ys H ⟨rfl,z,p⟩;refine⟨j i ys H p,?_⟩;have q:=k i ys H p
 by_cases hlt:i<xs.length
 .refine .inr ⟨⟨xs,xs[i],q,by simp[hlt]⟩,λx w y=>?_⟩
  obtain⟨b,v,l,rfl,o,rfl⟩:=y
  exact s i v ys H b (λa b=>∃ m',m'<xs.length - i/\m'=xs.length - (i+1)/\i+1<=xs.length/\c (i+1) a b) (o xs q) p l λa b r=>⟨_,by lia,rfl,hlt,r⟩
 .have e:i=xs.length:=by lia
  subst e;exact .inl ⟨⟨xs,q,Nat.le_refl _⟩,n ys H p⟩
end L2
namespace SplM
open PySem
end SplM
namespace L2
open PySem PySem.Spec PyProof.Rows
section
variable {X:Cx}
open Builtin.Str in
theorem Ai{P:Program}{w:World}{A:Around}{E:Value->Shared->Prop}{s:Shared}{x y:Str}{t u:Tok}{Q:Value->Shared->Prop}(c:(y.length == 0)=false)(f:x.length<=sizeLine)
  (d:(partsBetween x (occurrences x y 0 x.length (x.length+1)) y.length).length<=sizeLine)
  (h:∀(l:List (Str×Tok)) (k:Nat),l.map (·.1)=Txt.split x y->Q (.ref s.heap.objs.size) { s with heap:=s.heap.push { cls:=.type "list",data:=.seq (strValues l).toArray },toks:=k }) :
  wpAny (model P w) A (call (.builtin "str.split") [.str x t,.str y u]) Q E s:=by
 by_cases h1:(decide (x.length<y.length) || decide (strKind x<strKind y))=true
 .refine call_meets F.slot_str_split (typeIs_str s x t) F.entry_str_split (F.args_str_split_2 _ _) (meets_str_split_cannot_occur x y t u h1) ?_
  exact h [(x,t)] s.toks (by unfold Txt.split;rw[if_pos h1];rfl)
 .have a:=eq_false_of_ne_true h1
  by_cases h2:(occurrences x y 0 x.length (x.length+1)).isEmpty=true
  .refine call_meets F.slot_str_split (typeIs_str s x t) F.entry_str_split (F.args_str_split_2 _ _) (meets_str_split_not_found x y t u a c h2) ?_
   exact h [(x,t)] s.toks (by unfold Txt.split;rw[if_neg h1,if_pos h2];rfl)
  .have b:=eq_false_of_ne_true h2
   refine call_meets F.slot_str_split (typeIs_str s x t) F.entry_str_split (F.args_str_split_2 _ _) (meets_str_split_sep x y t u a c b f d) ?_
   have:=h (numbered s.toks (partsBetween x (occurrences x y 0 x.length (x.length+1)) y.length)) (s.toks+(partsBetween x (occurrences x y 0 x.length (x.length+1)) y.length).length)
    ((numbered_texts _ _).trans (by unfold Txt.split;rw[if_neg h1,if_neg h2]))
   rw[<- strsFrom_eq]at this;exact this
variable {o e:Expr}{es:List Expr}{to:TE}{t:TA}{apos cpos:Pos}
theorem pe_m.append(h:PE X o to)(f:PA X (e::es) t)(c:attributeBase o "append" X.env (eval o X.env)=eval o X.env:=by rfl)
  (d:((backTo cpos (starEach (e::es) X.env)).all (λx=>!x.1) && (backToKw cpos (keywordEach [] X.env)).all (λx=>x.1.isSome) && decide ((e::es).length+([]:List Keyword).length+(if ([]:List Keyword).isEmpty then 0 else 1)<30))=true:=by rfl)
  (b:(apos.endLine == cpos.line)=true:=by rfl) (g:starEach (e::es) X.env=(false,eval e X.env)::starEach es X.env:=by rfl) (a:(backTo cpos (starEach es X.env)).any (·.1)=false:=by rfl) :
  PE X (.Call (.Attribute o "append" apos) (e::es) [] cpos) (tBM X.K "list" rAppend to t):=yw F.plainAttrs_list F.slot_list_append F.type_list_append kh h f c d b g a
theorem pe_m.clear(c:PE X o to)(b:attributeBase o "clear" X.env (eval o X.env)=eval o X.env:=by rfl)(a:(apos.endLine == cpos.line)=true:=by rfl) :
  PE X (.Call (.Attribute o "clear" apos) [] [] cpos) (yR X.K "list" vJ to):=wp F.plainAttrs_list F.slot_list_clear F.type_list_clear vn c b a
theorem pe_m.pop(c:PE X o to)(b:attributeBase o "pop" X.env (eval o X.env)=eval o X.env:=by rfl)(a:(apos.endLine == cpos.line)=true:=by rfl) :
  PE X (.Call (.Attribute o "pop" apos) [] [] cpos) (yR X.K "list" AV to):=wp F.plainAttrs_list F.slot_list_pop F.type_list_pop yU c b a
end
def TK(H H':Hp):Prop:=∀ b xs,H b=some (.tup xs)->H' b=some (.tup xs)
theorem TK.trans{H d f:Hp}(a:TK H d)(b:TK d f):TK H f:=λc o h=>b c o (a c o h)
theorem Same.tk{H H':Hp}(e:Same H H'):TK H H':=λb a h=>e b _ h
theorem Same.put{H H':Hp}{D:Addr}{o:HO}(e:Same H H')(h:H D=none):Same H (upd H' D o):=λb u q=>by
 rw[ai (av q h)];exact e b u q
theorem bT{a:Type}{xs:List a}{i:Int}{v:a}(k:Nat)(b:(k:Int)=i)(h:xs[k]? = some v):atI xs i=some v:=by rw[<- b];exact gL h
structure U where
 name:Str
 value:Int
 size:Int
 path:List Str
section
variable {X:Cx}{K:Frag}
theorem iW(h:X.K=K):IxR X (rIx K):=h ▸ bU
theorem pj(h:X.K=K):OpR X (compareOp .In) (rIn K false):=h ▸ sF
theorem cO(h:X.K=K){a:List Expr}{k:Nat}{t:TGs}{n:Nat}{b:Pos}(g:X.calm=true)(f:PGs X a t)(d:(assignEach a X.env).length=n:=by rfl)(c:(assignEach a X.env).findIdx? (·.1)=none:=by rfl) :
  PG X (.Tuple a k b) (gTup K n t):=h ▸ eh g f d c
end
structure XCls(K:Frag)(D:Addr):Prop where
 ga:findIn K (.ref D) "__getattribute__" = some (some (.builtin "BaseException.__getattribute__"))
 gn:findIn K (.ref D) "__getattr__" = some none
 cl:findIn K (.ref D) "__class__" = some (some (.builtin "object.__class__"))
 mb:mroIn K D (.type "BaseException")=some true
 mo:mroIn K D (.type "object")=some true
 isc:(clsIn K D).isSome=true
section
variable {prog:Program}{w:World}{A:Around}{E:Value->Shared->Prop}{h:Heap}{g:Array GenState}{d:Drawn}{t:Nat}{os:OsState}{a D:Addr}{o:Obj}{K:Frag}
end
theorem xi{fs:List Addr}{i H:Hp}{g h d:Heap}(u:Un fs [] i H g h)(k:∀ b o,(∃ o',g.get? b=some o')->b ∉ fs->h.get? b=some o->d.get? b=some o)
  (j:∀ b o,b∈fs->h.get? b=some o->∃ l,d.get? b=some { o with slots:=l }):Un fs [] i H g d where
 keep:=λb o q n a c=>k b o ⟨o,q⟩ a (u.keep b o q n a c)
 slot:=λb o q n a c=>by
  obtain⟨l,e⟩:=u.slot b o q n a c;obtain⟨p,f⟩:=j b _ a e;exact⟨p,f⟩
 free:=u.free
 there:=λb o q c=>by
  obtain⟨o',e⟩:=u.there b o q c
  by_cases a:b∈fs
  .obtain⟨l,f⟩:=j b o' a e
   exact⟨_,f⟩
  .exact⟨o',k b o' ⟨o,q⟩ a e⟩
 tups:=u.tups
 frzs:=u.frzs
 tbls:=u.tbls
theorem wn{P:Program}{w:World}{H:Hp}{h c:Heap}(x:HOk P w H h)(k:∀ b o u,H b=some u->h.get? b=some o->c.get? b=some o):HOk P w H c:=λa o e =>
 (x a o e).stay (λb u d q=>by
  rcases d with z | z
  .rw[z]at q ⊢
   exact k a u o e q
  .exact k b u _ z q) (λ_ q=>q) λ_ _ q=>q
theorem ObjOk.isObj{P:Program}{w:World}{H:Hp}{h:Heap}{a:Addr}{o:HO}(x:ObjOk P w H h a o):∃ u,h.get? a=some u:=by
 cases o with
 | lst xs=>obtain⟨_,_,_,_,e⟩:=x;exact⟨_,e⟩
 | tup xs=>obtain⟨_,_,_,_,e,_⟩:=x;exact⟨_,e⟩
 | dK kvs=>obtain⟨_,_,_,_,o,_,_,e,_⟩:=x;exact⟨_,e⟩
 | dT kvs=>obtain⟨_,_,_,_,o,_,_,e,_⟩:=x;exact⟨_,e⟩
 | set S n=>obtain⟨o,_,_,_,e,_⟩:=x;exact⟨_,e⟩
 | ins C dx fs=>obtain⟨_,_,_,e,_⟩:=x;exact⟨_,e⟩
 | own y=>exact x
 | xd fs=>obtain⟨_,⟨_,_,_,e,_⟩,_⟩:=x;exact⟨_,e⟩
 | rng lo hi=>obtain⟨_,_,_,e⟩:=x;exact⟨_,e⟩
 | frz ob u=>exact⟨_,x.1⟩
 | tbl ps=>exact⟨_,x⟩
 | met f y=>exact⟨_,x⟩
 | ext φ=>exact x.2.1
section
variable {P:Program}{w:World}{outer:List Env}{H H':Hp}{s s':Shared}{x D:Addr}{a0:Value}{B:Heap}
end
section
variable {X:Cx}{pins:List (Addr×Obj)}{σ:St}{H H':Hp}{s s':Shared}{x D:Addr}{a0:Value}{B h2:Heap}
theorem xx(J:Inv X pins σ H' s'){b:Addr}(h:∃ o',X.s₀.heap.get? b=some o')(c:b ∉ frs X.outer):b ∉ frs X.stack:=λd=>by
 obtain⟨o',e⟩:=h
 rcases mem_cons.mp (J.stkSub b d) with z | z
 .have a:=Heap.lt_size e
  have f:=J.ok.above;rw[z]at a;exact absurd (Nat.lt_of_lt_of_le a f) (Nat.lt_irrefl _)
 .exact c z
theorem xp(J:Inv X pins σ H' s'){b:Addr}{u:HO}(e:H' b=some u):b ∉ frs X.stack:=λa=>by
 rw[J.stkFree b a]at e;cases e
end
section
variable {P:Program}{w:World}{K:Frag}{mg:Str->Option Value}{base:Heap}{N:List Str}{qual:Str}{scope:Scope}{f:Addr}{cdv:Value}{A:Around}{outer:List Env}{s0:Shared}{H0:Hp}{E:XK}
end
section
variable {P:Program}{w:World}{K:Frag}{mg:Str->Option Value}{base:Heap}
end
structure XHd(K:Frag)(C:Addr):Prop where
 isc:(clsIn K C).isSome=true
 ty:typeIn K (.ref C)=some (.type "type")
 mb:mroIn K C (.type "BaseException")=some true
section
variable {X:Cx}{pins:List (Addr×Obj)}{σ:St}{H H' H1:Hp}{s s' s1:Shared}{x D C:Addr}{a0:Value}{B h2:Heap}
end
section
variable {prog:Program}{w:World}{A:Around}{E:Value->Shared->Prop}{h:Heap}{g:Array GenState}{d:Drawn}{t:Nat}{os:OsState}{a D dx:Addr}{o:Obj}{vs:Array Value}{cd:ClassData}{K:Frag}{name:Str}{mA:Str->Option Value}{v:Value}
abbrev bmV:List Value:=[.type "ValueError",.type "Exception",.type "BaseException",.type "object"]
def AZ:Value->Bool
 | .ref _=>true
 | _=>false
def kP(l:List Value):Bool:=l.dropWhile AZ == bmV
theorem mY(a:Value):∀{l:List Value},kP l=true->refuseLoop a "__setattr__" l=pure ()
 | [],e=>by cases e
 | x::r,e=>by
  by_cases hx:AZ x=true
  .have b:kP r=true:=by
    unfold kP at e ⊢;rw[List.dropWhile_cons_of_pos hx]at e;exact e
   cases x <;> first | exact absurd hx Bool.false_ne_true | (rw[refuseLoop_ref];exact mY a b)
  .unfold kP at e
   rw[List.dropWhile_cons_of_neg hx]at e;rw[beq_iff_eq.mp e];exact PySem.F.store_ValueError.passes a
structure XSet(K:Frag)(D:Addr)(name:Str)(cd:ClassData):Prop where
 k:clsIn K D=some cd
 dct:cd.hasDict=true
 mro:kP cd.mro=true
 mo:mroIn K D (.type "object")=some true
 sa:findIn K (.ref D) "__setattr__" = some (some (.builtin "object.__setattr__"))
 na:findIn K (.ref D) name=some none
theorem qk{tk:Tok}{Q:Fin->Shared->Prop}(c:XSet K D name cd)(X:K.In h)(k:h.get? a=some o)(j:o.cls=.ref D)
  (f:wpAny (model prog w) A (instanceDict a true) (λr s'=>wpAny (model prog w) A (match r with | some d'=>Builtin.ObjectAttr.storeInDict d' (.str name tk) name v | none=>Builtin.ObjectAttr.noDictFor (.ref a) (.ref D) name false) Q E s') E ⟨h,g,d,t,os⟩) :
  wpAny (model prog w) A (Builtin.«object.__setattr__» ⟨[.ref a,.str name tk,v],[]⟩) Q E ⟨h,g,d,t,os⟩:=by
 have b:PySem.W.Looks (model prog w) h (typeOf (.ref a)) (.ref D):=j ▸ (PySem.W.Looks.ld k).andThen .now;have i:PySem.W.Looks (model prog w) h (mroOf (.ref D)) cd.mro:=(looks_clsIn X c.k).andThen .now;rw[osa_eq,refuse_eq];refine wpAny_bind (wpAny_bind (b.at (wpAny_bind (i.at ?_))));rw[mY _ c.mro];refine wpAny_pure (wpAny_bind (b.at (wpAny_bind ((looks_findIn X c.na).at ?_))));refine wpAny_bind (wpAny_pure ?_);show wpAny _ _ (Builtin.ObjectAttr.storeInOwnDict (.ref a) (.ref D) (.str name tk) name v false) _ _ _;unfold Builtin.ObjectAttr.storeInOwnDict;refine wpAny_bind (wpAny_pure ?_);rw[if_neg (show ¬((Value.ref D == Value.type "module")=true) from λz=>by cases eq_of_beq z)];exact wpAny_bind f
theorem nF{tk:Tok}{Q:Fin->Shared->Prop}{a:Addr}{f:List Str}(j:h.Ns1 a mA)(k:PySem.Within mA f)(hz:f.length<=1000)
  (i:∀ h',h'.Ns1 a (λy=>if y=name then some v else mA y)->Heap.SameBut a h h'->Q (.done (.ret .none)) ⟨h',g,d,t+1,os⟩) :
  wpAny (model prog w) A (Builtin.ObjectAttr.storeInDict a (.str name tk) name v) Q E ⟨h,g,d,t,os⟩:=by
 unfold Builtin.ObjectAttr.storeInDict Builtin.ObjectAttr.newKeyGuard;refine wpAny_bind (wpAny_pure (wpAny_bind (wpAny_nsSet1 j λo c p=>?_)));obtain⟨u,b,r,q,s,l⟩:=c.count (PySem.Within.cons name v k);have n:b.size<=sizeLine:=Nat.le_trans l (by rw[length_cons,sizeLine_eq];lia);refine wpAny_bind (wpAny_lookBehind q (by rw[s];exact pastItsLine_dict (Nat.le_succ_of_le n)) ?_);exact wpAny_pure (i o c p)
theorem uj{tk:Tok}{Q:Fin->Shared->Prop}(c:XSet K D name cd)(X:K.In h)(k:h.get? a=some o)(l:o.cls=.ref D)(j:o.data=.fields vs)(q:o.dict=none)
  (p:∀ h',h'.Ns1 h.objs.size (λy=>if y=name then some v else none)->h'.get? a=some { o with dict:=some h.objs.size }->(∀ b u,b≠a->h.get? b=some u->h'.get? b=some u)->Q (.done (.ret .none)) ⟨h',g,d,t+1,os⟩) :
  wpAny (model prog w) A (Builtin.«object.__setattr__» ⟨[.ref a,.str name tk,v],[]⟩) Q E ⟨h,g,d,t,os⟩:=by
 refine qk c X k l ?_;have i:(h.push { cls:=.type "dict",data:=.dict #[] }).get? a=some o:=Heap.get?_push_of_some _ k;have f:a≠h.objs.size:=Nat.ne_of_lt (Heap.lt_size k);unfold instanceDict;refine wpAny_bind (wpAny_loadPart_at k ?_);rw[l];refine wpAny_bind ((looks_clsIn X c.k).at ?_);rw[c.dct,q,j];simp only[Bool.not_true,Bool.false_eq_true,if_false];rw[if_neg (by simp[typeHasDict])];refine wpAny_bind (wpAny_alloc' (wpAny_bind (wpAny_update' i (wpAny_pure ?_))))
 have r:((h.push { cls:=.type "dict",data:=.dict #[] }).update a λu=>{ u with dict:=some h.objs.size }).get? h.objs.size=some { cls:=.type "dict",data:=.dict #[] } :=
  (Heap.get?_update_ne _ _ _ _ f.symm).trans (Heap.get?_push_at rfl rfl)
 refine nF (Heap.Ns1.of_empty ⟨_,#[],_,r,rfl,λu n=>absurd n (by simp),λ_=>rfl⟩) PySem.Within.nil (by simp) λh2 n2 s2=>p h2 n2 ?_ λb u hb e=>?_
 .refine(s2.2 a f).trans (Heap.get?_update_self _ i ?_)
  rw[Obj.isFreed_of_fields (vs:=vs)];exact j
 .exact(s2.2 b (Nat.ne_of_lt (Heap.lt_size e))).trans ((Heap.get?_update_ne _ _ _ _ hb).trans (Heap.get?_push_of_some _ e))
theorem xR{tk:Tok}{Q:Fin->Shared->Prop}{i:List Str}(c:XSet K D name cd)(X:K.In h)(f:h.get? a=some o)(b:o.cls=.ref D)(n:o.dict=some dx)(k:h.Ns1 dx mA)(l:PySem.Within mA i)(hz:i.length<=1000)
  (j:∀ h',h'.Ns1 dx (λy=>if y=name then some v else mA y)->Heap.SameBut dx h h'->Q (.done (.ret .none)) ⟨h',g,d,t+1,os⟩) :
  wpAny (model prog w) A (Builtin.«object.__setattr__» ⟨[.ref a,.str name tk,v],[]⟩) Q E ⟨h,g,d,t,os⟩:=by
 refine qk c X f b ?_;unfold instanceDict;refine wpAny_bind (wpAny_loadPart_at f ?_);rw[b];refine wpAny_bind ((looks_clsIn X c.k).at ?_);rw[c.dct,n];simp only[Bool.not_true,Bool.false_eq_true,if_false];exact wpAny_pure (nF k l hz j)
theorem qE{Q:Unit->Shared->Prop}(c:XSet K D name cd)(X:K.In h)(i:h.get? a=some o)(f:o.cls=.ref D)
  (j:∀(B:Around) (tk:Tok) (Q':Fin->Shared->Prop) (E':Value->Shared->Prop),(∀ s',Q () s'->Q' (.done (.ret .none)) s')->wpAny (model prog w) B (Builtin.«object.__setattr__» ⟨[.ref a,.str name tk,v],[]⟩) Q' E' ⟨h,g,d,t+1,os⟩) :
  wpAny (model prog w) A (setAttr (.ref a) name v) Q E ⟨h,g,d,t,os⟩:=by
 have n:=PySem.F.store_ValueError.slot.bind (.ref a);have b:=PySem.F.store_ValueError;have l:PySem.W.Looks (model prog w) h (typeOf (.ref a)) (.ref D):=f ▸ (PySem.W.Looks.ld i).andThen .now;have k:PySem.W.Looks (model prog w) h (isInstance (.ref a) (.type "object")) true:=l.andThen (looks_mroIn X c.mo);unfold setAttr callSpecial? specialOf
 repeat (any_goals (first | assumption | (with_reducible refine wpAny_loadPart_at i ?_;rw[f]) | with_reducible refine(looks_findIn X c.sa).at ?_ | wp_step))
 refine codeAny_call_builtin b.slot.plain b.entry (@PySem.W.check_slot (model prog w) _ _ ⟨h,g,d,t+1,os⟩ "object.__setattr__" "object" "__setattr__" (.ref a) [.str name t,v] [] _ b.kind b.split k (b.args (.ref a) (.str name t) v) ?_);exact j _ t _ _ λs' q=>wpAny_pure (wpAny_pure q)
end
section
variable {prog:Program}{w:World}{A:Around}{E:Value->Shared->Prop}{h:Heap}{g:Array GenState}{d:Drawn}{t:Nat}{os:OsState}
variable {nm q:Str}{C N fI:Addr}{bs bm bmB:List Value}{hdct:Bool}{sn:List Str}{sub:List Value}{ab:Bool}{col:Option Bool}{dd:Option Addr}{k0 k1 k2 k3 k5:Option Value}{B newId initId:String}{mN:Str->Option Value}{rest:List Value}{oI:Obj}
abbrev eW(h:Heap)(C:Addr)(rest:List Value):Heap:=(h.push { cls:=.type "tuple",data:=.seq rest.toArray }).push { cls:=.ref C,data:=.fields #[.ref h.objs.size,.none,.none,.none,.bool false,.none] }
theorem xM{Q:Fin->Shared->Prop}(F:ExcBaseFacts B newId initId bmB)(T:OwnTail h bmB bm)(c:h.get? C=some (excClassObj nm q C N bs bm hdct sn sub ab col dd k0 k1 k2 k3 k5 newId))(n:h.Ns N mN)(k:mN "__init__" = some (.ref fI))
  (u:h.get? fI=some oI) (i:oI.cls=.type "function") (hz:rest.length<=sizeLine)
  (l:wpAny (model prog w) A (call (.ref fI) (.ref (h.objs.size+1)::rest)) (λr s'=>r=.none/\Q (.done (.ret (.ref (h.objs.size+1)))) s') E ⟨eW h C rest,g,d,t,os⟩) :
  wpAny (model prog w) A (Builtin.«type.__call__» ⟨.ref C::rest,[]⟩) Q E ⟨h,g,d,t,os⟩:=by
 have f:∀ b o,h.get? b=some o->(eW h C rest).get? b=some o:=λb o e=>Heap.get?_push_of_some _ (Heap.get?_push_of_some _ e)
 have j:=f C _ c;have x:(eW h C rest).Ns N mN:=n.keeps f;have y:OwnTail (eW h C rest) bmB bm:=T.keeps f;have p:(eW h C rest).get? (h.objs.size+1)=some { cls:=.ref C,data:=.fields #[.ref h.objs.size,.none,.none,.none,.bool false,.none] }:=by heap_get
 have a:(Value.ref C::bm).contains (.ref C)=true:=by simp
 repeat (first | with_reducible refine wpAny_loadPart_at c ?_ | with_reducible refine wpAny_madeBy_exc c ?_ | wp_step)
 refine codeAny_call_builtin_code (Code.quiet_builtin _ F.quiet) (wpAny_check_new_subT F T c (codeAny_exc_new_subT F T c ?_ hz));show wpAny _ _ _ _ _ ⟨eW h C rest,g,d,t,os⟩;unfold isInstance
 repeat (first | with_reducible refine wpAny_loadPart_at p ?_ | (with_reducible refine wpAny_isSubtype_exc j ?_;rw[a]) | wp_step)
 show wpAny _ _ (typeLookup (.ref C) _) _ _ _;refine wpAny_typeLookup_tail j x y F.mroIs F.init.lookup ?_;rw[k];refine wpAny_holding (wpAny_bind ?_);unfold bindSpecial;refine wpAny_bind (wpAny_typeOf (T := "function") ⟨oI,f fI _ u,i⟩ ?_);rw[if_pos (by decide)];refine wpAny_pure (wpAny_bind (wpAny_mono l (λr s' s=>?_) λ_ _ z=>z));obtain⟨rfl,v⟩:=s
 wp_walk
 exact v
theorem xj{Q:Value->Shared->Prop}(F:ExcBaseFacts B newId initId bmB)(T:OwnTail h bmB bm)(a:h.get? C=some (excClassObj nm q C N bs bm hdct sn sub ab col dd k0 k1 k2 k3 k5 newId))(i:h.Ns N mN)(c:mN "__init__" = some (.ref fI))
  (k:h.get? fI=some oI) (b:oI.cls=.type "function") (hz:rest.length<=sizeLine)
  (f:wpAny (model prog w) (A.under (.builtin "type.__call__" ⟨.ref C::rest,[]⟩)) (call (.ref fI) (.ref (h.objs.size+1)::rest)) (λr s'=>r=.none/\Q (.ref (h.objs.size+1)) s') E ⟨eW h C rest,g,d,t,os⟩) :
  wpAny (model prog w) A (call (.ref C) rest) Q E ⟨h,g,d,t,os⟩:=by
 have n:=tc_lookup;have l:=tc_bind (.ref C);have j:(⟨h,g,d,t,os⟩:Shared).TypeIs (.ref C) "type" := ⟨_,a,rfl⟩;refine wpAny_call (codeAny_of_tree ?_);show wpAny _ _ (callAny (.ref C) _) _ _ _
 repeat (any_goals (first | assumption | with_reducible refine wpAny_loadPart_at a ?_ | wp_step))
 exact⟨rfl,codeAny_call_builtin_at (Code.quiet_builtin _ (by decide +kernel)) entry_typeCall (wpAny_check_type_call_sub a (xM F T a i c k b hz f))⟩
end
def XD0(a D:Addr):Heap->Prop:=λh=>∃ o vs,h.get? a=some o/\o.cls=.ref D/\o.data=.fields vs/\o.dict=none/\vs[1]? = some .none/\vs[2]? = some .none
def XD1(a D dx:Addr):Heap->Prop:=λh=>∃ o vs,h.get? a=some o/\o.cls=.ref D/\o.data=.fields vs/\o.dict=some dx/\vs[1]? = some .none/\vs[2]? = some .none
def XDct(dx:Addr)(fs:List (Str×V)):Heap->Prop:=λh=>∃ mA,h.Ns1 dx mA/\∀ f,RelO (fs.lookup f) (mA f)
section
variable {P:Program}{w:World}{H:Hp}{h:Heap}{a D dx:Addr}{fs:List (Str×V)}
theorem XD0.ok(x:XD0 a D h):ObjOk P w H h a (.ext (XD0 a D)):=⟨x,let ⟨o,_,e,_⟩:=x;⟨o,e⟩,λ_ _ ⟨o,b,e,r⟩ k=>⟨o,b,k o e,r⟩⟩
theorem XD1.ok(x:XD1 a D dx h):ObjOk P w H h a (.ext (XD1 a D dx)):=⟨x,let ⟨o,_,e,_⟩:=x;⟨o,e⟩,λ_ _ ⟨o,b,e,r⟩ k=>⟨o,b,k o e,r⟩⟩
theorem XDct.ok(x:XDct dx fs h):ObjOk P w H h dx (.ext (XDct dx fs)):=⟨x,let ⟨_,⟨o,_,_,e,_⟩,_⟩:=x;⟨o,e⟩,λ_ _ ⟨a,n,r⟩ k=>⟨a,n.at k,r⟩⟩
end
section
variable {X:Cx}{pins:List (Addr×Obj)}{σ:St}{H:Hp}{s:Shared}{h':Heap}{x dx D:Addr}{φ:Heap->Prop}{ox od:HO}
theorem Inv.tracked{t':Nat}(I:Inv X pins σ H s)(k:∀ b u,s.heap.get? b=some u->h'.get? b=some u)(f:s.heap.get? x=none)(d:ObjOk X.prog X.w (upd H x ox) h' x ox):Inv X pins σ (upd H x ox) { s with heap:=h',toks:=t' }:=by
 have h:H x=none:=by
  cases q:H x with
  | none=>rfl
  | some u =>
   obtain⟨o,e⟩:=(I.hok x u q).isObj;rw[f]at e;cases e
 have g:∀ b o,s.heap.get? b=some o->b≠x:=λb o e z=>by rw[z,f]at e;cases e
 have a:∀ b u,H b=some u->b≠x:=λb u e z=>by rw[z,h]at e;cases e
 refine I.un ⟨λb o e _ _ _=>k b o e,λb o e _ _ _=>⟨o.slots,k b o e⟩,λb o e n _=>?_,λb o e _=>⟨o,k b o e⟩,λb xs e=>?_,λb o u e=>?_,λb ps e=>⟨#[],?_⟩⟩ λb u e=>?_
 .rw[ai (g b o e)];exact n
 .rw[ai (a b _ e)];exact e
 .rw[ai (a b _ e)];exact e
 .rw[ai (a b _ e),e];simp
 .by_cases hb:b=x
  .subst hb
   rw[ad]at e;cases e;exact d
  .rw[ai hb]at e
   exact(I.hok b u e).stay (λc v _ q=>k c v q) (λc q=>by rw[ai (a c _ q)];exact q) λc xs q=>by rw[ai (a c _ q)];exact q
theorem Inv.put2{t':Nat}(I:Inv X pins σ H s)(f:H x=some (.ext φ))(l:s.heap.objs.size<=dx)(k:∀ b u,b≠x->s.heap.get? b=some u->h'.get? b=some u)(j:ObjOk X.prog X.w (upd (upd H dx od) x ox) h' x ox)
  (p:ObjOk X.prog X.w (upd (upd H dx od) x ox) h' dx od):Inv X pins σ (upd (upd H dx od) x ox) { s with heap:=h',toks:=t' }:=by
 have g:H dx=none:=I.hok.fresh l;have r:x≠dx:=λz=>by rw[z,g]at f;cases f
 have y:∀ b o,s.heap.get? b=some o->b≠dx:=λb o e=>Nat.ne_of_lt (Nat.lt_of_lt_of_le (Heap.lt_size e) l)
 have d:∀ b u,H b=some u->b≠dx:=λb u e z=>by rw[z,g]at e;cases e
 have i:∀ b,H b=none->b≠x:=λb e z=>by rw[z,f]at e;cases e
 have a:∀ b u,H b=some u->(∀ ψ,u≠.ext ψ)->b≠x:=λb u e n z=>by
  rw[z,f]at e;cases e;exact n φ rfl
 obtain⟨w,h⟩:=j.isObj;refine I.un ⟨λb o e n _ _=>k b o (i b n) e,λb o e n _ _=>⟨o.slots,k b o (i b n) e⟩,λb o e n _=>?_,λb o e _=>?_,λb xs e=>?_,λb o u e=>?_,λb ps e=>⟨#[],?_⟩⟩ λb u e=>?_
 .rw[ai (i b n),ai (y b o e)];exact n
 .by_cases hb:b=x
  .subst hb;exact⟨w,h⟩
  .exact⟨o,k b o hb e⟩
 .rw[ai (a b _ e λ_ z=>nomatch z),ai (d b _ e)];exact e
 .rw[ai (a b _ e λ_ z=>nomatch z),ai (d b _ e)];exact e
 .rw[ai (a b _ e λ_ z=>nomatch z),ai (d b _ e),e];simp
 .by_cases hb:b=x
  .subst hb
   rw[ad]at e;cases e;exact j
  .by_cases hb2:b=dx
   .subst hb2
    rw[ai hb,ad]at e;cases e;exact p
   .rw[ai hb,ai hb2]at e
    refine(I.hok b u e).stay (λc v A q=>k c v ?_ q) (λc q=>?_) λc xs q=>?_
    .rintro rfl
     rcases A with z | z
     .exact hb z.symm
     .rw[f]at z;cases z
    .rw[ai (a c _ q λ_ z=>nomatch z),ai (d c _ q)];exact q
    .rw[ai (a c _ q λ_ z=>nomatch z),ai (d c _ q)];exact q
end
def Bl(K:Frag)(ta tv:TE)(f:Str):TS:=λD σ H=>tv σ H λy H1=>ta σ H1 λx H2=>∃ a C cd,x=.ref a/\XSet K C f cd /\
 ((H2 a=some (.ext (XD0 a C))/\∀ dx,H2 dx=none->dx≠a->D.nx σ (upd (upd H2 dx (.ext (XDct dx [(f,y)]))) a (.ext (XD1 a C dx)))) \/
  ∃ dx fs,H2 a=some (.ext (XD1 a C dx))/\H2 dx=some (.ext (XDct dx fs))/\fs.length<=900/\D.nx σ (upd H2 dx (.ext (XDct dx ((f,y)::fs)))))
theorem fH{f g:Str}{y:V}{fs:List (Str×V)}:List.lookup g ((f,y)::fs)=if g=f then some y else fs.lookup g:=by
 rw[lookup_cons]
 by_cases z:g=f
 .rw[if_pos z,show(g == f)=true by simpa using z]
 .rw[if_neg z,show(g == f)=false by simpa using z]
section
variable {X:Cx}{o e value:Expr}{f:Str}{pos pos' tpos:Pos}{ta tv:TE}
theorem wK(ha:PE X o ta)(hv:PE X value tv)(R:swapsWith value (some (.Attribute o f pos')) pos.line X.env=pure false):PS X (.Assign [.Attribute o f pos'] value pos) (Bl X.K ta tv f):=by
 intro d s p H D I h;refine plainObj_wpAny_Assign_Attribute (thn (hv d s p H _ I h) λu T ⟨y,H1,W,L,q⟩=>thn (ha d T p H1 _ W q) λov s2 ⟨x,H2,I2,rx,a,C,cd,ex,c,l⟩=>?_) R;subst ex;obtain rfl:ov=Value.ref a:=rx;obtain⟨k,g2,d2,N,ab⟩:=s2
 rcases l with⟨n,l⟩ | ⟨dx,w,n,G,hl,l⟩
 .obtain⟨⟨Y,J,j,i,A,F,M⟩,_⟩:=I2.hok a _ n
  refine qE c I2.kIn j i λB P O Z r=>uj c I2.kIn j i A F λh' n' o' k'=>r _ ?_
  have Q:H2 k.objs.size=none:=I2.hok.fresh (Nat.le_refl _);have E:k.objs.size≠a:=Nat.ne_of_gt (Heap.lt_size j);refine⟨p,_,I2.put2 (t':=N+1+1) (h':=h') (x:=a) (dx:=k.objs.size) (od:=.ext (XDct k.objs.size [(f,y)])) (ox:=.ext (XD1 a C k.objs.size)) n (Nat.le_refl _) k' (XD1.ok ⟨_,J,o',i,A,rfl,M⟩) (XDct.ok ⟨_,n',λg=>?_⟩),l _ Q E⟩;rw[fH]
  by_cases z:g=f
  .rw[if_pos z,if_pos z];exact L
  .rw[if_neg z,if_neg z];exact True.intro
 .obtain⟨⟨Y,J,j,i,A,F,M⟩,_⟩:=I2.hok a _ n
  obtain⟨⟨mA,S,K⟩,_⟩:=I2.hok dx _ G
  have wi:PySem.Within mA (w.map (·.1)):=λg hg=>by
   cases q:w.lookup g with
   | none =>
    have:=K g;rw[q]at this;exact absurd (RelO.none_of this) hg
   | some v=>exact mem_map.mpr ⟨(g,v),PySem.mem_of_lookup q,rfl⟩
  refine qE c I2.kIn j i λB P O Z r=>xR c I2.kIn j i F S wi (by rw[length_map];lia) λh' n' sb=>r _ ?_
  refine⟨p,_,I2.write (t':=N+1+1) (h':=h') (x:=dx) (e:=dx) (o:=.ext (XDct dx ((f,y)::w))) (by rw[G];exact True.intro) (.inl rfl) (λb u hb e=>(sb.2 b hb).trans e) (let ⟨o',_,_,e',_⟩:=n';⟨o',e'⟩) (XDct.ok ⟨_,n',λg=>?_⟩),l⟩;rw[fH]
  by_cases z:g=f
  .rw[if_pos z,if_pos z];exact L
  .rw[if_neg z,if_neg z];exact K g
end
theorem oV{K:Frag}{h:Heap}{N:Addr}{m:Str->Option Value}{n:Str}{v:Value}(X:K.In h)(G:h.Ns N m)(q:nsIn K N n=some (some v)):m n=some v:=by
 obtain⟨i,f,g,c,b,_,d⟩:=G;unfold nsIn at q
 split at q
 .rename_i c0 d0 en0 k0 sl0 lk
  have a:=X _ _ lk;rw[c]at a;cases a;cases b
  split at q
  .rename_i entry found
   cases q;rw[<- d];unfold nsFind findBy;rw[<- Array.find?_toList,found];rfl
  .split at q <;> cases q
 .cases q
def xIn(K:Frag)(C:Addr)(fI:Option Value):Bool:=match K.lookup C with
 | some ⟨.type "type",_,.cls cd,sl⟩=>(match cd.mro,sl.toList with
  | .ref C'::bm,[_,_,_,_,some (.builtin n),_]=>C' == C && n == "ValueError.__new__" && !cd.hasDel && tailIn K bmV bm && nsOkIn K cd.ns && nsIn K cd.ns "__init__" == some fI
  | _,_=>false)
 | _=>false
structure XObj(h:Heap)(C:Addr)(fI:Option Value):Prop where
 obj:∃ bm N nm q bs hdct sn sub ab col dd k0 k1 k2 k3 k5 mN,h.get? C=some (excClassObj nm q C N bs bm hdct sn sub ab col dd k0 k1 k2 k3 k5 "ValueError.__new__")/\h.Ns N mN/\mN "__init__" = fI/\OwnTail h bmV bm
theorem rf{K:Frag}{h:Heap}{C:Addr}{i:Option Value}(X:K.In h)(z:xIn K C i=true):XObj h C i:=by
 unfold xIn at z
 split at z
 .rename_i dct cld slt lk
  split at z
  .rename_i C' tl a0 a1 a2 a3 nid a5 hmro hsl
   simp only[Bool.and_eq_true,beq_iff_eq,Bool.not_eq_true']at z;obtain⟨⟨⟨⟨⟨rfl,rfl⟩,a⟩,o⟩,c⟩,b⟩:=z;obtain⟨s,n,q,j,p,u,r,g,x,f,w⟩:=cld;dsimp only at hmro a c b;subst hmro a
   have k:slt = #[a0,a1,a2,a3,some (.builtin "ValueError.__new__"),a5]:=by
    obtain⟨l⟩:=slt;simp only at hsl;rw[hsl]
   subst k;have d:h.Ns j (h.nsMap j):=.of_isNs (PySem.W.isNs_of_in X c);refine⟨tl,j,s,p,n,u,r,g,x,f,dct,a0,a1,a2,a3,a5,_,X _ _ lk,d,?_,PySem.W.tail_of_in X o⟩;cases i with
   | none=>exact PySem.W.ns_none_of X d b
   | some v=>exact oV X d b
  .cases z
 .cases z
def m7(K:Frag)(D:Addr):Bool:=findIn K (.ref D) "__getattribute__" == some (some (.builtin "BaseException.__getattribute__")) && findIn K (.ref D) "__getattr__" == some none &&
 findIn K (.ref D) "__class__" == some (some (.builtin "object.__class__")) && mroIn K D (.type "BaseException") == some true && mroIn K D (.type "object") == some true && (clsIn K D).isSome && typeIn K (.ref D) == some (.type "type")
theorem yy{K:Frag}{D:Addr}(h:m7 K D=true):XCls K D:=by
 unfold m7 at h;simp only[Bool.and_eq_true,beq_iff_eq]at h;obtain⟨⟨⟨⟨⟨⟨f,b⟩,a⟩,g⟩,d⟩,c⟩,i⟩:=h;exact⟨f,b,a,g,d,c⟩
theorem yi{K:Frag}{D:Addr}(h:m7 K D=true):XHd K D:=by
 unfold m7 at h;simp only[Bool.and_eq_true,beq_iff_eq]at h;obtain⟨⟨⟨⟨⟨⟨i,f⟩,d⟩,c⟩,g⟩,a⟩,b⟩:=h;exact⟨a,b,c⟩
def zP(K:Frag)(D:Addr)(name:Str):Bool:=((clsIn K D).any λcd=>cd.hasDict && kP cd.mro) && mroIn K D (.type "object") == some true &&
 findIn K (.ref D) "__setattr__" == some (some (.builtin "object.__setattr__")) && findIn K (.ref D) name == some none
theorem Bb{K:Frag}{D:Addr}{name:Str}(h:zP K D name=true):∃ cd,XSet K D name cd:=by
 unfold zP at h;simp only[Bool.and_eq_true,beq_iff_eq]at h;obtain⟨⟨⟨d,c⟩,b⟩,f⟩:=h;obtain⟨cd,e,a⟩:=any_some d;rw[Bool.and_eq_true]at a;exact⟨cd,e,a.1,a.2,c,b,f⟩
section
variable {P:Program}{w:World}{K:Frag}{mg:Str->Option Value}{base:Heap}{N:List Str}{qual:Str}{scope:Scope}{f:Addr}{cdv:Value}{A:Around}{outer:List Env}{s0:Shared}{H0:Hp}{E:XK}
end
def Bu(C:Addr):TE:=λ_ H Q=>∀ a,H a=none->Q (.ref a) (upd H a (.ext (XD0 a C)))
def BO(C:Addr)(sp:Sp)(t:TA):TE:=λσ H Q=>t σ H λvs H1=>∀ a,H1 a=none->sp (.ref a::vs) (upd H1 a (.ext (XD0 a C))) (λv H2=>v=.non/\Q (.ref a) H2) E0
section
variable {X:Cx}{k:Nat}{f C:Addr}{fd:FuncData}{ps:List Str}{sp:Sp}{x:Str}{p pos:Pos}{e:Expr}{es:List Expr}{t:TA}
theorem xK(z:xIn X.K C none=true)(B:keepIn X.K (.ref C)=true)(A:Gl X x)(l:X.mg x=some (.ref C))(c:(x == ("__debug__" : Str))=false:=by decide):PE X (.Call (.Name x p) [] [] pos) (Bu C):=by
 intro g s R H Q I h;refine wpAny_Call_Name_kw (fR I A l ?_ c);refine callWith_K0 I.kIn B ?_;obtain⟨W,N,nm,q,K,f,E,v,O,r,S,Y,Z,F,L,J,mN,n,y,d,T⟩:=(rf I.kIn z).obj;obtain⟨w,M,d0,D,j⟩:=s;refine wpAny_call_exc_subT (rest:=[]) PySem.F.excBase_ValueError T n y d (λG a b=>?_) (Nat.zero_le _);obtain⟨P,k,_,_⟩:=b.there
 have i:H a=none:=by
  cases q:H a with
  | none=>rfl
  | some u =>
   obtain⟨o,e⟩:=(I.hok a u q).isObj;have:=b.new;rw[show w.get? a=some o from e]at this;cases this
 exact⟨.ref a,_,I.tracked (t':=D) b.keeps b.new (XD0.ok ⟨_,_,k,rfl,rfl,rfl,rfl,rfl⟩),rfl,h a i⟩
theorem pv(z:xIn X.K C (some (.ref f))=true)(kp:keepIn X.K (.ref C)=true)(fn:isFn X.K (.ref f)=true)(F:FnOk X.prog X.w X.K X.mg X.base CX0 k f fd ps sp)(hr:Room (k+1) X.A)(hg:Gl X x)(W:X.mg x=some (.ref C))
  (hb:Binds X.K fd ps []) (ha:PA X (e::es) t) (hz:∀ vs H Q E,sp vs H Q E->vs.length<=100) (w:(x == ("__debug__" : Str))=false:=by decide) (he:starEach (e::es) X.env=(false,eval e X.env)::starEach es X.env:=by rfl)
  (y:(backTo pos (starEach es X.env)).any (·.1)=false:=by rfl):PE X (.Call (.Name x p) (e::es) [] pos) (BO C sp t):=by
 intro g s O H Q I h;refine wpAny_Call_Name_kw (fR I hg W ?_ w);refine callWith_K (h₀:=X.base) I.ok.mod.kin kp (thn (ha pos g s O H _ I h) λd c ⟨vs,H1,i,r,q⟩=>⟨i.kIn,?_⟩) he y;obtain⟨bm,N,nm,qn,bs,L,sn,al,ab,Z,dd,k0,k1,k2,k3,k5,mN,Y,hN,B,T⟩:=(rf i.kIn z).obj;have D:=q (c.heap.objs.size+1) (i.hok.fresh (Nat.le_succ _))
 have j:d.length<=sizeLine:=by
  have:=hz _ _ _ _ D;rw[length_cons]at this;rw[<- r.length];exact Nat.le_trans (Nat.le_of_succ_le this) (by decide)
 have S:∀ b o,c.heap.get? b=some o->(eW c.heap C d).get? b=some o:=λb o e=>Heap.get?_push_of_some _ (Heap.get?_push_of_some _ e)
 have R:(eW c.heap C d).get? (c.heap.objs.size+1)=some { cls:=.ref C,data:=.fields #[.ref c.heap.objs.size,.none,.none,.none,.bool false,.none] }:=by heap_get
 have J:=i.laid (t':=c.toks) (h':=eW c.heap C d) (a:=c.heap.objs.size+1) (o:=.ext (XD0 (c.heap.objs.size+1) C)) S (Nat.le_succ _) (XD0.ok ⟨_,_,R,rfl,rfl,rfl,rfl,rfl⟩)
 obtain⟨oI,hfI,hfc⟩:∃ oI,c.heap.get? f=some oI/\oI.cls=.type "function" := by
  have:=beq_iff_eq.mp fn;unfold typeIn at this;obtain⟨ob,lk,K⟩:=Option.map_eq_some_iff.mp this;exact⟨ob,i.kIn _ _ lk,K⟩
 have P:Vals (V.ref (c.heap.objs.size+1)::vs) (Value.ref (c.heap.objs.size+1)::d):=.cons rfl r;have A:(Value.ref (c.heap.objs.size+1)::d).length=ps.length:=by rw[<- P.length];exact F.len _ _ _ _ D
 have M:=hb { c with heap:=eW c.heap C d,toks:=c.toks } (Value.ref (c.heap.objs.size+1)::d) J.kIn (by rw[append_nil];exact A);rw[append_nil]at M
 have n:wpAny (model X.prog X.w) X.A (call (.ref C) d) (EP X g O Q) X.xe c:=by
  obtain⟨G,g1,d1,t1,an⟩:=c;refine xj PySem.F.excBase_ValueError T Y hN B hfI hfc j ?_;refine wpAny_call (codeAny_mono (F.run _ X.stack _ _ ⟨Value.ref (G.objs.size+1)::d,[]⟩ (Value.ref (G.objs.size+1)::d) _ _ E0 (hr.make C d []) (J.env0.make C d []) M P D) λr s' l=>?_);cases r with
  | error e=>exact False.elim l
  | ok fl =>
   cases fl with
   | ret u =>
    obtain⟨v,H',I3,rv,ev,q3⟩:=J.after l;subst ev;exact⟨rv,⟨V.ref (G.objs.size+1),H',I3,rfl,q3⟩⟩
   | next=>exact False.elim l
   | brk=>exact False.elim l
   | cont=>exact False.elim l
 exact n
end
theorem pX:∀{xs:List V}{us:List Value},xs.length=us.length->(∀(i:Nat) x u,xs[i]? = some x->us[i]? = some u->RelV x u)->Vals xs us
 | [],[],_,_=>.nil
 | x::xs,u::us,h,r=>.cons (r 0 x u rfl rfl) (pX (by simpa using h) λi y w a b=>r (i+1) y w (by simpa using a) (by simpa using b))
 | [],_::_,h,_=>by cases h
 | _::_,[],h,_=>by cases h
section
variable {X:Cx}
theorem rK:CallR X (.type "range") (λxs H Q=>∃ b,xs=[.int b]/\∀ p,H p=none->Q (.ref p) (upd H p (.rng 0 b))):=by
 intro a s d H xs c Q I r h;obtain⟨b,rfl,q⟩:=h;obtain⟨u,rfl,⟨t,rfl⟩⟩:=eC r;refine call_range_1 ?_;exact⟨.ref s.heap.objs.size,_,I.laid (o:=.rng 0 b) (λb o e=>Heap.get?_push_of_some _ e) (Nat.le_refl _) ⟨_,_,_,Heap.get?_push_size _ rfl⟩,rfl,q _ (I.hok.fresh (Nat.le_refl _))⟩
end
section
variable {M:Model}{A:Around}{E:Value->Shared->Prop}{s:Shared}{env:Env}{K:Frag}{D:Addr}
theorem wP{x:Sem Value}{Q:Flow->Shared->Prop}(c:XCls K D)(k:XHd K D)(n:A.handled=none)
  (h:wpAny M A x (λv s₁=>∃ e ob vs,v=.ref e/\K.In s₁.heap/\s₁.heap.get? e=some ob/\ob.cls=.ref D/\ob.data=.fields vs/\vs[1]? = some .none/\E (.ref e) s₁) E s):wpAny M A (raiseStmt env (some x) none) Q E s:=by
 unfold raiseStmt;refine wpAny_bind (wpAny_mono h (λv s₁ a=>?_) λ_ _ z=>z);obtain⟨e,ob,vs,rfl,X,f,i,b,l,j⟩:=a;obtain⟨q,g,d,o,p⟩:=s₁
 repeat (first | with_reducible refine(PySem.W.looks_typeIn X k.ty).at ?_ | (with_reducible refine wpAny_loadPart_at f ?_;first | rw[i] | rw[b]) | with_reducible refine(looks_mroIn X c.mb).at ?_ | with_reducible refine wpAny_field f b l ?_ | wp_step)
 exact wpAny_raiseNew_none n j
end
def Fx(h:Heap)(e:Addr)(cls:Value)(dct:Option Addr)(fl:Value)(T:Addr):Prop :=
 ∃ ob fs oT ts,h.get? e=some ob/\ob.cls=cls/\ob.dict=dct/\ob.data=.fields fs/\fs[1]? = some (.ref T)/\T≠e/\h.get? T=some oT/\oT.data=.fields ts/\ts[3]? = some fl
theorem jL(f:Array Value->Array Value)(o:Obj):(Obj.mapFields f o).dict=o.dict:=by
 obtain⟨c,d,a,b⟩:=o
 cases a <;> rfl
theorem uP(f:Array Value->Array Value)(o:Obj):(Obj.mapFields f o).cls=o.cls:=Obj.cls_mapFields _ _
section
variable {M:Model}{A:Around}{E:Value->Shared->Prop}{s:Shared}{base:Heap}{env:Env}{outer:List Env}{L e:Addr}{ob:Obj}{fs:Array Value}{head:Value}{more:Bool}
theorem nX{Q:Unit->Shared->Prop}(D:A.frames=some (env::outer))(y:s.heap.FunFrames base (env::outer))(z:env.frame=some L)(u:s.heap.get? e=some ob)(k:ob.data=.fields fs)(v:1<fs.size)
  (h:∀ h' T,Fx h' e ob.cls ob.dict (rawInt L) T->s.heap.get? T=none->(∀ b o,b≠e->b ∉ frs (env::outer)->s.heap.get? b=some o->h'.get? b=some o) ->
   (∀ b o,b≠e->s.heap.get? b=some o->∃ sl,h'.get? b=some { o with slots:=sl })->Q () { s with heap:=h' }) :
  wpAny M A (do let a <- frameOf env;let pl <- entryPlaceOf L more;let b <- EntryCells.newEntry head a .none (rawInt L) .none pl;setField (.ref e) 1 b) Q E s:=by
 have l:e ∉ frs (env::outer):=λC=>by
  obtain⟨_,o,q,j⟩:=y.mem C;rw[u]at q;cases q;exact j fs k
 refine wpAny_bind (wpAny_frameOf_fun D y z λc i=>?_);refine wpAny_bind (wpAny_entryPlaceOf λpl n=>?_);unfold EntryCells.newEntry newFields;refine wpAny_bind (wpAny_newObj_type ?_ (n.sizeOk5 _ _ _ _ _));have w:c.get? e=some ob:=(i.2.1 e l).trans u;have p:=Heap.get?_push_of_some (h:=c) { cls:=.type "traceback",dict:=none,data:=.fields ([head,.ref L,.none,rawInt L,.none]++(if pl.isEmpty then List.replicate 6 Value.none else pl)).toArray } w;have r:c.objs.size≠e:=Nat.ne_of_gt (Heap.lt_size w);have x:=Obj.data_mapFields k (·.setIfInBounds 1 (Value.ref c.objs.size));have F:=Heap.get?_update_self (Obj.mapFields (·.setIfInBounds 1 (Value.ref c.objs.size))) p (Obj.isFreed_of_fields x)
 have g:∀ b o,b≠e->c.get? b=some o->((c.push { cls:=.type "traceback",dict:=none,data:=.fields ([head,.ref L,.none,rawInt L,.none]++(if pl.isEmpty then List.replicate 6 Value.none else pl)).toArray }).update e (Obj.mapFields (·.setIfInBounds 1 (Value.ref c.objs.size)))).get? b=some o :=
  λb o f d=>(Heap.get?_update_other _ _ (Ne.symm f)).trans (Heap.get?_push_of_some _ d)
 refine wpAny_setField p k v (h _ c.objs.size ⟨_,_,_,_,F,uP _ _,jL _ _,x,by simp[v],r,(Heap.get?_update_other _ _ (Ne.symm r)).trans (Heap.get?_push_size _ rfl),rfl,?_⟩ ?_ (λb o f j d=>g b o f ((i.2.1 b j).trans d)) λb o f d=>?_)
 .simp
 .have:s.heap.objs.size=c.objs.size:=i.1.symm
  rw[<- this];exact Heap.get?_none_of_le (Nat.le_refl _)
 .obtain⟨sl,B⟩:=i.2.2 b o d
  exact⟨sl,g b _ f B⟩
end
section
variable {M:Model}{A:Around}{E:Value->Shared->Prop}{s:Shared}{base:Heap}{env:Env}{outer:List Env}{L e T:Addr}{ob:Obj}{fs:Array Value}{cls fl:Value}{dct:Option Addr}
def KeptBut(xs fr:List Addr)(h h':Heap):Prop :=
 (∀ b o,b ∉ xs->b ∉ fr->h.get? b=some o->h'.get? b=some o)/\∀ b o,b ∉ xs->h.get? b=some o->∃ sl,h'.get? b=some { o with slots:=sl }
theorem KeptBut.trans{xs ys d:List Addr}{h j i:Heap}(a:KeptBut xs d h j)(b:KeptBut ys d j i):KeptBut (xs++ys) d h i :=
 ⟨λc o n f g=>b.1 c o (λz=>n (mem_append_right _ z)) f (a.1 c o (λz=>n (mem_append_left _ z)) f g),λc o n g=>by
  obtain⟨q,p⟩:=a.2 c o (λz=>n (mem_append_left _ z)) g;obtain⟨l,k⟩:=b.2 c _ (λz=>n (mem_append_right _ z)) p
  exact⟨l,k⟩⟩
theorem wv{Q:Unit->Shared->Prop}(j:A.frames=some (env::outer))(p:s.heap.FunFrames base (env::outer))(c:env.frame=some L)(d:s.heap.get? e=some ob)(a:ob.data=.fields fs)(i:fs[1]? = some .none)
  (h:∀ h' T,Fx h' e ob.cls ob.dict (rawInt L) T->s.heap.get? T=none->KeptBut [e] (frs (env::outer)) s.heap h'->Q () { s with heap:=h' }):wpAny M A (noteFrame (.ref e) env) Q E s:=by
 unfold noteFrame;simp only[c];refine wpAny_bind (wpAny_field d a i ?_);rw[if_neg (by decide)];exact nX j p c d a (Array.getElem?_eq_some_iff.mp i).1 λh' T x k q l=>h h' T x k ⟨λb o n f g=>q b o (by simpa using n) f g,λb o n g=>l b o (by simpa using n) g⟩
theorem xg{Q:Unit->Shared->Prop}(H:A.frames=some (env::outer))(I:s.heap.FunFrames base (env::outer))(w:env.frame=some L)(x:Fx s.heap e cls dct .none T)
  (h:∀ h' T',Fx h' e cls dct (rawInt L) T'->s.heap.get? T'=none->KeptBut [T,e] (frs (env::outer)) s.heap h'->Q () { s with heap:=h' }):wpAny M A (noteFrame (.ref e) env) Q E s:=by
 obtain⟨K,J,N,D,y,rfl,rfl,v,B,G,k,j,C⟩:=x;unfold noteFrame;simp only[w];refine wpAny_bind (wpAny_field y v B ?_);rw[if_pos (show(Value.ref T != Value.none)=true from by simp)];refine wpAny_bind (wpAny_field k j C ?_);rw[if_neg (show ¬((Value.none == rawInt L)=true) from by simp[rawInt])];refine wpAny_bind (wpAny_setField k j (Array.getElem?_eq_some_iff.mp C).1 ?_);have a:∀ b,b≠T->(s.heap.update T (Obj.mapFields (·.setIfInBounds 3 Value.none))).get? b=s.heap.get? b:=λb F=>Heap.get?_update_other _ _ (Ne.symm F)
 have i:∀ b o,s.heap.get? b=some o->(∀ vs,o.data≠.fields vs)->b≠T:=λb o d r z=>by
  rw[z,k]at d;cases d;exact r D j
 have p:=Heap.get?_update_self (Obj.mapFields (·.setIfInBounds 3 Value.none)) k (Obj.isFreed_of_fields (Obj.data_mapFields j _));refine nX H (I.of_keeps λb o d r=>⟨o,(a b (i b o d r)).trans d,rfl⟩) w ((a e G.symm).trans y) v (Array.getElem?_eq_some_iff.mp B).1 λh' T' x' nT' k1 k2=>h h' T' x' ?_ ⟨λb o n f g=>?_,λb o n g=>?_⟩
 .cases q:s.heap.get? T' with
  | none=>rfl
  | some o =>
   by_cases z:T'=T
   .rw[z,p]at nT'
    cases nT'
   .have c:=nT'
    rw[a T' z,q]at c;cases c
 .have u:b≠T:=λz=>n (by rw[z];exact mem_cons_self)
  have l:b≠e:=λz=>n (by rw[z];simp)
  exact k1 b o l f ((a b u).trans g)
 .have u:b≠T:=λz=>n (by rw[z];exact mem_cons_self)
  have l:b≠e:=λz=>n (by rw[z];simp)
  exact k2 b o l ((a b u).trans g)
theorem kf{Q:Unit->Shared->Prop}{q:List Addr}(x:Fx s.heap e cls dct fl T)(h:∀ h',Fx h' e cls dct .none T->KeptBut [T] q s.heap h'->Q () { s with heap:=h' }):wpAny M A (setFlight (.ref e) none) Q E s:=by
 obtain⟨v,u,y,r,l,rfl,rfl,i,d,j,p,c,w⟩:=x;have k:3<r.size:=(Array.getElem?_eq_some_iff.mp w).1;have a:∀ b,b≠T->(s.heap.update T (Obj.mapFields (·.setIfInBounds 3 ((none:Option Addr).elim Value.none λf=>rawInt f)))).get? b=s.heap.get? b:=λb nb=>Heap.get?_update_other _ _ (Ne.symm nb)
 unfold setFlight;refine wpAny_bind (wpAny_field l i d ?_);rw[if_pos (show(Value.ref T != Value.none)=true from by simp)];refine wpAny_setField p c k (h _ ⟨v,u,_,_,(a e j.symm).trans l,rfl,rfl,i,d,j,Heap.get?_update_self _ p (Obj.isFreed_of_fields (Obj.data_mapFields c _)),Obj.data_mapFields c _,by simp[k]⟩ ⟨λb o n _ g=>?_,λb o n g=>?_⟩)
 .exact(a b (by simpa using n)).trans g
 .exact⟨o.slots,(a b (by simpa using n)).trans g⟩
theorem uk{Q:Unit->Shared->Prop}(c:A.frames=some (env::outer))(d:s.heap.FunFrames base (env::outer))(b:env.frame=some L)(x:Fx s.heap e cls dct .none T)
  (h:∀ h' T',Fx h' e cls dct .none T'->s.heap.get? T'=none->KeptBut [T,e,T'] (frs (env::outer)) s.heap h'->Q () { s with heap:=h' }):wpAny M A (leaving env (.ref e)) Q E s:=by
 unfold leaving;refine wpAny_bind (xg c d b x λf j g a i=>kf (s:={ s with heap:=f }) g λh2 x2 k2=>h h2 j x2 a (i.trans k2))
theorem tB{Q:Unit->Shared->Prop}(d:A.frames=some (env::outer))(g:s.heap.FunFrames base (env::outer))(c:env.frame=some L)(i:s.heap.get? e=some ob)(a:ob.data=.fields fs)(j:fs[1]? = some .none)
  (h:∀ h' T',Fx h' e ob.cls ob.dict .none T'->s.heap.get? T'=none->KeptBut [e,T'] (frs (env::outer)) s.heap h'->Q () { s with heap:=h' }):wpAny M A (leaving env (.ref e)) Q E s:=by
 unfold leaving;refine wpAny_bind (wv d g c i a j λf n k b l=>kf (s:={ s with heap:=f }) k λh2 x2 k2=>h h2 n x2 b (l.trans k2))
end
structure XG(P:Program)(w:World)(outer:List Env)(H:Hp)(s:Shared)(x D:Addr)(dct:Option Addr)(T:Addr)(H':Hp)(s':Shared):Prop where
 os:s'.os=s.os
 bare:AllBare s'.gens
 un:Un (frs outer) [] H H' s.heap s'.heap
 hok:HOk P w H' s'.heap
 fx:Fx s'.heap x (.ref D) dct .none T
 nx:s.heap.get? x=none
 nT:s.heap.get? T=none
 ux:H' x=none
 uT:H' T=none
def CXG(P:Program)(w:World):CXT:=λouter H s E e s'=>∃ x D dct T H',e=.ref x/\XG P w outer H s x D dct T H' s'/\E (.ref D) dct H'
theorem dk{fs:List Addr}{H H':Hp}{h h':Heap}{b:Addr}(u:Un fs [] H H' h h')(n:h'.get? b=none):h.get? b=none:=by
 cases q:h.get? b with
 | none=>rfl
 | some o =>
  obtain⟨a,e⟩:=u.there b o q (by simp);rw[n]at e;cases e
section
variable {P:Program}{w:World}{K:Frag}{mg:Str->Option Value}{base:Heap}{N:List Str}{qual:Str}{scope:Scope}{f:Addr}{cdv:Value}{A:Around}{outer:List Env}{s0:Shared}{H0:Hp}{E:XK}
abbrev cxG(P:Program)(w:World)(K:Frag)(mg:Str->Option Value)(base:Heap)(N:List Str)(qual:Str)(scope:Scope)(f:Addr)(cdv:Value)(A:Around)(outer:List Env)(s0:Shared)(H0:Hp)(E:XK):Cx :=
 dZ (CXG P w) P w K mg base N qual scope f cdv A outer s0 H0 E
theorem qN{X:Cx}{d:List (Addr×Obj)}{q:St}{H':Hp}{s':Shared}{f:Heap}{x D T:Addr}{c:Option Addr}{xs:List Addr}(J:Inv X d q H' s')(g:X.ex=[])
  (k:KeptBut xs (frs X.stack) s'.heap f) (a:∀ b∈xs,X.s₀.heap.get? b=none/\H' b=none/\b ∉ frs X.outer) (r:Fx f x (.ref D) c .none T) (l:x∈xs) (j:T∈xs) :
  XG X.prog X.w X.outer X.H₀ X.s₀ x D c T H' { s' with heap:=f }:=by
 have p:Un (frs X.outer) [] X.H₀ H' X.s₀.heap s'.heap:=by
  have:=J.base;rw[g]at this;exact this
 refine⟨J.os,J.bare,xi p (λb o n h e=>k.1 b o (λz=>?_) (xx J n h) e) (λb o h e=>k.2 b o (λz=>(a b z).2.2 h) e),wn J.hok (λb o u hu e=>k.1 b o (λz=>?_) (xp J hu) e),r,(a x l).1,(a T j).1,(a x l).2.1,(a T j).2.1⟩
 .obtain⟨s,i⟩:=n
  rw[(a b z).1]at i;cases i
 .rw[(a b z).2.1]at hu
  cases hu
theorem jf{X:Cx}{a:List (Addr×Obj)}{c:St}{H:Hp}{s:Shared}(I:Inv X a c H s){b:Addr}(h:s.heap.get? b=none):b ∉ frs X.outer:=λz=>by
 obtain⟨_,o,e,_⟩:=I.funs.mem z;rw[h]at e;cases e
theorem tN:fj (CXG P w) (cxG P w K mg base N qual scope f cdv A outer s0 H0 E) E:=by
 intro a p H s e i I v;obtain⟨x,D,h,T,c,rfl,G,q⟩:=v;have J:Inv (cxG P w K mg base N qual scope f cdv A outer s0 H0 E) a p c i:=I.call' (ch:=[]) G.os G.un G.hok G.bare (by simp);have j:Un (frs outer) [] H0 H s0.heap s.heap:=I.base;have n:Un (frs outer) [] H0 c s0.heap i.heap:=J.base;show wpAny _ _ (leaving _ (.ref x)) _ _ i;refine uk I.ok.frames J.stack rfl G.fx λB l y d k=>?_
 refine⟨x,D,h,l,c,rfl,qN J rfl k (λb r=>?_) y (by simp) (by simp),q⟩;have g:b=T\/b=x\/b=l:=by simpa using r
 rcases g with rfl | rfl | rfl
 .exact⟨dk j G.nT,G.uT,jf I G.nT⟩
 .exact⟨dk j G.nx,G.ux,jf I G.nx⟩
 .refine⟨dk n d,?_,jf J d⟩
  cases z:c b with
  | none=>rfl
  | some u =>
   obtain⟨o,e⟩:=(J.hok b u z).isObj;rw[d]at e;cases e
theorem oG:PassesOwn (model P w) (cxG P w K mg base N qual scope f cdv A outer s0 H0 E).A (cxG P w K mg base N qual scope f cdv A outer s0 H0 E).env (cxG P w K mg base N qual scope f cdv A outer s0 H0 E).xe:=PassesOwn.leaving
end
section
variable {P:Program}{w:World}{K:Frag}{mg:Str->Option Value}{base:Heap}
theorem Fun.okG{x a:Str}{c:Stmt}{f:Addr}{i:FuncData}{N ps:List Str}{k:Nat}{sp:Sp}(F:Fun K x a c f i)(S:FnScope N ps (ac c))(h:∀ vs H Q E,sp vs H Q E->vs.length=ps.length)
  (b:∀(cdv:Value) (A:Around) (outer:List Env) (s:Shared) (H:Hp) (vs:List V) (Q:VK) (E:XK),Room k (A.deeper (envOfC a (ac c) s.heap.objs.size f cdv))->sp vs H Q E ->
   ∃ t,PSs (cxG P w K mg base N a (ac c) f cdv A outer s H E) (af c) t/\t { nx:=λ_ H'=>Q .non H',rt:=Q } (start N vs) H):FnOk P w K mg base (CXG P w) (k+1) f i ps sp:=by
 obtain⟨p,y,v,o,q,r,cdv,u,j,rfl,l,g⟩:=F.ex;exact vU l g S h λA outer s H vs Q E n d=>b cdv A outer s H vs Q E n d
end
def untr(H:Hp)(x:Addr):Hp:=λb=>if b=x then none else H b
theorem aI{H:Hp}{x b:Addr}(h:b≠x):untr H x b=H b:=by unfold untr;rw[if_neg h]
theorem bX{H:Hp}{x:Addr}:untr H x x=none:=by unfold untr;rw[if_pos rfl]
def XU(a D:Addr)(dct:Option Addr):Heap->Prop:=λh=>∃ o vs,h.get? a=some o/\o.cls=.ref D/\o.data=.fields vs/\o.dict=dct/\vs[1]? = some .none/\vs[2]? = some .none
theorem Inv.untr{X:Cx}{a:List (Addr×Obj)}{h:St}{H:Hp}{s:Shared}{x:Addr}{g:Heap->Prop}(I:Inv X a h H s)(j:H x=some (.ext g)):Inv X a h (untr H x) s:=by
 have d:∀ b u,H b=some u->(∀ ψ,u≠.ext ψ)->b≠x:=λb u e n z=>by
  rw[z,j]at e;cases e;exact n g rfl
 have i:∀ b,H b=none->L2.untr H x b=none:=λb e=>by
  by_cases z:b=x
  .rw[z];exact bX
  .rw[aI z];exact e
 have f:HOk X.prog X.w (L2.untr H x) s.heap:=λb u e=>by
  by_cases z:b=x
  .rw[z,bX]at e
   cases e
  .rw[aI z]at e
   refine(I.hok b u e).stay (λ_ _ _ q=>q) (λc q=>?_) λc xs q=>?_
   .rw[aI (d c _ q λ_ z=>nomatch z)];exact q
   .rw[aI (d c _ q λ_ z=>nomatch z)];exact q
 exact I.un (t':=s.toks) (h':=s.heap) ⟨λb o e _ _ _=>e,λb o e _ _ _=>⟨o.slots,e⟩,λb o e n _=>i b n,λb o e _=>⟨o,e⟩,λb xs e=>by rw[aI (d b _ e λ_ z=>nomatch z)];exact e,
  λb o u e=>by rw[aI (d b _ e λ_ z=>nomatch z)];exact e,λb ps e=>⟨#[],by rw[aI (d b _ e λ_ z=>nomatch z),e];simp⟩⟩ f
section
variable {P:Program}{w:World}{K:Frag}{mg:Str->Option Value}{base:Heap}{N:List Str}{qual:Str}{scope:Scope}{f:Addr}{cdv:Value}{A:Around}{outer:List Env}{s0:Shared}{H0:Hp}{E:XK}
def xJ(K:Frag)(H0:Hp)(E:XK)(D:Addr)(te:TE):TS:=λ_ σ H=>te σ H λv H1=>∃ x dct φ,v=.ref x/\H1 x=some (.ext φ)/\(∀ h,φ h->XU x D dct h)/\H0 x=none/\E (.ref D) dct (untr H1 x)
theorem fT{r:Expr}{R:TE}{D:Addr}{g:Pos}(c:XCls K D)(hd:XHd K D)(he:PE (cxG P w K mg base N qual scope f cdv A outer s0 H0 E) r R) :
  PS (cxG P w K mg base N qual scope f cdv A outer s0 H0 E) (.Raise (some r) none g) (xJ K H0 E D R):=by
 intro d s σ H DE I h;rw[arm_exec_Raise];refine wpAny_bind (wpAny_standAt ?_);show wpAny _ _ (raiseStmt _ (some (do let v <- eval r (cxG P w K mg base N qual scope f cdv A outer s0 H0 E).env;standAt g;pure v)) none) _ _ s;refine wP (K:=K) (D:=D) c hd (I.ok.hd rfl) (wpAny_bind (thn (he d s σ H _ I h) λv B ⟨y,i,a,ry,x,n,φ,W,F,G,Z,q⟩=>wpAny_bind (wpAny_standAt (wpAny_pure ?_))));subst W;obtain rfl:v=Value.ref x:=ry;obtain⟨Y,M,l,Q,j,X,L⟩:=G _ (a.hok x _ F).1;refine⟨x,Y,M,rfl,a.kIn,l,Q,j,L.1,?_⟩;show wpAny _ _ (leaving _ (.ref x)) _ _ B;have J:=a.untr F;have jb:Un (frs outer) [] H0 (untr i x) s0.heap B.heap:=J.base;have ib:Un (frs outer) [] H0 i s0.heap B.heap:=a.base
 have nx:s0.heap.get? x=none:=by
  cases z:s0.heap.get? x with
  | none=>rfl
  | some o =>
   have:=ib.free x o z Z (by simp);rw[F]at this;cases this
 refine tB a.ok.frames J.stack rfl l j L.1 λh2 T O p k=>?_
 rw[Q,X]at O;refine⟨x,D,n,T,untr i x,rfl,qN J rfl k (λb hb=>?_) O (by simp) (by simp),q⟩;have C:b=x\/b=T:=by simpa using hb
 rcases C with rfl | rfl
 .refine⟨nx,bX,λz=>?_⟩
  obtain⟨_,o,e,S⟩:=J.funs.mem z;rw[l]at e;cases e;exact S M j
 .refine⟨dk jb p,?_,jf J p⟩
  cases z:untr i x b with
  | none=>rfl
  | some u =>
   obtain⟨o,e⟩:=(J.hok b u z).isObj;rw[p]at e;cases e
end
end L2
namespace FrM
theorem wd(x y:Int):Int.gcd y (x % y)=Int.gcd x y:=by
 have e:x=x % y+y*(x/y):=(Int.emod_add_mul_ediv x y).symm;rw[Int.gcd_comm x y]
 conv=>rhs;rw[e]
 rw[Int.gcd_add_mul_left_right]
def Bt(n:Nat)(i:Int):Prop:=i.natAbs<2 ^ n
theorem Bt.mono{m n:Nat}{i:Int}(h:Bt m i)(l:m<=n):Bt n i:=Nat.lt_of_lt_of_le h (Nat.pow_le_pow_right (by decide) l)
theorem Bt.le{n:Nat}{i j:Int}(h:Bt n i)(l:j.natAbs<=i.natAbs):Bt n j:=Nat.lt_of_le_of_lt l h
theorem Bt.mul{m n:Nat}{i j:Int}(h:Bt m i)(h':Bt n j):Bt (m+n) (i*j):=by
 unfold Bt at *;rw[Int.natAbs_mul,Nat.pow_add];exact Nat.mul_lt_mul_of_le_of_lt (Nat.le_of_lt h) h' (Nat.lt_of_le_of_lt (Nat.zero_le _) h)
structure Low(T B t b:Int):Prop where
 pos:1<=b
 cop:Int.gcd t b=1
 eq:t*B=T*b
theorem low(t b:Int)(g:0<b):0<(Int.gcd t b:Int)/\(Int.gcd t b:Int)<=b/\Low t b (t/(Int.gcd t b:Int)) (b/(Int.gcd t b:Int))/\(t/(Int.gcd t b:Int)).natAbs<=t.natAbs/\(b/(Int.gcd t b:Int)).natAbs<=b.natAbs:=by
 have c:0<Int.gcd t b:=Int.gcd_pos_iff.mpr (.inr (by omega));have d:0<(Int.gcd t b:Int):=by omega
 have h:=Int.gcd_dvd_left t b;have a:=Int.gcd_dvd_right t b;have j:=Int.ediv_mul_cancel h;have i:=Int.ediv_mul_cancel a;have f:(Int.gcd t b:Int)<=b:=Int.le_of_dvd g a;refine⟨d,f,⟨?_,Int.gcd_ediv_gcd_ediv_gcd c,?_⟩,?_,?_⟩
 .have:=Int.ediv_pos_of_pos_of_dvd g (by omega) a
  omega
 .rw[<- Int.mul_ediv_assoc _ a,Int.mul_comm,<- Int.mul_ediv_assoc _ h,Int.mul_comm]
 .have:=congrArg Int.natAbs j
  rw[Int.natAbs_mul]at this;rw[<- this];exact Nat.le_mul_of_pos_right _ (by simpa using c)
 .have:=congrArg Int.natAbs i
  rw[Int.natAbs_mul]at this;rw[<- this];exact Nat.le_mul_of_pos_right _ (by simpa using c)
end FrM
namespace L2
open PySem PySem.Spec PyProof.Rows FrM
section
variable {X:Cx}
def CMulB(i j:Int):Prop:=(Bt 8000 i/\Bt 8000 j)\/CMul i j
theorem CMulB.ok{i j:Int}(h:CMulB i j):IntMulOk i j:=by
 rcases h with⟨a,b⟩ | h
 .exact IntMulOk.of_le (m:=8000) (n:=8000) (intBits_le_iff.mpr a) (intBits_le_iff.mpr b) (by decide)
 .exact h.ok
def CDivB(i j:Int):Prop:=0<j/\Bt 8000 j
theorem CDivB.no{i j:Int}(h:CDivB i j):Builtin.divisionGoesByPylong i j=false:=by
 refine PyProof.noPylong_of_log2 ?_;have a:j.natAbs<2 ^ 8000:=h.2
 by_cases h0:j.natAbs=0
 .rw[h0];decide +kernel
 .have:j.natAbs.log2<8000:=(Nat.log2_lt h0).mpr a
  lia
theorem op_mulB:OpR X (binaryOp .Mult) (rI CMulB λi j=>.int (i*j)):=opI λ_ _ _ _ _ _ _ a q=>mul_int q a.ok
theorem op_fdivB:OpR X (binaryOp .FloorDiv) (rI CDivB λi j=>.int (i/j)):=opI λi j _ _ _ _ _ a q=>by
 have b:(0:Int)<j:=a.1;exact floordiv_int (by lia) (by rw[Int.fdiv_eq_ediv_of_nonneg i (by lia)];exact q) (.inl a.no)
theorem dU:OpR X (binaryOp .Mult) (rIC CMulB λi j=>.int (i*j)):=op_mulB.ic
theorem fV:OpR X (binaryOp .FloorDiv) (rIC CDivB λi j=>.int (i/j)):=op_fdivB.ic
theorem cmB{i j:Int}{m n:Nat}(h:Bt m i)(h':Bt n j)(a:m<=8000:=by decide)(b:n<=8000:=by decide):CMulB i j:=.inl ⟨h.mono a,h'.mono b⟩
theorem clB{i j:Int}(h:-(2 ^ 64)<i:=by decide)(a:i<2 ^ 64:=by decide):CMulB i j:=.inr (cl h a)
theorem crB{i j:Int}(h:-(2 ^ 64)<j:=by decide)(a:j<2 ^ 64:=by decide):CMulB i j:=.inr (cr h a)
theorem cdB{i j:Int}{n:Nat}(h:0<j)(h':Bt n j)(a:n<=8000:=by decide):CDivB i j:=⟨h,h'.mono a⟩
theorem zw:bootBuiltins "abs" = some (.builtin "abs"):=by decide +kernel
end
end L2
namespace L2
open PySem PySem.Spec PyProof.Rows
def yV:Expr->Bool
 | .Starred ..=>true
 | _=>false
theorem sK{e:Expr}{a:List Expr}{env:Env}(h:yV e=false):starEach (e::a) env=(false,eval e env)::starEach a env:=by
 cases e <;> first | rfl | cases h
theorem ug{X:Cx}{e:Expr}{a:List Expr}{b:TE}{t:TA}(c:PE X e b)(d:PA X a t)(h:yV e=false:=by rfl):PA X (e::a) (vi b t):=aa c d (sK h)
@[irreducible] def PSq(X:Cx)(sts:List Stmt)(t:TS):Prop:=PSs X sts t
theorem Aj{X:Cx}{b:Stmt}{a:List Stmt}{t u:TS}(d:PS X b t)(c:PSq X a u):PSs X (b::a) (aT t u):=by
 unfold PSq at c;exact aj d c
section
variable {X:Cx}{k ie ir:Nat}{f C:Addr}{fd:FuncData}{ps:List Str}{sp:Sp}{dvs:List V}{ds:List Value}{fx cn en rn:Str}{p pos p2 p3 cp hp tp:Pos}{e:Expr}{es:List Expr}{t:TA}{b₀:Stmt}{suite:List Stmt}{ts:TS}
end
end L2
namespace HT
open PySem PySem.Spec PyProof.Rows
section
variable {prog:Program}{w:World}{A:Around}{E:Value->Shared->Prop}{s:Shared}
end
end HT
namespace L2
open PySem PySem.Spec PyProof.Rows
section
variable {X:Cx}
def lC(K:Frag):R2:=λx y H Q=>∃ a b ys,x=.ref a/\y=.ref b/\SqT K H a []/\SqT K H b ys/\Q (.ref b) H
theorem op_catT0:OpR X (binaryOp .Add) (lC X.K):=by
 intro p s R H x y v u Q I C L h;obtain⟨a,b,P,rfl,rfl,M,N,q⟩:=h;cases C;cases L;obtain⟨l,J,O,_⟩:=I.tuple M;obtain⟨d,S,E,_⟩:=I.tuple N;have G:l=[]:=J.nil_iff.mpr rfl;subst G;obtain⟨⟨D,K,w,F⟩,r,o,n,A⟩:=id O;obtain⟨⟨z,j,i,k⟩,c,g,B,f⟩:=id E;simp only at o A g f;subst o A g f
 exact concat_meets ⟨_,r,rfl⟩ ⟨_,c,rfl⟩ noFill_tuple_add seq_tuple_add PySem.F.slot_tuple_add PySem.F.entry_tuple_add (PySem.F.args_tuple_add_2 _ _)
   (tuple_addW0 a b _ d.toArray n B K j F k rfl) ⟨r,c,⟨.ref b,H,I,rfl,q⟩⟩
theorem nG:OpR X (binaryOp .Add) (λx y H Q=>lC X.K x y H Q\/qG X.K x y H Q):=op_catT0.or wO
@[irreducible] def PAq(X:Cx)(es:List Expr)(t:TA):Prop:=PA X es t
theorem wH:PAq X [] vy:=by unfold PAq;exact ae
theorem du{e:Expr}{a:List Expr}{b:TE}{t:TA}(d:PE X e b)(c:PAq X a t)(h:yV e=false:=by rfl):PAq X (e::a) (vi b t):=by
 unfold PAq at c ⊢;exact ug d c h
theorem xH{b:List Expr}{t:TA}{a:Pos}(h:PAq X b t):PE X (.List b a) (AJ t):=by
 unfold PAq at h;exact cq h
end
structure LamD where
 qual:Str
 params:Arguments
 body:Expr
 scope:Scope
def dS(f:Addr)(d:LamD)(clos:List (Str×Addr))(c:Addr):Heap->Prop:=λh=>∃ pm ctv,h.get? f=some (kla_obj "<lambda>" d.qual d.params d.body d.scope clos pm c ctv)
def cu(c:Addr)(v:V):Heap->Prop:=λh=>∃ o u,h.get? c=some o/\o.data=.cell (some u)/\RelV v u
def eY(c:Addr)(q:Str):Heap->Prop:=λh=>∃ o vs t,h.get? c=some o/\o.data=.fields vs/\vs[1]? = some (.str q t)
section
variable {P:Program}{w:World}{H:Hp}{h:Heap}
theorem rg{f:Addr}{d:LamD}{b:List (Str×Addr)}{c:Addr}{g a:Value}(e:h.get? f=some (kla_obj "<lambda>" d.qual d.params d.body d.scope b g c a)):ObjOk P w H h f (.ext (dS f d b c)) :=
 ⟨⟨g,a,e⟩,⟨_,e⟩,λl j ⟨g,a,i⟩ k=>⟨g,a,k _ i⟩⟩
theorem mK{c:Addr}{v:V}(x:cu c v h):ObjOk P w H h c (.ext (cu c v)) :=
 ⟨x,let ⟨o,_,e,_⟩:=x;⟨o,e⟩,λb d ⟨o,u,a,r⟩ k=>⟨o,u,k _ a,r⟩⟩
theorem wm{c:Addr}{q:Str}(x:eY c q h):ObjOk P w H h c (.ext (eY c q)) :=
 ⟨x,let ⟨o,_,_,e,_⟩:=x;⟨o,e⟩,λd f ⟨o,b,t,a,r⟩ k=>⟨o,b,t,k _ a,r⟩⟩
end
theorem jc(a:Addr)(o:Obj)(f:o.data≠.freed):∃ h:Heap,h.get? a=some o:=by
 refine⟨{ objs:=Array.replicate (a+1) o },?_⟩;obtain⟨c,d,b,g⟩:=o
 cases b <;> first | exact absurd rfl f | simp[Heap.get?]
theorem dw{f:Addr}{d:LamD}{a:List (Str×Addr)}{c:Addr}{v:V}:HO.ext (dS f d a c)≠HO.ext (cu f v):=λe=>by
 injection e with e
 obtain⟨h,g⟩:=jc f (kla_obj "<lambda>" d.qual d.params d.body d.scope a .none c .none) (by intro z;cases z);have y:cu f v h:=by rw[<- e];exact⟨_,_,g⟩
 obtain⟨o,u,b,i,_⟩:=y;rw[g]at b;cases b;cases i
theorem cw{c:Addr}{q:Str}{v:V}:HO.ext (eY c q)≠HO.ext (cu c v):=λe=>by
 injection e with e
 obtain⟨h,b⟩:=jc c { cls:=.none,data:=.fields #[.none,.str q 0] } (by intro z;cases z);have y:cu c v h:=by rw[<- e];exact⟨_,_,_,b,rfl,rfl⟩
 obtain⟨o,u,a,d,_⟩:=y;rw[b]at a;cases a;cases d
def Bk:HO->Bool
 | .tbl _=>false
 | _=>true
def SameT(H H':Hp):Prop:=∀ b o,H b=some o->(Bk o=true->H' b=some o)/\∃ o',H' b=some o'
theorem SameT.refl{H:Hp}:SameT H H:=λb o e=>⟨λ_=>e,o,e⟩
theorem SameT.trans{H d h:Hp}(a:SameT H d)(b:SameT d h):SameT H h:=λc o e=>by
 obtain⟨f,k,l⟩:=a c o e;obtain⟨g,i,j⟩:=b c k l;exact⟨λn=>(b c o (f n)).1 n,i,j⟩
theorem Same.t{H H':Hp}(s:Same H H'):SameT H H':=λb o e=>⟨λ_=>s b o e,o,s b o e⟩
theorem SameT.at{H H':Hp}(s:SameT H H'){a:Addr}{o:HO}(e:H a=some o)(n:Bk o=true:=by rfl):H' a=some o:=(s a o e).1 n
theorem SameT.free{H H':Hp}(s:SameT H H'){a:Addr}(e:H' a=none):H a=none:=by
 cases q:H a with
 | none=>rfl
 | some o=>obtain⟨_,c,b⟩:=s a o q;rw[e]at b;cases b
theorem SameT.put{H H':Hp}(s:SameT H H'){a:Addr}{o:HO}(e:H a=none):SameT H (upd H' a o):=λb u q=>by
 have n:b≠a:=λz=>by rw[z,e]at q;cases q
 rw[ai n];exact s b u q
def AN(H:Hp)(P:Addr)(ls:List (Pos×Str)):Prop:=∃ ps,H P=some (.tbl ps)/\TriplesOk ps.toList/\∀ l∈ls,codeAmong l.1 ps.toList=none\/∃ c,codeAmong l.1 ps.toList=some (.ref c)/\H c=some (.ext (eY c l.2))
abbrev oY:=List (Addr×List (Pos×Str))
def TabsOk(tabs:oY)(H:Hp):Prop:=∀ q∈tabs,AN H q.1 q.2
theorem TabsOk.same{d:oY}{H H':Hp}(t:TabsOk d H)(s:Same H H'):TabsOk d H':=λq h=>by
 obtain⟨j,k,g,i⟩:=t q h;exact⟨j,s _ _ k,g,λl f=>(i l f).imp id λ⟨c,a,b⟩=>⟨c,a,s _ _ b⟩⟩
theorem TabsOk.put{d:oY}{H:Hp}{r:Addr}{o:HO}(t:TabsOk d H)(n:∀ ps,H r≠some (.tbl ps))(j:∀ φ,H r≠some (.ext φ)):TabsOk d (upd H r o):=λq i=>by
 obtain⟨ps,f,h,k⟩:=t q i;refine⟨ps,?_,h,λl g=>(k l g).imp id λ⟨c,a,b⟩=>⟨c,a,?_⟩⟩
 .rw[ai λz=>n ps (by rw[<- z];exact f)];exact f
 .rw[ai λz=>j _ (by rw[<- z];exact b)];exact b
theorem ow{p d:Pos}{c:Value}(l:List Value)(h:TriplesOk l)(f:¬(p.line=d.line/\p.col=d.col)):codeAmong d (l++[rawInt p.line,rawInt p.col,c])=codeAmong d l:=by
 fun_induction TriplesOk l with
 | case1 =>
  simp only[nil_append,codeAmong,rawInt];rw[if_neg];intro z;rw[Bool.and_eq_true,beq_iff_eq,beq_iff_eq]at z;exact f ⟨by lia,by lia⟩
 | case2 a t b u x rest ih =>
  simp only[cons_append,codeAmong];rw[ih h]
 | case3=>exact h.elim
theorem kZ{p:Pos}{c:Value}(l:List Value)(h:TriplesOk l):TriplesOk (l++[rawInt p.line,rawInt p.col,c]):=by
 fun_induction TriplesOk l with
 | case1=>simp[TriplesOk,rawInt]
 | case2 a t b u x rest ih=>exact ih h
 | case3=>exact h.elim
def Bm(mg:Str->Option Value)(base:Heap):Prop:=∃ bm ob,mg "__builtins__" = some (.ref bm)/\base.get? bm=some ob/\ob.cls=.type "module" /\ ob.dict=some builtinsNs/\ob.data=.plain
def BM(tabs:oY)(d:LamD)(clos:List (Str×Addr)):TE:=λσ H Q=>TabsOk tabs H/\∀ f c H1,SameT H H1->TabsOk tabs H1->H f=none->H1 f=some (.ext (dS f d clos c))->H1 c=some (.ext (eY c d.qual))->Q (.ref f) H1
theorem lT{c b:Type}:∀{l:List (c×b)},(l.map (·.1)).Nodup->∀ x∈l,∀ y∈l,x.1=y.1->x=y
 | [],_,x,hx,_,_,_=>by cases hx
 | a::r,nd,x,hx,y,hy,e=>by
  rw[map_cons,nodup_cons]at nd
  rcases mem_cons.mp hx with rfl | hx' <;> rcases mem_cons.mp hy with rfl | hy'
  .rfl
  .exact absurd (mem_map.mpr ⟨y,hy',e.symm⟩) nd.1
  .exact absurd (mem_map.mpr ⟨x,hx',e⟩) nd.1
  .exact lT nd.2 x hx' y hy' e
theorem q8:∀{l:List (Pos×Str)},(l.Pairwise λx y=>¬(x.1.line=y.1.line/\x.1.col=y.1.col))->∀ x∈l,∀ y∈l,(x.1.line=y.1.line/\x.1.col=y.1.col)->x=y
 | [],_,x,hx,_,_,_=>by cases hx
 | a::r,nd,x,hx,y,hy,e=>by
  rw[pairwise_cons]at nd
  rcases mem_cons.mp hx with rfl | hx' <;> rcases mem_cons.mp hy with rfl | hy'
  .rfl
  .exact absurd e (nd.1 y hy')
  .exact absurd ⟨e.1.symm,e.2.symm⟩ (nd.1 x hx')
  .exact q8 nd.2 x hx' y hy' e
section
variable {X:Cx}{tabs:oY}{P c:Addr}{ls:List (Pos×Str)}{d:LamD}{clos:List (Str×Addr)}{pos:Pos}
theorem ia(Y:X.env.code=.ref c)(hC:codeHdIn X.K c P=true)(hB:Bm X.mg X.base)(hq:X.env.qual ++ "<lambda>" = d.qual)(al:closureFor d.scope X.env=pure clos)(W:defaultsOf d.params X.env=([],[]))
  (hm:(P,ls)∈tabs) (hl:(pos,d.qual)∈ls) (bl:(tabs.map (·.1)).Nodup) (a4:ls.Pairwise λx y=>¬(x.1.line=y.1.line/\x.1.col=y.1.col)):PE X (.Lambda d.params d.body d.scope pos) (BM tabs d clos):=by
 intro bn s σ H Q I h;obtain⟨hT,hQ⟩:=h;refine PySem.W.kla_eval W ?_;rw[hq];obtain⟨J,r,l,Z⟩:=hT _ hm;have p:s.heap.Ns mainGlobals X.mg:=I.mod.glob.keeps I.bk;have C:CodeHd s.heap c P:=codeHd_of_K I.kIn hC;have w:s.heap.get? P=some (tabObj J):=I.hok P _ r
 have bg:mainGlobals≠P:=λq=>by
  obtain⟨o,es,ep,e,O,_⟩:=p;rw[q,w]at e;cases e;cases O
 obtain⟨bm,ob,b1,b2,b3,b4,b5⟩:=hB;have R:=I.bk _ _ b2
 have a5:bm≠P:=λq=>by
  rw[q,w]at R;cases R;cases b3
 have a0:bm≠mainGlobals:=λq=>by
  obtain⟨o,es,ep,e,O,_⟩:=p;rw[q,e]at R;cases R;rw[O]at b5;cases b5
 have a8:bm≠builtinsNs:=λq=>by
  obtain⟨mb,⟨o,es,ep,e,O,_⟩,_⟩:=I.mod.blt;rw[q,e]at b2;cases b2;rw[O]at b5;cases b5
 have BA:s.heap.BuiltinsAt X.mg P:=⟨bm,ob,b1,a8,a0,a5,R,b3,b4,b5⟩
 rcases Z _ hl with hn | ⟨i,hc,a'⟩
 .refine PySem.W.kla_makeFunction (mg:=X.mg) al I.ok.glob p Y C w l hn bg BA λi M h' tk hx v F K an=>?_
  have ab:H i=none:=I.hok.fresh v;have j:H h'.objs.size=none:=I.hok.fresh (Nat.le_trans v (Nat.le_of_lt F));have L:i≠h'.objs.size:=Nat.ne_of_lt F;have a3:P≠i:=av r ab;have N:P≠h'.objs.size:=av r j
  obtain⟨f,hf⟩:∃ f,f=h'.objs.size:=⟨_,rfl⟩
  obtain⟨ob',hob⟩:∃ o,o=kla_obj "<lambda>" d.qual d.params d.body d.scope clos ((X.mg "__name__").getD .none) i M:=⟨_,rfl⟩
  have a9:(h'.push ob').get? f=some ob':=by rw[hf,hob];exact Heap.get?_push_size _ rfl
  have k:∀ b o,b≠P->s.heap.get? b=some o->(h'.push ob').get? b=some o:=λb o n e=>Heap.get?_push_of_some _ (hx b o n e)
  have B:(h'.push ob').get? P=some (tabObj (J ++ #[rawInt pos.line,rawInt pos.col,.ref i])):=Heap.get?_push_of_some _ an
  have as:eY i d.qual (h'.push ob'):=by
   obtain⟨D,oc,vs,t,e2,a7,a1,hv⟩:=K;cases e2;exact⟨oc,vs,t,Heap.get?_push_of_some _ a7,a1,hv⟩
  rw[<- hf]at j L N ⊢;rw[<- hob]
  obtain⟨H1,hH1⟩:∃ H1,H1=upd (upd (upd H P (.tbl (J ++ #[rawInt pos.line,rawInt pos.col,.ref i]))) i (.ext (eY i d.qual))) f (.ext (dS f d clos i)):=⟨_,rfl⟩
  have gf:H1 f=some (.ext (dS f d clos i)):=by rw[hH1];exact ad
  have gc:H1 i=some (.ext (eY i d.qual)):=by rw[hH1,ai L];exact ad
  have gP:H1 P=some (.tbl (J ++ #[rawInt pos.line,rawInt pos.col,.ref i])):=by rw[hH1,ai N,ai a3];exact ad
  have go:∀ b,b≠P->b≠i->b≠f->H1 b=H b:=λb h1 h2 h3=>by rw[hH1,ai h3,ai h2,ai h1]
  have g:∀ b o,b≠P->H b=some o->H1 b=some o:=λb o n e=>by rw[go b n (av e ab) (av e j)];exact e
  have E:∀ b o,H b=some o->(∀ qs,o≠.tbl qs)->b≠P:=λb o e n z=>by rw[z,r]at e;cases e;exact n J rfl
  have un:Un X.fs [] H H1 s.heap (h'.push ob'):=by
   refine⟨λb o e n _ _=>k b o (λz=>by rw[z,r]at n;cases n) e,λb o e n _ _=>⟨o.slots,k b o (λz=>by rw[z,r]at n;cases n) e⟩,λb o e n _=>?_,λb o e _=>?_,λb xs e=>g b _ (E b _ e λ_ z=>nomatch z) e,λb o u e=>g b _ (E b _ e λ_ z=>nomatch z) e,λb qs e=>?_⟩
   .have hb:b<s.heap.objs.size:=Heap.lt_size e
    rw[go b (λz=>by rw[z,r]at n;cases n) (Nat.ne_of_lt (Nat.lt_of_lt_of_le hb v)) (by rw[hf];exact Nat.ne_of_lt (Nat.lt_of_lt_of_le hb (Nat.le_trans v (Nat.le_of_lt F))))];exact n
   .by_cases hb:b=P
    .rw[hb];exact⟨_,B⟩
    .exact⟨o,k b o hb e⟩
   .by_cases hb:b=P
    .rw[hb,r]at e
     cases e;rw[hb];exact⟨_,gP⟩
    .exact⟨#[],by rw[g b _ hb e];simp⟩
  have a2:HOk X.prog X.w H1 (h'.push ob'):=λa o e=>by
   by_cases h1:a=f
   .subst h1;rw[gf]at e;cases e;exact rg (by rw[a9,hob])
   by_cases h2:a=i
   .subst h2;rw[gc]at e;cases e;exact wm as
   by_cases h3:a=P
   .subst h3;rw[gP]at e;cases e;exact B
   rw[go a h3 h2 h1]at e;refine(I.hok a o e).stay (λb u hb q=>k b u ?_ q) (λb q=>g b _ (E b _ q λ_ z=>nomatch z) q) λb xs q=>g b _ (E b _ q λ_ z=>nomatch z) q
   rcases hb with rfl | hb
   .exact h3
   .exact E b _ hb λ_ z=>nomatch z
  refine⟨.ref f,H1,I.un (h':=h'.push ob') (t':=tk) un a2,rfl,hQ f i H1 (λb o e=>?_) (λq hq'=>?_) j gf gc⟩
  .by_cases hb:b=P
   .subst hb
    rw[r]at e;cases e;exact⟨λz=>(Bool.false_ne_true z).elim,_,gP⟩
   .exact⟨λ_=>g b o hb e,o,g b o hb e⟩
  .by_cases hqP:q.1=P
   .have a6:q=(P,ls):=lT bl q hq' (P,ls) hm hqP
    subst a6;refine⟨_,gP,by rw[Array.toList_append];exact kZ _ l,λG A=>?_⟩;rw[Array.toList_append]
    by_cases hp:pos.line=G.1.line/\pos.col=G.1.col
    .have:=q8 a4 (pos,d.qual) hl G A hp
     subst this;exact .inr ⟨i,codeAmong_snoc _ l hn,gc⟩
    .have eo:=ow (c:=.ref i) J.toList l hp
     rcases Z G A with z | ⟨D,z1,T⟩
     .exact .inl (eo.trans z)
     .exact .inr ⟨D,eo.trans z1,g D _ (E D _ T λ_ z=>nomatch z) T⟩
   .obtain⟨qs,e1,e2,e3⟩:=hT q hq'
    exact⟨qs,g _ _ hqP e1,e2,λG A=>(e3 G A).imp id λ⟨D,z1,T⟩=>⟨D,z1,g D _ (E D _ T λ_ z=>nomatch z) T⟩⟩
 .refine PySem.W.kla_makeFunctionHit (mg:=X.mg) al I.ok.glob p Y C w l hc BA λM h' tk hk S=>?_
  have j:H h'.objs.size=none:=I.hok.fresh S;have sm:Same H (upd H h'.objs.size (.ext (dS h'.objs.size d clos i))):=Same.new j;refine⟨.ref h'.objs.size,_,I.laid (a:=h'.objs.size) (o:=.ext (dS h'.objs.size d clos i)) (t':=tk) (λb u e=>Heap.get?_push_of_some _ (hk b u e)) S (rg (Heap.get?_push_size _ rfl)),rfl,hQ _ i _ sm.t (hT.same sm) j ad (sm _ _ a')⟩
end
def untrs(H:Hp)(cs:List Addr):Hp:=λb=>if b∈cs then none else H b
theorem dz{H:Hp}{a:List Addr}{b:Addr}(h:b∈a):untrs H a b=none:=by unfold untrs;rw[if_pos h]
theorem aK{H:Hp}{a:List Addr}{b:Addr}(h:b ∉ a):untrs H a b=H b:=by unfold untrs;rw[if_neg h]
theorem cX{H:Hp}{a:List Addr}{b:Addr}(h:H b=none):untrs H a b=none:=by unfold untrs;split <;> first | rfl | exact h
abbrev CellsAt(H:Hp):List (Str×Addr)->List V->Prop:=Paired λ(p:Str×Addr) (v:V)=>H p.2=some (.ext (cu p.2 v))
theorem CellsAt.mem{H:Hp}:∀{clos:List (Str×Addr)}{vals:List V},CellsAt H clos vals->∀ p∈clos,∃ v,H p.2=some (.ext (cu p.2 v))
 | _,_,.nil,p,h=>by cases h
 | _,_,.cons r t,p,h=>by
  rcases mem_cons.mp h with rfl | h
  .exact⟨_,r⟩
  .exact CellsAt.mem t p h
theorem CellsAt.get{H:Hp}:∀{clos:List (Str×Addr)}{vals:List V}{i:Nat}{v:V},CellsAt H clos vals->vals[i]? = some v->∃ p,clos[i]? = some p/\H p.2=some (.ext (cu p.2 v))
 | _,_,_,_,.nil,h=>by cases h
 | _,_,0,_,.cons r t,h=>by cases h;exact⟨_,rfl,r⟩
 | _,_,i+1,_,.cons r t,h=>CellsAt.get (i:=i) t h
theorem CellsAt.at{H:Hp}{a:List (Str×Addr)}{c:List V}(g:CellsAt H a c){b:Addr}(d:b∈a.map (·.2)):∃ v,H b=some (.ext (cu b v)):=by
 obtain⟨p,f,rfl⟩:=mem_map.mp d;exact g.mem p f
theorem aB{H:Hp}{a:List (Str×Addr)}{c:List V}{b:Addr}{o:HO}(d:CellsAt H a c)(h:H b=some o)(n:∀ v,o≠.ext (cu b v)):untrs H (a.map (·.2)) b=some o:=by
 rw[aK λz=>?_]
 .exact h
 .obtain⟨v,e⟩:=d.at z
  rw[h]at e;exact n v (Option.some.inj e)
theorem db{a:Type}:∀{l:List (Str×a)}{x:Str}{u:a},(l.map (·.1)).Nodup->(x,u)∈l->l.lookup x=some u
 | [],_,_,_,h=>by cases h
 | (y,w)::r,x,u,nd,h=>by
  rw[map_cons,nodup_cons]at nd
  rcases mem_cons.mp h with e | h
  .cases e;simp[List.lookup]
  .have:x≠y:=λz=>nd.1 (mem_map.mpr ⟨(x,u),h,z⟩)
   rw[lookup_cons,beq_eq_false_iff_ne.mpr this];exact db nd.2 h
theorem sJ{a:Type}{l:List a}(h:l.Nodup):l.reverse.Nodup:=by
 unfold List.Nodup at h ⊢;rw[List.pairwise_reverse];exact h.imp λn z=>n z.symm
def jS(d:LamD)(L f c:Addr)(clos:List (Str×Addr)):Env:={ scope:=d.scope,locals:=L,globals:=mainGlobals,cells:=clos,qual:=d.qual ++ ".<locals>.",func:=some f,code:=.ref c,frame:=some L,builtins:=builtinsNs }
def cxL(P:Program)(w:World)(K:Frag)(mg:Str->Option Value)(base:Heap)(N:List Str)(d:LamD)(clos:List (Str×Addr))(f c:Addr)(A:Around)(outer:List Env)(s:Shared)(H:Hp):Cx where
 prog:=P
 w:=w
 K:=K
 mg:=mg
 base:=base
 A:=A.deeper (jS d s.heap.objs.size f c clos)
 N:=N
 s₀:=s
 H₀:=untrs H (clos.map (·.2))
 env:=jS d s.heap.objs.size f c clos
 outer:=outer
 stack:=jS d s.heap.objs.size f c clos::outer
 ex:=[]
 calm:=true
 fn:=λ_=>false
 pn:=[]
 xe:=λ_ _=>False
def LamOk(P:Program)(w:World)(K:Frag)(mg:Str->Option Value)(base:Heap)(k:Nat)(d:LamD)(fv ps:List Str)(sp:List V->Sp):Prop :=
 ∀(A:Around) (outer:List Env) (s:Shared) (H:Hp) (f c:Addr) (clos:List (Str×Addr)) (us:List Value) (vs vals:List V) (Q:VK) (E:XK),Room k A->Env0 P w K mg base A outer s H->H f=some (.ext (dS f d clos c))->H c=some (.ext (eY c d.qual)) ->
  clos.map (·.1)=fv->(clos.map (·.2)).Nodup->CellsAt H clos vals->Vals vs us->sp vals vs H Q E->codeAny (model P w) A (.call (.ref f) ⟨us,[]⟩) (CR CX0 outer P w H s Q E) s
structure LamScope(d:LamD)(fv ps:List Str):Prop where
 kind:d.scope.kind=.function
 co:d.scope.isCoroutine=false
 gen:d.scope.isGenerator=false
 nocell:∀ x∈d.scope.names,x.2≠.cell
 par:∀ x ∈ ps,d.scope.names.lookup x = some .local
 free:∀ x∈d.scope.names,x.2=.free->x.1∈fv
 fr:∀ x∈fv,d.scope.names.lookup x=some .free
 nd:(ps++fv).Nodup
theorem ce{a b:Type}[BEq a][LawfulBEq a]:∀{l:List (a×b)}{x:a}{u:b},l.lookup x=some u->(x,u)∈l
 | [],_,_,h=>by cases h
 | (y,w)::r,x,u,h=>by
  rw[lookup_cons]at h;cases e:x == y with
  | true=>rw[e]at h;cases h;rw[eq_of_beq e];exact mem_cons_self ..
  | false=>rw[e]at h;exact mem_cons_of_mem _ (ce h)
theorem oX{P:Program}{w:World}{K:Frag}{mg:Str->Option Value}{B:Heap}{d:LamD}{L ps:List Str}{a:List (Str×Addr)}{f c:Addr}{A:Around}{j:List Env}{s:Shared}{H:Hp}{us:List Value}{vs g:List V}{G:Heap}{tk:Nat}
  (S:LamScope d L ps) (hd:A.handled=none) (C:Env0 P w K mg B A j s H) (hl:vs.length=ps.length) (r:Vals vs us) (D:a.map (·.1)=L) (Z:(a.map (·.2)).Nodup) (O:CellsAt H a g)
  (ab:G.Ns s.heap.objs.size (λx=>(ps.zip us).reverse.lookup x)) (W:∀ b o,s.heap.get? b=some o->G.get? b=some o) :
  Inv (cxL P w K mg B (ps++L) d a f c A j s H) [] ((vs++g).map some) (untrs H (a.map (·.2))) { s with heap:=G,toks:=tk }:=by
 have Q:(a.map (·.1)).Nodup:=by rw[D];exact(nodup_append.mp S.nd).2.1
 have X:ps.Nodup:=(nodup_append.mp S.nd).1;have a0:us.length=ps.length:=by rw[<- r.length];exact hl
 have N:∀ x l,a.lookup x=some l->l∈a.map (·.2):=λx l e=>mem_map.mpr ⟨(x,l),ce e,rfl⟩
 have k:∀ b v,H b=some (.ext (cu b v))->∃ u,RelV v u/\G.IsCell b (some u):=λb v e=>by
  obtain⟨⟨o,u,E,n,g3⟩,_⟩:=C.hok b _ e;exact⟨u,g3,o,W _ _ E,n⟩
 have J:∀ b:Addr,b ∉ (cxL P w K mg B (ps++L) d a f c A j s H).ex:=λb z=>absurd (show b∈([]:List Addr) from z) (by simp)
 have as:a.length=L.length:=by rw[<- D,length_map]
 have an:g.length=a.length:=(Paired.length O).symm
 refine⟨⟨C.mod,S.kind,rfl,rfl,Nat.le_refl _,λy z l G T=>?_,λy hy=>?_,λy l h=>(Bool.false_ne_true h).elim,λ_=>hd,Around.frames_deeper C.frames,.inr ⟨rfl,rfl⟩,λb z=>absurd z (J b),λb o e=>⟨(C.bs b o e).1,cX (C.bs b o e).2⟩,C.bsz,λb _ _=>J b,λb z=>absurd z (J b),C.funs,λb hb=>cX (C.frf b hb)⟩,
  rfl,C.bare,Un.kept W,⟨_,ab,λi y v E n g3=>?_⟩,λy l h=>?_,cX (C.hok.fresh (Nat.le_refl _)),λy l h=>dz (N y l h),λp M=>absurd (show p∈([]:List (Addr×Obj)) from M) (by simp),λb u e=>?_,?_⟩
 .have G:a.lookup y=some l:=G
  have T:a.lookup z=some l:=T;have e1:=ce G;have e2:=ce T;have Y:((a.map λp=>(p.2,p.1)).map (·.1)).Nodup:=by rw[map_map];exact Z
  have:=lT Y (l,y) (mem_map.mpr ⟨_,e1,rfl⟩) (l,z) (mem_map.mpr ⟨_,e2,rfl⟩) rfl;exact congrArg Prod.snd this
 .have hy:d.scope.names.lookup y=some .cell\/d.scope.names.lookup y=some .free:=hy
  rcases hy with hy | hy
  .exact absurd rfl (S.nocell _ (ce hy))
  .have:=S.free _ (ce hy) rfl
   rw[<- D]at this;obtain⟨p,M,e⟩:=mem_map.mp this;have e':p.1=y:=e;exact⟨p.2,db Q (by show(y,p.2)∈a;rw[<- e'];exact M)⟩
 .have E:(ps++L)[i]? = some y:=E
  by_cases hi:i<ps.length
  .rw[List.getElem?_append_left hi]at E
   rw[List.getElem?_map,List.getElem?_append_left (by lia)]at n
   have I:vs[i]? = some v:=by
    cases q:vs[i]? with
    | none=>rw[q]at n;cases n
    | some x=>rw[q]at n;cases n;rfl
   obtain⟨u,hu,rv⟩:=r.get I;refine⟨u,rv,.inl ⟨S.par y (List.mem_of_getElem? E),?_⟩⟩;have al:(y,u)∈ps.zip us:=List.mem_of_getElem? (i:=i) (by rw[List.getElem?_zip_eq_some];exact⟨E,hu⟩);refine db ?_ (List.mem_reverse.mpr al);rw[List.map_reverse];refine sJ ?_;have:(ps.zip us).map (·.1)=ps:=by rw[List.map_fst_zip];lia
   rw[this];exact X
  .rw[List.getElem?_append_right (by lia)]at E
   rw[List.getElem?_map,List.getElem?_append_right (by lia)]at n
   have I:g[i - ps.length]? = some v:=by
    rw[hl]at n;cases q:g[i - ps.length]? with
    | none=>rw[q]at n;cases n
    | some x=>rw[q]at n;cases n;rfl
   obtain⟨p,M,e⟩:=O.get I;rw[<- D,List.getElem?_map,M]at E;cases E;obtain⟨u,rv,R⟩:=k _ _ e;have F:=List.mem_of_getElem? M;refine⟨u,rv,.inr ⟨.inr (S.fr p.1 ?_),p.2,db Q F,R⟩⟩;rw[<- D];exact mem_map.mpr ⟨p,F,rfl⟩
 .obtain⟨v,e⟩:=O.at (N y l h)
  obtain⟨u,_,R⟩:=k _ _ e;exact⟨_,R⟩
 .by_cases hb:b∈a.map (·.2)
  .rw[dz hb]at e;cases e
  .rw[aK hb]at e
   refine(C.hok b u e).stay (λb' u' _ q=>W b' u' q) (λb' q=>?_) λb' xs q=>?_
   .exact aB O q λv z=>nomatch z
   .exact aB O q λv z=>nomatch z
 .show((vs++g).map some).length=(ps++L).length
  rw[length_map,length_append,length_append];lia
section
variable {P:Program}{w:World}{K:Frag}{mg:Str->Option Value}{base:Heap}
theorem gZ{d:LamD}{N ps:List Str}{k:Nat}{sp:List V->Sp}(S:LamScope d N ps)
  (C:∀(pm ctv:Value) (clos:List (Str×Addr)) (c:Addr) (us:List Value),us.length=ps.length->bindArgs (kla_fn "<lambda>" d.qual d.params d.body d.scope clos pm (.ref c) ctv) ⟨us,[]⟩=pure (ps.zip us))
  (Y:∀ vals vs H Q E,sp vals vs H Q E->vs.length=ps.length)
  (x:∀(A:Around) (outer:List Env) (s:Shared) (H:Hp) (f c:Addr) (clos:List (Str×Addr)) (vals vs:List V) (Q:VK) (E:XK),Room k (A.deeper (jS d s.heap.objs.size f c clos))->clos.map (·.1)=N->CellsAt H clos vals->sp vals vs H Q E ->
   ∃ t,PE (cxL P w K mg base (ps++N) d clos f c A outer s H) d.body t/\t ((vs++vals).map some) (untrs H (clos.map (·.2))) (λv H'=>∀ H3,Same H' H3->(∀ p∈clos,H3 p.2=H p.2)->Q v H3)) :
  LamOk P w K mg base (k+1) d N ps sp:=by
 intro A outer s H f c clos us vs vals Q E R j hf hc M X B r F;have hl:=Y _ _ _ _ _ F;have Z:us.length=ps.length:=by rw[<- r.length];exact hl
 obtain⟨⟨pm,ctv,ef⟩,_,_⟩:=j.hok f _ hf;obtain⟨⟨oc,T,ct,ec,ed,ev⟩,_,_⟩:=j.hok c _ hc;have ab:s.heap.NoLimit:=j.mod.nolimit.keeps λb o e=>(j.bs b o e).1
 obtain⟨t,ht,hq⟩:=x A outer s H f c clos vals vs Q E (R.deeper _) M B F;refine PySem.W.kla_callFunE (body:=d.body) R.depth ef rfl S.co S.gen rfl ⟨c,oc,T,ct,rfl,ec,ed,ev⟩ ?_;rw[C pm ctv clos c us Z];refine wpAny_pure (wpAny_newFunctionEnv S.nocell (λy hy=>S.par y.1 (of_mem_zip hy).1) (λh1 hns hsb=>?_) S.kind);have hk:∀ b o,s.heap.get? b=some o->h1.get? b=some o:=λb o e=>hsb.extBut b o (Nat.ne_of_lt (Heap.lt_size e)) (Heap.get?_push_of_some _ e)
 refine⟨ab.fresh _ hsb,?_⟩;show codeAny _ _ (.expr d.body (jS d s.heap.objs.size f c clos)) _ _;have I:=oX (f:=f) (c:=c) (tk:=s.toks+(ps.zip us).length) S R.hd j hl r M X B hns hk;refine PySem.W.kla_codeExpr (wpAny_mono (ht [] _ _ _ _ I hq) (λu s' hs=>?_) λe s' z=>False.elim z);obtain⟨v,H',J,rv,q⟩:=hs
 obtain⟨cs,hcs⟩:∃ cs,cs=clos.map (·.2):=⟨_,rfl⟩
 have h:Un (frs outer) [] (untrs H (clos.map (·.2))) H' s.heap s'.heap:=J.base
 have l:∀ b,b∈clos.map (·.2)->∃ o v,s.heap.get? b=some o/\H b=some (.ext (cu b v)):=λb a=>by
  obtain⟨v,e⟩:=B.at a;obtain⟨⟨o,_,g,_⟩,_⟩:=j.hok b _ e;exact⟨o,v,g,e⟩
 have O:∀ b∈clos.map (·.2),H' b=none:=λb a=>by
  obtain⟨o,v,g,_⟩:=l b a;exact h.free b o g (dz a) (by simp)
 let H3:Hp:=λb=>if b∈clos.map (·.2) then H b else H' b
 have g1:∀ b,b∈clos.map (·.2)->H3 b=H b:=λb a=>if_pos a
 have W:∀ b,b ∉ clos.map (·.2)->H3 b=H' b:=λb a=>if_neg a
 have D:Same H' H3:=λb o e=>by
  rw[W b λz=>by rw[O b z]at e;cases e];exact e
 have up:∀ b o,H b=some o->(∀ v,o≠.ext (cu b v))->b ∉ clos.map (·.2):=λb o e n z=>by
  obtain⟨v,i⟩:=B.at z;rw[e]at i;exact n v (Option.some.inj i)
 refine⟨v,H3,J.os,J.bare,⟨λb o e n a G=>h.keep b o e (cX n) a G,λb o e n a G=>h.slot b o e (cX n) a G,λb o e n G=>?_,h.there,λb xs e=>?_,λb o u e=>?_,λb ps' e=>?_⟩,λb o e=>?_,rv,q H3 D λp hp=>g1 p.2 (mem_map.mpr ⟨p,hp,rfl⟩)⟩
 .rw[W b λz=>by obtain⟨_,v,_,i⟩:=l b z;rw[n]at i;cases i]
  exact h.free b o e (cX n) G
 .exact D _ _ (h.tups b xs (aB B e λv z=>nomatch z))
 .exact D _ _ (h.frzs b o u (aB B e λv z=>nomatch z))
 .obtain⟨L,z⟩:=h.tbls b ps' (aB B e λv z=>nomatch z)
  exact⟨L,D _ _ z⟩
 .by_cases a:b∈clos.map (·.2)
  .rw[g1 b a]at e
   obtain⟨o',v',g,i⟩:=l b a;rw[e]at i;cases i;obtain⟨⟨o2,u2,k1,k2,k3⟩,_⟩:=j.hok b _ e;refine mK ⟨o2,u2,h.keep b o2 k1 (dz a) (λz=>?_) (by simp),k2,k3⟩;rw[j.frf b z]at e;cases e
  .rw[W b a]at e
   refine(J.hok b o e).stay (λb' u' _ q=>q) (λb' q=>D _ _ q) λb' xs q=>D _ _ q
end
theorem PE.or{X:Cx}{e:Expr}{t t':TE}(h:PE X e t)(h':PE X e t'):PE X e (λσ H Q=>t σ H Q\/t' σ H Q):=λa s σ H Q I q=>q.elim (h a s σ H Q I) (h' a s σ H Q I)
def o7(d:LamD)(fv:List Str)(sp:List V->Sp):V->List V->Hp->VK->Prop:=λv vs H Q=>∃ f c clos vals,v=.ref f/\H f=some (.ext (dS f d clos c))/\H c=some (.ext (eY c d.qual))/\clos.map (·.1)=fv/\(clos.map (·.2)).Nodup/\CellsAt H clos vals/\sp vals vs H Q λ_ _ _=>False
def zt(d:LamD)(fv:List Str)(sp:List V->Sp)(tf:TE)(t:TA):TE:=λσ H Q=>tf σ H λv H1=>(∃ f d' clos c,v=.ref f/\H1 f=some (.ext (dS f d' clos c)))/\t σ H1 λvs H2=>(∀ f d' clos c,v=.ref f->H1 f=some (.ext (dS f d' clos c))->H2 f=some (.ext (dS f d' clos c)))/\o7 d fv sp v vs H2 Q
section
variable {X:Cx}{d:LamD}{fv ps:List Str}{k:Nat}{sp:List V->Sp}{x:Str}{p pos:Pos}{tf:TE}{t:TA}{e:Expr}{es:List Expr}
theorem qH{a:List (Addr×Obj)}{j:St}{H:Hp}{s:Shared}{Q:VK}{us:List Value}{vs:List V}{v:V}{u:Value}(L:LamOk X.prog X.w X.K X.mg X.base k d fv ps sp)(o:Room k X.A)(I:Inv X a j H s)(x:RelV v u)(r:Vals vs us)(h:o7 d fv sp v vs H Q) :
  wpAny (model X.prog X.w) X.A (call u us) (EP X a j Q) X.xe s:=by
 obtain⟨f,c,g,i,rfl,p,q,w,n,l,y⟩:=h;obtain rfl:u=Value.ref f:=x;refine wpAny_call (codeAny_mono (L X.A X.stack s H f c g us vs i Q _ o I.env0 p q w n l r y) λr z b=>?_);cases r with
 | error e=>exact False.elim b
 | ok fl =>
  cases fl with
  | ret u=>exact I.after b
  | next=>exact False.elim b
  | brk=>exact False.elim b
  | cont=>exact False.elim b
theorem lX{H:Hp}{s:Shared}{P:Program}{w:World}{f c:Addr}{d:LamD}{a:List (Str×Addr)}(h:HOk P w H s.heap)(g:H f=some (.ext (dS f d a c))):FnAt f s.heap:=by
 obtain⟨⟨j,b,i⟩,_,_⟩:=h f _ g;exact⟨_,_,_,_,i⟩
theorem gG(w:PE X (.Name x p) tf)(L:LamOk X.prog X.w X.K X.mg X.base k d fv ps sp)(B:Room k X.A)(A:PA X (e::es) t)
  (E:starEach (e::es) X.env=(false,eval e X.env)::starEach es X.env:=by rfl) (b:(backTo pos (starEach es X.env)).any (·.1)=false:=by rfl):PE X (.Call (.Name x p) (e::es) [] pos) (zt d fv sp tf t):=by
 intro a s l H Q I h;refine wpAny_Call_Name_kw (thn (w a s l H _ I h) λu z ⟨v,C,i,D,⟨f,M,j,c,y,g⟩,q⟩=>?_);subst y;obtain rfl:u=Value.ref f:=D;refine PySem.W.callWith_F (lX i.hok g) (thn (A pos a z l C _ i q) λJ K ⟨F,G,n,r,o⟩=>⟨lX n.hok (o.1 _ _ _ _ rfl g),?_⟩) E b;exact qH L B n (v:=.ref f) rfl r o.2
theorem fM(j:PE X (.Name x p) tf)(L:LamOk X.prog X.w X.K X.mg X.base k d fv ps sp)(l:Room k X.A):PE X (.Call (.Name x p) [] [] pos) (λσ H Q=>tf σ H λv H1=>o7 d fv sp v [] H1 Q):=by
 intro a s σ H Q I h;refine wpAny_Call_Name_kw (thn (j a s σ H _ I h) λu w ⟨v,H1,b,o,q⟩=>?_);obtain⟨f,c,g,i,r,n,_⟩:=id q;subst r;obtain rfl:u=Value.ref f:=o;exact PySem.W.callWith_F0 (lX b.hok n) (qH (us:=[]) L l b (v:=.ref f) rfl .nil q)
end
abbrev TR:=VK->(V->St->Hp->Prop)->St->Hp->Prop
def PR(X:Cx)(sts:List Stmt)(t:TR):Prop :=
 ∀(pins:List (Addr×Obj)) (s:Shared) (σ:St) (H:Hp) (R:VK) (Z:V->St->Hp->Prop),Inv X pins σ H s->t R Z σ H ->
  wpAny (model X.prog X.w) X.A (execs sts X.env) (λf s'=>∃ u,f=.ret u/\((∃ v σ' H',Inv X pins σ' H' s'/\RelV v u/\(R v H'\/Z v σ' H'))\/∃ v H',s'.os=X.s₀.os/\AllBare s'.gens/\Un X.fs X.ex X.H₀ H' X.s₀.heap s'.heap/\HOk X.prog X.w H' s'.heap/\RelV v u/\R v H')) X.xe s
section
variable {X:Cx}{e:Expr}{te:TE}{pos:Pos}{st:Stmt}{rest:List Stmt}{t:TS}{u:TR}
theorem oA(g:PE X e te):PR X [.Return (some e) pos] (λ_ Z σ H=>te σ H λv H'=>Z v σ H'):=by
 intro a s σ H R Z I h;refine wpAny_execs_cons (wpAny_Return_some (thn (g a s σ H _ I h) λv i ⟨x,c,f,b,d⟩=>?_));exact⟨v,rfl,.inl ⟨x,σ,c,f,b,.inr d⟩⟩
theorem xE(k:PS X st t)(g:PR X rest u):PR X (st::rest) (λR Z σ H=>t { nx:=u R Z,rt:=R } σ H):=by
 intro a s σ H R Z I h;refine wpAny_execs_cons (thn (k a s σ H { nx:=u R Z,rt:=R } I h) λf j q=>?_);cases f with
 | next =>
  obtain⟨b,c,d,q⟩:=q;exact g a j b c R Z d q
 | ret v =>
  obtain⟨i,b,c,d,r,q⟩:=q;exact⟨v,rfl,.inl ⟨i,b,c,d,r,.inl q⟩⟩
 | brk=>obtain⟨_,_,_,q⟩:=q;exact False.elim q
 | cont=>obtain⟨_,_,_,q⟩:=q;exact False.elim q
end
def lM(cells:List (Str×Addr))(N:List Str)(σ:St)(H3:Hp):Prop:=∀(i:Nat) (y:Str) (v:V) (c:Addr),N[i]? = some y->σ[i]? = some (some v)->cells.lookup y=some c->H3 c=some (.ext (cu c v))
theorem ip{y:Str}{c:Addr}:∀(names:List (Str×NameKind)) (n:Nat) (acc:List (Str×Addr)),(y,c)∈cellsFrom n names acc->(y,c)∈acc\/(y,NameKind.cell)∈names
 | [],n,acc,h=>.inl h
 | (x,k)::r,n,acc,h=>by
  unfold cellsFrom at h
  split at h
  .rename_i hk
   rcases ip r (n+1) ((x,n)::acc) h with z | z
   .rcases mem_cons.mp z with e | z
    .cases e
     rw[eq_of_beq hk];exact .inr (mem_cons_self ..)
    .exact .inl z
   .exact .inr (mem_cons_of_mem _ z)
  .rcases ip r n acc h with z | z
   .exact .inl z
   .exact .inr (mem_cons_of_mem _ z)
section
variable {P:Program}{w:World}{K:Frag}{mg:Str->Option Value}{base:Heap}
theorem xX{CX:CXT}{N:List Str}{B:Str}{scope:Scope}{f:Addr}{cd:Value}{A:Around}{a:List Env}{s s':Shared}{H H':Hp}{E:XK}{S:St}(hN:N.Nodup)(T:∀ p∈scope.names,p.2=.cell->scope.names.lookup p.1=some .cell)
  {F:List (Addr×Obj)}(J:Inv (dZ CX P w K mg base N B scope f cd A a s H E) F S H' s') :
  ∃ H3,Same H' H3/\lM (cellsFrom (s.heap.objs.size+1) scope.names []) N S H3/\(∀ b,H' b=none->H3 b≠none->∃ y,(cellsFrom (s.heap.objs.size+1) scope.names []).lookup y=some b)/\Un (frs a) [] H H3 s.heap s'.heap/\HOk P w H3 s'.heap:=by
 have g:∀ y c,(cellsFrom (s.heap.objs.size+1) scope.names []).lookup y=some c->scope.names.lookup y=some .cell:=λy c e=>by
  rcases ip _ _ _ (ce e) with z | z
  .cases z
  .exact T _ z rfl
 obtain⟨cells,hcells⟩:∃ l,l=cellsFrom (s.heap.objs.size+1) scope.names []:=⟨_,rfl⟩
 rw[<- hcells]at g ⊢;have d:(dZ CX P w K mg base N B scope f cd A a s H E).env.cells=cells:=hcells.symm
 let G:Addr->V->Prop:=λb v=>∃(i:Nat) (y:Str),N[i]? = some y/\S[i]? = some (some v)/\cells.lookup y=some b
 have G1:∀ b v R,G b v->G b R->v=R:=by
  rintro b v R ⟨i,y,M,L,x⟩ ⟨j,z,b1,Y,b3⟩;have:y=z:=J.ok.inj y z b (by rw[d];exact x) (by rw[d];exact b3);subst this;have:i=j:=jQ hN M b1;subst this;rw[L]at Y;cases Y;rfl
 have W:∀ b v,G b v->H' b=none/\s.heap.objs.size<=b/\cu b v s'.heap:=by
  rintro b v ⟨i,y,M,L,x⟩;refine⟨J.freeC y b (by rw[d];exact x),J.ok.cab y b rfl (by rw[d];exact x),?_⟩;obtain⟨m,hn,hl⟩:=J.loc;obtain⟨u,r,l⟩:=hl i y v M L (.inr (.inl (g y b x)))
  rcases l with⟨k,_⟩ | ⟨k,c,e,o,ho,hd⟩
  .exfalso
   have k:scope.names.lookup y = some .local:=k;rw[g y b x]at k;cases k
  .have e:cells.lookup y=some c:=by rw[<- d];exact e
   rw[x]at e;cases e;exact⟨o,u,ho,hd,r⟩
 classical
 let H3:Hp:=λb=>if h:∃ v,G b v then some (.ext (cu b (Classical.choose h))) else H' b
 have X:∀ b v,G b v->H3 b=some (.ext (cu b v)):=λb v h=>by
  have O:∃ v,G b v:=⟨v,h⟩
  show(if h:∃ v,G b v then some (.ext (cu b (Classical.choose h))) else H' b)=_;rw[dif_pos O,G1 b _ v (Classical.choose_spec O) h]
 have Q:∀ b,(¬∃ v,G b v)->H3 b=H' b:=λb h=>dif_neg h
 have D:Same H' H3:=λb o e=>by
  rw[Q b λ⟨v,z⟩=>by rw[(W b v z).1]at e;cases e];exact e
 have C:Un (frs a) [] H H' s.heap s'.heap:=J.base;refine⟨H3,D,λi y v c M L x=>X c v ⟨i,y,M,L,x⟩,(λb n1 n2=>?_),⟨C.keep,C.slot,λb o e n O=>?_,C.there,λb xs e=>D _ _ (C.tups b xs e),λb o u e=>D _ _ (C.frzs b o u e),λb ps e=>?_⟩,λb o e=>?_⟩
 .by_cases h:∃ v,G b v
  .obtain⟨v,i,y,_,_,x⟩:=h
   exact⟨y,x⟩
  .rw[Q b h]at n2
   exact absurd n1 n2
 .rw[Q b λ⟨v,z⟩=>absurd (Nat.lt_of_lt_of_le (Heap.lt_size e) (W b v z).2.1) (Nat.lt_irrefl _)]
  exact C.free b o e n O
 .obtain⟨I,z⟩:=C.tbls b ps e
  exact⟨I,D _ _ z⟩
 .by_cases h:∃ v,G b v
  .obtain⟨v,h⟩:=h
   rw[X b v h]at e;cases e;exact mK (W b v h).2.2
  .rw[Q b h]at e
   exact(J.hok b o e).stay (λZ u' _ q=>q) (λZ q=>D _ _ q) λZ xs q=>D _ _ q
theorem qZ{N:List Str}{c:Str}{scope:Scope}{f:Addr}{i:Value}{A:Around}{a:List Env}{s:Shared}{H:Hp}{E:XK}{k:Nat}{g:Addr}{fd:FuncData}{ps:List Str}{sp:Sp}{S:List Value}{C:List V}{x:Str}{p L rp:Pos}{e:Expr}{X:List Expr}{t:TA}
  (hN:N.Nodup) (a2:∀ p∈scope.names,p.2=.cell->scope.names.lookup p.1=some .cell)
  (F:FnOk P w K mg base CX0 k g fd ps sp) (hr:Room k (dZ CX0 P w K mg base N c scope f i A a s H E).nox.A) (hg:Gl (dZ CX0 P w K mg base N c scope f i A a s H E).nox x) (hm:mg x=some (.ref g)) (hk:keepIn K (.ref g)=true) (l:Binds K fd ps S) (hd:Vals C S)
  (ha:PA (dZ CX0 P w K mg base N c scope f i A a s H E).nox (e::X) t) (ab:(x == ("__debug__" : Str))=false:=by decide)
  (he:starEach (e::X) (dZ CX0 P w K mg base N c scope f i A a s H E).nox.env=(false,eval e (dZ CX0 P w K mg base N c scope f i A a s H E).nox.env)::starEach X (dZ CX0 P w K mg base N c scope f i A a s H E).nox.env:=by rfl)
  (an:(backTo L (starEach X (dZ CX0 P w K mg base N c scope f i A a s H E).nox.env)).any (·.1)=false:=by rfl) :
  PR (dZ CX0 P w K mg base N c scope f i A a s H E).nox [.Return (some (.Call (.Name x p) (e::X) [] L)) rp]
   (λR _ σ H'=>t σ H' λvs H1=>∀ H3,Same H1 H3->lM (cellsFrom (s.heap.objs.size+1) scope.names []) N σ H3->sp (vs++C) H3 R λ_ _ _=>False):=by
 intro D s1 σ H1 R Z I h;refine wpAny_execs_cons (wpAny_Return_some ?_);refine wpAny_Call_Name_kw (fR I hg hm ?_ ab);refine callWith_K (h₀:=base) I.ok.mod.kin hk (thn (ha L D s1 σ H1 _ I h) λW s2 ⟨vs,H2,I2,r,q⟩=>⟨I2.kIn,?_⟩) he an;have J:Inv (dZ CX0 P w K mg base N c scope f i A a s H E) D σ H2 s2:=I2.unwish;obtain⟨H3,sm,hc,T,B,al⟩:=xX hN a2 J;have r2:Vals (vs++C) (W++S):=r.append hd;have q':=q H3 sm hc;have hl:(W++S).length=ps.length:=by rw[<- r2.length];exact F.len _ _ _ _ q'
 have hL:∀ b∈frs (envOfC c scope s.heap.objs.size f i::a),b=s.heap.objs.size\/b∈frs a:=λb l=>by
  have:b∈s.heap.objs.size::frs a:=l;exact mem_cons.mp this
 have e0:Env0 P w K mg base (dZ CX0 P w K mg base N c scope f i A a s H E).A (envOfC c scope s.heap.objs.size f i::a) s2 H3:=by
  have z:=J.env0;refine⟨z.frames,z.mod,λb o e=>⟨(z.bs b o e).1,B.free b o (J.ok.bs b o e).1 (J.ok.bs b o e).2 (by simp)⟩,z.bsz,z.funs,λb l=>?_,al,z.bare⟩;cases q3:H3 b with
  | none=>rfl
  | some o =>
   obtain⟨y,hy⟩:=T b (z.frf b l) (by rw[q3];simp)
   rcases hL b l with rfl | hb'
   .exact absurd rfl (J.cne y _ hy)
   .obtain⟨_,o',as,_⟩:=J.ok.funs.mem hb'
    have:=J.ok.cab y b rfl hy;exact absurd (Nat.lt_of_lt_of_le (Heap.lt_size as) this) (Nat.lt_irrefl _)
 refine wpAny_call (codeAny_mono (F.run _ _ s2 H3 ⟨W,[]⟩ (W++S) (vs++C) R _ hr e0 (l s2 W J.kIn hl) r2 q') λrr s' Y=>?_);cases rr with
 | error e=>exact False.elim Y
 | ok fl =>
  cases fl with
  | ret u =>
   obtain⟨v,H4,os,Q,d,M,rv,qq⟩:=Y
   have O:∀ b o,s.heap.get? b=some o->b ∉ frs a->b ∉ frs (envOfC c scope s.heap.objs.size f i::a):=λb o e n z=>by
    rcases hL b z with rfl | z
    .exact absurd (Heap.lt_size e) (Nat.lt_irrefl _)
    .exact n z
   have a1:∀ b,b∈frs a->b∈frs (envOfC c scope s.heap.objs.size f i::a):=λb z=>by
    show b∈s.heap.objs.size::frs a;exact mem_cons_of_mem _ z
   refine⟨u,rfl,.inr ⟨v,H4,os.trans J.os,Q,⟨λb o e n l j=>d.keep b o (B.keep b o e n l j) (B.free b o e n j) (O b o e l) j,λb o e n l j=>?_,λb o e n j=>?_,λb o e j=>?_,λb xs e=>d.tups b xs (B.tups b xs e),λb o u e=>d.frzs b o u (B.frzs b o u e),λb qs e=>?_⟩,M,rv,qq⟩⟩
   .obtain⟨sl,G⟩:=B.slot b o e n l j
    obtain⟨a0,e2⟩:=d.slot b _ G (B.free b o e n j) (a1 b l) j;exact⟨a0,e2⟩
   .obtain⟨o',G⟩:=B.there b o e j
    exact d.free b o' G (B.free b o e n j) j
   .obtain⟨o',G⟩:=B.there b o e j
    exact d.there b o' G j
   .obtain⟨m1,G⟩:=B.tbls b qs e
    obtain⟨m2,e2⟩:=d.tbls b _ G;exact⟨m1++m2,by rw[e2,Array.append_assoc]⟩
  | next=>exact False.elim Y
  | brk=>exact False.elim Y
  | cont=>exact False.elim Y
theorem Fun.okL{x a:Str}{d:Stmt}{f c:Addr}{C:FuncData}{N ps:List Str}{k:Nat}{sp:Sp}(F:Fun K x a d f C)(hc:C.code=.ref c)(S:FnScope N ps (ac d))(L:∀ p∈(ac d).names,p.2=.cell->(ac d).names.lookup p.1=some .cell)
  (l:∀ vs H Q E,sp vs H Q E->vs.length=ps.length)
  (h:∀(A:Around) (outer:List Env) (s:Shared) (H:Hp) (vs:List V) (Q:VK) (E:XK),Room k (A.deeper (envOfC a (ac d) s.heap.objs.size f (.ref c)))->sp vs H Q E ->
   ∃ t,PR (dZ CX0 P w K mg base N a (ac d) f (.ref c) A outer s H E).nox (af d) t/\t Q (λv σ H'=>∀ H3,Same H' H3->lM (cellsFrom (s.heap.objs.size+1) (ac d).names []) N σ H3->Q v H3) (start N vs) H):FnOk P w K mg base CX0 (k+1) f C ps sp:=by
 obtain⟨oc,od,kV,al,pm,an,G,ct,Y,rfl,lk,M⟩:=F.ex;obtain rfl:G=.ref c:=hc;refine⟨l,λA outer s H R us vs Q E D j hb r i=>?_⟩;have X:=l _ _ _ _ i;have W:K.In s.heap:=j.mod.kin.keeps λb o e=>(j.bs b o e).1
 have O:s.heap.NoLimit:=j.mod.nolimit.keeps λb o e=>(j.bs b o e).1
 have g:∀ y ∈ ps.zip us,(ac d).names.lookup y.1 = some .local\/((ac d).names.lookup y.1 = some .cell/\((cellsFrom (s.heap.objs.size + 1) (ac d).names []).lookup y.1).isSome = true):=λ⟨n,v⟩ hy=>by
  rcases S.par n (of_mem_zip hy).1 with q | q
  .exact .inl q
  .exact .inr ⟨q,cellsFrom_some _ _ _ (.inl q)⟩
 refine codeAny_call_function D.depth (W _ _ lk) rfl S.co S.gen rfl (codeRec_of W M) (hb _ _ _ _ ?_);refine wpAny_newFunctionEnv_cells S.kind g λab he T x=>?_
 subst he;refine⟨O.keeps x.toInCall.keep,codeAny_func ?_⟩;obtain⟨t,ht,hq⟩:=h A outer s H vs Q E (D.deeper _) i;have I:Inv (dZ CX0 P w K mg base N a (ac d) f (.ref c) A outer s H E) [] (start N vs) H T:=ke S D.hd j X r x;refine wpAny_mono (ht [] T (start N vs) H Q _ (I.wish _) hq) (λfl s' B=>?_) λe s' B=>False.elim B
 obtain⟨u,rfl,⟨v,Z,H',J,z,q⟩ | ⟨v,H',g1,g2,g3,g4,z,q⟩⟩:=B
 .have J:=J.unwish
  rcases q with q | q
  .exact⟨v,H',J.os,J.bare,J.base,J.hok,z,q⟩
  .obtain⟨H3,h1,h2,_,h3,h4⟩:=xX S.nd L J
   exact⟨v,H3,J.os,J.bare,h3,h4,z,q H3 h1 h2⟩
 .exact⟨v,H',g1,g2,g3,g4,z,q⟩
end
theorem rJ{P:Program}{w:World}{K:Frag}{mg mb:Str->Option Value}{CX:CXT}{k:Nat}{fa a:Addr}{fd:FuncData}{x:Str}{sp:Sp}{f:Shared}{vs:List Value}{S:List Int}{p:List Addr}
  (KX:K.In f.heap) (X:f.heap.Ns mainGlobals mg) (g:f.heap.Ns builtinsNs mb) (a0:∀ x:Str,x ≠ "__name__" -> mb x=bootBuiltins x) (L:f.heap.NoLimit) (hg:f.gens = #[])
  (G:f.heap.get? a=some { cls:=.type "list",data:=.seq vs.toArray }) (hi:IntsAre vs S) (hl:S.length<=sizeLine) (hr:Room k callerA) (an:Bm mg f.heap)
  (j:∀ P∈p,f.heap.get? P=some (tabObj #[])) (a1:∀ P∈p,∃ c,codeHdIn K c P=true) (al:∀ P∈p,K.lookup P=none)
  (F:∀ base:Heap,K.In base->base.Ns mainGlobals mg->Bm mg base->FnOk P w K mg base CX k fa fd [x] sp) (E:∀(s:Shared) (u:Value),BindsTo s fd ⟨[u],[]⟩ [(x,u)])
  (ab:∀ H:Hp,(∀ P∈p,H P=some (.tbl #[]))->SqL K H a (S.map V.int)->sp [.ref a] H (λv _=>v=.bl true) λ_ _ _=>False)
  (a2:∀ H e s',CX [] H f (λ_ _ _=>False) e s'->False) :
  codeAny (model P w) callerA (.call (.ref fa) ⟨[.ref a],[]⟩) (λr s'=>r=.ok (.ret (.bool true))/\OldK f.heap s'.heap/\s'.os=f.os/\AllBare s'.gens) f:=by
 have rv:=kq hi;have Q:=hi.length;have I:a ∉ p:=λz=>by have:=j a z;rw[G]at this;cases this
 have B:∀ H:Hp,(∀ P∈p,H P=some (.tbl #[]))->SqL K H a (S.map V.int)->HOk P w H f.heap->(∀ b u,H b=some u->(b=a/\∃ o xs,u=.frz o (.lst xs))\/(b∈p/\u=.tbl #[]))->(H a≠none->K.lookup a=none) ->
   codeAny (model P w) callerA (.call (.ref fa) ⟨[.ref a],[]⟩) (λr s'=>r=.ok (.ret (.bool true))/\OldK f.heap s'.heap/\s'.os=f.os/\AllBare s'.gens) f:=by
  intro H hT hS N Y hK;have l:∀{b:Addr}{o:Obj},f.heap.get? b=some o->H b=none->(j2 f.heap H).get? b=some o:=λe n=>u4 e n
  have a4:∀{b:Addr}{o:Obj},f.heap.get? b=some o->o.cls≠.none->(∀ R n,o.data≠.seq R n)->H b=none:=λ{b o} e d1 d2=>by
   cases q:H b with
   | none=>rfl
   | some u =>
    rcases Y b u q with⟨rfl,_⟩ | ⟨g,_⟩
    .rw[G]at e;cases e;exact(d2 _ _ rfl).elim
    .rw[j b g]at e;cases e;exact(d1 rfl).elim
  have as:∀{b:Addr}{o:Obj}{W:Array DictEntry}{J:Nat},f.heap.get? b=some o->o.data=.dict W J->H b=none:=λ{b o W J} e d=>by
   cases q:H b with
   | none=>rfl
   | some u =>
    rcases Y b u q with⟨rfl,_⟩ | ⟨g,_⟩
    .rw[G]at e;cases e
     have d':Data.seq vs.toArray _=Data.dict W J:=d;cases d'
    .rw[j b g]at e;cases e;cases d
  have y:∀{b:Addr}{m:Str->Option Value},f.heap.Ns b m->(j2 f.heap H).Ns b m:=λ{b m} ⟨o,W,J,e,d,r⟩=>⟨o,W,J,l e (as e d),d,r⟩
  have M:K.In (j2 f.heap H):=λb o e=>l (KX b o e) (by
   cases q:H b with
   | none=>rfl
   | some u =>
    rcases Y b u q with⟨rfl,_⟩ | ⟨g,_⟩
    .rw[hK (by rw[q];simp)]at e;cases e
    .rw[al b g]at e;cases e)
  have hM:Mod K mg (j2 f.heap H):=⟨M,y X,⟨mb,y g,a0⟩,let ⟨mc,h1,h2⟩:=L;⟨mc,y h1,h2⟩⟩
  have hB:Bm mg (j2 f.heap H):=by
   obtain⟨bm,ob,b1,b2,b3,b4,b5⟩:=an;exact⟨bm,ob,b1,l b2 (a4 b2 (by rw[b3];simp) (λR n=>by rw[b5];intro z;cases z)),b3,b4,b5⟩
  have e0:Env0 P w K mg (j2 f.heap H) callerA [] f H:=⟨rfl,hM,λb o e=>wD e,Nat.le_of_eq (tj _ _),trivial,λb g=>absurd (show b∈([]:List Addr) from g) (by simp),N,.of_eq hg⟩
  refine codeAny_mono ((F _ M (y X) hB).run callerA [] f H ⟨[.ref a],[]⟩ [.ref a] [.ref a] _ _ hr e0 (E f (.ref a)) (.cons rfl .nil) (ab H hT hS)) λr s' h=>?_
  cases r with
  | error e=>exact(a2 H e s' h).elim
  | ok fl =>
   cases fl with
   | next=>exact False.elim h
   | brk=>exact False.elim h
   | cont=>exact False.elim h
   | ret u =>
    obtain⟨v,H',os,O,un,A,r',q⟩:=h;have q':v=.bl true:=q;subst q';obtain rfl:u=Value.bool true:=r';refine⟨rfl,⟨λb o e=>?_,λb o e=>un.there b o e (by simp)⟩,os,O⟩;cases q:H b with
    | none=>exact .inl (un.keep b o e q (by intro z;exact absurd (show b∈([]:List Addr) from z) (by simp)) (by simp))
    | some u =>
     rcases Y b u q with⟨_,ob,xs,rfl⟩ | ⟨g,rfl⟩
     .have z2:=un.frzs b ob _ q
      obtain⟨e1,_⟩:=N b _ q;obtain⟨e2,_⟩:=A b _ z2;rw[e]at e1;cases e1;exact .inl e2
     .obtain⟨c,hc⟩:=a1 b g
      have C:=codeHd_of_K KX hc;obtain⟨D,z⟩:=un.tbls b _ q;have z2:s'.heap.get? b=some (tabObj (#[]++D)):=A b _ z;rw[j b g]at e;cases e;exact .inr (.inl ⟨(C.tab (j b g)).isCodeTable,rfl,#[],D,rfl,z2⟩)
 let T:Hp:=λb=>if b∈p then some (.tbl #[]) else none
 cases hk:K.lookup a with
 | some o =>
  have e:=KX a o hk;rw[G]at e;cases e;refine B T (λP Z=>if_pos Z) (.inr ⟨_,vs.toArray,_,hk,rfl,rfl,rfl,by rw[size_toArray,Q];exact hl,by simpa using rv⟩) (λb u z=>?_) (λb u z=>?_) λz=>absurd (if_neg I) z
  .by_cases g:b∈p
   .have i:=(if_pos g).symm.trans z
    cases i;exact j b g
   .have i:=(if_neg g).symm.trans z
    cases i
  .by_cases g:b∈p
   .have i:=(if_pos g).symm.trans z
    cases i;exact .inr ⟨g,rfl⟩
   .have i:=(if_neg g).symm.trans z
    cases i
 | none =>
  refine B (λb=>if b=a then some (.frz { cls:=.type "list",data:=.seq vs.toArray } (.lst (S.map V.int))) else T b) (λP Z=>?_) (.inl (.inr ⟨{ cls:=.type "list",data:=.seq vs.toArray },if_pos rfl⟩)) (λb u z=>?_) (λb u z=>?_) λ_=>hk
  .have a3:P≠a:=λz=>I (by rw[<- z];exact Z)
   exact(if_neg a3).trans (if_pos Z)
  .by_cases g:b=a
   .have i:=(if_pos g).symm.trans z
    cases i;subst g;exact⟨G,by rw[length_map];exact hl,vs,_,rv,G⟩
   .have i:=(if_neg g).symm.trans z
    by_cases g:b∈p
    .have i:=(if_pos g).symm.trans i
     cases i;exact j b g
    .have i:=(if_neg g).symm.trans i
     cases i
  .by_cases g:b=a
   .have i:=(if_pos g).symm.trans z
    cases i;exact .inl ⟨g,_,_,rfl⟩
   .have i:=(if_neg g).symm.trans z
    by_cases g:b∈p
    .have i:=(if_pos g).symm.trans i
     cases i;exact .inr ⟨g,rfl⟩
    .have i:=(if_neg g).symm.trans i
     cases i
theorem walk_ofT{l:PySem.W.OpenLaw}{n k:Nat}{q:Program}{j:List Str}{XP:(Str->Option Value)->Heap->Prop}{J:World->Heap->Prop}{d:DefRec}{K:Params->Frag}{CX:CXT}{sp:Frag->List Addr->Sp}{x:Str}{g:List Addr}
  (N:l.most=some n) (C:n<=sizeLine) (z:d.params.defaults=[]) (X:Room k callerA)
  (Q:∀(w:World) (h:Heap),J w h->(K w.params).In h/\∀ P∈g,h.get? P=some (tabObj #[]))
  (F:∀(ts':List Addr),ts'=g->∀(w:World) (mg:Str->Option Value) (fa:Addr) (h:Heap),(K w.params).In h->h.Ns mainGlobals mg->mg d.name=some (.ref fa) ->
   ∃ fd:FuncData,(∀(s:Shared) (u:Value),BindsTo s fd ⟨[u],[]⟩ [(x,u)])/\(∀ P∈g,∃ c,codeHdIn (K w.params) c P=true)/\(∀ P∈g,(K w.params).lookup P=none) /\
    ∀ base:Heap,(K w.params).In base->base.Ns mainGlobals mg->Bm mg base->FnOk l.prog w (K w.params) mg base CX k fa fd [x] (sp (K w.params) g))
  (y:∀(K:Frag) (H:Hp) (a:Addr) (ns:List Int),ns.length<=n->(∀ P∈g,H P=some (.tbl #[]))->SqL K H a (ns.map V.int)->sp K g [.ref a] H (λv _=>v=.bl true) λ_ _ _=>False)
  (I:∀(H:Hp) (s:Shared) (e:Value) (s':Shared),CX [] H s (λ_ _ _=>False) e s'->False) :
  PySem.W.WalkO q j XP J l.row.toRowW d [] (λf vs=>PySem.call f vs):=by
 refine Att.attach_call N z λw L b mg mb fa o pm cd Z a vs ns G Y ho hd ab D r p i S=>?_
 obtain⟨M,O⟩:=Q w _ Y;obtain⟨fd,T,E,A,hF⟩:=F g rfl w mg fa _ M G.T.g D;have B:Bm mg b.heap:=let ⟨bm,ob,b1,_,b3,b4,b5,b6⟩:=G.T.bmain;⟨bm,ob,b1,b3,b4,b5,b6⟩;exact rJ M G.T.g G.T.b G.T.builtins G.T.nolimit S r p (Nat.le_trans i C) X B O E A hF T (λH R W=>y (K w.params) H a ns i R W) λH e s'=>I H b e s'
end L2
namespace FrM
def jT(t b:Int):Int×Int:=(t/(Int.gcd t b:Int),b/(Int.gcd t b:Int))
end FrM
namespace L2
open PySem PySem.Spec PyProof.Rows
def lA:List V->List Value->Bool
 | [],[]=>true
 | .int i::xs,.int j _::us=>decide (i=j) && lA xs us
 | _,_=>false
theorem iE:∀{xs:List V}{us:List Value},lA xs us=true->Vals xs us
 | [],[],_=>.nil
 | .int i::xs,.int j t::us,h=>by
  have h:(decide (i=j) && lA xs us)=true:=h;rw[Bool.and_eq_true]at h;have e:=of_decide_eq_true h.1;exact .cons ⟨t,by rw[e]⟩ (iE h.2)
def wq(K:Frag)(a:Addr)(xs:List V):Bool :=
 match K.lookup a with
 | some o =>
  (match o.cls with
  | .type t=>t == "tuple"
  | _=>false) &&
  (match o.data with
  | .seq its _=>decide (its.size<=1000) && lA xs its.toList
  | _=>false)
 | none=>false
theorem za{K:Frag}{H:Hp}{a:Addr}{xs:List V}(h:wq K a xs=true):SqT K H a xs:=by
 unfold wq at h
 split at h
 .rename_i o e
  rw[Bool.and_eq_true]at h;obtain⟨c,b⟩:=h
  split at c
  .rename_i t ec
   split at b
   .rename_i its n ed
    rw[Bool.and_eq_true]at b;refine .inr ⟨o,its,n,e,by rw[ec,beq_iff_eq.mp c],ed,?_,iE b.2⟩;have:=of_decide_eq_true b.1;have:sizeLine=16777216:=sizeLine_eq;lia
   .cases b
  .cases c
 .cases h
def TyS(K:Frag)(H:Hp)(x:V)(t:Value):Prop:=TyOf K H x t\/∃ a xs,x=.ref a/\t=.type "tuple" /\ SqT K H a xs
section
variable {X:Cx}
open PySem.W in
theorem BE{b:List (Addr×Obj)}{g:St}{H:Hp}{s:Shared}{x:V}{u t:Value}(I:Inv X b g H s)(d:RelV x u)(ty:TyS X.K H x t) :
  ∃ Hh:Heap->Prop,KitX X.K u t Hh/\Hh s.heap/\u≠.builtin "__main__.__loader__#opaque" := by
 rcases ty with ty | ⟨a,i,rfl,rfl,f⟩
 .exact uD I d ty
 .cases(show u=Value.ref a from d)
  obtain⟨h,j,p,k⟩:=I.tuple f;exact⟨_,kitx_tuple,let ⟨o,e,c,_⟩:=p;⟨o,e,c⟩,λz=>nomatch z⟩
theorem oE:bootBuiltins "sum" = some (.builtin "sum"):=by decide +kernel
theorem gF:∀{ns:List Int}{us:List Value},Vals (ns.map V.int) us->IntsAre us ns
 | [],_,.nil=>.nil
 | n::ns,_,.cons r t=>by
  obtain⟨a,rfl⟩:=r;exact .cons _ _ (gF t)
inductive rSumI(K:Frag)(xs:List V)(H:Hp)(Q:VK):Prop
 | mk(p:Addr)(ns:List Int)(h0:xs=[.ref p])(h1:SqL K H p (ns.map V.int))(h2:Q (.int ns.sum) H):rSumI K xs H Q
theorem iu(i:X.calm=true):CallR X (.builtin "sum") (rSumI X.K):=by
 intro d s z H xs B Q I r h;obtain⟨p,b,rfl,o,q⟩:=h;obtain⟨u,rfl,j⟩:=eC r;cases j;obtain⟨a,v,n,A⟩:=I.list o;have f:=gF v;obtain⟨xs,c⟩:=f.allInts.items;have g:(numsOf a)=b:=f.numsOf;refine sum_intListG (I.ok.hd i) (xs:=xs) (by rw[<- c];exact n.isList) λx w y k=>?_
 have l:preSum (numAt xs) xs.size=b.sum:=by
  rw[preSum_eq,take_of_length_le (by simp),<- g,<- nums_intItems,<- c]
 rw[l];exact⟨.int b.sum,H,I.kept k,⟨_,rfl⟩,q⟩
theorem lL(v:X.calm=true):CallR X (.type "list") (λxs H Q=>∃(p:Addr) (n:Nat),xs=[.ref p]/\n<=1000/\H p=some (.rng 0 (n:Int))/\∀ l,H l=none->Q (.ref l) (upd H l (.lst ((List.range n).map λ(i:Nat)=>V.int (i:Int))))):=by
 intro f s J H xs K Q I r h;obtain⟨p,n,rfl,F,e,q⟩:=h;obtain⟨u,rfl,j⟩:=eC r;cases j
 obtain⟨t,L,M,y⟩:=(show ObjOk X.prog X.w H s.heap p (.rng 0 (n:Int)) from I.hok p _ e)
 refine call_list_range (n:=n) (I.ok.hd v) y (small_one (by decide) (by decide) (by lia) (by lia)) (by rw[rangeSize_one];split <;> lia) (by lia) λG g b c z B E=>?_
 refine⟨.ref s.heap.objs.size,_,I.laid (t':=g) (o:=.lst ((List.range n).map λ(i:Nat)=>V.int (i:Int))) z (Nat.le_refl _) ?_,rfl,q _ (I.hok.fresh (Nat.le_refl _))⟩;obtain⟨k,A⟩:=E;refine⟨by rw[length_map,length_range,sizeLine_eq];lia,b.toList,c,pX (by rw[length_map,length_range];simpa using k.symm) λi x u a D=>?_,B⟩;rw[List.getElem?_map]at a
 have d:i<n:=by
  by_cases d:i<n
  .exact d
  .rw[List.getElem?_eq_none (by rw[length_range];lia)]at a
   cases a
 rw[List.getElem?_range d]at a;cases a;obtain⟨w,C⟩:=A i u (by simpa using D);refine(show ∃ t',u=Value.int (i:Int) t' from⟨w,?_⟩);rw[C]
 congr 1
 lia
end
def dE:Expr:=.Name "" ⟨0,0,0,0⟩
def rX(st:Stmt)(i:Nat):Stmt:=(af st).getD i (.Pass ⟨0,0,0,0⟩)
def vI:Stmt->Expr
 | .Return (some e) _=>e
 | _=>dE
def vL:Expr->Nat->Expr
 | .Call _ es _ _,i=>es.getD i dE
 | _,_=>dE
def kx(q:Str):Expr->LamD
 | .Lambda p b s _=>⟨q,p,b,s⟩
 | _=>⟨q,default,dE,default⟩
def rM:Expr->Pos
 | .Lambda _ _ _ p=>p
 | _=>⟨0,0,0,0⟩
theorem fP:bootBuiltins "sorted" = some (.builtin "sorted"):=by decide +kernel
theorem eK:∀{us:List Value}{ns:List Int},IntsAre us ns->Vals (ns.map V.int) us
 | _,_,.nil=>.nil
 | _,_,.cons n t h=>.cons ⟨_,rfl⟩ (eK h)
theorem lY{X:Cx}:CallR X (.builtin "sorted") (λxs H Q=>∃(p:Addr) (ns:List Int),xs=[.ref p]/\SqL X.K H p (ns.map V.int)/\ns.length<64/\∀ q (ns':List Int),ns'.Perm ns->ns'.Pairwise (·<=·)->H q=none->Q (.ref q) (upd H q (.lst (ns'.map V.int)))):=by
 intro g s D H xs F Q I r h;obtain⟨p,ns,rfl,x,C,q⟩:=h;obtain⟨u,rfl,n⟩:=eC r;cases n;obtain⟨d,k,w,E⟩:=I.list x;have v:=gF k;have i:d.length=ns.length:=by have:=k.length;rw[length_map]at this;exact this.symm
 refine sorted_ints w.isList v (by lia) λc ns' y j A=>?_
 obtain⟨e,B⟩:=sortedAll_at s.heap d c;have l:H (s.heap.objs.size+1)=none:=I.hok.fresh (Nat.le_succ _);have f:sizeLine=16777216:=sizeLine_eq;refine⟨.ref (s.heap.objs.size+1),_,I.laid (a:=s.heap.objs.size+1) (o:=.lst (ns'.map V.int)) (t':=s.toks) (λb u z=>sortedAll_old z) (Nat.le_succ _) ⟨?_,c.toList,e,eK y,?_⟩,rfl,q _ ns' j A l⟩
 .rw[length_map,j.length_eq];lia
 .rw[B,Array.toArray_toList]
theorem nB{prog:Program}{w:World}{A:Around}{E:Value->Shared->Prop}{a l:Addr}{items:Array Value}(c:l≠a):∀(n i:Nat) (s:Shared) (Q:List Value->Shared->Prop),
  s.heap.IsListIter a l i->s.heap.IsList l items->i+n<=items.size ->
  (∀ h':Heap,h'.IsListIter a l (i+n)->Heap.SameBut a s.heap h'->Q ((items.toList.drop i).take n) { s with heap:=h' }) ->
  wpAny (model prog w) A (draw (.ref a) n) Q E s
 | 0,i,s,Q,hi,hl,hle,q=>by
  have p:=q s.heap hi (by constructor <;> intros <;> first | rfl | assumption);rw[take_zero]at p;exact wpAny_pure p
 | n+1,i,s,Q,hi,hl,hle,q=>by
  have f:i<items.size:=by lia
  have r:items[i]? = some items[i]:=by simp[f]
  refine wpAny_bind (wpAny_pyNext_list_item hi hl r λu h b=>?_);refine wpAny_bind (wpAny_holding (nB c n (i+1) _ _ h (hl.extBut b.extBut c) (by lia) λk g j=>?_));refine wpAny_pure ?_;have d:k.IsListIter a l (i+(n+1)):=by rw[show i+(n+1)=i+1+n by lia];exact g
  have o:=q k d (b.trans j)
  have e:(items.toList.drop i).take (n+1)=items[i]::(items.toList.drop (i+1)).take n:=by
   rw[List.drop_eq_getElem_cons (by simpa using f),List.take_succ_cons];simp
  rw[e]at o;exact o
theorem iS{prog:Program}{w:World}{A:Around}{E:Value->Shared->Prop}{s:Shared}{l:Addr}{items:Array Value}{Q:List Value->Shared->Prop}(n:A.handled=none)(f:s.heap.IsList l items)
  (q:∀ h':Heap,Heap.ExtBut s.heap.objs.size s.heap h'->Q items.toList { s with heap:=h' }):wpAny (model prog w) A (unpackItems (.ref l) items.size none) Q E s:=by
 have d:l≠s.heap.objs.size:=by
  obtain⟨o,p,_⟩:=f;exact Nat.ne_of_lt (Heap.lt_size p)
 unfold unpackItems;refine wpAny_bind ?_;unfold notIterableAtAll;refine wpAny_bind (wpAny_specialOf (Heap.IsList.typeIs f) F.slot_list_iter.lookup (wpAny_pure ?_));simp only[Bool.false_eq_true,if_false];refine wpAny_bind (wpAny_holding (wpAny_pyIter_list f ?_));have a:=f.push { cls:=Value.type "list_iterator",data:=Data.fields #[Value.ref l,Value.int 0 0] }
 have i:(s.heap.push { cls:=Value.type "list_iterator",data:=Data.fields #[Value.ref l,Value.int 0 0] }).IsListIter s.heap.objs.size l 0:=⟨_,Heap.get?_push_size _ rfl,rfl,rfl⟩
 refine wpAny_bind (wpAny_holding (nB d items.size 0 _ _ i a (by lia) λr h c=>?_));have e:(items.toList.drop 0).take items.size=items.toList:=by rw[List.drop_zero];exact take_of_length_le (by simp)
 rw[e,if_neg (by simp)];refine wpAny_bind (wpAny_holding (wpAny_pyNext_list_end n h (a.extBut c.extBut d) (by simp) λk g=>?_));exact wpAny_pure (q k λb o j e=>g b o j (c.extBut b o j (Heap.get?_push_of_some _ e)))
section
variable {X:Cx}{pos:Pos}
def B1(K:Frag)(n:Nat)(t:TGs):TG:=λv σ H Q=>∃ a xs,v=.ref a/\SqL K H a xs/\xs.length=n/\t xs σ H Q
theorem uc{g:List Expr}{k:Nat}{t:TGs}{n:Nat}(z:X.calm=true)(h:PGs X g t)
  (w:(assignEach g X.env).length=n:=by rfl) (j:(assignEach g X.env).findIdx? (·.1)=none:=by rfl):PG X (.Tuple g k pos) (B1 X.K n t):=by
 intro c s l H v u Q I r i;obtain⟨a,B,D,G,q,i⟩:=i;subst D;cases r;obtain⟨f,p,⟨o,F,e,J,K,d⟩,L⟩:=I.list G
 have y:s.heap.IsList a f.toArray:=⟨o,e,J,F,d⟩
 rw[arm_assign_Tuple];refine wpAny_bind (wpAny_standAt ?_);unfold unpack;refine wpAny_bind (wpAny_holding ?_);rw[j];have A:(assignEach g X.env).length=f.toArray.size:=by simp[w,<- q,p.length]
 rw[A];refine iS (I.ok.hd z) y λx E=>?_
 have C:Inv X c l H { s with heap:=x }:=I.kept (t':=s.toks) λb o e=>E b o (Nat.ne_of_lt (Heap.lt_size e)) e
 exact h c _ l H B _ Q C (by simpa using p) i
end
section
variable {X:Cx}
def Av(K:Frag):V->V->Hp->VK->Prop:=λo i H Q=>∃(p:Addr) (xs:List V) (k:Int) (v:V),o=.ref p/\i=.int k/\SqL K H p xs/\0<=k/\atI xs k=some v/\Q v H
theorem uA:Al X (Av X.K):=by
 intro a s l H o i L N Q I B D h;obtain⟨p,K,k,z,rfl,rfl,A,d,C,q⟩:=h;cases B;obtain⟨t,rfl⟩:=D;obtain⟨n,r,v,M⟩:=I.list A;obtain⟨j,f,g,J,G,u⟩:=ji C;obtain⟨w,x,b⟩:=r.get g;have E:=r.length;have F:=fu
 have y:k.toNat=j:=by
  rw[seqIndex_of d u]at f;exact Option.some.inj f
 have c:EP X a l Q w s:=⟨z,H,I,b,q⟩
 exact wpAny_getItem_list v.isList d (by lia) (by rw[y];simpa using x) c
theorem lF{K:Frag}{e:Expr}{f:Str}{a:Pos}{b:TE}(h:X.K=K)(c:PE X e b)(d:attributeBase e f X.env (eval e X.env)=eval e X.env):PE X (.Attribute e f a) (Bc K b f):=h ▸ ci c d
end
end L2
namespace L2
open PySem PySem.Calls PySem.Spec PyProof.Rows PySem.W
section
variable {prog:Program}{w:World}{s:Shared}{A:Around}{E:Value->Shared->Prop}
theorem vo{t:Addr}{us:List Value}{g:List Int}{R:Value->Shared->Prop}(i:IsTup s.heap t us.toArray)(j:IntsAre us g)(a:us.length<64)
  (c:∀(out:Array Value) (ns':List Int),IntsAre out.toList ns'->ns'.Perm g->ns'.Pairwise (·<=·)->R (.ref (s.heap.objs.size+1)) { s with heap:=sortedAll s.heap us out }) :
  wpAny (model prog w) A (call (.builtin "sorted") [.ref t]) R E s:=by
 obtain⟨o,x,u,n,q⟩:=id i;have k:us.length<=sizeLine:=by rw[sizeLine_eq];lia
 refine call_function_entry kind_sorted plain_sorted entry_sorted (args_sorted1 _) ?_;unfold Builtin.«sorted»;refine wpAny_bind (m:=checkCount "sorted" 1 1 _) (wpAny_pure (wpAny_bind ?_));unfold collect;refine wpAny_bind (wpAny_runValue (codeAny_builtin entry_proto_collect' ?_));show wpAny _ _ (do again (.builtin "list.__iadd__" ⟨[<- newList [],.ref t],[]⟩)) _ _ s;refine wpAny_bind (wpAny_newList (wpAny_pure ⟨Code.quiet_builtin _ (by decide +kernel),codeAny_builtin entry_list_iadd' ?_⟩));show wpAny _ _ (Builtin.List.listExtendWith (.ref s.heap.objs.size) (.ref t) (.ref s.heap.objs.size)) _ _ { s with heap:=s.heap.push (seqObj "list" #[] 0) };unfold Builtin.List.listExtendWith;have b:(s.heap.push (seqObj "list" #[] 0)).get? t=some o:=Heap.get?_push_of_some _ x;have d:(s.heap.push (seqObj "list" #[] 0)).get? s.heap.objs.size=some (seqObj "list" #[] 0):=Heap.get?_push_size _ rfl;refine wpAny_bind (wpAny_typeOf (T := "tuple") ⟨o,b,u⟩ ?_);have e:(Value.type "tuple" == Value.type "tuple")=true:=rfl;rw[if_pos (by rw[e];simp)];refine wpAny_bind (listItems_at b q (wpAny_bind (listItems_at (xs:=#[]) (n:=0) d rfl ?_)));rw[if_neg (by simp)];refine wpAny_bind (listUpdate_at (xs:=#[]) (n:=0) d rfl (wpAny_pure ?_) (Nat.zero_le _) (by show(#[]++us.toArray).size<=sizeLine+1;simp only[Array.size_append,size_toArray,List.length_nil];lia));show wpAny (model prog w) _ (do let o <- load s.heap.objs.size;match o.data with | .seq xs _=>pure xs.toList | _=>unsupported "internal:collect") _ E { s with heap:=(s.heap.push (seqObj "list" #[] 0)).update s.heap.objs.size (Obj.mapSeq (· ++ us.toArray)) };refine wpAny_bind (wpAny_load (get?_update_seq d _) ?_);show wpAny _ _ (pure ((#[]:Array Value)++us.toArray).toList) _ E _;have p:((#[]:Array Value)++us.toArray).toList=us:=by simp
 rw[p];refine wpAny_pure (wpAny_bind (wpAny_newList ?_));have h:((s.heap.push (seqObj "list" #[] 0)).update s.heap.objs.size (Obj.mapSeq (· ++ us.toArray))).objs.size=s.heap.objs.size+1:=by rw[Heap.size_update,size_push']
 have f:(((s.heap.push (seqObj "list" #[] 0)).update s.heap.objs.size (Obj.mapSeq (· ++ us.toArray))).push (seqObj "list" us.toArray 0)).get? (s.heap.objs.size+1)=some (seqObj "list" us.toArray 0):=by rw[<- h];exact Heap.get?_push_size _ rfl
 show wpAny _ _ _ _ _ { s with heap:=((s.heap.push (seqObj "list" #[] 0)).update s.heap.objs.size (Obj.mapSeq (· ++ us.toArray))).push (seqObj "list" us.toArray 0) };rw[h];exact wpAny_bind (wpAny_holding (wpAny_call_entry slot_list_sort ⟨_,f,rfl⟩ entry_list_sort (list_sort_tree f j a λout ns' r l v=>⟨_,rfl,wpAny_pure ⟨_,rfl,c out ns' r l v⟩⟩) (args_list_sort _)))
end
theorem j3{X:Cx}:CallR X (.builtin "sorted") (λxs H Q=>∃(p:Addr) (ns:List Int),xs=[.ref p]/\(SqL X.K H p (ns.map V.int)\/SqT X.K H p (ns.map V.int))/\ns.length<64/\∀ q (ns':List Int),ns'.Perm ns->ns'.Pairwise (·<=·)->H q=none->Q (.ref q) (upd H q (.lst (ns'.map V.int)))):=by
 intro f s w H xs D Q I r h;obtain⟨p,ns,rfl,hq,l,q⟩:=h
 rcases hq with hq | hq
 .exact lY f s w H _ D Q I r ⟨p,ns,rfl,hq,l,q⟩
 obtain⟨u,rfl,A⟩:=eC r;cases A;obtain⟨d,j,n,E⟩:=I.tuple hq;have v:=gF j;have k:d.length=ns.length:=by have:=j.length;rw[length_map]at this;exact this.symm
 refine vo n v (by lia) λc ns' y i B=>?_
 obtain⟨e,C⟩:=sortedAll_at s.heap d c;have x:H (s.heap.objs.size+1)=none:=I.hok.fresh (Nat.le_succ _);have g:sizeLine=16777216:=sizeLine_eq;refine⟨.ref (s.heap.objs.size+1),_,I.laid (a:=s.heap.objs.size+1) (o:=.lst (ns'.map V.int)) (t':=s.toks) (λb u z=>sortedAll_old z) (Nat.le_succ _) ⟨?_,c.toList,e,eK y,?_⟩,rfl,q _ ns' i B x⟩
 .rw[length_map,i.length_eq];lia
 .rw[C,Array.toArray_toList]
end L2
namespace WSrt
open PySem PySem.W PyProof.Rows
def run{α:Type}(lt:Nat->Nat->Bool):KasT α->α
 | .ret x=>x
 | .ask i j k=>run lt (k (lt i j))
theorem eF{a b:Type}(lt:Nat->Nat->Bool)(f:a->KasT b):∀ t:KasT a,run lt (t.bind f)=run lt (f (run lt t))
 | .ret _=>rfl
 | .ask i j k=>eF lt f (k (lt i j))
def e(p:Array Nat)(i:Nat):Nat:=(p[i]?).getD 0
theorem aV(p:Array Nat)(i:Nat):p.getD i 0=e p i:=by unfold e;simp[Array.getD_eq_getD_getElem?]
variable (lt:Nat->Nat->Bool) (n:Nat)
structure Wk:Prop where
 asy:∀ i j,i<n->j<n->lt i j=true->lt j i=false
 tr:∀ i j k,i<n->j<n->k<n->lt j i=false->lt k j=false->lt k i=false
structure PV(p:Array Nat):Prop where
 sz:p.size=n
 pm:p.toList.Perm (List.range n)
theorem e_list{p:Array Nat}{i:Nat}(h:i<p.size):p.toList[i]? = some (e p i):=by
 unfold e;rw[Array.getElem?_toList];simp[h]
theorem PV.bd{p:Array Nat}(h:PV n p){i:Nat}(a:i<n):e p i<n:=by
 have:=e_list (p:=p) (i:=i) (by rw[h.sz];exact a);have b:=h.pm.mem_iff.mp (List.mem_of_getElem? this);exact mem_range.mp b
theorem PV.ne{p:Array Nat}(h:PV n p){i j:Nat}(q:i<n)(r:j<n)(a:i≠j):e p i≠e p j:=by
 have v:p.toList.Nodup:=h.pm.nodup_iff.mpr nodup_range;have k:=e_list (p:=p) (i:=i) (by rw[h.sz];exact q);have s:=e_list (p:=p) (i:=j) (by rw[h.sz];exact r);intro z;rw[z]at k
 have u:=(List.getElem?_eq_some_iff.mp k)
 have o:=(List.getElem?_eq_some_iff.mp s)
 obtain⟨f,l⟩:=u;obtain⟨b,g⟩:=o;have d:=pairwise_iff_getElem.mp v
 rcases Nat.lt_trichotomy i j with c | c | c
 .exact d i j f b c (l.trans g.symm)
 .exact a c
 .exact d j i b f c (g.trans l.symm)
def Asc(p:Array Nat)(m:Nat):Prop:=∀ i j,i<j->j<m->lt (e p j) (e p i)=false
def Dsc(p:Array Nat)(m:Nat):Prop:=∀ i j,i<j->j<m->lt (e p i) (e p j)=false
def Blk(p:Array Nat)(i j:Nat):Prop:=∀ x y,i<=x->x<j->i<=y->y<j->lt (e p x) (e p y)=false
variable (T:Wk lt n)
include T
theorem vV{p:Array Nat}{m:Nat}(h:PV n p)(g:1<=m)(d:m<n)(a:Asc lt p m)(c:lt (e p m) (e p (m - 1))=false):Asc lt p (m+1):=by
 intro i j b f
 by_cases c1:j<m
 .exact a i j b c1
 .have:j=m:=by omega
  subst this
  by_cases c2:i=j - 1
  .rw[c2];exact c
  .exact T.tr _ (e p (j - 1)) _ (h.bd n (by omega)) (h.bd n (by omega)) (h.bd n (by omega)) (a i (j - 1) (by omega) (by omega)) c
theorem jA{p:Array Nat}{m:Nat}(h:PV n p)(g:1<=m)(d:m<n)(a:Dsc lt p m)(c:lt (e p (m - 1)) (e p m)=false):Dsc lt p (m+1):=by
 intro i j b f
 by_cases c1:j<m
 .exact a i j b c1
 .have:j=m:=by omega
  subst this
  by_cases c2:i=j - 1
  .rw[c2];exact c
  .exact T.tr _ (e p (j - 1)) _ (h.bd n (by omega)) (h.bd n (by omega)) (h.bd n (by omega)) c (a i (j - 1) (by omega) (by omega))
theorem i5{p:Array Nat}(h:PV n p):∀(f m:Nat),1<=m->m+f<=n->Asc lt p m->m<=run lt (kas_asc p f m)/\run lt (kas_asc p f m)<=m+f/\Asc lt p (run lt (kas_asc p f m))/\(run lt (kas_asc p f m)<m+f->lt (e p (run lt (kas_asc p f m))) (e p (run lt (kas_asc p f m) - 1))=true)
 | 0,m,_,_,a=>⟨Nat.le_refl _,Nat.le_refl _,a,λz=>absurd z (Nat.lt_irrefl _)⟩
 | f+1,m,h1,h2,a=>by
  have d:run lt (kas_asc p (f+1) m)=run lt (if lt (e p m) (e p (m - 1))=true then .ret m else kas_asc p f (m+1)):=by
   show run lt (if lt (p.getD m 0) (p.getD (m - 1) 0)=true then .ret m else kas_asc p f (m+1))=_;rw[aV,aV]
  rw[d];cases c:lt (e p m) (e p (m - 1)) with
  | true =>
   rw[if_pos rfl];exact⟨Nat.le_refl _,by show m<=_;omega,a,λ_=>c⟩
  | false =>
   rw[if_neg (by decide)];obtain⟨j,i,g,b⟩:=i5 h f (m+1) (by omega) (by omega) (vV lt n T h h1 (by omega) a c);exact⟨by omega,by omega,g,λz=>b (by omega)⟩
omit T in
theorem iG{p:Array Nat}{i m k:Nat}(a:m<=p.size):e (kas_rev p i m) k=if i<=k/\k<m then e p (i+m - 1 - k) else e p k:=by
 unfold e kas_rev;rw[getElem?_mirror_all a]
 split <;> rfl
omit T in
theorem PV.rev{p:Array Nat}(h:PV n p)(i m:Nat):PV n (kas_rev p i m):=⟨by unfold kas_rev;rw[mirror_size];exact h.sz,(Array.perm_iff_toList_perm.mp (mirror_perm p i m ((m - i)/2))).trans h.pm⟩
theorem oy{p:Array Nat}{i m:Nat}(h:PV n p)(g:m<=n)(a:Dsc lt p m)(b:Blk lt p i m):Dsc lt (kas_rev p i m) m:=by
 intro x y c f;have d:m<=p.size:=by rw[h.sz];exact g
 rw[iG d,iG d]
 by_cases cy:i<=y/\y<m
 .rw[if_pos cy]
  by_cases cx:i<=x/\x<m
  .rw[if_pos cx]
   exact b _ _ (by omega) (by omega) (by omega) (by omega)
  .rw[if_neg cx]
   exact a _ _ (by omega) (by omega)
 .rw[if_neg cy,if_neg (by omega)]
  exact a _ _ c f
theorem eX:∀(f:Nat) (p:Array Nat) (m q:Nat),PV n p->q+1<=m->m+f<=n->Dsc lt p m->Blk lt p (m - (q+1)) m->∃ p' m' q',run lt (kas_desc f p m q)=(p',m',q')/\PV n p'/\m<=m'/\m'<=m+f/\q'+1<=m'/\Dsc lt p' m'/\Blk lt p' (m' - (q'+1)) m'
 | 0,p,m,q,h,hq,_,a,b=>⟨p,m,q,rfl,h,Nat.le_refl _,Nat.le_refl _,hq,a,b⟩
 | f+1,p,m,q,h,hq,hf,a,b=>by
  have J:run lt (kas_desc (f+1) p m q)=run lt (if lt (e p m) (e p (m - 1))=true then (if q > 0 then kas_desc f (kas_rev p (m - (q+1)) m) (m+1) 0 else kas_desc f p (m+1) 0) else (if lt (e p (m - 1)) (e p m)=true then .ret (p,m,q) else kas_desc f p (m+1) (q+1))):=by
   show run lt (if lt (p.getD m 0) (p.getD (m - 1) 0)=true then (if q > 0 then kas_desc f (kas_rev p (m - (q+1)) m) (m+1) 0 else kas_desc f p (m+1) 0) else .ask (p.getD (m - 1) 0) (p.getD m 0) λd=>if d=true then .ret (p,m,q) else kas_desc f p (m+1) (q+1))=_;rw[aV,aV]
   split <;> rfl
  rw[J]
  have g:∀ p':Array Nat,PV n p'->Blk lt p' (m+1 - (0+1)) (m+1):=λp' k x y i v j w=>by
   have:x=m:=by omega
   have:y=m:=by omega
   subst x y;cases c:lt (e p' m) (e p' m) with
   | false=>rfl
   | true=>rw[T.asy _ _ (k.bd n (by omega)) (k.bd n (by omega)) c]at c;exact absurd c (by decide)
  have E:m<=p.size:=by rw[h.sz];omega
  cases c:lt (e p m) (e p (m - 1)) with
  | true =>
   have B:=T.asy _ _ (h.bd n (by omega)) (h.bd n (by omega)) c;rw[if_pos rfl]
   by_cases hq0:q > 0
   .rw[if_pos hq0]
    have k:=h.rev n (m - (q+1)) m;have H:=oy lt n T h (by omega) a b
    have K:lt (e (kas_rev p (m - (q+1)) m) (m - 1)) (e (kas_rev p (m - (q+1)) m) m)=false:=by
     rw[iG E,iG E,if_pos ⟨by omega,by omega⟩,if_neg (by omega)];have I:m - (q+1)+m - 1 - (m - 1)=m - (q+1):=by omega
     rw[I];exact T.tr _ (e p (m - 1)) _ (h.bd n (by omega)) (h.bd n (by omega)) (h.bd n (by omega)) B (b _ _ (by omega) (by omega) (by omega) (by omega))
    obtain⟨p',m',q',s,u,C,F,l,o,r⟩:=eX f _ (m+1) 0 k (by omega) (by omega) (jA lt n T k (by omega) (by omega) H K) (g _ k);exact⟨p',m',q',s,u,by omega,by omega,l,o,r⟩
   .rw[if_neg hq0]
    obtain⟨p',m',q',s,u,C,F,l,o,r⟩:=eX f p (m+1) 0 h (by omega) (by omega) (jA lt n T h (by omega) (by omega) a B) (g _ h);exact⟨p',m',q',s,u,by omega,by omega,l,o,r⟩
  | false =>
   rw[if_neg (by decide)];cases d:lt (e p (m - 1)) (e p m) with
   | true =>
    rw[if_pos rfl];exact⟨p,m,q,rfl,h,Nat.le_refl _,by omega,hq,a,b⟩
   | false =>
    rw[if_neg (by decide)]
    have L:Blk lt p (m+1 - (q+1+1)) (m+1):=by
     have G:m+1 - (q+1+1)=m - (q+1):=by omega
     rw[G]
     have z:∀ x,m - (q+1)<=x->x<m->lt (e p x) (e p m)=false/\lt (e p m) (e p x)=false:=λx D A =>
      ⟨T.tr _ (e p (m - 1)) _ (h.bd n (by omega)) (h.bd n (by omega)) (h.bd n (by omega)) d (b _ _ D A (by omega) (by omega)),T.tr _ (e p (m - 1)) _ (h.bd n (by omega)) (h.bd n (by omega)) (h.bd n (by omega)) (b _ _ (by omega) (by omega) D A) c⟩
     intro x y i v j w
     by_cases cx:x=m
     .by_cases cy:y=m
      .rw[cx,cy]
       exact g p h m m (by omega) (by omega) (by omega) (by omega)
      .rw[cx];exact(z y j (by omega)).2
     .by_cases cy:y=m
      .rw[cy];exact(z x i (by omega)).1
      .exact b x y i (by omega) j (by omega)
    obtain⟨p',m',q',s,u,C,F,l,o,r⟩:=eX f p (m+1) (q+1) h (by omega) (by omega) (jA lt n T h (by omega) (by omega) a d) L;exact⟨p',m',q',s,u,by omega,by omega,l,o,r⟩
omit T in
theorem wY{p:Array Nat}{m:Nat}(h:PV n p)(d:m<=n)(a:Dsc lt p m):Asc lt (kas_rev p 0 m) m:=by
 intro i j c f;have b:m<=p.size:=by rw[h.sz];exact d
 rw[iG b,iG b,if_pos ⟨by omega,by omega⟩,if_pos ⟨by omega,by omega⟩];exact a _ _ (by omega) (by omega)
theorem nM{p:Array Nat}{m:Nat}(h:PV n p)(f:1<=m)(c:m<=n)(a:Dsc lt p m):∃ m' p',run lt (kas_tail3 m n p)=(m',p')/\PV n p'/\Asc lt p' m'/\1<=m'/\m'<=n:=by
 unfold kas_tail3;rw[eF];have b:=h.rev n 0 m;obtain⟨i,g,d,_⟩:=i5 lt n T b (n - m) m f (by omega) (wY lt n h c a);exact⟨_,_,rfl,b,d,by omega,by omega⟩
theorem kH{p:Array Nat}{m:Nat}(h:PV n p)(v:1<=m)(g:m<n)(a:Dsc lt p (m+1)):∃ m' p',run lt (kas_descPart m n p)=(m',p')/\PV n p'/\Asc lt p' m'/\1<=m'/\m'<=n:=by
 unfold kas_descPart;rw[eF]
 have d:Blk lt p (m+1 - (0+1)) (m+1):=λx y l o q k=>by
  have:x=m:=by omega
  have:y=m:=by omega
  subst x y;cases c:lt (e p m) (e p m) with
  | false=>rfl
  | true=>rw[T.asy _ _ (h.bd n g) (h.bd n g) c]at c;exact absurd c (by decide)
 obtain⟨p',m',b,j,f,s,u,w,i,r⟩:=eX lt n T (n - (m+1)) p (m+1) 0 h (by omega) (by omega) a d;rw[j];show ∃ m'' p'',run lt (if b > 0 then kas_tail3 m' n (kas_rev p' (m' - (b+1)) m') else kas_tail3 m' n p')=_/\_
 by_cases c:b > 0
 .rw[if_pos c]
  exact nM lt n T (f.rev n _ _) (by omega) (by omega) (oy lt n T f (by omega) i r)
 .rw[if_neg c]
  exact nM lt n T f (by omega) (by omega) i
theorem og{p:Array Nat}{m:Nat}(h:PV n p)(u:1<=m)(s:m<n)(k:Asc lt p m)(o:lt (e p 0) (e p (m - 1))=false)(g:lt (e p (m - 1)) (e p m)=false):Dsc lt (kas_rev p 0 m) (m+1):=by
 have b:m<=p.size:=by rw[h.sz];omega
 have d:∀ x y,x<=y->y<m->lt (e p y) (e p x)=false:=λx y q a=>by
  by_cases z:x=y
  .subst z
   cases c4:lt (e p x) (e p x) with
   | false=>rfl
   | true=>rw[T.asy _ _ (h.bd n (by omega)) (h.bd n (by omega)) c4]at c4;exact absurd c4 (by decide)
  .exact k x y (by omega) a
 have c:∀ x y,x<m->y<m->lt (e p x) (e p y)=false:=λx y l a =>
  T.tr _ (e p 0) _ (h.bd n (by omega)) (h.bd n (by omega)) (h.bd n (by omega)) (T.tr _ (e p (m - 1)) _ (h.bd n (by omega)) (h.bd n (by omega)) (h.bd n (by omega)) (d y (m - 1) (by omega) (by omega)) o) (d 0 x (by omega) l)
 intro i j f r;rw[iG b,iG b,if_pos ⟨by omega,by omega⟩]
 by_cases cj:j<m
 .rw[if_pos ⟨by omega,cj⟩]
  exact c _ _ (by omega) (by omega)
 .rw[if_neg (by omega)]
  have:j=m:=by omega
  subst this;exact T.tr _ (e p (j - 1)) _ (h.bd n (by omega)) (h.bd n (by omega)) (h.bd n (by omega)) g (c _ _ (by omega) (by omega))
theorem ko{p:Array Nat}(h:PV n p)(r:2<=n):∃ m' p',run lt (kas_count n p)=(m',p')/\PV n p'/\Asc lt p' m'/\1<=m'/\m'<=n:=by
 unfold kas_count;rw[eF];have o:Asc lt p 1:=λi j d k=>by omega
 obtain⟨a,l,b,f⟩:=i5 lt n T h (n - 1) 1 (Nat.le_refl _) (by omega) o;generalize run lt (kas_asc p (n - 1) 1)=m at a l b f
 by_cases c:m=n
 .have:(m == n)=true:=by simpa using c
  rw[if_pos this];exact⟨m,p,rfl,h,b,a,by omega⟩
 .have:¬(m == n)=true:=by simpa using c
  rw[if_neg this];have g:=T.asy _ _ (h.bd n (by omega)) (h.bd n (by omega)) (f (by omega))
  by_cases c2:m > 1
  .rw[if_pos c2]
   show ∃ m' p',run lt (if lt (p.getD 0 0) (p.getD (m - 1) 0)=true then .ret (m,p) else kas_descPart m n (kas_rev p 0 m))=_/\_;rw[aV,aV];cases c3:lt (e p 0) (e p (m - 1)) with
   | true =>
    rw[if_pos rfl];exact⟨m,p,rfl,h,b,a,by omega⟩
   | false =>
    rw[if_neg (by decide)];exact kH lt n T (h.rev n 0 m) (by omega) (by omega) (og lt n T h a (by omega) b c3 g)
  .rw[if_neg c2]
   have q:m=1:=by omega
   subst q;refine kH lt n T h (by omega) (by omega) ?_;intro i j d k;have:i=0:=by omega
   have:j=1:=by omega
   subst i j;exact g
theorem im{p:Array Nat}{k:Nat}(h:PV n p)(o:k<n)(a:Asc lt p k):∀(f l r:Nat),l<=r->r<=k->r - l<=f->(∀ i,i<l->lt (e p k) (e p i)=false)->(∀ i,r<=i->i<k->lt (e p i) (e p k)=false) ->
  run lt (kas_place p k f l r)<=k/\(∀ i,i<run lt (kas_place p k f l r)->lt (e p k) (e p i)=false)/\(∀ i,run lt (kas_place p k f l r)<=i->i<k->lt (e p i) (e p k)=false)
 | 0,l,r,h1,h2,h3,lo,hi=>⟨by show l<=k;omega,lo,λi d b=>hi i (by have z:l<=i:=d;omega) b⟩
 | f+1,l,r,h1,h2,h3,lo,hi=>by
  by_cases c:l >= r
  .have q:run lt (kas_place p k (f+1) l r)=l:=by
    show run lt (if l >= r then .ret l else _)=l;rw[if_pos c];rfl
   rw[q];exact⟨by omega,lo,λi d b=>hi i (by omega) b⟩
  .have q:run lt (kas_place p k (f+1) l r)=run lt (if lt (e p k) (e p ((l+r)/2))=true then kas_place p k f l ((l+r)/2) else kas_place p k f ((l+r)/2+1) r):=by
    show run lt (if l >= r then .ret l else .ask (p.getD k 0) (p.getD ((l+r)/2) 0) λc=>if c=true then kas_place p k f l ((l+r)/2) else kas_place p k f ((l+r)/2+1) r)=_;rw[if_neg c,aV,aV];rfl
   rw[q];have g:l<=(l+r)/2:=by omega
   have s:(l+r)/2<r:=by omega
   generalize (l+r)/2=m at g s;cases cc:lt (e p k) (e p m) with
   | true =>
    have j:=T.asy _ _ (h.bd n o) (h.bd n (by omega)) cc;rw[if_pos rfl];refine im h o a f l m g (by omega) (by omega) lo λi d b=>?_
    by_cases c3:i=m
    .rw[c3];exact j
    .exact T.tr _ (e p m) _ (h.bd n o) (h.bd n (by omega)) (h.bd n (by omega)) j (a m i (by omega) b)
   | false =>
    rw[if_neg (by decide)];refine im h o a f (m+1) r (by omega) h2 (by omega) (λi d=>?_) hi
    by_cases c3:i=m
    .rw[c3];exact cc
    .exact T.tr _ (e p m) _ (h.bd n (by omega)) (h.bd n (by omega)) (h.bd n o) (a i m (by omega) (by omega)) cc
omit T in
theorem kK{p:Array Nat}{k l i:Nat}(b:k<p.size)(c:l<=k):e (bubble p k (k - l)) i=if i=l then e p k else if l<i/\i<=k then e p (i - 1) else e p i:=by
 unfold e;rw[getElem?_bubble b (k - l) (by omega)];have a:k - (k - l)=l:=by omega
 rw[a]
 split
 .rfl
 .split <;> rfl
theorem pT:∀(f:Nat) (p:Array Nat) (k:Nat),PV n p->k+f<=n->Asc lt p k->∃ p',run lt (kas_bin f p k)=p'/\PV n p'/\Asc lt p' (k+f)
 | 0,p,k,h,_,a=>⟨p,rfl,h,a⟩
 | f+1,p,k,h,hk,a=>by
  obtain⟨b,r,s⟩:=im lt n T h (by omega) a k 0 k (by omega) (Nat.le_refl _) (by omega) (λi hi=>by omega) (λi h1 h2=>by omega)
  have u:run lt (kas_bin (f+1) p k)=run lt (kas_bin f (bubble p k (k - run lt (kas_place p k k 0 k))) (k+1)):=by
   show run lt ((kas_place p k k 0 k).bind λl=>kas_bin f (bubble p k (k - l)) (k+1))=_;rw[eF]
  rw[u];generalize run lt (kas_place p k k 0 k)=l at b r s;have d:k<p.size:=by rw[h.sz];omega
  have w:PV n (bubble p k (k - l)):=⟨by rw[bubble_size];exact h.sz,(Array.perm_iff_toList_perm.mp (bubble_perm p k (k - l))).trans h.pm⟩
  have x:Asc lt (bubble p k (k - l)) (k+1):=by
   intro i j q B
   by_cases c1:i=l
   .have o:e (bubble p k (k - l)) i=e p k:=by rw[kK d b,if_pos c1]
    have g:e (bubble p k (k - l)) j=e p (j - 1):=by rw[kK d b,if_neg (by omega),if_pos ⟨by omega,by omega⟩]
    rw[o,g];exact s (j - 1) (by omega) (by omega)
   .by_cases c2:j=l
    .have o:e (bubble p k (k - l)) i=e p i:=by rw[kK d b,if_neg c1,if_neg (by omega)]
     have g:e (bubble p k (k - l)) j=e p k:=by rw[kK d b,if_pos c2]
     rw[o,g];exact r i (by omega)
    .have o:e (bubble p k (k - l)) i=if l<i then e p (i - 1) else e p i:=by
      rw[kK d b,if_neg c1]
      by_cases c:l<i
      .rw[if_pos ⟨c,by omega⟩,if_pos c]
      .rw[if_neg (λz=>c z.1),if_neg c]
     have g:e (bubble p k (k - l)) j=if l<j then e p (j - 1) else e p j:=by
      rw[kK d b,if_neg c2]
      by_cases c:l<j
      .rw[if_pos ⟨c,by omega⟩,if_pos c]
      .rw[if_neg (λz=>c z.1),if_neg c]
     rw[o,g]
     split
     .split
      .exact a _ _ (by omega) (by omega)
      .exact a _ _ (by omega) (by omega)
     .split
      .omega
      .exact a _ _ q (by omega)
  obtain⟨p',v,y,A⟩:=pT f _ (k+1) w (by omega) x;exact⟨p',v,y,by rw[show k+(f+1)=k+1+f by omega];exact A⟩
theorem run_sort(i:2<=n):∃ p,run lt (kas_sort n)=p/\PV n p/\Asc lt p n:=by
 unfold kas_sort;rw[eF]
 have j:PV n (List.toArray (List.range n)):=⟨by simp,by simp⟩
 obtain⟨m,p,k,b,d,q,o⟩:=ko lt n T j i;rw[k];show ∃ a,run lt (if m<n then kas_bin (n - max m 1) p (max m 1) else .ret p)=a/\_;have g:max m 1=m:=by omega
 by_cases c:m<n
 .rw[if_pos c,g]
  obtain⟨a,h,l,f⟩:=pT lt n T (n - m) p m b (by omega) d;exact⟨a,h,l,by rw[show m+(n - m)=n by omega]at f;exact f⟩
 .rw[if_neg c]
  have:m=n:=by omega
  subst this;exact⟨p,rfl,b,d⟩
omit T in
def In{α:Type}:KasT α->Prop
 | .ret _=>True
 | .ask i j k=>i<n/\j<n/\i≠j/\In (k (lt i j))
omit T in
theorem fN{a b:Type}{f:a->KasT b}:∀{t:KasT a},In lt n t->In lt n (f (run lt t))->In lt n (t.bind f)
 | .ret _,_,h=>h
 | .ask i j k,h,h'=>⟨h.1,h.2.1,h.2.2.1,fN h.2.2.2 h'⟩
omit T in
theorem oR{p:Array Nat}(h:PV n p):∀(f m:Nat),1<=m->m+f<=n->In lt n (kas_asc p f m)
 | 0,_,_,_=>trivial
 | f+1,m,h1,h2=>by
  refine⟨by rw[aV];exact h.bd n (by omega),by rw[aV];exact h.bd n (by omega),by rw[aV,aV];exact h.ne n (by omega) (by omega) (by omega),?_⟩;dsimp only
  split
  .exact trivial
  .exact oR h f (m+1) (by omega) (by omega)
omit T in
theorem jd:∀(f:Nat) (p:Array Nat) (m q:Nat),PV n p->1<=m->m+f<=n->In lt n (kas_desc f p m q)
 | 0,_,_,_,_,_,_=>trivial
 | f+1,p,m,q,h,h1,h2=>by
  refine⟨by rw[aV];exact h.bd n (by omega),by rw[aV];exact h.bd n (by omega),by rw[aV,aV];exact h.ne n (by omega) (by omega) (by omega),?_⟩;dsimp only
  split
  .split
   .exact jd f _ _ _ (h.rev n _ _) (by omega) (by omega)
   .exact jd f _ _ _ h (by omega) (by omega)
  .refine⟨by rw[aV];exact h.bd n (by omega),by rw[aV];exact h.bd n (by omega),by rw[aV,aV];exact h.ne n (by omega) (by omega) (by omega),?_⟩
   dsimp only
   split
   .exact trivial
   .exact jd f _ _ _ h (by omega) (by omega)
omit T in
theorem pY{p:Array Nat}{m:Nat}(h:PV n p)(a:1<=m)(b:m<=n):In lt n (kas_tail3 m n p):=fN lt n (oR lt n (h.rev n 0 m) (n - m) m a (by omega)) trivial
theorem nO{p:Array Nat}{m:Nat}(h:PV n p)(v:1<=m)(f:m<n)(a:Dsc lt p (m+1)):In lt n (kas_descPart m n p):=by
 have d:Blk lt p (m+1 - (0+1)) (m+1):=λx y o q r l=>by
  have:x=m:=by omega
  have:y=m:=by omega
  subst x y;cases c:lt (e p m) (e p m) with
  | false=>rfl
  | true=>rw[T.asy _ _ (h.bd n f) (h.bd n f) c]at c;exact absurd c (by decide)
 obtain⟨i,b,g,k,j,s,u,z,A,w⟩:=eX lt n T (n - (m+1)) p (m+1) 0 h (by omega) (by omega) a d;refine fN lt n (jd lt n _ _ _ _ h (by omega) (by omega)) ?_;rw[k];show In lt n (if g > 0 then kas_tail3 b n (kas_rev i (b - (g+1)) b) else kas_tail3 b n i)
 split
 .exact pY lt n (j.rev n _ _) (by omega) (by omega)
 .exact pY lt n j (by omega) (by omega)
theorem wu{p:Array Nat}(h:PV n p)(r:2<=n):In lt n (kas_count n p):=by
 refine fN lt n (oR lt n h (n - 1) 1 (by omega) (by omega)) ?_;have o:Asc lt p 1:=λi j a k=>by omega
 obtain⟨f,l,g,b⟩:=i5 lt n T h (n - 1) 1 (Nat.le_refl _) (by omega) o;generalize run lt (kas_asc p (n - 1) 1)=m at f l g b
 by_cases c:m=n
 .have:(m == n)=true:=by simpa using c
  rw[if_pos this];exact trivial
 .have:¬(m == n)=true:=by simpa using c
  rw[if_neg this];have d:=T.asy _ _ (h.bd n (by omega)) (h.bd n (by omega)) (b (by omega))
  by_cases c2:m > 1
  .rw[if_pos c2]
   refine⟨by rw[aV];exact h.bd n (by omega),by rw[aV];exact h.bd n (by omega),by rw[aV,aV];exact h.ne n (by omega) (by omega) (by omega),?_⟩;rw[aV,aV];cases c3:lt (e p 0) (e p (m - 1)) with
   | true=>exact trivial
   | false =>
    show In lt n (if false=true then _ else kas_descPart m n (kas_rev p 0 m));rw[if_neg (by decide)];exact nO lt n T (h.rev n 0 m) (by omega) (by omega) (og lt n T h f (by omega) g c3 d)
  .rw[if_neg c2]
   have q:m=1:=by omega
   subst q;refine nO lt n T h (by omega) (by omega) ?_;intro i j a k;have:i=0:=by omega
   have:j=1:=by omega
   subst i j;exact d
omit T in
theorem jC{p:Array Nat}{k:Nat}(h:PV n p)(a:k<n):∀(f l r:Nat),r<=k->In lt n (kas_place p k f l r)
 | 0,_,_,_=>trivial
 | f+1,l,r,h2=>by
  show In lt n (if l >= r then .ret l else .ask (p.getD k 0) (p.getD ((l+r)/2) 0) λc=>if c=true then kas_place p k f l ((l+r)/2) else kas_place p k f ((l+r)/2+1) r)
  split
  .exact trivial
  .refine⟨by rw[aV];exact h.bd n a,by rw[aV];exact h.bd n (by omega),by rw[aV,aV];exact h.ne n a (by omega) (by omega),?_⟩
   dsimp only
   split
   .exact jC h a f l _ (by omega)
   .exact jC h a f _ r h2
omit T in
theorem uf:∀(f:Nat) (p:Array Nat) (k:Nat),PV n p->k+f<=n->In lt n (kas_bin f p k)
 | 0,_,_,_,_=>trivial
 | f+1,p,k,h,hk=>by
  refine fN lt n (jC lt n h (by omega) k 0 k (Nat.le_refl _)) ?_;exact uf f _ (k+1) ⟨by rw[bubble_size];exact h.sz,(Array.perm_iff_toList_perm.mp (bubble_perm p k _)).trans h.pm⟩ (by omega)
theorem In_sort(a:2<=n):In lt n (kas_sort n):=by
 have b:PV n (List.toArray (List.range n)):=⟨by simp,by simp⟩
 refine fN lt n (wu lt n T b a) ?_;obtain⟨m,p,d,c,g,h,f⟩:=ko lt n T b a;rw[d];show In lt n (if m<n then kas_bin (n - max m 1) p (max m 1) else .ret p)
 split
 .exact uf lt n _ _ _ c (by omega)
 .exact trivial
omit T in
theorem wp_run{c:Type}{a:Nat->Nat->(Bool->Shared->Prop)->Shared->Prop}{s:Shared}(b:∀ i j,i<n->j<n->i≠j->∀ C,C (lt i j) s->a i j C s){Q:c->Shared->Prop}:∀ t:KasT c,In lt n t->Q (run lt t) s->t.kasWp a Q s
 | .ret _,_,h=>h
 | .ask i j k,hi,h=>b i j hi.1 hi.2.1 hi.2.2.1 _ (wp_run b (k (lt i j)) hi.2.2.2 h)
end WSrt
namespace L2
open PySem PySem.Spec PyProof.Rows PySem.W
def ord(lt:Nat->Nat->Bool)(n:Nat):List Nat:=if 2<=n then (WSrt.run lt (kas_sort n)).toList else List.range n
theorem tL{lt:Nat->Nat->Bool}{n:Nat}(T:WSrt.Wk lt n):(ord lt n).Perm (List.range n):=by
 unfold ord
 split
 .rename_i h
  obtain⟨p,e,a,b⟩:=WSrt.run_sort lt n T h;rw[e];exact a.pm
 .exact .refl _
theorem wG{lt:Nat->Nat->Bool}{n:Nat}(T:WSrt.Wk lt n):(ord lt n).Pairwise λi j=>lt j i=false:=by
 unfold ord
 split
 .rename_i h
  obtain⟨p,e,c,g⟩:=WSrt.run_sort lt n T h;rw[e,pairwise_iff_getElem];intro i j l d a;have b:j<n:=by rw[Array.length_toList,c.sz]at d;exact d
  have k:=(List.getElem?_eq_some_iff.mp (WSrt.e_list (p:=p) (i:=i) (by rw[c.sz];lia))).2;have f:=(List.getElem?_eq_some_iff.mp (WSrt.e_list (p:=p) (i:=j) (by rw[c.sz];lia))).2;rw[k,f];exact g i j a b
 .match n with
  | 0=>exact List.Pairwise.nil
  | 1=>exact List.pairwise_singleton _ _
  | n+2=>exact absurd (show 2<=n+2 by lia) (by assumption)
section
variable {X:Cx}{pins:List (Addr×Obj)}{σ:St}{H:Hp}{s:Shared}{κ:SortKind}{lt:Nat->Nat->Bool}{KO:Nat->V->Hp->Prop}{xs:List V}{q:Addr}
theorem rG{xs:List V}{vs:List Value}(h:Vals xs vs)(p:List Nat)(b:∀ i∈p,i<xs.length):Vals (p.map λi=>xs.getD i .non) (p.map λi=>vs.getD i Value.none):=by
 induction p with
 | nil=>exact .nil
 | cons i p ih =>
  rw[map_cons,map_cons];refine .cons ?_ (ih λj c=>b j (mem_cons_of_mem _ c));have a:=b i (mem_cons_self ..);obtain⟨u,d,r⟩:=h.get (List.getElem?_eq_getElem a);rw[List.getD,List.getD,List.getElem?_eq_getElem a,d];exact r
end
def BH:Stmt->Expr
 | .Assign _ e _=>e
 | _=>dE
section
variable {X:Cx}
end
def DE(h:Heap)(d:Addr)(es:Array DictEntry)(ep:Nat):Prop:=∃ o,h.get? d=some o/\o.ExactDict/\o.data=.dict es ep
theorem DE.on{h h':Heap}{d:Addr}{a:Array DictEntry}{b:Nat}(x:DE h d a b)(k:∀ o,h.get? d=some o->h'.get? d=some o):DE h' d a b:=let ⟨o,e,r⟩:=x;⟨o,k o e,r⟩
theorem DE.lt{h:Heap}{d:Addr}{a:Array DictEntry}{b:Nat}(x:DE h d a b):d<h.objs.size:=let ⟨_,e,_⟩:=x;Heap.lt_size e
theorem DE.ty{s:Shared}{d:Addr}{a:Array DictEntry}{b:Nat}(x:DE s.heap d a b):s.TypeIs (.ref d) "dict" := let ⟨o,e,c,_⟩:=x;⟨o,e,c.1⟩
section
variable {prog:Program}{w:World}{A:Around}{E:Value->Shared->Prop}{s:Shared}{d I:Addr}{es:Array DictEntry}{ep i:Nat}
theorem wC{Q:Value->Shared->Prop}(f:(d == sysModules)=false)(x:DE s.heap d es ep)
  (q:Q (.ref s.heap.objs.size) { s with heap:=s.heap.push { cls:=.type "dict_keyiterator",data:=.fields #[.ref d,.int 0 0,.int es.size 0,.int ep 0] } }):wpAny (model prog w) A (pyIter (.ref d)) Q E s:=by
 have a:=x.ty;obtain⟨h,c,g,b⟩:=id x;refine wpAny_pyIter_slot a F.slot_dict_iter (wpAny_call_entry F.slot_dict_iter a F.entry_dict_iter ?_ (F.args_dict_iter_1 _));unfold Builtin.«dict.__iter__»;refine wpAny_bind ?_;unfold Builtin.Dict.dictSlotNone;refine wpAny_bind (wpAny_notOrdered_dict a (wpAny_pure ?_));show wpAny _ _ (Builtin.Dict.showsAll d >>= _) _ _ _;unfold Builtin.Dict.showsAll;rw[if_neg (λz=>by rw[f]at z;cases z)];refine wpAny_bind (wpAny_pure (wpAny_bind (wpAny_dictEntries c b (wpAny_bind (wpAny_dictEpoch c b ?_)))));refine wpAny_bind (wpAny_newObj_type (wpAny_pure ⟨_,rfl, "dict_keyiterator",_,⟨_,Heap.get?_push_size _ rfl,rfl⟩,F.slot_dict_keyiterator_next.lookup,?_⟩));simpa[rawInt] using q
theorem wx{Q:Option Value->Shared->Prop}{e:DictEntry}(a:s.heap.IsKeyIter I d i es.size ep)(x:DE s.heap d es ep)(n:es[i]? = some e)
  (q:∀ h',h'.IsKeyIter I d (i+1) es.size ep->Heap.SameBut I s.heap h'->Q (some e.key) { s with heap:=h' }):wpAny (model prog w) A (pyNext (.ref I)) Q E s:=by
 obtain⟨p,h,l,c⟩:=id a;obtain⟨r,k,o,j⟩:=id x;unfold pyNext;refine wpAny_bind (wpAny_attempt (wpAny_callSpecial?_slot (name:=Str.ofString "__next__") a.typeIs F.slot_dict_keyiterator_next (wpAny_call_entry F.slot_dict_keyiterator_next a.typeIs F.entry_dict_keyiterator_next ?_ (F.args_dict_keyiterator_next_1 _))));refine wpAny_bind (wpAny_pure (wpAny_bind (wpAny_bind ?_)))
 first | refine wpAny_bind (wpAny_typeNameOfWhole_keyiter a.typeIs (wpAny_pure ?_)) | refine wpAny_bind (wpAny_typeNameOf_keyiter a.typeIs (wpAny_pure ?_))
 refine wpAny_bind (wpAny_fieldsOf h c ?_);have f:Builtin.Dict_items.ownsTuple "dict_keyiterator" = false:=by decide
 simp only[f,Bool.false_eq_true,if_false];show wpAny _ _ (if (Value.ref d == Value.none)=true then _ else _) _ _ _;rw[if_neg (λz:(Value.ref d == Value.none)=true=>Bool.false_ne_true z)];refine wpAny_bind (wpAny_pure (wpAny_bind (wpAny_dictEntries k j ?_)));rw[if_neg (by simp)];refine wpAny_bind (wpAny_pure (wpAny_bind (wpAny_dictEpoch k j ?_)));rw[if_neg (by simp)];refine wpAny_pure ?_;obtain⟨g,rfl⟩:=Array.getElem?_eq_some_iff.mp n;simp only[show ¬((i:Int)<0) from by lia,if_false,Int.toNat_natCast,Array.getElem?_eq_getElem g];refine wpAny_bind ?_
 first | refine wpAny_bind (wpAny_typeNameOfWhole_keyiter a.typeIs (wpAny_pure ?_)) | refine wpAny_bind (wpAny_typeNameOf_keyiter a.typeIs (wpAny_pure ?_))
 refine wpAny_bind (wpAny_isOneOf_keyiter a.typeIs ?_);show wpAny _ _ (setField (.ref I) 1 (rawInt ((i:Int)+1)) >>= _) _ _ _;refine wpAny_bind (wpAny_setField h c (by simp) ?_)
 have b:(s.heap.update I (Obj.mapFields (·.setIfInBounds 1 (rawInt ((i:Int)+1))))).IsKeyIter I d (i+1) es.size ep:=⟨_,Heap.get?_update_self _ h (Obj.isFreed_of_fields (Obj.data_mapFields c _)),(Obj.cls_mapFields ..).trans l,by rw[Obj.data_mapFields c];simp[rawInt]⟩
 refine wpAny_bind (wpAny_holding (wpAny_bind (wpAny_isOneOf_keyiter (s:={ s with heap:=s.heap.update I (Obj.mapFields (·.setIfInBounds 1 (rawInt ((i:Int)+1)))) }) b.typeIs ?_)));show wpAny _ _ (pure es[i].key) _ _ _;exact wpAny_pure (wpAny_pure ⟨_,rfl,wpAny_pure (q _ b (Heap.SameBut.update ..))⟩)
theorem Aa{Q:Option Value->Shared->Prop}(n:A.handled=none)(c:s.heap.IsKeyIter I d i es.size ep)(x:DE s.heap d es ep)(l:es.size<=i)
  (q:∀ h',Heap.ExtBut I s.heap h'->Q none { s with heap:=h' }):wpAny (model prog w) A (pyNext (.ref I)) Q E s:=by
 obtain⟨r,k,p,h⟩:=id c;obtain⟨u,j,o,g⟩:=id x;unfold pyNext;refine wpAny_bind (wpAny_attempt (wpAny_callSpecial?_slot (name:=Str.ofString "__next__") c.typeIs F.slot_dict_keyiterator_next (wpAny_call_entry F.slot_dict_keyiterator_next c.typeIs F.entry_dict_keyiterator_next ?_ (F.args_dict_keyiterator_next_1 _))));refine wpAny_bind (wpAny_pure (wpAny_bind (wpAny_bind ?_)))
 first | refine wpAny_bind (wpAny_typeNameOfWhole_keyiter c.typeIs (wpAny_pure ?_)) | refine wpAny_bind (wpAny_typeNameOf_keyiter c.typeIs (wpAny_pure ?_))
 refine wpAny_bind (wpAny_fieldsOf k h ?_);have f:Builtin.Dict_items.ownsTuple "dict_keyiterator" = false:=by decide
 simp only[f,Bool.false_eq_true,if_false];show wpAny _ _ (if (Value.ref d == Value.none)=true then _ else _) _ _ _;rw[if_neg (λz:(Value.ref d == Value.none)=true=>Bool.false_ne_true z)];refine wpAny_bind (wpAny_pure (wpAny_bind (wpAny_dictEntries j g ?_)));rw[if_neg (by simp)];refine wpAny_bind (wpAny_pure (wpAny_bind (wpAny_dictEpoch j g ?_)));rw[if_neg (by simp)];refine wpAny_pure ?_;simp only[show ¬((i:Int)<0) from by lia,if_false,Int.toNat_natCast,Array.getElem?_eq_none l];refine wpAny_bind ?_
 first | refine wpAny_bind (wpAny_typeNameOfWhole_keyiter c.typeIs (wpAny_pure ?_)) | refine wpAny_bind (wpAny_typeNameOf_keyiter c.typeIs (wpAny_pure ?_))
 show wpAny _ _ (setField (.ref I) 0 .none >>= _) _ _ _;refine wpAny_bind (wpAny_setField k h (by simp) ?_);show wpAny _ _ (newExc (.type "StopIteration") [] >>= _) _ _ _;refine wpAny_bind ?_;simp only[newExc,newTuple];refine wpAny_bind (wpAny_newObj_type (wpAny_bind (m:=firstArgMember _ _) (wpAny_of_eq (a:=Value.none) (by first | rfl | (simp only[firstArgMember];rfl)) (wpAny_newObj_type ?_ (by size_fits)))) (by size_fits));simp only[raiseNew];refine wpAny_bind (wpAny_handled ?_);rw[show A.in1.handled=none from n];refine wpAny_bind (wpAny_pure (wpAny_throw ?_));refine wpAny_bind (wpAny_isInstance (T := "StopIteration") (b:=true) ⟨_,Heap.get?_push_size _ rfl,rfl⟩ isSubtype_stop ?_);exact wpAny_pure (q _ (((Heap.SameBut.update ..).extBut.push _).push _))
theorem uo(q:A.handled=none)(j:d≠I):Walks prog w A I [I,d] [I] es.size (λi v=>∃ e,es[i]? = some e/\v=e.key) (λi h=>h.IsKeyIter I d i es.size ep/\DE h d es ep) where
 sub:=λb c=>by rw[mem_singleton.mp c];exact mem_cons_self ..
 frame:=λ_ _ _ a n=>⟨a.1.at λo e=>n I (mem_cons_self ..) o e,a.2.on λo e=>n d (by simp) o e⟩
 item:=λi s Q E l a f=>by
  refine wx a.1 a.2 (Array.getElem?_eq_getElem l) λk p g=>?_
  exact f _ k s.toks ⟨_,Array.getElem?_eq_getElem l,rfl⟩ ⟨p,a.2.on λo e=>g.extBut d o j e⟩ λb o c e=>g.extBut b o (λz=>c (by rw[z];exact mem_cons_self ..)) e
 done:=λs Q E a f=>Aa q a.1 a.2 (Nat.le_refl _) λk g=>f k s.toks λb o c e=>g b o (λz=>c (by rw[z];exact mem_cons_self ..)) e
 self:=λ_ _ _ _ a f=>wpAny_pyIter_keyiter a.1 f
theorem ze(b:(d == sysModules)=false):KdlSrc prog w "dict" d d es.size (λi v=>∃ e,es[i]? = some e/\v=e.key) (λh=>DE h d es ep) where
 type:=λ_ x=>x.ty
 there:=λ_ x=>⟨x.lt,x.lt⟩
 keep:=λ_ _ x c=>x.on λo e=>c d (.inl rfl) o e
 notList:=by decide
 notTuple:=by decide
 hint:=λ_ _ _ _ x q=>kdl_hint_dict x.ty q
 iter:=λ_ _ a x=>⟨_,_,(λ_ _ q=>wC b x q),uo a (Nat.ne_of_lt x.lt),⟨⟨_,Heap.get?_push_size _ rfl,rfl,rfl⟩,x.on λo e=>Heap.get?_push_of_some _ e⟩⟩
def jl(es:Array DictEntry):List Value:=es.toList.map (·.key)
theorem pE{a:Array Value}(h:ItemsOf (λi v=>∃ e,es[i]? = some e/\v=e.key) a es.size):a.toList=jl es:=by
 obtain⟨g,b⟩:=h;refine List.ext_getElem? λj=>?_
 unfold jl;rw[List.getElem?_map,Array.getElem?_toList,Array.getElem?_toList]
 by_cases c:j<a.size
 .obtain⟨e,f,d⟩:=b j _ (Array.getElem?_eq_getElem c)
  rw[Array.getElem?_eq_getElem c,f,d];rfl
 .rw[Array.getElem?_eq_none (by lia),Array.getElem?_eq_none (by lia)];rfl
theorem oB{Q:List Value->Shared->Prop}(i:A.handled=none)(h:(d == sysModules)=false)(x:DE s.heap d es ep)(g:es.size<=sizeLine)
  (q:∀ h' tk,s.heap.objs.size<h'.objs.size->(∀ b o,s.heap.get? b=some o->h'.get? b=some o)->Q (jl es) { s with heap:=h',toks:=tk }):wpAny (model prog w) A (collect (.ref d)) Q E s:=by
 unfold collect;refine wpAny_bind (wpAny_runValue (codeAny_builtin entry_proto_collect' ?_));show wpAny _ _ (do again (.builtin "list.__iadd__" ⟨[<- newList [],.ref d],[]⟩)) _ _ _;refine wpAny_bind (wpAny_newList (wpAny_pure ⟨Code.quiet_builtin _ (by decide +kernel),codeAny_builtin entry_list_iadd' ?_⟩));have c:=x.lt;refine kdl_extend (R:=λr f=>match r with | Except.ok (Flow.ret v)=>wpAny (model prog w) A (match v with | Value.ref a=>(do let o <- load a;match o.data with | Data.seq xs _=>pure xs.toList | _=>unsupported "internal:collect") | _=>unsupported "internal:collect") Q E f | Except.ok _=>False | Except.error e=>E e f) (s:={ s with heap:=s.heap.push { cls:=.type "list",data:=.seq #[] } }) (ze h) i (x.on λo e=>Heap.get?_push_of_some _ e) s.heap.objs.size (Nat.ne_of_gt c) (Nat.ne_of_gt c) _ 0 (Heap.get?_push_size _ rfl) (λh' tk acc c' hk hS ha=>?_) g
 show wpAny (model prog w) A (do
   let o <- load s.heap.objs.size
   match o.data with
   | .seq xs _=>pure xs.toList
   | _=>unsupported "internal:collect") Q E _
 refine wpAny_bind (wpAny_load hS (wpAny_pure ?_));rw[pE ha];exact q h' tk (Heap.lt_size hS) λb o e=>hk b o (Nat.ne_of_lt (Heap.lt_size e)) (Heap.get?_push_of_some _ e)
end
section
variable {X:Cx}
theorem KT.at{H:Hp}:∀{kvs:List (List Key×V)}{xs:List (List Key×Addr×Value)}{i:Nat}{kv:List Key×V},KT H kvs xs->kvs[i]? = some kv->∃ x,xs[i]? = some x/\H x.2.1=some (.tup (kv.1.map kV))
 | _,_,_,_,.nil,h=>by cases h
 | _,_,0,_,.cons r t,h=>by cases h;exact⟨_,rfl,r.2.1⟩
 | _,_,i+1,_,.cons r t,h=>KT.at (i:=i) t h
theorem kO{vs:List Value}(f:Nat->V):∀{o:List Nat},(∀ i∈o,RelV (f i) (vs.getD i Value.none))->Vals (o.map f) (o.map λi=>vs.getD i Value.none)
 | [],_=>.nil
 | i::o,h=>.cons (h i (mem_cons_self ..)) (kO f λj a=>h j (mem_cons_of_mem _ a))
end
end L2
namespace Du
open FrM
def fr(q:Rat):Int×Int:=(q.num,(q.den:Int))
theorem kr(n:Int){d:Nat}(a:d≠0):jT n (d:Int)=fr (mkRat n d):=by
 unfold jT fr;rw[Rat.num_mkRat,Rat.den_mkRat,if_neg a,if_neg a];have e:Int.gcd n (d:Int)=d.gcd n.natAbs:=by rw[Int.gcd,Nat.gcd_comm];rfl
 rw[e];rfl
theorem xy(t:Int){b:Int}(a:0<b):jT t b=fr ((t:Rat)/(b:Rat)):=by
 obtain⟨d,rfl⟩:=Int.eq_ofNat_of_zero_le (Int.le_of_lt a);rw[kr t (by omega),<- Rat.divInt_eq_div,<- Rat.divInt_ofNat]
def Bq(D:Nat)(q:Rat):Prop:=0<=q/\q<=1/\∃ n:Nat,q*(D:Rat)=(n:Rat)
theorem vS{D:Nat}(h:0<D):(0:Rat)<(D:Rat):=by exact_mod_cast h
theorem AC{D:Nat}{q:Rat}{n:Int}(a:0<D)(e:q*(D:Rat)=(n:Rat)):q=mkRat n D:=by
 have b:=vS a;have:q=(n:Rat)/(D:Rat):=by grind
 rw[this,<- Rat.divInt_ofNat,Rat.divInt_eq_div];rfl
theorem mI{a b:Rat}(d:0<=a)(c:0<=b):0<=a*b:=Rat.mul_nonneg d c
section
variable {B:Nat}{h c:Rat}
end
end Du
namespace Tb
open FrM Du
inductive Tr where
 | leaf (ns:List Int)
 | die (ps:List (Int×Tr))
def tot(ps:List (Int×Tr)):Int:=(ps.map (·.1)).sum
mutual
def lv:Tr->Nat
 | .leaf _=>1
 | .die ps=>lvs ps
def lvs:List (Int×Tr)->Nat
 | []=>0
 | (_,u)::r=>lv u+lvs r
end
mutual
def sz:Tr->Nat
 | .leaf _=>1
 | .die ps=>szs ps+1
def szs:List (Int×Tr)->Nat
 | []=>0
 | (_,u)::r=>sz u+szs r
end
mutual
def Ok:Tr->Prop
 | .leaf ns=>ns.Nodup/\ns.length<=24
 | .die ps=>ps≠[]/\Oks ps
def Oks:List (Int×Tr)->Prop
 | []=>True
 | (m,u)::r=>1<=m/\Ok u/\Oks r
end
abbrev Way:=List Int×(Int×Int)
mutual
def wl:Tr->Int->Int->List Way
 | .leaf ns,t,b=>[(ns,(t,b))]
 | .die ps,t,b=>wls ps t b (tot ps)
def wls:List (Int×Tr)->Int->Int->Int->List Way
 | [],_,_,_=>[]
 | (m,u)::r,t,b,S=>wls r t b S++wl u (t*m) (b*S)
end
abbrev Ent:=Tr×(Int×Int)
def st:List Ent->List Way
 | []=>[]
 | (u,(t,b))::r=>st r++wl u t b
def stL:List Ent->Nat
 | []=>0
 | (u,_)::r=>stL r+lv u
def stS:List Ent->Nat
 | []=>0
 | (u,_)::r=>stS r+sz u
theorem lR:∀(a b:List Ent),st (a++b)=st b++st a
 | [],b=>by simp[st]
 | (u,(t,c))::a,b=>by rw[cons_append,st,lR a b,st,append_assoc]
theorem stS_app:∀(a b:List Ent),stS (a++b)=stS a+stS b
 | [],b=>by simp[stS]
 | (u,c)::a,b=>by rw[cons_append,stS,stS_app a b,stS];lia
def kids(ps:List (Int×Tr))(t b S:Int):List Ent:=ps.map λp=>(p.2,(t*p.1,b*S))
theorem qA(t b S:Int):∀ ps:List (Int×Tr),st (kids ps t b S)=wls ps t b S
 | []=>rfl
 | (m,u)::r=>by
  have a:=qA t b S r;unfold kids at *;rw[map_cons,st,a,wls]
theorem stS_kids(t b S:Int):∀ ps:List (Int×Tr),stS (kids ps t b S)=szs ps
 | []=>rfl
 | (m,u)::r=>by
  have a:=stS_kids t b S r;unfold kids at *;rw[map_cons,stS,a,szs];lia
mutual
theorem uV:∀ t:Tr,Ok t->1<=lv t
 | .leaf _,_=>by simp[lv]
 | .die ps,h=>by rw[lv];rw[Ok]at h;exact xn ps h.2 h.1
theorem xn:∀ ps:List (Int×Tr),Oks ps->ps≠[]->1<=lvs ps
 | [],_,h=>absurd rfl h
 | (m,u)::r,h,_=>by rw[Oks]at h;rw[lvs];have:=uV u h.2.1;lia
end
def StOk(s:List Ent):Prop:=∀ e∈s,Ok e.1
theorem qP:∀ s:List Ent,StOk s->s.length<=stL s
 | [],_=>Nat.le_refl _
 | (u,c)::r,h=>by
  have:=qP r λe a=>h e (mem_cons_of_mem _ a)
  have:=uV u (h _ mem_cons_self);rw[stL,length_cons];lia
theorem qJ:∀{ps:List (Int×Tr)},Oks ps->∀ p∈ps,1<=p.1/\Ok p.2
 | (m,u)::r,h,p,hp=>by
  rw[Oks]at h
  rcases mem_cons.mp hp with rfl | hp
  .exact⟨h.1,h.2.1⟩
  .exact qJ h.2.2 p hp
theorem StOk.kids{ps:List (Int×Tr)}{t b S:Int}(h:Oks ps):StOk (kids ps t b S):=λe c=>by
 obtain⟨p,a,rfl⟩:=mem_map.mp c;exact(qJ h p a).2
mutual
theorem wl_len:∀(t:Tr) (a b:Int),(wl t a b).length=lv t
 | .leaf _,_,_=>rfl
 | .die ps,a,b=>by rw[wl,lv];exact pU ps a b _
theorem pU:∀(ps:List (Int×Tr)) (a b S:Int),(wls ps a b S).length=lvs ps
 | [],_,_,_=>rfl
 | (m,u)::r,a,b,S=>by rw[wls,lvs,length_append,pU r,wl_len u];lia
end
structure Wk(t:Tr)(ways:List Way)(s:List Ent):Prop where
 all:ways++st s=wl t 1 1
 ok:StOk s
theorem Wk.start{t:Tr}(h:Ok t):Wk t [] [(t,(1,1))]:=⟨by simp[st],λe a=>by cases mem_singleton.mp a;exact h⟩
theorem Wk.leaf{t:Tr}{c:List Way}{s:List Ent}{d:List Int}{a b:Int}(h:Wk t c (s++[(.leaf d,(a,b))])):Wk t (c++[(d,(a,b))]) s:=by
 refine⟨?_,λe f=>h.ok e (mem_append_left _ f)⟩;have:=h.all;rw[lR]at this;rw[append_assoc];exact this
theorem Wk.die{t:Tr}{c:List Way}{s:List Ent}{ps:List (Int×Tr)}{a b:Int}(h:Wk t c (s++[(.die ps,(a,b))])):Wk t c (s++kids ps a b (tot ps)):=by
 have o:=h.ok _ (mem_append_right _ mem_cons_self);rw[Ok]at o;refine⟨?_,λe he=>?_⟩
 .rw[lR,qA]
  have:=h.all;rw[lR]at this;simpa[st,wl] using this
 .rcases mem_append.mp he with he | he
  .exact h.ok e (mem_append_left _ he)
  .exact StOk.kids o.2 e he
theorem tU:∀ s:List Ent,(st s).length=stL s
 | []=>rfl
 | (u,(a,b))::r=>by rw[st,stL,length_append,tU r,wl_len]
theorem Wk.few{t:Tr}{a:List Way}{s:List Ent}(h:Wk t a s):a.length+s.length<=lv t:=by
 have e:=congrArg List.length h.all;rw[length_append,tU,wl_len]at e;have:=qP s h.ok;lia
theorem Wk.done{t:Tr}{a:List Way}(h:Wk t a []):a=wl t 1 1:=by have:=h.all;simpa[st] using this
abbrev Rws:=List (List Int×Rat)
def cW(W:Rws)(k:List Int):Rat:=((W.filter λw=>decide (w.1=k)).map (·.2)).sum
theorem jw{k:List Int}:cW [] k=0:=rfl
theorem bc{w:List Int×Rat}{W:Rws}{k:List Int}:cW (w::W) k=(if w.1=k then w.2 else 0)+cW W k:=by
 unfold cW;rw[List.filter_cons]
 by_cases h:w.1=k
 .rw[if_pos (decide_eq_true h),if_pos h,map_cons,sum_cons]
 .rw[if_neg (by simp[h]),if_neg h];grind
theorem kG{A B:Rws}{k:List Int}(h:A.Perm B):cW A k=cW B k:=by
 induction h with
 | nil=>rfl
 | cons x _ ih=>rw[bc,bc,ih]
 | swap x y l=>rw[bc,bc,bc,bc];grind
 | trans _ _ a b=>rw[a,b]
theorem ww{W:Rws}{k:List Int}(h:k ∉ W.map (·.1)):cW W k=0:=by
 induction W with
 | nil=>rfl
 | cons w W ih =>
  rw[map_cons,mem_cons,not_or]at h;rw[bc,if_neg (λe=>h.1 e.symm),ih h.2];grind
def cC(k:List Int)(m:Rat):Rws->Rws
 | []=>[(k,m)]
 | x::r=>if x.1=k then (k,x.2+m)::r else x::cC k m r
def NdR(st:Rws):Prop:=(st.map (·.1)).Nodup
theorem hZ(k:List Int)(m:Rat):∀ st:Rws,(cC k m st).map (·.1)=if k∈st.map (·.1) then st.map (·.1) else st.map (·.1)++[k]
 | []=>by simp[cC]
 | x::r=>by
  rw[cC]
  by_cases c:x.1=k
  .rw[if_pos c];simp[c]
  .rw[if_neg c,map_cons,hZ k m r,map_cons]
   have a:¬k=x.1:=λe=>c e.symm
   by_cases d:k∈r.map (·.1)
   .rw[if_pos d,if_pos (mem_cons_of_mem _ d)]
   .rw[if_neg d,if_neg (by simp only[mem_cons,not_or];exact⟨a,d⟩)];rfl
theorem NdR.add{k:List Int}{m:Rat}{d:Rws}(h:NdR d):NdR (cC k m d):=by
 unfold NdR at *;rw[hZ]
 split
 .exact h
 .rename_i n
  exact nodup_append.mpr ⟨h,by simp,λa f b c e=>n (by rw[mem_singleton]at c;rw[<- c,<- e];exact f)⟩
theorem nz{k a:List Int}{m:Rat}:∀{st:Rws},cW (cC k m st) a=cW st a+if k=a then m else 0
 | []=>by rw[cC,bc,jw];grind
 | x::r=>by
  rw[cC]
  by_cases c:x.1=k
  .rw[if_pos c,bc,bc]
   show(if k=a then x.2+m else 0)+cW r a=_
   rw[c];split <;> grind
  .rw[if_neg c,bc,bc,nz];grind
def fW(W:Rws):Rws:=W.foldl (λst w=>cC w.1 w.2 st) []
theorem sH(a:Rws):∀(W:Rws) (k:List Int),cW (W.foldl (λa w=>cC w.1 w.2 a) a) k=cW a k+cW W k:=by
 intro W
 induction W generalizing a with
 | nil=>intro k;rw[List.foldl_nil,jw];grind
 | cons w W ih=>intro k;rw[foldl_cons,ih,nz,bc];grind
theorem kN(W:Rws)(k:List Int):cW (fW W) k=cW W k:=by
 unfold fW;rw[sH,jw];grind
theorem ur(a:Rws)(h:NdR a):∀ W:Rws,NdR (W.foldl (λa w=>cC w.1 w.2 a) a):=by
 intro W
 induction W generalizing a with
 | nil=>exact h
 | cons w W ih=>exact ih _ h.add
theorem gD(W:Rws):NdR (fW W):=ur [] nodup_nil W
theorem oJ(b:Rws):∀(W:Rws) (k:List Int),k∈(W.foldl (λb w=>cC w.1 w.2 b) b).map (·.1)↔k∈b.map (·.1)\/k∈W.map (·.1):=by
 intro W
 induction W generalizing b with
 | nil=>intro k;simp
 | cons w W ih =>
  intro k;rw[foldl_cons,ih,hZ,map_cons,mem_cons]
  split
  .rename_i h
   constructor
   .rintro(a | a)
    .exact .inl a
    .exact .inr (.inr a)
   .rintro(a | a | a)
    .exact .inl a
    .exact .inl (by rw[a];exact h)
    .exact .inr a
  .rw[mem_append,mem_singleton]
   constructor
   .rintro((a | a) | a)
    .exact .inl a
    .exact .inr (.inl a)
    .exact .inr (.inr a)
   .rintro(a | a | a)
    .exact .inl (.inl a)
    .exact .inl (.inr a)
    .exact .inr a
theorem rS(W:Rws)(k:List Int):k∈(fW W).map (·.1)↔k∈W.map (·.1):=by
 unfold fW;rw[oJ];simp
theorem nv{b:Rws}(a:NdR b):∀ x∈b,cW b x.1=x.2:=by
 induction b with
 | nil=>intro x hx;cases hx
 | cons y r ih =>
  intro x hx;unfold NdR at a;rw[map_cons,nodup_cons]at a;rw[bc]
  rcases mem_cons.mp hx with rfl | hx
  .rw[if_pos rfl,ww a.1];grind
  .have e:=ih a.2 x hx
   rw[if_neg (λz=>a.1 (by rw[z];exact mem_map.mpr ⟨x,hx,rfl⟩)),e];grind
abbrev Grp:=List (List Int×List (Int×Int))
def pushG(k:List Int)(c:Int×Int):Grp->Grp
 | []=>[(k,[c])]
 | x::r=>if x.1=k then (k,x.2++[c])::r else x::pushG k c r
def grp(W:List Way):Grp:=W.foldl (λg w=>pushG w.1 w.2 g) []
def qv(c:Int×Int):Rat:=(c.1:Rat)/(c.2:Rat)
def sumQ(l:List (Int×Int)):Rat:=(l.map qv).sum
def rat(g:Grp):Rws:=g.map λx=>(x.1,sumQ x.2)
def toR(W:List Way):Rws:=W.map λw=>(w.1,qv w.2)
theorem nH(k:List Int)(c:Int×Int):∀ g:Grp,rat (pushG k c g)=cC k (qv c) (rat g)
 | []=>by
  show [(k,sumQ [c])]=[(k,qv c)];unfold sumQ;simp only[map_cons,map_nil,sum_cons,sum_nil];have:qv c+0=qv c:=by grind
  rw[this]
 | x::r=>by
  rw[pushG]
  by_cases h:x.1=k
  .rw[if_pos h]
   show(k,sumQ (x.2++[c]))::rat r=cC k (qv c) ((x.1,sumQ x.2)::rat r);rw[cC,if_pos h];have:sumQ (x.2++[c])=sumQ x.2+qv c:=by unfold sumQ;rw[map_append,sum_append];simp only[map_cons,map_nil,sum_cons,sum_nil];grind
   rw[this]
  .rw[if_neg h]
   show(x.1,sumQ x.2)::rat (pushG k c r)=cC k (qv c) ((x.1,sumQ x.2)::rat r);rw[cC,if_neg h,nH k c r]
theorem wj(g:Grp):∀ W:List Way,rat (W.foldl (λg w=>pushG w.1 w.2 g) g)=(toR W).foldl (λst w=>cC w.1 w.2 st) (rat g):=by
 intro W
 induction W generalizing g with
 | nil=>rfl
 | cons w W ih =>
  rw[foldl_cons,ih,nH];rfl
theorem rat_grp(W:List Way):rat (grp W)=fW (toR W):=wj [] W
theorem grp_snoc{W:List Way}{i:Nat}{w:Way}(h:W[i]? = some w):grp (W.take (i+1))=pushG w.1 w.2 (grp (W.take i)):=by
 unfold grp;rw[take_add_one,h,List.foldl_append];rfl
mutual
def wf:Tr->Rat->Rws
 | .leaf ns,q=>[(ns,q)]
 | .die ps,q=>wfs ps q (tot ps)
def wfs:List (Int×Tr)->Rat->Int->Rws
 | [],_,_=>[]
 | (m,u)::r,q,S=>wf u (q*((m:Rat)/(S:Rat)))++wfs r q S
end
theorem y6{a b m S:Int}(c:b≠0)(g:S≠0):qv (a*m,b*S)=qv (a,b)*((m:Rat)/(S:Rat)):=by
 unfold qv;have f:(b:Rat)≠0:=by exact_mod_cast c
 have d:(S:Rat)≠0:=by exact_mod_cast g
 simp only[Rat.intCast_mul]
 grind
theorem fO:∀{ps:List (Int×Tr)},Oks ps->(ps.length:Int)<=tot ps
 | [],_=>by simp[tot]
 | (m,u)::r,h=>by
  rw[Oks]at h;have:=fO h.2.2;unfold tot at *;rw[map_cons,sum_cons,length_cons];have:=h.1;show((r.length+1:Nat):Int)<=m+_;lia
mutual
theorem yj:∀(t:Tr) (a b:Int),Ok t->0<b->(toR (wl t a b)).Perm (wf t (qv (a,b)))
 | .leaf ns,a,b,_,_=>by rw[wl,wf];exact .refl _
 | .die ps,a,b,h,hb=>by
  rw[Ok]at h;rw[wl,wf];have:=fO h.2;have:0<ps.length:=length_pos_iff.mpr h.1;exact uN ps a b (tot ps) h.2 hb (by lia)
theorem uN:∀(ps:List (Int×Tr)) (a b S:Int),Oks ps->0<b->0<S->(toR (wls ps a b S)).Perm (wfs ps (qv (a,b)) S)
 | [],_,_,_,_,_,_=>by rw[wls,wfs];exact .refl _
 | (m,u)::r,a,b,S,h,hb,hS=>by
  rw[Oks]at h;rw[wls,wfs];have e:toR (wls r a b S++wl u (a*m) (b*S))=toR (wls r a b S)++toR (wl u (a*m) (b*S)):=by unfold toR;rw[map_append]
  rw[e,<- y6 (by lia) (by lia)];exact(List.perm_append_comm).trans ((yj u _ _ h.2.1 (Int.mul_pos hb hS)).append (uN r a b S h.2.2 hb hS))
end
end Tb
namespace LexM
def aE:List Int->List Int->Bool
 | [],[]=>false
 | [],_::_=>true
 | _::_,[]=>false
 | x::xs,y::ys=>if x=y then aE xs ys else decide (x<y)
theorem lK:∀ a,aE a a=false
 | []=>rfl
 | x::xs=>by rw[aE,if_pos rfl];exact lK xs
theorem jZ:∀ a b,aE a b=true->aE b a=false
 | [],[],h=>by cases h
 | [],_::_,_=>rfl
 | _::_,[],h=>by cases h
 | x::xs,y::ys,h=>by
  rw[aE]at h ⊢
  by_cases e:x=y
  .rw[if_pos e]at h;rw[if_pos e.symm];exact jZ xs ys h
  .rw[if_neg e]at h;rw[if_neg (λz=>e z.symm)]
   have:=of_decide_eq_true h;exact decide_eq_false (by omega)
theorem mF:∀ a b,a≠b->aE a b=true\/aE b a=true
 | [],[],h=>absurd rfl h
 | [],_::_,_=>.inl rfl
 | _::_,[],_=>.inr rfl
 | x::xs,y::ys,h=>by
  rw[aE,aE]
  by_cases e:x=y
  .rw[if_pos e,if_pos e.symm]
   exact mF xs ys λz=>h (by rw[e,z])
  .rw[if_neg e,if_neg (λz=>e z.symm)]
   rcases Int.lt_or_gt_of_ne e with z | z
   .exact .inl (decide_eq_true z)
   .exact .inr (decide_eq_true z)
theorem iz:∀ a b c,aE a b=true->aE b c=true->aE a c=true
 | [],[],_,h,_=>by cases h
 | [],_::_,[],_,h=>by cases h
 | [],_::_,_::_,_,_=>rfl
 | _::_,[],_,h,_=>by cases h
 | _::_,_::_,[],_,h=>by cases h
 | x::xs,y::ys,z::zs,h,k=>by
  rw[aE]at h k ⊢
  by_cases e:x=y
  .rw[if_pos e]at h
   by_cases e2:y=z
   .rw[if_pos e2]at k;rw[if_pos (e.trans e2)];exact iz xs ys zs h k
   .rw[if_neg e2]at k;rw[if_neg (λq=>e2 (by omega))]
    have:=of_decide_eq_true k;exact decide_eq_true (by omega)
  .rw[if_neg e]at h
   have h:=of_decide_eq_true h
   by_cases e2:y=z
   .rw[if_neg (by omega)];exact decide_eq_true (by omega)
   .rw[if_neg e2]at k
    have k:=of_decide_eq_true k;rw[if_neg (by omega)];exact decide_eq_true (by omega)
end LexM
namespace Tb
open FrM Du LexM
def so(l:List Int):List Int:=l.mergeSort (λa b=>decide (a<=b))
theorem so_perm(l:List Int):(so l).Perm l:=List.mergeSort_perm l _
theorem zA(l:List Int):(so l).Pairwise (·<=·):=by
 have h:=List.pairwise_mergeSort (le:=λ(a b:Int)=>decide (a<=b)) (by intro a b c h1 h2;simp at *;lia) (by intro a b;simp;lia) l;exact h.imp λh=>by simpa using h
theorem qB:∀{a b:List Int},a.Perm b->a.Pairwise (·<=·)->b.Pairwise (·<=·)->a=b
 | [],b,p,_,_=>(List.nil_perm.mp p).symm ▸ rfl
 | x::a,[],p,_,_=>absurd p.length_eq (by simp)
 | x::a,y::b,p,h1,h2=>by
  rw[pairwise_cons]at h1 h2
  have e:x=y:=by
   have c:x∈y::b:=p.mem_iff.mp mem_cons_self;have d:y∈x::a:=p.mem_iff.mpr mem_cons_self
   rcases mem_cons.mp c with z | z
   .exact z
   .rcases mem_cons.mp d with z' | z'
    .exact z'.symm
    .have:=h2.1 x z
     have:=h1.1 y z';lia
  subst e;rw[qB (List.perm_cons x |>.mp p) h1.2 h2.2]
theorem so_uniq{a l:List Int}(h:a.Perm l)(s:a.Pairwise (·<=·)):a=so l:=qB (h.trans (so_perm l).symm) s (zA l)
def kW(W:List Way):List Way:=W.map λw=>(so w.1,w.2)
def kR(W:Rws):Rws:=W.map λw=>(so w.1,w.2)
theorem zj(W:List Way):toR (kW W)=kR (toR W):=by unfold toR kW kR;rw[map_map,map_map];rfl
def kt(t:Tr):Rws:=kR (wf t 1)
theorem i7{t:Tr}(h:Ok t):(toR (kW (wl t 1 1))).Perm (kt t):=by
 rw[zj];have:=yj t 1 1 h (by decide);have e:qv (1,1)=1:=by unfold qv;grind
 rw[e]at this;exact this.map _
structure IsTab(W R:Rws):Prop where
 pm:R.Perm (fW W)
 up:(R.map (·.1)).Pairwise λa b=>aE a b=true
theorem kY:∀{a b:List (List Int)},(a.Pairwise λx y=>aE x y=true)->(b.Pairwise λx y=>aE x y=true)->(∀ x,x∈a↔x∈b)->a=b
 | [],[],_,_,_=>rfl
 | [],y::b,_,_,h=>absurd ((h y).mpr mem_cons_self) (by simp)
 | x::a,[],_,_,h=>absurd ((h x).mp mem_cons_self) (by simp)
 | x::a,y::b,h1,h2,h=>by
  rw[pairwise_cons]at h1 h2
  have e:x=y:=by
   rcases mem_cons.mp ((h x).mp mem_cons_self) with z | z
   .exact z
   .rcases mem_cons.mp ((h y).mpr mem_cons_self) with z' | z'
    .exact z'.symm
    .have d:=jZ _ _ (h2.1 x z)
     rw[h1.1 y z']at d;cases d
  subst e
  have:a=b:=kY h1.2 h2.2 λz=>by
   have c:=h z;rw[mem_cons,mem_cons]at c
   constructor
   .intro m
    rcases c.mp (.inr m) with e | e
    .have:=h1.1 z m;rw[e,lK]at this;cases this
    .exact e
   .intro m
    rcases c.mpr (.inr m) with e | e
    .have:=h2.1 z m;rw[e,lK]at this;cases this
    .exact e
  rw[this]
theorem IsTab.keys{W R:Rws}(h:IsTab W R)(k:List Int):k∈R.map (·.1)↔k∈W.map (·.1):=by
 rw[<- rS W k];exact(h.pm.map _).mem_iff
theorem IsTab.val{W R:Rws}(h:IsTab W R){x:List Int×Rat}(a:x∈R):x.2=cW W x.1:=by
 rw[<- kN,nv (gD W) x (h.pm.mem_iff.mp a)]
theorem IsTab.eqv{W R:Rws}(h:IsTab W R):R=(R.map (·.1)).map λk=>(k,cW W k):=by
 rw[map_map]
 have:∀ x∈R,x=((λk=>(k,cW W k)) ∘ λx=>x.1) x:=λx hx=>by
  show x=(x.1,cW W x.1);rw[<- h.val hx]
 conv=>lhs;rw[<- map_id R]
 exact map_congr_left this
theorem IsTab.uniq{W b R a:Rws}(p:W.Perm b)(h:IsTab W R)(h':IsTab b a):R=a:=by
 have e:R.map (·.1)=a.map (·.1):=kY h.up h'.up λk=>by rw[h.keys,h'.keys];exact(p.map _).mem_iff
 rw[h.eqv,h'.eqv,e];exact map_congr_left λk _=>by rw[kG p]
theorem tab_of{g:Rws}{o:List Nat}(x:NdR g)(l:o.Perm (List.range g.length))(B:o.Pairwise λi j=>aE ((g.map (·.1)).getD j []) ((g.map (·.1)).getD i [])=false) :
  (o.map λi=>g.getD i ([],0)).Perm g/\((o.map λi=>g.getD i ([],0)).map (·.1)).Pairwise λa b=>aE a b=true:=by
 constructor
 .have e:(List.range g.length).map (λi=>g.getD i ([],0))=g:=by
   apply List.ext_getElem
   .simp
   .intro i n s
    rw[getElem_map,List.getElem_range,List.getD,List.getElem?_eq_getElem s];rfl
  have:=l.map λi=>g.getD i ([],0)
  rw[e]at this;exact this
 .have w:o.Nodup:=l.nodup_iff.mpr nodup_range
  rw[map_map,pairwise_map];have c:=B.and w;refine List.Pairwise.imp_of_mem (λ{i j} q u h=>?_) c;have f:i<g.length:=mem_range.mp (l.mem_iff.mp q);have k:j<g.length:=mem_range.mp (l.mem_iff.mp u);have r:(g.map (·.1)).getD i []=(g.getD i ([],0)).1:=by simp[List.getD,f]
  have A:(g.map (·.1)).getD j []=(g.getD j ([],0)).1:=by simp[List.getD,k]
  rw[r,A]at h
  have v:(g.getD i ([],0)).1≠(g.getD j ([],0)).1:=λe=>by
   have p:(g.map (·.1))[i]'(by simpa using f)=(g.map (·.1))[j]'(by simpa using k):=by
    simp[List.getD,f,k]at e;simpa using e
   have d:∀ i j (f:i<(g.map (·.1)).length) (k:j<(g.map (·.1)).length),i<j->(g.map (·.1))[i]≠(g.map (·.1))[j]:=pairwise_iff_getElem.mp x
   rcases Nat.lt_trichotomy i j with y | y | y
   .exact d i j _ _ y p
   .exact h.2 y
   .exact d j i _ _ y p.symm
  rcases mF _ _ v with z | z
  .exact z
  .have n:=h.1
   rw[z]at n;cases n
abbrev sm(W:Rws):Rat:=(W.map (·.2)).sum
def pm(p:List Int->Bool)(W:Rws):Rat:=(W.map λx=>if p x.1=true then x.2 else 0).sum
def Nn(D:Nat)(x:Rat):Prop:=0<=x/\∃ n:Nat,x*(D:Rat)=(n:Rat)
theorem Nn.add{D:Nat}{x y:Rat}(h:Nn D x)(h':Nn D y):Nn D (x+y):=by
 obtain⟨a,n,e⟩:=h;obtain⟨b,m,f⟩:=h';refine⟨by grind,n+m,?_⟩
 push_cast
 grind
theorem Nn.zero{D:Nat}:Nn D 0:=⟨by grind,0,by grind⟩
structure Gd(D:Nat)(W:Rws):Prop where
 nn:∀ x∈W,Nn D x.2
 le:sm W<=1
theorem kC{D:Nat}:∀{W:Rws},(∀ x∈W,Nn D x.2)->Nn D (sm W)
 | [],_=>by show Nn D 0;exact Nn.zero
 | x::W,h=>by
  show Nn D (x.2+sm W);exact(h x mem_cons_self).add (kC λy a=>h y (mem_cons_of_mem _ a))
theorem o5(A B:Rws):sm (A++B)=sm A+sm B:=by unfold sm;rw[map_append,sum_append]
theorem rh{D:Nat}{p:List Int->Bool}:∀{W:Rws}{i:Nat},(∀ x∈W,Nn D x.2)->Nn D (pm p (W.take i))/\pm p (W.take i)<=sm W
 | [],i,_=>by
  rw[List.take_nil];exact⟨(show Nn D 0 from Nn.zero),(show(0:Rat)<=0 by grind)⟩
 | x::W,0,h=>by
  have:=(kC h).1;exact⟨(show Nn D 0 from Nn.zero),(show(0:Rat)<=sm (x::W) from this)⟩
 | x::W,i+1,h=>by
  have c:=h x mem_cons_self;obtain⟨a,b⟩:=rh (p:=p) (i:=i) λy hy=>h y (mem_cons_of_mem _ hy)
  rw[List.take_succ_cons];have e:pm p (x::W.take i)=(if p x.1=true then x.2 else 0)+pm p (W.take i):=by unfold pm;rw[map_cons,sum_cons]
  have d:sm (x::W)=x.2+sm W:=by unfold sm;rw[map_cons,sum_cons]
  rw[e,d];have:=c.1
  split
  .exact⟨c.add a,by grind⟩
  .exact⟨Nn.zero.add a,by grind⟩
theorem Gd.pm{D:Nat}{W:Rws}(h:Gd D W)(p:List Int->Bool)(i:Nat):Bq D (Tb.pm p (W.take i)):=by
 obtain⟨⟨a,n⟩,b⟩:=rh (p:=p) (i:=i) h.nn;have:=h.le;exact⟨a,by grind,n⟩
theorem Gd.pmA{D:Nat}{W:Rws}(h:Gd D W)(p:List Int->Bool):Bq D (Tb.pm p W):=by
 have:=h.pm p W.length;rwa [take_length]at this
theorem Gd.left{D:Nat}{A B:Rws}(h:Gd D (A++B)):Gd D A:=by
 refine⟨λx a=>h.nn x (mem_append_left _ a),?_⟩;have b:=h.le;rw[o5]at b;have:=(kC (D:=D) (W:=B) λx a=>h.nn x (mem_append_right _ a)).1
 grind
theorem Gd.right{D:Nat}{A B:Rws}(h:Gd D (A++B)):Gd D B:=by
 refine⟨λx a=>h.nn x (mem_append_right _ a),?_⟩;have b:=h.le;rw[o5]at b;have:=(kC (D:=D) (W:=A) λx a=>h.nn x (mem_append_left _ a)).1
 grind
theorem Gd.sm{D:Nat}{W:Rws}(h:Gd D W):Bq D (Tb.sm W):=⟨(kC h.nn).1,h.le,(kC h.nn).2⟩
theorem Gd.one{D:Nat}{W:Rws}(h:Gd D W){x:List Int×Rat}(b:x∈W):Bq D x.2:=by
 obtain⟨A,B,rfl⟩:=List.append_of_mem b;have c:=h.right;have a:Gd D ([x]++B):=c;have:=a.left.sm;have e:Tb.sm [x]=x.2:=by show x.2+0=x.2;grind
 rw[e]at this;exact this
theorem mE{W:Rws}{k:List Int}:cW W k=pm (λy=>decide (y=k)) W:=by
 induction W with
 | nil=>rfl
 | cons w W ih =>
  rw[bc,ih];have e:pm (λy=>decide (y=k)) (w::W)=(if decide (w.1=k)=true then w.2 else 0)+pm (λy=>decide (y=k)) W:=by unfold pm;rw[map_cons,sum_cons]
  rw[e]
  by_cases h:w.1=k
  .rw[if_pos h,if_pos (decide_eq_true h)]
  .rw[if_neg h,if_neg (by simp[h])]
theorem qy{A B:Rws}(h:A.Perm B):sm A=sm B:=by
 induction h with
 | nil=>rfl
 | @cons x l1 l2 _ ih=>show x.2+sm l1=x.2+sm l2;rw[ih]
 | swap x y l=>show y.2+(x.2+sm l)=x.2+(y.2+sm l);grind
 | trans _ _ a b=>rw[a,b]
theorem qL(k:List Int)(m:Rat):∀ st:Rws,sm (cC k m st)=sm st+m
 | []=>by show m+0=0+m;grind
 | x::r=>by
  rw[cC]
  split
  .show(x.2+m)+sm r=x.2+sm r+m;grind
  .show x.2+sm (cC k m r)=x.2+sm r+m;rw[qL k m r];grind
theorem xV(a:Rws):∀ W:Rws,sm (W.foldl (λa w=>cC w.1 w.2 a) a)=sm a+sm W:=by
 intro W
 induction W generalizing a with
 | nil=>show _=sm a+0;rw[List.foldl_nil];grind
 | cons w W ih=>rw[foldl_cons,ih,qL];show _=sm a+(w.2+sm W);grind
theorem xm(W:Rws):sm (fW W)=sm W:=by unfold fW;rw[xV];show(0:Rat)+_=_;grind
theorem IsTab.sm{W R:Rws}(h:IsTab W R):Tb.sm R=Tb.sm W:=by rw[qy h.pm,xm]
theorem IsTab.gd{D:Nat}{W R:Rws}(h:IsTab W R)(g:Gd D W):Gd D R:=by
 refine⟨λx a=>?_,by rw[h.sm];exact g.le⟩;rw[h.val a,mE];have:=g.pmA λy=>decide (y=x.1)
 exact⟨this.1,this.2.2⟩
theorem AY(W:Rws):sm (kR W)=sm W:=by unfold sm kR;rw[map_map];rfl
mutual
def dn:Tr->Nat
 | .leaf _=>1
 | .die ps=>(tot ps).toNat*dns ps
def dns:List (Int×Tr)->Nat
 | []=>1
 | (_,u)::r=>dn u*dns r
end
theorem o3{D E:Nat}{x:Rat}(h:Nn D x):Nn (D*E) x:=by
 obtain⟨a,n,e⟩:=h;refine⟨a,n*E,?_⟩
 push_cast
 grind
mutual
theorem yu:∀(t:Tr) (q:Rat) (E:Nat),Ok t->Nn E q->(∀ x∈wf t q,Nn (E*dn t) x.2)/\sm (wf t q)=q
 | .leaf ns,q,E,_,h=>by
  rw[wf,dn];refine⟨λx c=>?_,?_⟩
  .rw[mem_singleton.mp c];exact o3 h
  .show q+0=q;grind
 | .die ps,q,E,h,hq=>by
  rw[Ok]at h;have i:=fO h.2;have g:0<ps.length:=length_pos_iff.mpr h.1;have f:0<tot ps:=by lia
  obtain⟨a,b⟩:=uH ps q E (tot ps) h.2 f hq;rw[wf,dn];refine⟨λx c=>?_,?_⟩
  .have:=a x c
   rwa [Nat.mul_assoc]at this
  .rw[b]
   have d:((tot ps:Int):Rat)≠0:=by have:tot ps≠0:=(by lia);exact_mod_cast this
   grind
theorem uH:∀(ps:List (Int×Tr)) (q:Rat) (E:Nat) (S:Int),Oks ps->0<S->Nn E q->(∀ x∈wfs ps q S,Nn (E*S.toNat*dns ps) x.2)/\sm (wfs ps q S)=q*((tot ps:Rat)/(S:Rat))
 | [],q,E,S,_,hS,_=>by
  rw[wfs];refine⟨(λx hx=>by cases hx),?_⟩;show(0:Rat)=q*(((0:Int):Rat)/(S:Rat))
  grind
 | (m,u)::r,q,E,S,h,hS,hq=>by
  rw[Oks]at h;rw[wfs,dns];have d:(S:Rat)≠0:=by have:S≠0:=(by lia);exact_mod_cast this
  have p:((S.toNat:Nat):Rat)=(S:Rat):=by
   have:((S.toNat:Nat):Int)=S:=by lia
   exact_mod_cast this
  have g:Nn (E*S.toNat) (q*((m:Rat)/(S:Rat))):=by
   obtain⟨a,n,e⟩:=hq;refine⟨?_,n*m.toNat,?_⟩
   .have f:(0:Rat)<=(m:Rat):=by have:(0:Int)<=m:=(by lia);exact_mod_cast this
    have i:(0:Rat)<(S:Rat):=by exact_mod_cast hS
    have l:(0:Rat)<=(S:Rat)⁻¹:=by have:=Rat.inv_pos.mpr i;grind
    rw[Rat.div_def];exact mI a (mI f l)
   .have b:((m.toNat:Nat):Rat)=(m:Rat):=by
     have:((m.toNat:Nat):Int)=m:=by lia
     exact_mod_cast this
    push_cast
    rw[p,b]
    grind
  obtain⟨j,c⟩:=yu u _ (E*S.toNat) h.2.1 g;obtain⟨s,k⟩:=uH r q E S h.2.2 hS hq;refine⟨λx hx=>?_,?_⟩
  .rcases mem_append.mp hx with hx | hx
   .have:=o3 (E:=dns r) (j x hx)
    rwa [Nat.mul_assoc]at this
   .have:=o3 (E:=dn u) (s x hx)
    rwa [Nat.mul_assoc,Nat.mul_comm (dns r)]at this
  .rw[o5,c,k]
   have o:tot ((m,u)::r)=m+tot r:=by unfold tot;rw[map_cons,sum_cons]
   rw[o]
   push_cast
   grind
end
theorem BD{t:Tr}(h:Ok t):Gd (dn t) (kt t)/\sm (kt t)=1:=by
 obtain⟨a,b⟩:=yu t 1 1 h ⟨by grind,1,by grind⟩;rw[Nat.one_mul]at a;have e:sm (kt t)=1:=by unfold kt;rw[AY,b]
 refine⟨⟨λx d=>?_,by rw[e];grind⟩,e⟩;obtain⟨y,c,rfl⟩:=mem_map.mp d;exact a y c
mutual
theorem dn_pos:∀ t:Tr,Ok t->0<dn t
 | .leaf _,_=>by rw[dn];decide
 | .die ps,h=>by
  rw[Ok]at h;have a:=fO h.2;have b:0<ps.length:=length_pos_iff.mpr h.1;rw[dn];exact Nat.mul_pos (by lia) (nN ps h.2)
theorem nN:∀ ps:List (Int×Tr),Oks ps->0<dns ps
 | [],_=>by rw[dns];decide
 | (m,u)::r,h=>by rw[Oks]at h;rw[dns];exact Nat.mul_pos (dn_pos u h.2.1) (nN r h.2.2)
end
structure Ch(D:Int)(c:Int×Int):Prop where
 t0:0<=c.1
 le:c.1<=c.2
 b0:0<c.2
 dv:c.2 ∣ D
mutual
theorem vB:∀(t:Tr) (a b E:Int),Ok t->0<=a->a<=b->0<b->b ∣ E->∀ w∈wl t a b,Ch (E*(dn t:Nat)) w.2
 | .leaf ns,a,b,E,_,h0,h1,h2,h3,w,hw=>by
  rw[wl]at hw;rw[mem_singleton.mp hw];exact⟨h0,h1,h2,Int.dvd_mul_of_dvd_left h3⟩
 | .die ps,a,b,E,h,h0,h1,h2,h3,w,hw=>by
  rw[Ok]at h;have f:=fO h.2;have d:0<ps.length:=length_pos_iff.mpr h.1;rw[wl]at hw;rw[dn];have:=uL ps a b E (tot ps) h.2 h0 h1 h2 h3 (by lia) (λp c=>qx h.2 c) w hw;have e:(((tot ps).toNat*dns ps:Nat):Int)=tot ps*(dns ps:Nat):=by push_cast;rw[Int.toNat_of_nonneg (by lia)]
  rw[e,<- Int.mul_assoc];exact this
theorem uL:∀(ps:List (Int×Tr)) (a b E S:Int),Oks ps->0<=a->a<=b->0<b->b ∣ E->0<S->(∀ p∈ps,p.1<=S)->∀ w∈wls ps a b S,Ch (E*S*(dns ps:Nat)) w.2
 | [],_,_,_,_,_,_,_,_,_,_,_,w,hw=>by rw[wls]at hw;cases hw
 | (m,u)::r,a,b,E,S,h,h0,h1,h2,h3,hS,hm,w,hw=>by
  rw[Oks]at h;rw[wls]at hw;rw[dns];have c:m<=S:=hm _ mem_cons_self
  rcases mem_append.mp hw with hw | hw
  .have:=uL r a b E S h.2.2 h0 h1 h2 h3 hS (λp d=>hm p (mem_cons_of_mem _ d)) w hw
   refine⟨this.t0,this.le,this.b0,?_⟩
   push_cast
   have e:E*S*((dn u:Int)*(dns r:Int))=E*S*(dns r:Int)*(dn u:Int):=by rw[Int.mul_comm (dn u:Int),<- Int.mul_assoc]
   rw[e];exact Int.dvd_mul_of_dvd_left this.dv
  .have:=vB u (a*m) (b*S) (E*S) h.2.1 (Int.mul_nonneg h0 (by lia)) (Int.mul_le_mul h1 c (by lia) (by lia)) (Int.mul_pos h2 hS) (Int.mul_dvd_mul h3 (Int.dvd_refl S)) w hw
   refine⟨this.t0,this.le,this.b0,?_⟩
   push_cast
   rw[<- Int.mul_assoc];exact Int.dvd_mul_of_dvd_left this.dv
theorem qx:∀{ps:List (Int×Tr)},Oks ps->∀{p:Int×Tr},p∈ps->p.1<=tot ps
 | (m,u)::r,h,p,hp=>by
  rw[Oks]at h;have a:tot ((m,u)::r)=m+tot r:=by unfold tot;rw[map_cons,sum_cons]
  rw[a];have:=fO h.2.2
  rcases mem_cons.mp hp with rfl | hp
  .show m<=_;lia
  .have:=qx h.2.2 hp
   have:=h.1;lia
end
theorem lcm_step{r n D:Int}(p:0<r)(f:0<n)(s:r ∣ D)(k:n ∣ D):0<r/(Int.gcd r n:Int)*n/\r ∣ r/(Int.gcd r n:Int)*n/\n ∣ r/(Int.gcd r n:Int)*n/\r/(Int.gcd r n:Int)*n ∣ D:=by
 have x:0<Int.gcd r n:=Int.gcd_pos_of_ne_zero_right _ (by lia);have u:(0:Int)<(Int.gcd r n:Int):=by lia
 obtain⟨c,d⟩:=Int.gcd_dvd_left (a:=r) (b:=n);obtain⟨e,q⟩:=Int.gcd_dvd_right (a:=r) (b:=n)
 have j:r/(Int.gcd r n:Int)=c:=by
  have:=Int.mul_ediv_cancel_left c (show(Int.gcd r n:Int)≠0 by lia);rw[<- d]at this;exact this
 have w:0<c:=by
  rcases Int.lt_or_le 0 c with h | h
  .exact h
  .have:=Int.mul_nonpos_of_nonneg_of_nonpos (Int.le_of_lt u) h;lia
 rw[j];refine⟨Int.mul_pos w f,⟨e,?_⟩,⟨c,Int.mul_comm _ _⟩,?_⟩
 .rw[d]
  conv=>lhs;rw[q]
  generalize (Int.gcd r n:Int)=g;rw[<- Int.mul_assoc,Int.mul_comm c g]
 .have l:(Int.lcm r n:Int) ∣ D:=by
   have:=Nat.lcm_dvd (Int.natAbs_dvd_natAbs.mpr s) (Int.natAbs_dvd_natAbs.mpr k);exact Int.natAbs_dvd_natAbs.mp (by rw[Int.natAbs_natCast];exact this)
  have o:(Int.lcm r n:Int)=c*n:=by
   have:=Int.gcd_mul_lcm r n
   have v:(Int.gcd r n:Int)*(Int.lcm r n:Int)=r*n:=by
    have h:((Int.gcd r n*Int.lcm r n:Nat):Int)=((r*n).natAbs:Int):=by rw[this,Int.natAbs_mul]
    rw[Int.natCast_mul]at h;have:=Int.mul_pos p f;lia
   have i:(Int.gcd r n:Int)*(Int.lcm r n:Int)=(Int.gcd r n:Int)*(c*n):=by
    rw[v,<- Int.mul_assoc,<- d]
   exact Int.eq_of_mul_eq_mul_left (by lia) i
  rw[<- o];exact l
theorem qX{L t b:Int}(f:0<L)(d:0<b)(h:b ∣ L):((t*(L/b):Int):Rat)=qv (t,b)*(L:Rat):=by
 obtain⟨c,rfl⟩:=h;rw[Int.mul_ediv_cancel_left c (by lia)];have a:(b:Rat)≠0:=by have:b≠0:=(by lia);exact_mod_cast this
 unfold qv
 push_cast
 grind
theorem top_sum{L:Int}(a:0<L):∀{fs:List (Int×Int)},(∀ f∈fs,0<f.2/\f.2 ∣ L)->(((fs.map λf=>f.1*(L/f.2)).sum:Int):Rat)=sumQ fs*(L:Rat)
 | [],_=>by show((0:Int):Rat)=0*_;grind
 | f::fs,h=>by
  have b:=qX (t:=f.1) a (h f mem_cons_self).1 (h f mem_cons_self).2;have d:=top_sum a λx c=>h x (mem_cons_of_mem _ c)
  rw[map_cons,sum_cons,Rat.intCast_add,b,d];have e:sumQ (f::fs)=qv (f.1,f.2)+sumQ fs:=by unfold sumQ;rw[map_cons,sum_cons]
  rw[e]
  grind
theorem low_tops{L T:Int}{q:Rat}(b:0<L)(e:(T:Rat)=q*(L:Rat)):jT T L=fr q:=by
 rw[xy T b,e];have a:(L:Rat)≠0:=by have:L≠0:=(by lia);exact_mod_cast this
 congr 1
 grind
theorem Au(q:Rat):qv (fr q)=q:=by
 unfold qv fr;have:=Rat.num_divInt_den q;rw[Rat.divInt_eq_div]at this;exact this
theorem bq_bt{D:Nat}{q:Rat}(f:0<D)(h:Bq D q):0<=q.num/\q.num<=(q.den:Int)/\(0:Int)<q.den/\(q.den:Int) ∣ (D:Int):=by
 obtain⟨j,i,n,e⟩:=h;have g:q*(D:Rat)=((n:Int):Rat):=by rw[e];rfl
 have k:=AC f g;have l:=kr (n:Int) (show D≠0 by lia);rw[<- k]at l;have d:(jT (n:Int) (D:Int)).2=(q.den:Int):=by rw[l];rfl
 have c:(D:Int)/(Int.gcd (n:Int) (D:Int):Int)=(q.den:Int):=d;refine⟨Rat.num_nonneg.mpr j,?_,by have:=q.den_pos;lia,?_⟩
 .have:q<=1:=i
  rw[Rat.le_iff]at this;simpa using this
 .rw[<- c]
  exact Int.ediv_dvd_of_dvd (Int.gcd_dvd_right (a:=(n:Int)) (b:=(D:Int)))
def Lm2:Nat:=2 ^ 2720
theorem bt_of{D:Nat}{i:Int}(c:0<D)(a:D<=Lm2)(b:0<=i)(h:i<=(D:Int)):Bt 2721 i:=by
 unfold Bt;have e:(2:Nat) ^ 2721=Lm2*2:=by unfold Lm2;exact Nat.pow_succ 2 2720
 rw[e];have:0<Lm2:=by unfold Lm2;exact Nat.pow_pos (by decide)
 lia
theorem bq_bb{D:Nat}{q:Rat}(f:0<D)(g:D<=Lm2)(h:Bq D q):Bt 2721 q.num/\Bt 2721 (q.den:Int):=by
 obtain⟨a,b,c,d⟩:=bq_bt f h;have:=Int.le_of_dvd (by lia) d;exact⟨bt_of f g a (by lia),bt_of f g (by lia) this⟩
theorem ch_bt{D:Nat}{c:Int×Int}(b:0<D)(a:D<=Lm2)(h:Ch (D:Int) c):Bt 2721 c.1/\Bt 2721 c.2:=by
 have:=Int.le_of_dvd (by lia) h.dv;have:=h.le;have:=h.b0;exact⟨bt_of b a h.t0 (by lia),bt_of b a (by lia) (by lia)⟩
mutual
def Dp:Nat->Tr->Prop
 | _,.leaf ns=>ns.Nodup/\ns.length<=6
 | 0,.die _=>False
 | d+1,.die ps=>1<=ps.length/\ps.length<=4/\Dps d ps
def Dps:Nat->List (Int×Tr)->Prop
 | _,[]=>True
 | d,(m,u)::r=>1<=m/\m<=1000000000/\Dp d u/\Dps d r
end
mutual
theorem wb:∀(t:Tr) (a b:Int),Ok t->∀ w∈wl t a b,w.1.Nodup/\w.1.length<=24
 | .leaf ns,a,b,h,w,hw=>by rw[wl]at hw;rw[Ok]at h;rw[mem_singleton.mp hw];exact h
 | .die ps,a,b,h,w,hw=>by rw[wl]at hw;rw[Ok]at h;exact qb ps a b _ h.2 w hw
theorem qb:∀(ps:List (Int×Tr)) (a b S:Int),Oks ps->∀ w∈wls ps a b S,w.1.Nodup/\w.1.length<=24
 | [],_,_,_,_,w,hw=>by rw[wls]at hw;cases hw
 | (m,u)::r,a,b,S,h,w,hw=>by
  rw[Oks]at h;rw[wls]at hw
  rcases mem_append.mp hw with hw | hw
  .exact qb r a b S h.2.2 w hw
  .exact wb u _ _ h.2.1 w hw
end
theorem mU{k:List Int}{c:Int×Int}:∀ g:Grp,(pushG k c g).length<=g.length+1
 | []=>by rw[pushG];simp
 | y::r=>by
  rw[pushG]
  split
  .simp
  .rw[length_cons,length_cons];have:=mU (k:=k) (c:=c) r;lia
def Gk(W:List Way)(n:Nat)(g:Grp):Prop:=g.length<=n/\∀ x∈g,x.2.length<=n/\∀ c∈x.2,∃ w∈W,w.2=c
theorem Gk.push{W:List Way}{n:Nat}{g:Grp}(h:Gk W n g){w:Way}(b:w∈W):Gk W (n+1) (pushG w.1 w.2 g):=by
 refine⟨Nat.le_trans (mU g) (by have:=h.1;lia),λx hx=>?_⟩
 have f:∀ g:Grp,(∀ x∈g,x.2.length<=n/\∀ c∈x.2,∃ w∈W,w.2=c)->∀ x∈pushG w.1 w.2 g,x.2.length<=n+1/\∀ c∈x.2,∃ w∈W,w.2=c:=by
  intro g
  induction g with
  | nil=>intro _ x hx;rw[pushG]at hx;rw[mem_singleton.mp hx];exact⟨by simp,λc hc=>⟨w,b,(mem_singleton.mp hc).symm⟩⟩
  | cons y r ih =>
   intro h x hx;rw[pushG]at hx;have a:=h y mem_cons_self
   split at hx
   .rcases mem_cons.mp hx with rfl | hx
    .refine⟨by rw[length_append];have:=a.1;simp;lia,λc hc=>?_⟩
     rcases mem_append.mp hc with hc | hc
     .exact a.2 c hc
     .exact⟨w,b,(mem_singleton.mp hc).symm⟩
    .have:=h x (mem_cons_of_mem _ hx);exact⟨by lia,this.2⟩
   .rcases mem_cons.mp hx with rfl | hx
    .exact⟨by have:=a.1;lia,a.2⟩
    .exact ih (λz d=>h z (mem_cons_of_mem _ d)) x hx
 exact f g h.2 x hx
theorem grp_gk(W:List Way):∀ i,i<=W.length->Gk W i (grp (W.take i))
 | 0,_=>⟨Nat.le_refl _,λx a=>by cases a⟩
 | i+1,h=>by
  obtain⟨w,hw⟩:∃ w,W[i]? = some w:=⟨_,List.getElem?_eq_getElem (by lia)⟩
  rw[grp_snoc hw];exact(grp_gk W i (by lia)).push (List.mem_of_getElem? hw)
theorem rat_keys(g:Grp):(rat g).map (·.1)=g.map (·.1):=by unfold rat;rw[map_map];rfl
theorem grp_nd(W:List Way):NdR (rat (grp W)):=by rw[rat_grp];exact gD _
theorem kW_len(t:Tr):(kW (wl t 1 1)).length=lv t:=by unfold kW;rw[length_map,wl_len]
theorem kW_get{W:List Way}{i:Nat}{w:Way}(h:W[i]? = some w):(kW W)[i]? = some (so w.1,w.2):=by unfold kW;rw[List.getElem?_map,h];rfl
def askd(ps k:List Int):List Int:=k.filter λx=>decide (x∈ps)
theorem mem_askd{ps k:List Int}{x:Int}:x∈askd ps k↔x∈k/\x∈ps:=by unfold askd;rw[mem_filter];simp
def tp(L:Int)(r:List Int×Rat):Int:=r.2.num*(L/(r.2.den:Int))
def both(l:List Int)(x y:Int):Prop:=x∈l/\y∈l
instance (l:List Int) (x y:Int):Decidable (both l x y):=inferInstanceAs (Decidable (_/\_))
def tF(ps:List Int)(L:Int)(R:Rws)(x y:Int):Int:=(R.map λr=>if both (askd ps r.1) x y then tp L r else 0).sum
def mm(R:Rws)(x y:Int):Rat:=pm (λk=>decide (both k x y)) R
theorem tF_snoc{ps:List Int}{L:Int}{R:Rws}{i:Nat}{r:List Int×Rat}(h:R[i]? = some r)(x y:Int):tF ps L (R.take (i+1)) x y=tF ps L (R.take i) x y+if both (askd ps r.1) x y then tp L r else 0:=by
 unfold tF;rw[take_add_one,h,map_append,sum_append];simp
theorem tF_rat{ps:List Int}{L:Int}(d:0<L){x y:Int}(f:x∈ps)(b:y∈ps):∀{R:Rws},(∀ r∈R,(r.2.den:Int) ∣ L)->((tF ps L R x y:Int):Rat)=mm R x y*(L:Rat)
 | [],_=>by show((0:Int):Rat)=0*_;grind
 | r::R,h=>by
  have j:=tF_rat d f b λz k=>h z (mem_cons_of_mem _ k)
  have l:tF ps L (r::R) x y=(if both (askd ps r.1) x y then tp L r else 0)+tF ps L R x y:=by unfold tF;rw[map_cons,sum_cons]
  have g:mm (r::R) x y=(if decide (both r.1 x y)=true then r.2 else 0)+mm R x y:=by unfold mm pm;rw[map_cons,sum_cons]
  rw[l,g,Rat.intCast_add,j];have i:(0:Int)<(r.2.den:Int):=by have:=r.2.den_pos;lia
  by_cases c:both r.1 x y
  .have a:both (askd ps r.1) x y:=⟨mem_askd.mpr ⟨c.1,f⟩,mem_askd.mpr ⟨c.2,b⟩⟩
   rw[if_pos a,if_pos (decide_eq_true c)];unfold tp;rw[qX d i (h r mem_cons_self)];have:qv (r.2.num,(r.2.den:Int))=r.2:=Au r.2;rw[this];grind
  .have a:¬both (askd ps r.1) x y:=λz=>c ⟨(mem_askd.mp z.1).1,(mem_askd.mp z.2).1⟩
   rw[if_neg a,if_neg (by simp[c])]
   grind
abbrev F2t:=Int->Int->Int
def F1(F:F2t)(l:List Int)(n:Nat)(t:Int):F2t:=λx y=>F x y+if x∈l.take n/\y∈l then t else 0
def F2(F:F2t)(l:List Int)(n m:Nat)(t:Int):F2t:=λx y=>F1 F l n t x y+if l[n]? = some x/\y∈l.take m then t else 0
theorem F1_zero(F:F2t)(l:List Int)(t:Int):F1 F l 0 t=F:=by funext x y;unfold F1;simp
theorem F2_zero(F:F2t)(l:List Int)(n:Nat)(t:Int):F2 F l n 0 t=F1 F l n t:=by funext x y;unfold F2;simp
theorem F1_end(F:F2t)(l:List Int)(t:Int)(x y:Int):F1 F l l.length t x y=F x y+if both l x y then t else 0:=by
 unfold F1;rw[take_length]
 by_cases c:both l x y
 .rw[if_pos c,if_pos (show x∈l/\y∈l from c)]
 .rw[if_neg c,if_neg (show ¬(x∈l/\y∈l) from c)]
theorem iO{l:List Int}(g:l.Nodup){n:Nat}{z:Int}(h:l[n]? = some z):z ∉ l.take n:=λb=>by
 obtain⟨i,a⟩:=List.getElem?_of_mem b;rw[List.getElem?_take]at a
 split at a
 .rename_i lt
  obtain⟨f,j⟩:=List.getElem?_eq_some_iff.mp a;obtain⟨c,d⟩:=List.getElem?_eq_some_iff.mp h;exact(pairwise_iff_getElem.mp g i n f c lt) (j.trans d.symm)
 .cases a
theorem gp{l:List Int}{n:Nat}{z x:Int}(h:l[n]? = some z):x∈l.take (n+1)↔x∈l.take n\/x=z:=by
 rw[take_add_one,h,mem_append];simp
theorem F2_end{F:F2t}{l:List Int}(a:l.Nodup){n:Nat}{z t:Int}(h:l[n]? = some z):F2 F l n l.length t=F1 F l (n+1) t:=by
 funext x y
 unfold F2 F1;rw[take_length];have e:=gp (x:=x) h;have b:=iO a h;rw[h]
 by_cases c:x=z
 .subst c
  rw[if_neg (λw=>b w.1)]
  by_cases d:y∈l
  .rw[if_pos ⟨rfl,d⟩,if_pos ⟨e.mpr (.inr rfl),d⟩];lia
  .rw[if_neg (λw=>d w.2),if_neg (λw=>d w.2)];lia
 .rw[if_neg (λ(w:some z=some x/\y∈l)=>c (Option.some.inj w.1).symm)]
  have:(x∈l.take (n+1)/\y∈l)↔(x∈l.take n/\y∈l):=by rw[e];simp[c]
  by_cases d:x∈l.take n/\y∈l
  .rw[if_pos d,if_pos (this.mpr d)];lia
  .rw[if_neg d,if_neg (λw=>d (this.mp w))];lia
theorem F2_step{F:F2t}{l:List Int}(g:l.Nodup){n m:Nat}{a b t:Int}(h:l[n]? = some a)(f:l[m]? = some b):F2 F l n (m+1) t=λx y=>if x=a/\y=b then F2 F l n m t a b+t else F2 F l n m t x y:=by
 funext x y
 have e:=gp (x:=y) f;have i:=iO g f;unfold F2;rw[h]
 by_cases c:x=a/\y=b
 .rw[if_pos c]
  obtain⟨rfl,rfl⟩:=c;rw[if_pos ⟨rfl,e.mpr (.inr rfl)⟩,if_neg (λw=>i w.2)];lia
 .rw[if_neg c]
  have:(some a=some x/\y∈l.take (m+1))↔(some a=some x/\y∈l.take m):=by
   rw[e]
   constructor
   .rintro⟨w,w' | w'⟩
    .exact⟨w,w'⟩
    .exact absurd ⟨(Option.some.inj w).symm,w'⟩ c
   .rintro⟨w,w'⟩;exact⟨w,.inl w'⟩
  by_cases d:some a=some x/\y∈l.take m
  .rw[if_pos d,if_pos (this.mpr d)]
  .rw[if_neg d,if_neg (λw=>d (this.mp w))]
theorem askd_nd{ps k:List Int}(h:k.Nodup):(askd ps k).Nodup:=h.filter _
theorem askd_len(ps k:List Int):(askd ps k).length<=k.length:=length_filter_le _ _
theorem askd_snoc{ps k:List Int}{i:Nat}{x:Int}(h:k[i]? = some x):askd ps (k.take (i+1))=askd ps (k.take i)++if x∈ps then [x] else []:=by
 unfold askd;rw[take_add_one,h,filter_append];simp[List.filter_cons]
theorem zZ{D:Nat}{R:Rws}(g:Gd D R)(x y:Int):Bq D (mm R x y):=g.pmA _
theorem tF_le{ps:List Int}{L:Int}{D:Nat}{R:Rws}(a:0<L)(g:Gd D R){x y:Int}(d:x∈ps)(c:y∈ps)(h:∀ r∈R,(r.2.den:Int) ∣ L):0<=tF ps L R x y/\tF ps L R x y<=L:=by
 have e:=tF_rat a d c h;obtain⟨f,j,_⟩:=zZ g x y;have i:(0:Rat)<(L:Rat):=by exact_mod_cast a
 have b:=mI f (show(0:Rat)<=(L:Rat) by grind);have k:=mI (show 0<=1 - mm R x y by grind) (show(0:Rat)<=(L:Rat) by grind)
 constructor
 .have:(0:Rat)<=((tF ps L R x y:Int):Rat):=by rw[e];exact b
  exact_mod_cast this
 .have:((tF ps L R x y:Int):Rat)<=(L:Rat):=by rw[e];grind
  exact_mod_cast this
theorem tab_key{t:Tr}(h:Ok t){R:Rws}(a:IsTab (toR (kW (wl t 1 1))) R):∀ r∈R,r.1.Nodup/\r.1.length<=24:=λr d=>by
 have:=(a.keys r.1).mp (mem_map.mpr ⟨r,d,rfl⟩);unfold toR kW at this;rw[map_map,map_map]at this;obtain⟨w,b,e⟩:=mem_map.mp this;have e:so w.1=r.1:=e;obtain⟨f,c⟩:=wb t 1 1 h w b;rw[<- e];exact⟨(so_perm w.1).nodup_iff.mpr f,by rw[(so_perm w.1).length_eq];exact c⟩
theorem tab_gd{t:Tr}(h:Ok t){R:Rws}(b:IsTab (toR (kW (wl t 1 1))) R):Gd (dn t) R:=by
 have g:=(BD h).1;have p:=i7 h
 have:Gd (dn t) (toR (kW (wl t 1 1))):=⟨λx a=>g.nn x (p.mem_iff.mp a),by rw[qy p];exact g.le⟩
 exact b.gd this
theorem ot(k:List Int)(m:Rat):∀ st:Rws,(cC k m st).length<=st.length+1
 | []=>by rw[cC];simp
 | x::r=>by
  rw[cC]
  split
  .simp
  .rw[length_cons,length_cons];have:=ot k m r;lia
theorem tE(a:Rws):∀ W:Rws,(W.foldl (λa w=>cC w.1 w.2 a) a).length<=a.length+W.length:=by
 intro W
 induction W generalizing a with
 | nil=>simp
 | cons w W ih=>rw[foldl_cons,length_cons];have:=ih (cC w.1 w.2 a);have:=ot w.1 w.2 a;lia
theorem vx(W:Rws):(fW W).length<=W.length:=by have:=tE [] W;unfold fW;simpa using this
mutual
def bnd:Tr->(List Int->Tr)->Tr
 | .leaf ns,g=>g (so ns)
 | .die ps,g=>.die (gw ps g)
def gw:List (Int×Tr)->(List Int->Tr)->List (Int×Tr)
 | [],_=>[]
 | (m,u)::r,g=>(m,bnd u g)::gw r g
end
theorem bnds_map(g:List Int->Tr):∀ ps:List (Int×Tr),gw ps g=ps.map λp=>(p.1,bnd p.2 g)
 | []=>by rw[gw];rfl
 | (m,u)::r=>by rw[gw,bnds_map g r];rfl
mutual
def Dq:Nat->Tr->Prop
 | _,.leaf ns=>ns.Nodup/\ns.length<=12
 | 0,.die _=>False
 | d+1,.die ps=>1<=ps.length/\ps.length<=4/\Dqs d ps
def Dqs:Nat->List (Int×Tr)->Prop
 | _,[]=>True
 | d,(m,u)::r=>1<=m/\m<=1000000000/\Dq d u/\Dqs d r
end
mutual
def Lb:Tr->Prop
 | .leaf ns=>ns.length<=12
 | .die ps=>Lbs ps
def Lbs:List (Int×Tr)->Prop
 | []=>True
 | (_,u)::r=>Lb u/\Lbs r
end
mutual
def Par(o:Int):Tr->Prop
 | .leaf ns=>(∀ x∈ns,x % 2=o)/\ns.length<=6/\ns.Nodup
 | .die ps=>Pars o ps
def Pars(o:Int):List (Int×Tr)->Prop
 | []=>True
 | (_,u)::r=>Par o u/\Pars o r
end
mutual
def Lq:Tr->Prop
 | .leaf ns=>ns.length<=6
 | .die ps=>Lqs ps
def Lqs:List (Int×Tr)->Prop
 | []=>True
 | (_,u)::r=>Lq u/\Lqs r
end
theorem lbs_of:∀{ps:List (Int×Tr)},(∀ p∈ps,Lb p.2)->Lbs ps
 | [],_=>by rw[Lbs];trivial
 | (m,u)::r,h=>by rw[Lbs];exact⟨h _ mem_cons_self,lbs_of λp a=>h p (mem_cons_of_mem _ a)⟩
end Tb
namespace Tu
def sm(f:Nat->Int)(n:Nat):Int:=((List.range n).map f).sum
theorem gJ(f:Nat->Int):sm f 0=0:=rfl
theorem sm_succ(f:Nat->Int)(n:Nat):sm f (n+1)=sm f n+f n:=by
 unfold sm;rw[range_succ,map_append,sum_append];simp
theorem pH(f:Nat->Int)(x:Nat):∀ y,sm f (x+y)=sm f x+sm (λj=>f (x+j)) y
 | 0=>by rw[gJ];simp
 | y+1=>by
  rw[<- Nat.add_assoc,sm_succ,sm_succ,pH f x y];omega
theorem eT{f g:Nat->Int}:∀{n:Nat},(∀ i,i<n->f i=g i)->sm f n=sm g n
 | 0,_=>rfl
 | n+1,h=>by
  rw[sm_succ,sm_succ,eT (λi a=>h i (by omega)),h n (by omega)]
theorem vm(G:Int->Int)(s:Int)(h:0<=s)(g:s<1000):sm (λi=>G (((i:Int) - s) % 1000)) 1000=sm (λj=>G (j:Int)) 1000:=by
 obtain⟨n,hn⟩:∃ n:Nat,s=(n:Int):=⟨s.toNat,by omega⟩
 subst hn
 obtain⟨r,hr⟩:∃ r:Nat,n+r=1000:=⟨1000 - n,by omega⟩
 have a:r+n=1000:=by omega
 have c:=pH (λi=>G (((i:Int) - (n:Int)) % 1000)) n r;have b:=pH (λj=>G (j:Int)) r n;rw[hr]at c;rw[a]at b;rw[c,b]
 have f:sm (λi=>G (((i:Int) - (n:Int)) % 1000)) n=sm (λj=>G ((r+j:Nat):Int)) n:=eT λi hi=>by
  exact congrArg G (by omega)
 have d:sm (λj=>G ((((n+j:Nat):Int) - (n:Int)) % 1000)) r=sm (λj=>G (j:Int)) r:=eT λi hi=>by
  exact congrArg G (by omega)
 rw[f,d];omega
def mk(s m:Int)(i:Nat):Int:=if ((i:Int) - s) % 1000<m then 1 else 0
def mn(x y:Int):Int:=if y<x then y else x
def mx(x y:Int):Int:=if y > x then y else x
def ov(s m s' m':Int):Int:=mx 0 (mn m ((s' - s) % 1000+m') - (s' - s) % 1000)+mx 0 (mn m ((s' - s) % 1000+m' - 1000))
theorem vT{m f b:Int}(k:0<=m)(l:m<=1000)(d:0<=f)(q:f<1000)(g:0<=b)(i:b<=1000):∀ n:Nat,n<=1000 ->
  sm (λj=>(if (j:Int)<m then 1 else 0)*(if ((j:Int) - f) % 1000<b then 1 else 0)) n=mx 0 (mn (n:Int) (mn m (f+b)) - f)+mx 0 (mn (n:Int) (mn m (f+b - 1000)))
 | 0,_=>by
  rw[gJ];unfold mx mn
  (repeat' split) <;> omega
 | n+1,h=>by
  rw[sm_succ,vT k l d q g i n (by omega)]
  have e:((n:Int) - f) % 1000=if f<=(n:Int) then (n:Int) - f else (n:Int) - f+1000:=by split <;> omega
  have a:(if (n:Int)<m then (1:Int) else 0)*(if ((n:Int) - f) % 1000<b then 1 else 0)=if (n:Int)<m/\((f<=(n:Int)/\(n:Int)<f+b)\/(n:Int)<f+b - 1000) then 1 else 0:=by
   rw[e]
   by_cases c1:(n:Int)<m
   .rw[if_pos c1,Int.one_mul]
    by_cases c2:f<=(n:Int)
    .rw[if_pos c2]
     (repeat' split) <;> omega
    .rw[if_neg c2]
     (repeat' split) <;> omega
   .rw[if_neg c1,Int.zero_mul,if_neg (λz=>c1 z.1)]
  rw[a]
  have r:mx 0 (mn ((n+1:Nat):Int) (mn m (f+b)) - f)=mx 0 (mn (n:Int) (mn m (f+b)) - f)+if (n:Int)<m/\f<=(n:Int)/\(n:Int)<f+b then 1 else 0:=by
   generalize hA:mn m (f+b)=A
   have c:((n:Int)<A)↔((n:Int)<m/\(n:Int)<f+b):=by
    rw[<- hA];unfold mn;split <;> omega
   have o:((n:Int)<m/\f<=(n:Int)/\(n:Int)<f+b)↔(f<=(n:Int)/\(n:Int)<A):=by rw[c];omega
   simp only[o];unfold mx mn
   (repeat' split) <;> omega
  have p:mx 0 (mn ((n+1:Nat):Int) (mn m (f+b - 1000)))=mx 0 (mn (n:Int) (mn m (f+b - 1000)))+if (n:Int)<m/\(n:Int)<f+b - 1000 then 1 else 0:=by
   generalize hA:mn m (f+b - 1000)=A
   have c:((n:Int)<A)↔((n:Int)<m/\(n:Int)<f+b - 1000):=by
    rw[<- hA];unfold mn;split <;> omega
   simp only[<- c];unfold mx mn
   (repeat' split) <;> omega
  rw[r,p]
  by_cases c1:(n:Int)<m <;> by_cases c2:f<=(n:Int)/\(n:Int)<f+b <;> by_cases c3:(n:Int)<f+b - 1000 <;> simp only[c1,c2,c3,true_and,false_and,and_true,and_false,or_true,true_or,or_false,false_or,if_true,if_false,and_self] <;> omega
theorem yb{s m s' a:Int}(q:0<=s)(o:s<1000)(l:0<=m)(p:m<=1000)(g:0<=a)(k:a<=1000):sm (λi=>mk s m i*mk s' a i) 1000=ov s m s' a:=by
 have b:0<=(s' - s) % 1000:=by omega
 have c:(s' - s) % 1000<1000:=by omega
 have e:sm (λi=>mk s m i*mk s' a i) 1000=sm (λi=>(λj:Int=>(if j<m then 1 else 0)*(if (j - (s' - s) % 1000) % 1000<a then 1 else 0)) (((i:Int) - s) % 1000)) 1000:=eT λi hi=>by
  have d:(((i:Int) - s) % 1000 - (s' - s) % 1000) % 1000=((i:Int) - s') % 1000:=by omega
  show mk s m i*mk s' a i=_*_;rw[d];rfl
 rw[e,vm (λj:Int=>(if j<m then 1 else 0)*(if (j - (s' - s) % 1000) % 1000<a then 1 else 0)) s q o];show sm (λj:Nat=>(if (j:Int)<m then 1 else 0)*(if ((j:Int) - (s' - s) % 1000) % 1000<a then 1 else 0)) 1000=_;rw[vT l p b c g k 1000 (Nat.le_refl _)];unfold ov;generalize (s' - s) % 1000=f at b c
 have n:mn ((1000:Nat):Int) (mn m (f+a))=mn m (f+a):=by unfold mn;(repeat' split) <;> omega
 have h:mn ((1000:Nat):Int) (mn m (f+a - 1000))=mn m (f+a - 1000):=by unfold mn;(repeat' split) <;> omega
 rw[n,h]
theorem xD{s m:Int}(b:0<=m)(a:m<=1000):ov s m s m=m:=by
 have e:(s - s) % 1000=0:=by omega
 unfold ov mx mn;rw[e]
 (repeat' split) <;> omega
def dA(s m:Int):List Int:=(List.range 1000).map (mk s m)
theorem fK(s m:Int):(dA s m).length=1000:=by unfold dA;rw[length_map,length_range]
theorem pM(s:Int):dA s 0=List.replicate 1000 0:=by
 unfold dA;rw[List.eq_replicate_iff];refine⟨by rw[length_map,length_range],λb a=>?_⟩;obtain⟨i,_,rfl⟩:=mem_map.mp a;unfold mk;rw[if_neg (by omega)]
theorem tu{s:Int}{k:Nat}(d:0<=s)(a:s<1000)(b:k<1000):(dA s (k:Int)).set ((s+(k:Int)) % 1000).toNat 1=dA s ((k+1:Nat):Int):=by
 refine List.ext_getElem? λi=>?_
 by_cases hi:i<1000
 .rw[List.getElem?_set,fK]
  unfold dA;rw[List.getElem?_map,List.getElem?_map,List.getElem?_range hi]
  by_cases c:((s+(k:Int)) % 1000).toNat=i
  .rw[if_pos c,if_pos (by omega)]
   show some 1=some (mk s ((k+1:Nat):Int) i);unfold mk;rw[if_pos (by omega)]
  .rw[if_neg c]
   show some (mk s (k:Int) i)=some (mk s ((k+1:Nat):Int) i);unfold mk
   congr 1
   (repeat' split) <;> omega
 .rw[List.getElem?_eq_none (by rw[List.length_set,fK];omega),List.getElem?_eq_none (by rw[fK];omega)]
theorem sI{s m:Int}{i:Nat}(a:i<1000):(dA s m)[i]? = some (mk s m i):=by
 unfold dA;rw[List.getElem?_map,List.getElem?_range a];rfl
end Tu
namespace L2
open PySem PySem.Spec PyProof.Rows
section
variable {prog:Program}{w:World}{KT:Type} [DecidableEq KT] {knd:HeapKind prog w KT}{A:Around}{E:Value->Shared->Prop}{s:Shared}{d a:Addr}{xs:List (KT×Addr×Value)}{k:KT}{dflt:Value}
theorem sdH{Q:Value->Shared->Prop}(r:knd.room A)(b:knd.is s.heap k a)(z:s.heap.DictOfH knd d xs)(hsz:xs.length<=sizeLine)
  (D:∀ p,atKey xs k=some p->Q p.2 { s with toks:=s.toks+knd.draws k })
  (C:atKey xs k=none->∀ h',h'.DictOfH knd d (storedH xs k a dflt)->Heap.SameBut d s.heap h'->Q dflt { s with heap:=h',toks:=s.toks+knd.draws k }):wpAny (model prog w) A (dictSetDefault d (.ref a) dflt) Q E s:=by
 obtain⟨o,G,B,f,F,c,n,i,q⟩:=z;unfold dictSetDefault;refine wpAny_holding (wpAny_bind (knd.pyHash r b (wpAny_bind (wpAny_dictFind_heap (s:={ s with toks:=s.toks+knd.draws k }) r b f c n i q ?_ ?_))))
 .intro l
  have h:k ∉ xs.map (·.1):=not_mem_keys_of_get l;have g:=atKey_none_of_get l
  refine wpAny_bind (wpAny_rule (wpAny_bind (wpAny_updateDictKeys (hz:=by have e:=size_of_entries n;lia) (s:={ s with toks:=s.toks+knd.draws k }) f c (wpAny_pure (C g _ ⟨_,_,B+1,Heap.get?_update_self _ f (Obj.isFreed_of_dict (Obj.data_mapDictKeys c _)),
   F.mapDictKeys _,Obj.data_mapDictKeys c _,?_,?_,?_⟩ (Heap.SameBut.update ..))))))
  .rw[storedH_new g]
   simp[n,entryOfKey]
  .rw[storedH_new g]
   intro x hx
   rcases mem_append.mp hx with hx | hx
   .exact knd.keeps (i x hx) f c (Heap.SameBut.update ..)
   .simp only[mem_singleton]at hx
    subst hx;exact knd.keeps b f c (Heap.SameBut.update ..)
  .rw[storedH_new g]
   rw[map_append,nodup_append];refine⟨q,by simp,?_⟩;intro x hx y v;simp only[map_cons,map_nil,mem_singleton]at v;subst v;exact λe=>h (e ▸ hx)
 .intro j p u
  have g:=atKey_of_get q u;refine wpAny_bind (wpAny_dictEntries (s:={ s with toks:=s.toks+knd.draws k }) f c ?_);rw[entry_at n j,u];exact wpAny_bind (wpAny_rule (wpAny_pure (D p g)))
theorem sh(i:(d == sysModules)=false)(b:Value):MeetsIn prog w (Builtin.«dict.setdefault» ⟨[.ref d,.ref a,b],[]⟩) (λA R s=>knd.room A.in1/\∃ k xs,knd.is s.heap k a/\s.heap.DictOfH knd d xs/\xs.length<=sizeLine /\
  (∀ p,atKey xs k=some p->R (.ok (.ret p.2)) { s with toks:=s.toks+knd.draws k })/\(atKey xs k=none->∀ h',h'.DictOfH knd d (storedH xs k a b)->Heap.SameBut d s.heap h'->R (.ok (.ret b)) { s with heap:=h',toks:=s.toks+knd.draws k })) :=
 .of_wp λA R s ⟨g,k,xs,c,f,n,l,h⟩=>by
  unfold Builtin.«dict.setdefault»;refine wpAny_bind ?_;unfold Builtin.Dict.keyAndDefault;refine wpAny_bind (wpAny_notOrdered_dict f.typeIs (show wpAny _ _ (pure (d,Value.ref a,some b)) _ _ s from wpAny_pure ?_));show wpAny _ _ (if (d == sysModules)=true then _ else (dictSetDefault d (.ref a) b >>= _)) _ _ s;rw[if_neg (by rw[i];exact Bool.false_ne_true)];exact wpAny_bind (sdH g c f n (λp j=>wpAny_pure ⟨_,rfl,l p j⟩) λhn h' m' s'=>wpAny_pure ⟨_,rfl,h hn h' m' s'⟩)
end
def B0(td ty tx:TE):TE:=λσ H Q=>td σ H λx H1=>∃ a,x=.ref a/\IsD H1 a/\ty σ H1 λy H2=>tx σ H2 λz H3=>∃ kvs k b,y=.ref b/\H3 b=some (.tup (k.map kV))/\H3 a=some (.dT kvs)/\kvs.length<sizeLine /\
 (∀ v,cH kvs k=some v->Q v H3)/\(cH kvs k=none->Q z (upd H3 a (.dT (kvs++[(k,z)]))))
section
variable {X:Cx}{o e f:Expr}{apos cpos:Pos}{td ty tx:TE}
theorem zV(hu:X.A.units+1<cLine)(Z:PE X o td)(he:PE X e ty)(M:PE X f tx)(m:M2 X o "setdefault" apos e f cpos):PE X (.Call (.Attribute o "setdefault" apos) [e,f] [] cpos) (B0 td ty tx):=by
 intro g s w H Q I h;refine wpAny_Call_method m.base m.few m.line PySem.F.plainAttrs_dict PySem.F.slot_dict_setdefault PySem.F.type_dict_setdefault (thn (Z g s w H _ I h) λu T ⟨x,H1,C,N,a,S,d,q1⟩=>?_);subst S;obtain rfl:u=Value.ref a:=N;obtain⟨t1,t2,_⟩:=vG C d;refine⟨t1,t2,?_⟩;rw[m.trees]
 refine Calls.callWith_builtin rfl (Calls.evalArgs_plain (Calls.spliced_cons (thn (he g T w H1 _ C q1) λiv s2 ⟨y,W,I2,ry,q2⟩ =>
  Calls.spliced_cons (thn (M g s2 w W _ I2 q2) λfv s3 ⟨z,H3,r,E,i,k,b,ey,D,v,l,Y,q4⟩=>Calls.spliced_nil ?_))))
 subst ey;cases(show iv=Value.ref b from ry);obtain⟨zz,J,A,j,F⟩:=v7 r.hok v;have hz:A.length<=sizeLine:=by rw[<- Paired.length j];exact zz
 refine call_meetsIn PySem.F.slot_dict_setdefault F.typeIs PySem.F.entry_dict_setdefault (PySem.F.args_dict_setdefault_3 _ _ _) (sh (knd:=tupleKind (bp X.prog X.w)) J fv) ⟨tupleKind_room_in1 hu,k,A,jW r.hok D,F,hz,λp hp=>?_,λhn h' m' s'=>?_⟩
 .have n:=j.val k
  rw[hp]at n;cases q:cH i k with
  | none=>rw[q]at n;exact False.elim n
  | some y'=>rw[q]at n;exact⟨y',H3,r.tok _,n,Y y' q⟩
 .have n:=j.val k
  rw[hn]at n
  have q:cH i k=none:=by
   cases q:cH i k with
   | none=>rfl
   | some y'=>rw[q]at n;exact False.elim n
  have K:(i++[(k,z)]).length<=sizeLine:=by rw[length_append];exact l
  have B:=j.put k D E;rw[uq z q]at B;obtain⟨ob,es,L,G,R,P,O,_,h5⟩:=m';refine⟨z,_,mh (ob:=.dT (i++[(k,z)])) r (by rw[v];exact True.intro) s' ⟨ob,G⟩ ⟨K,J,_,B.keeps λc ys ec=>?_,ob,es,L,G,R,P,O,h5⟩,E,q4 q⟩;rw[ai (bQ ec v (λz=>nomatch z))];exact ec
end
end L2
namespace L2
open PySem PySem.Spec PyProof.Rows PySem.W
def ik(lt:Nat->Nat->Bool)(n:Nat):List Nat:=ord lt n
theorem hX{lt:Nat->Nat->Bool}{n:Nat}(T:WSrt.Wk lt n):(ik lt n).Perm (List.range n):=tL T
theorem mL{lt:Nat->Nat->Bool}{n:Nat}(T:WSrt.Wk lt n):(ik lt n).Pairwise λi j=>lt j i=false:=wG T
structure Tot(lt:Nat->Nat->Bool)(n:Nat):Prop where
 asy:∀ i j,i<n->j<n->lt i j=true->lt j i=false
 tr:∀ i j k,i<n->j<n->k<n->lt i j=true->lt j k=true->lt i k=true
 tot:∀ i j,i<n->j<n->i≠j->lt i j=false->lt j i=true
section
variable {prog:Program}{w:World}{A:Around}{E:Value->Shared->Prop}{s:Shared}{κ:SortKind}{lt:Nat->Nat->Bool}
theorem Ag{ks vs:List Value}(k:ks.length=vs.length)(d:2<=vs.length)(T:WSrt.Wk lt vs.length)(g:vs.length<64)
  (r:∀ i j,i<vs.length->j<vs.length->i≠j->∀ C,C (lt i j) s->kas_ask prog w A κ ks i j C s){Q:Unit×SortSt->Shared->Prop}
  (h:∀ st,(arrOf st).map (·.2)=List.toArray ((ik lt vs.length).map λi=>vs.getD i Value.none)->failedOf st=none->Q ((),st) s) :
  wpAny (model prog w) A ((sortRuns').run (SortSt.mk' κ (ks.toArray.zip vs.toArray) #[] 7 none)) Q E s:=by
 obtain⟨p,c,q,x⟩:=WSrt.run_sort lt vs.length T d
 refine wpAny_mono (kat_run (ks:=ks) (vs:=vs) (Q:=λa b=>b=s/\arrOf a=p.map (kas_item (ks.toArray.zip vs.toArray))/\failedOf a=none) (G:=λl b=>l=p/\b=s)
  k d g (λl a b y o u n=>⟨n.2,by rw[o,n.1],u⟩) (WSrt.wp_run lt vs.length (λi j hi hj hn C hC=>r i j hi hj hn C hC) _ (WSrt.In_sort lt vs.length T d) ⟨c,rfl⟩)) ?_ λ_ _ z=>z
 rintro⟨⟨⟩,a⟩ b ⟨rfl,f,v⟩;refine h a ?_ v;rw[kat_snds k f];unfold ik ord;rw[if_pos d,c]
theorem qu{a:Addr}{vs:List Value}{m:Nat}{κ:SortKind}{lt:Nat->Nat->Bool}{P:PySem.Fin->Shared->Prop}(l:s.heap.get? a=some (seqObj "list" vs.toArray m))(T:WSrt.Wk lt vs.length)(hz:vs.length<16000000)(p:vs.length<64)
  (y:2<=vs.length->∀ g,(∀ b o,b≠a->s.heap.get? b=some o->g.get? b=some o)->∀ Q:SortKind->Shared->Prop,Q κ { s with heap:=g }->wpAny (model prog w) A (keyKind' vs.toArray) Q (λ_ _=>False) { s with heap:=g })
  (D:∀ g,(∀ b o,b≠a->s.heap.get? b=some o->g.get? b=some o)->∀ i j,i<vs.length->j<vs.length->i≠j->∀ C,C (lt i j) { s with heap:=g }->kas_ask prog w A κ vs i j C { s with heap:=g })
  (h:P (.done (.ret .none)) { s with heap:=sortedHeap s.heap a vs (List.toArray ((ik lt vs.length).map λi=>vs.getD i Value.none)) }) :
  wpAny (model prog w) A (Builtin.«list.sort» ⟨[.ref a],[]⟩) P E s:=by
 rw[list_sort_plain];have I:a<s.heap.objs.size:=Heap.lt_size l;refine wpAny_bind (listItems_at l rfl (wpAny_bind (listUpdate_at l rfl ?_)))
 obtain⟨c1,ho1⟩:∃ c1,(s.heap.update a (Obj.mapSeq λ_=>(#[]:Array Value))).get? a=some (seqObj "list" #[] c1):=⟨_,get?_update_seq l λ_=>#[]⟩
 refine wpAny_bind (seqEpoch_at ho1 rfl (wpAny_bind (wpAny_newTuple (wpAny_bind (wpAny_newList (wpAny_holding ?_))))));have c:(((s.heap.update a (Obj.mapSeq λ_=>(#[]:Array Value))).push (seqObj "tuple" vs.toArray 0)).push (seqObj "list" #[] 0)).get? a=some (seqObj "list" #[] c1):=Heap.get?_push_of_some _ (Heap.get?_push_of_some _ ho1);have d:∀ b o,b≠a->s.heap.get? b=some o->(((s.heap.update a (Obj.mapSeq λ_=>(#[]:Array Value))).push (seqObj "tuple" vs.toArray 0)).push (seqObj "list" #[] 0)).get? b=some o:=λb o hb e=>Heap.get?_push_of_some _ (Heap.get?_push_of_some _ (by rw[Heap.get?_update_ne _ _ _ _ hb];exact e))
 show wpAny (model prog w) A _ P E { s with heap:=((s.heap.update a (Obj.mapSeq λ_=>(#[]:Array Value))).push (seqObj "tuple" vs.toArray 0)).push (seqObj "list" #[] 0) };dsimp only
 by_cases h2:vs.toArray.size<2
 .rw[if_pos h2,if_pos h2]
  refine wpAny_bind (wpAny_pure ?_);rw[StateT.run_pure];refine wpAny_bind (wpAny_pure ?_);dsimp only;refine wpAny_bind (seqEpoch_at c rfl (wpAny_bind (listUpdate_at c rfl ?_ (hsz2:=by rw[Array.size_map];show(pairsOf vs).size<=_;rw[pairsOf_size,sizeLine_eq];lia))));simp only[bne_self_eq_false,Bool.false_eq_true,if_false];have r:vs.length<2:=by simpa using h2
  have x:ik lt vs.length=List.range vs.length:=by unfold ik ord;rw[if_neg (by lia)]
  rw[x]at h;have k:=kas_range (vs.toArray.zip vs.toArray);rw[show(vs.toArray.zip vs.toArray).size=vs.length by simp]at k;have n:arrOf (SortSt.mk' general' (vs.toArray.zip vs.toArray) #[] 7 none)=(List.toArray (List.range vs.length)).map (kas_item (vs.toArray.zip vs.toArray)):=k.symm;have H:=(kat_snds (ks:=vs) rfl n).symm;rw[show(List.range vs.length).map (λi=>vs.getD i Value.none)=(List.toArray (List.range vs.length)).toList.map (λi=>vs.getD i Value.none) from rfl,H]at h;exact wpAny_pure h
 .rw[if_neg h2,if_neg h2]
  have r:2<=vs.length:=by simpa using h2
  refine wpAny_bind (wpAny_mono (y r _ d (λf F=>f=κ/\F={ s with heap:=((s.heap.update a (Obj.mapSeq λ_=>(#[]:Array Value))).push (seqObj "tuple" vs.toArray 0)).push (seqObj "list" #[] 0) }) ⟨rfl,rfl⟩) (λf s0 hs=>?_) λ_ _ z=>z.elim);obtain⟨rfl,rfl⟩:=hs;refine wpAny_bind (Ag rfl r T p (λi j B G u C v=>D _ d i j B G u C v) λst' hout hf=>?_);dsimp only;have q:(List.toArray ((ik lt vs.length).map λi=>vs.getD i Value.none)).size=vs.length:=by rw[size_toArray,length_map,(hX T).length_eq,length_range]
  rw[hout];refine wpAny_bind (seqEpoch_at c rfl (wpAny_bind (listUpdate_at c rfl ?_ (hsz2:=Nat.le_trans (Nat.le_of_eq q) (by rw[sizeLine_eq];lia)))));rw[hf];simp only[bne_self_eq_false,Bool.false_eq_true,if_false];exact wpAny_pure h
theorem vX{l:Addr}{vs:List Value}{κ:SortKind}{lt:Nat->Nat->Bool}{Q:Value->Shared->Prop}(p:s.heap.IsList l vs.toArray)(T:WSrt.Wk lt vs.length)(hz:vs.length<16000000)(k:vs.length<64)
  (x:2<=vs.length->∀ g,(∀ b o,s.heap.get? b=some o->g.get? b=some o)->∀ Q:SortKind->Shared->Prop,Q κ { s with heap:=g }->wpAny (model prog w) A.in1.in1 (keyKind' vs.toArray) Q (λ_ _=>False) { s with heap:=g })
  (u:∀ g,(∀ b o,s.heap.get? b=some o->g.get? b=some o)->∀ i j,i<vs.length->j<vs.length->i≠j->∀ C,C (lt i j) { s with heap:=g }->kas_ask prog w A.in1.in1 κ vs i j C { s with heap:=g })
  (h:Q (.ref (s.heap.objs.size+1)) { s with heap:=sortedAll s.heap vs (List.toArray ((ik lt vs.length).map λi=>vs.getD i Value.none)) }) :
  wpAny (model prog w) A (call (.builtin "sorted") [.ref l]) Q E s:=by
 refine Calls.call_function_entry kind_sorted plain_sorted entry_sorted (args_sorted1 _) ?_;unfold Builtin.«sorted»;refine wpAny_bind (m:=checkCount "sorted" 1 1 _) (wpAny_pure (wpAny_bind (collect_list p (wpAny_bind (wpAny_newList ?_)))));have c:((s.heap.push (seqObj "list" #[] 0)).update s.heap.objs.size (Obj.mapSeq (· ++ vs.toArray))).objs.size=s.heap.objs.size+1:=by rw[Heap.size_update,size_push']
 have d:(((s.heap.push (seqObj "list" #[] 0)).update s.heap.objs.size (Obj.mapSeq (· ++ vs.toArray))).push (seqObj "list" vs.toArray 0)).get? (s.heap.objs.size+1)=some (seqObj "list" vs.toArray 0):=by rw[<- c];exact Heap.get?_push_size _ rfl
 have a:∀ b o,s.heap.get? b=some o->(((s.heap.push (seqObj "list" #[] 0)).update s.heap.objs.size (Obj.mapSeq (· ++ vs.toArray))).push (seqObj "list" vs.toArray 0)).get? b=some o:=λb o z=>by
  have v:b<s.heap.objs.size:=Heap.lt_size z;refine Heap.get?_push_of_some _ ?_;rw[Heap.get?_update_ne _ _ _ _ (Nat.ne_of_lt v)];exact Heap.get?_push_of_some _ z
 show wpAny _ _ _ _ _ { s with heap:=((s.heap.push (seqObj "list" #[] 0)).update s.heap.objs.size (Obj.mapSeq (· ++ vs.toArray))).push (seqObj "list" vs.toArray 0) };rw[c];refine wpAny_bind (wpAny_holding (wpAny_call_entry slot_list_sort ⟨_,d,rfl⟩ entry_list_sort (qu (lt:=lt) (κ:=κ) d T hz k (λr g f n q=>x r g (λb o z=>f b o (Nat.ne_of_lt (Nat.lt_succ_of_lt (Heap.lt_size z))) (a b o z)) n q) (λg f=>u g λb o z=>f b o (Nat.ne_of_lt (Nat.lt_succ_of_lt (Heap.lt_size z))) (a b o z)) ⟨_,rfl,?_⟩) (args_list_sort _)));exact wpAny_pure ⟨_,rfl,h⟩
end
end L2
namespace L2
open PySem PySem.Spec PyProof.Rows PySem.W LexM
def Ti(h:Heap)(x:List Int)(a:Addr):Prop:=∃ o its n,h.get? a=some o/\o.cls=.type "tuple" /\ o.data=.seq its n/\IntsAre its.toList x
section
variable {prog:Program}{w:World}{A:Around}{E:Value->Shared->Prop}{s:Shared}
theorem Ti.ty{x:List Int}{a:Addr}(h:Ti s.heap x a):s.TypeIs (.ref a) "tuple" := by
 obtain⟨o,d,n,c,b,_⟩:=h;exact⟨o,c,b⟩
theorem me{x y:List Int}{a b:Addr}{P:PySem.Fin->Shared->Prop}(Q:Ti s.heap x a)(N:Ti s.heap y b)(h:P (.done (.ret (.bool (aE x y)))) s) :
  wpAny (model prog w) A (Builtin.«tuple.__lt__» ⟨[.ref a,.ref b],[]⟩) P E s:=by
 have H:=N.ty;obtain⟨W,q,X,G,_,I,L⟩:=Q;obtain⟨S,p,R,K,_,F,D⟩:=N;show wpAny _ _ (isInstance (.ref b) (.type "tuple") >>= _) _ _ s;refine wpAny_bind (wpAny_isInstance H isSubtype_tuple_tuple ?_);simp only[Bool.not_true,Bool.false_eq_true,if_false];refine wpAny_bind (wpAny_tupleItemsOf G I ?_);refine wpAny_bind (wpAny_tupleItemsOf K F ?_);refine wpAny_bind ?_
 refine wpAny_forIn_list _
  (λj r n=>r.1=none/\n=s/\∃ C B f d,j=List.zip f d/\IntsAre f C/\IntsAre d B/\aE C B=aE x y/\decide (f.length<d.length)=decide (q.size<p.size))
  _ ?_ ?_ _ _ ⟨rfl,rfl,x,y,q.toList,p.toList,rfl,L,D,rfl,by simp⟩
 .rintro⟨u,v⟩ j r n ⟨J,rfl,C,B,f,d,l,k,i,c,g⟩
  cases k with
  | nil=>simp at l
  | @cons k1 t1 xs'' x'' hx'' =>
   cases i with
   | nil=>simp at l
   | @cons k2 t2 ys'' y'' hy'' =>
    simp only[List.zip_cons_cons,List.cons.injEq,Prod.mk.injEq]at l;obtain⟨⟨rfl,rfl⟩,rfl⟩:=l;refine wpAny_bind (wpAny_eqBool_int ?_)
    by_cases hk:k1=k2
    .subst hk
     rw[show(k1 == k1)=true by simp];simp only[Bool.not_true,Bool.false_eq_true,if_false];refine wpAny_pure ⟨rfl,rfl,x'',y'',xs'',ys'',rfl,hx'',hy'',?_,by simpa using g⟩;rw[<- c,aE,if_pos rfl]
    .rw[show(k1 == k2)=false by simpa using hk]
     simp only[Bool.not_false,if_true];have O:decide (k1<k2)=aE x y:=by rw[<- c,aE,if_neg hk]
     rw[<- O]at h;refine wpAny_bind (wpAny_rule ?_);refine wpAny_bind ?_;refine wpAny_mono (show wpAny (model prog w) A (richCompare .Lt (.int k1 t1) (.int k2 t2)) (λv M=>v=.bool (decide (k1<k2))/\M=n) E n from lt_int ⟨rfl,rfl⟩) (λv M hv=>?_) λ_ _ z=>z
     obtain⟨rfl,rfl⟩:=hv;exact wpAny_pure (wpAny_pure h)
 .rintro⟨T,Y⟩ n ⟨J,rfl,C,B,f,d,l,k,i,c,g⟩
  simp only at J;subst J;refine wpAny_pure ?_
  have o:decide (q.size<p.size)=aE x y:=by
   rw[<- c,<- g];cases k with
   | nil =>
    cases i with
    | nil=>rfl
    | cons _ _ _=>simp[aE]
   | cons _ _ _ =>
    cases i with
    | nil=>simp[aE]
    | cons _ _ _=>simp at l
  show P (.done (.ret (.bool (decide (q.size<p.size))))) n;rw[o];exact h
theorem ny{a:Bool}{C:Bool->Shared->Prop}:∀{xs ys:List Value}{x y:List Int}(i:Nat),IntsAre xs x->IntsAre ys y->decide (xs.length<ys.length)=a->C (aE x y) s->KatLex prog w A true a C (xs.zip ys) i s
 | _,_,_,_,i,.nil,.nil,hf,h=>kat_nil (by rw[<- hf];exact h)
 | _,_,_,_,i,.nil,.cons _ _ _,hf,h=>kat_nil (by rw[<- hf,decide_eq_true (by simp)];exact h)
 | _,_,_,_,i,.cons _ _ _,.nil,hf,h=>kat_nil (by rw[<- hf,decide_eq_false (by simp)];exact h)
 | _,_,_,_,i,.cons p t hx,.cons q t' hy,hf,h=>by
  rw[List.zip_cons_cons];refine kat_cons (wpAny_eqBool_int ?_);rw[aE]at h
  by_cases e:p=q
  .rw[show(p == q)=true by simpa using e]
   rw[if_pos e]at h;exact kat_yes (ny (i+1) hx hy (by rw[<- hf];simp) h)
  .rw[show(p == q)=false by simpa using e]
   rw[if_neg e]at h;cases i with
   | zero=>exact kat_no (oneLt_int h)
   | succ i=>exact kat_no (kat_one _ _ (lt_int h))
theorem wZ{x y:List Int}{a b:Addr}{C:Bool->Shared->Prop}(l:Ti s.heap x a)(k:Ti s.heap y b)(h:C (aE x y) s):wpAny (model prog w) A (keyLt' (tuples' true) (.ref a) (.ref b)) C E s:=by
 obtain⟨n,o,r,i,_,f,j⟩:=l;obtain⟨q,p,u,c,_,g,d⟩:=k;exact kat_lt i f c g (ny 0 j d (by simp) h)
theorem vY{x y:List Int}{a b:Addr}{C:Bool->Shared->Prop}(f:A.units<cLine)(c:Ti s.heap x a)(d:Ti s.heap y b)(h:C (aE x y) s):wpAny (model prog w) A (keyLt' oneType' (.ref a) (.ref b)) C E s:=by
 rw[keyLt'_oneType,oneLt'_eq];simp only[if_true];refine wpAny_bind (wpAny_cRoomFor_or (.inr f) ?_);refine wpAny_bind (wpAny_callSpecialIfBound?_slot c.ty F.slot_tuple_lt (wpAny_call_entry F.slot_tuple_lt c.ty F.entry_tuple_lt (me c d ⟨_,rfl,?_⟩) (F.args_tuple_lt_2 _ _)));exact wpAny_truthy_bool h
theorem vf{x y:List Int}{a b:Addr}{C:Bool->Shared->Prop}(f:A.units<cLine)(c:Ti s.heap x a)(d:Ti s.heap y b)(h:C (aE x y) s):wpAny (model prog w) A (keyLt' general' (.ref a) (.ref b)) C E s:=by
 show wpAny _ _ (oneLt' false (.ref a) (.ref b)) _ _ s;refine kat_one _ _ ?_;refine wpAny_richCompare_same_room (op:=.Lt) c.ty d.ty F.slot_tuple_lt (wpAny_call_entry F.slot_tuple_lt c.ty F.entry_tuple_lt (me c d ⟨_,rfl,(λe=>nomatch e),h⟩) (F.args_tuple_lt_2 _ _)) f
inductive Tis(h:Heap):List Value->List (List Int)->Prop
 | nil:Tis h [] []
 | cons {a:Addr}{x:List Int}{vs:List Value}{gs:List (List Int)}(hx:Ti h x a) (t:Tis h vs gs):Tis h (.ref a::vs) (x::gs)
theorem Tis.len{h:Heap}:∀{vs:List Value}{gs:List (List Int)},Tis h vs gs->vs.length=gs.length
 | _,_,.nil=>rfl
 | _,_,.cons _ t=>by rw[length_cons,length_cons,t.len]
theorem Tis.mem{h:Heap}:∀{vs:List Value}{gs:List (List Int)},Tis h vs gs->∀ v∈vs,∃ a x,v=.ref a/\Ti h x a
 | _,_,.nil,v,hv=>by cases hv
 | _,_,.cons hx t,v,hv=>by
  rcases mem_cons.mp hv with rfl | hv
  .exact⟨_,_,rfl,hx⟩
  .exact t.mem v hv
theorem jR{M:Model}:∀{vs:List Value}{gs:List (List Int)}{Q:List (Option Value)->Shared->Prop},Tis s.heap vs gs->(∀ fs:List (Option Value),fs.length=gs.length->(∀(i:Nat) (x:List Int),gs[i]? = some x->(fs[i]? = some none/\x=[])\/∃(n:Int) (t:Tok) (r:List Int),fs[i]? = some (some (Value.int n t))/\x=n::r)->Q fs s)->wpAny M A (vs.mapM firstOfTuple') Q E s
 | _,_,Q,.nil,h=>by rw[List.mapM_nil];exact wpAny_pure (h [] rfl λi x e=>by cases e)
 | _,_,Q,.cons (a:=a) (x:=x) hx t,h=>by
  obtain⟨o,b,n,d,k,j,c⟩:=hx;rw[List.mapM_cons];refine wpAny_bind ?_;rw[kas_first_eq];refine wpAny_bind (Looks.here (show Looks M s.heap (typeOf (.ref a)) o.cls from(Looks.ld d).andThen .now) ?_);rw[k,if_neg (by first | decide | simp)];refine wpAny_bind (listItems_at d j (wpAny_pure ?_));refine wpAny_bind (jR (Q:=λf p=>wpAny M A (pure (b[0]? :: f)) Q E p) t λfs hl hf=>wpAny_pure (h _ (by rw[length_cons,length_cons,hl]) λi y hy=>?_));cases i with
  | succ i=>exact hf i y hy
  | zero =>
   cases hy;have g:b[0]? = b.toList[0]?:=by simp
   rw[List.getElem?_cons_zero,g];generalize b.toList=l at c;cases c with
   | nil=>exact .inl ⟨rfl,rfl⟩
   | cons n t _=>exact .inr ⟨n,t,_,rfl,rfl⟩
def kI(gs:List (List Int)):SortKind:=if gs.all (λx=>!x.isEmpty) then tuples' true else if (gs.headD []).isEmpty then oneType' else general'
theorem rL{M:Model}{vs:List Value}{gs:List (List Int)}{Q:SortKind->Shared->Prop}(t:Tis s.heap vs gs)(O:2<=vs.length)(h:Q (kI gs) s):wpAny M A (keyKind' vs.toArray) Q E s:=by
 have N:=t.len;rw[kat_kind_eq,mapM_toArray,map_eq_pure_bind];refine wpAny_bind (wpAny_bind (jR t λj z u=>wpAny_pure ?_))
 by_cases ha:gs.all (λx=>!x.isEmpty)=true
 .have F:∀ f∈j,∃(n:Int) (t:Tok),f=some (Value.int n t):=λf l=>by
   obtain⟨i,w⟩:=List.getElem?_of_mem l;have G:i<gs.length:=by rw[<- z];exact(List.getElem?_eq_some_iff.mp w).1
   have B:=List.getElem?_eq_getElem G
   rcases u i _ B with⟨c,d⟩ | ⟨n,t,r,c,d⟩
   .have:=all_eq_true.mp ha _ (List.getElem_mem G)
    rw[d]at this;cases this
   .rw[w]at c
    exact⟨n,t,Option.some.inj c⟩
  rw[kI,if_pos ha]at h
  obtain⟨k,rfl,y⟩:∃ k:List Value,j=k.map some/\∀ v∈k,∃(n:Int) (t:Tok),v=Value.int n t:=by
   clear u z
   induction j with
   | nil=>exact⟨[],rfl,λv hv=>by cases hv⟩
   | cons f j ih =>
    obtain⟨k,e,y⟩:=ih λg B=>F g (mem_cons_of_mem _ B)
    obtain⟨n,t,rfl⟩:=F f (mem_cons_self ..);refine⟨Value.int n t::k,by rw[e];rfl,λv hv=>?_⟩
    rcases mem_cons.mp hv with rfl | hv
    .exact⟨n,t,rfl⟩
    .exact y v hv
  rw[length_map]at z
  obtain⟨w1,wr,rfl⟩:∃ w1 wr,k=w1::wr:=by
   match k,(show 0<k.length by lia) with
   | w1::wr,_=>exact⟨w1,wr,rfl⟩
  have q:(((w1::wr).map some).toArray.all λx=>x.isSome)=true:=by simp
  rw[if_pos q];refine wpAny_bind (wpAny_rule ?_);have l:(((w1::wr).map some).toArray.filterMap id)=(w1::wr).toArray:=by simp
  rw[l,oneTypeOnly'_eq,mapM_toArray,map_eq_pure_bind];refine wpAny_bind (wpAny_bind (wpAny_bind (kas_mapM (r:=Value.type "int") _ (λv hv H C=>?_) (wpAny_pure ?_))))
  .obtain⟨n,t,rfl⟩:=y v hv
   exact(Looks.of_pure rfl).here C
  .have b:((List.map (λ_=>Value.type "int") (w1::wr)).toArray.all λx=>x == Value.type "int")=true:=by
    simp only[all_toArray,all_map,all_eq_true];intro _ _;exact(by decide:(Value.type "int" == Value.type "int")=true)
   have p:(List.map (λ_=>Value.type "int") (w1::wr)).toArray[0]? = some (Value.type "int"):=by simp
   rw[p];simp only[b,if_true];exact wpAny_pure (wpAny_pure h)
 .have D:(j.toArray.all λx=>x.isSome)=false:=by
   rw[all_toArray];cases hb:j.all λx=>x.isSome with
   | false=>rfl
   | true =>
    refine absurd (all_eq_true.mpr λx L=>?_) ha;obtain⟨i,w⟩:=List.getElem?_of_mem L
    rcases u i x w with⟨c,_⟩ | ⟨n,t,r,_,d⟩
    .have:=all_eq_true.mp hb _ (List.mem_of_getElem? c)
     cases this
    .rw[d];rfl
  rw[D];simp only[Bool.false_eq_true,if_false];rw[kI,if_neg ha]at h
  obtain⟨g0,gr,rfl⟩:∃ g0 gr,gs=g0::gr:=by
   match gs,(show 0<gs.length by lia) with
   | g0::gr,_=>exact⟨g0,gr,rfl⟩
  have p:j.toArray[0]? = j[0]?:=by simp
  rw[p]
  rcases u 0 g0 rfl with⟨c,d⟩ | ⟨n,P,r,c,d⟩
  .rw[c]
   simp only[Option.bind_some,id_eq,Option.isSome_none,Bool.false_eq_true,if_false];rw[show((g0::gr).headD []).isEmpty=true by rw[d];rfl,if_pos rfl]at h;rw[oneTypeOnly'_eq,mapM_toArray,map_eq_pure_bind]
   obtain⟨v1,vr,rfl⟩:∃ v1 vr,vs=v1::vr:=by
    match vs,(show 0<vs.length by lia) with
    | v1::vr,_=>exact⟨v1,vr,rfl⟩
   refine wpAny_bind (wpAny_bind (wpAny_bind (kas_mapM (r:=Value.type "tuple") _ (λv hv H C=>?_) (wpAny_pure ?_))))
   .obtain⟨a,x,rfl,o,K,n,J,I,_⟩:=t.mem v hv
    refine Looks.here (show Looks M s.heap (typeOf (.ref a)) o.cls from(Looks.ld J).andThen .now) ?_;rw[I];exact C
   .have b:((List.map (λ_=>Value.type "tuple") (v1::vr)).toArray.all λx=>x == Value.type "tuple")=true:=by
     simp only[all_toArray,all_map,all_eq_true];intro _ _;exact(by decide:(Value.type "tuple" == Value.type "tuple")=true)
    have p:(List.map (λ_=>Value.type "tuple") (v1::vr)).toArray[0]? = some (Value.type "tuple"):=by simp
    rw[p];simp only[b,if_true];exact wpAny_pure (wpAny_pure h)
  .rw[c]
   simp only[Option.bind_some,id_eq,Option.isSome_some,if_true];rw[show((g0::gr).headD []).isEmpty=false by rw[d];rfl]at h;exact wpAny_pure h
theorem xr{x y:List Int}{a b:Addr}{gs:List (List Int)}{C:Bool->Shared->Prop}(f:A.units<cLine)(d:Ti s.heap x a)(c:Ti s.heap y b)(h:C (aE x y) s):wpAny (model prog w) A (keyLt' (kI gs) (.ref a) (.ref b)) C E s:=by
 unfold kI
 split
 .exact wZ d c h
 .split
  .exact vY f d c h
  .exact vf f d c h
end
section
variable {X:Cx}
def Row(H:Hp)(a:Addr)(x:List Int):Prop:=H a=some (.tup (x.map V.int))
theorem mQ:∀{x:List Int}{us:List Value},Vals (x.map V.int) us->IntsAre us x
 | [],us,r=>by cases r;exact .nil
 | n::x,us,r=>by
  cases r with
  | cons r1 r =>
   obtain⟨t,rfl⟩:=r1;exact .cons n t (mQ r)
theorem mr{P:Program}{w:World}{H:Hp}{h:Heap}(i:HOk P w H h){a:Addr}{x:List Int}(c:Row H a x):Ti h x a:=by
 obtain⟨_,b,f,o,j,g,n,d⟩:=(show ObjOk P w H h a (.tup _) from i a _ c)
 exact⟨o,b.toArray,n,j,g,d,by simpa using mQ f⟩
end
section
variable {prog:Program}{w:World}{A:Around}{E:Value->Shared->Prop}{s:Shared}{d I:Addr}{es:Array DictEntry}{ep i:Nat}
theorem pd{κ:SortKind}{lt:Nat->Nat->Bool}{Q:Value->Shared->Prop}{vs:List Value}(D:A.handled=none)(B:(d == sysModules)=false)(x:DE s.heap d es ep)(f:jl es=vs)(T:WSrt.Wk lt vs.length)(hz:vs.length<64)
  (F:2<=vs.length->∀ g tk,(∀ b o,s.heap.get? b=some o->g.get? b=some o)->∀ Q:SortKind->Shared->Prop,Q κ { s with heap:=g,toks:=tk }->wpAny (model prog w) A.in1.in1 (keyKind' vs.toArray) Q (λ_ _=>False) { s with heap:=g,toks:=tk })
  (z:∀ g tk,(∀ b o,s.heap.get? b=some o->g.get? b=some o)->∀ i j,i<vs.length->j<vs.length->i≠j->∀ C,C (lt i j) { s with heap:=g,toks:=tk }->kas_ask prog w A.in1.in1 κ vs i j C { s with heap:=g,toks:=tk })
  (h:∀(r:Addr) g tk m,(∀ b o,s.heap.get? b=some o->g.get? b=some o)->s.heap.objs.size<=r->g.get? r=some (seqObj "list" (List.toArray ((ik lt vs.length).map λi=>vs.getD i Value.none)) m)->Q (.ref r) { s with heap:=g,toks:=tk }) :
  wpAny (model prog w) A (call (.builtin "sorted") [.ref d]) Q E s:=by
 have G:vs.length=es.size:=by rw[<- f];unfold jl;rw[length_map,Array.length_toList]
 have H:sizeLine=16777216:=sizeLine_eq;refine Calls.call_function_entry kind_sorted plain_sorted entry_sorted (args_sorted1 _) ?_;unfold Builtin.«sorted»;refine wpAny_bind (m:=checkCount "sorted" 1 1 _) (wpAny_pure (wpAny_bind (oB D B x (by lia) λk tk l p=>wpAny_bind (wpAny_newList ?_ (by rw[f];lia)))));rw[f];have c:(k.push (seqObj "list" vs.toArray 0)).get? k.objs.size=some (seqObj "list" vs.toArray 0):=Heap.get?_push_size _ rfl
 have a:∀ b o,s.heap.get? b=some o->(k.push (seqObj "list" vs.toArray 0)).get? b=some o/\b≠k.objs.size:=λb o e=>⟨Heap.get?_push_of_some _ (p b o e),Nat.ne_of_lt (Heap.lt_size (p b o e))⟩
 refine wpAny_bind (wpAny_holding (wpAny_call_entry slot_list_sort ⟨_,c,rfl⟩ entry_list_sort (qu (s:={ s with heap:=k.push (seqObj "list" vs.toArray 0),toks:=tk }) (lt:=lt) (κ:=κ) c T (by lia) hz (λy g n q v=>F y g tk (λb o e=>n b o (a b o e).2 (a b o e).1) q v) (λg n=>z g tk λb o e=>n b o (a b o e).2 (a b o e).1) ⟨_,rfl,?_⟩) (args_list_sort _)));obtain⟨m,u⟩:=sortedHeap_at (out:=List.toArray ((ik lt vs.length).map λi=>vs.getD i Value.none)) c;refine wpAny_pure ⟨_,rfl,h k.objs.size _ tk m (λb o e=>?_) (Nat.le_of_lt l) u⟩;rw[sortedHeap_old (a b o e).2 (Heap.lt_size (a b o e).1)];exact(a b o e).1
end
section
variable {X:Cx}
theorem gB(x:List Int):(x.map (Sum.inl:Int->Key)).map kV=x.map V.int:=by rw[map_map];rfl
theorem mV{gs:List (List Int)}(c:gs.Nodup){n:Nat}(a:n=gs.length):Tot (λi j=>aE (gs.getD i []) (gs.getD j [])) n:=by
 subst a;refine⟨λi j _ _ h=>jZ _ _ h,λi j k _ _ _ h1 h2=>iz _ _ _ h1 h2,λi j h1 h2 a h=>?_⟩
 have b:gs.getD i []≠gs.getD j []:=λe=>by
  have f:gs.getD i []=gs[i]:=by simp[List.getD,h1]
  have d:gs.getD j []=gs[j]:=by simp[List.getD,h2]
  rw[f,d]at e
  rcases Nat.lt_or_gt_of_ne a with z | z
  .exact(pairwise_iff_getElem.mp c i j h1 h2 z) e
  .exact(pairwise_iff_getElem.mp c j i h2 h1 z) e.symm
 rcases mF _ _ b with z | z
 .have h:aE (gs.getD i []) (gs.getD j [])=false:=h
  rw[h]at z;cases z
 .exact z
theorem qO{gs:List (List Int)}{n:Nat}(U:Tot (λi j=>aE (gs.getD i []) (gs.getD j [])) n):WSrt.Wk (λi j=>aE (gs.getD i []) (gs.getD j [])) n :=
 ⟨U.asy,λi j k d f h b a=>by
  cases e:aE (gs.getD k []) (gs.getD i []) with
  | false=>rfl
  | true =>
   exfalso;have b:aE (gs.getD j []) (gs.getD i [])=false:=b;have a:aE (gs.getD k []) (gs.getD j [])=false:=a
   by_cases e1:i=j
   .subst e1;rw[e]at a;cases a
   .have g:=U.tot j i f d (λz=>e1 z.symm) b
    have c:=iz _ _ _ e g
    rw[a]at c;cases c⟩
theorem gh(hc:X.calm=true)(hu:X.A.units+64<cLine):CallR X (.builtin "sorted") (λxs H Q=>∃(p:Addr) (kvs:List (List Key×V)) (gs:List (List Int)),xs=[.ref p]/\H p=some (.dT kvs)/\kvs.length<64/\kvs.map (·.1)=gs.map (λx=>x.map Sum.inl)/\gs.Nodup /\
  ∀ q (o:List Nat) (f:Nat->V),H q=none->o.Perm (List.range gs.length)->(o.Pairwise λi j=>aE (gs.getD j []) (gs.getD i [])=false)->(∀ i,i<gs.length->∃ b,f i=.ref b/\Row H b (gs.getD i []))->Q (.ref q) (upd H q (.lst (o.map f)))):=by
 intro B s σ H xs us Q I r h;obtain⟨p,kvs,gs,rfl,hp,hz,w,gd,q⟩:=h;obtain⟨u,rfl,rx⟩:=eC r;cases rx;obtain⟨z,nm,xs,A,ob,es,ep,g1,g2,g3,g4,g5,g6⟩:=v7 I.hok hp;have lx:kvs.length=xs.length:=Paired.length A;have lg:kvs.length=gs.length:=by have:=congrArg List.length w;rwa [length_map,length_map]at this
 obtain⟨vs,hvs⟩:∃ vs,vs=xs.map λx=>Value.ref x.2.1:=⟨_,rfl⟩
 have Z:jl es=vs:=by unfold jl;rw[g4,map_map,hvs];rfl
 have lv:vs.length=kvs.length:=by rw[hvs,length_map,lx]
 have g:∀ i,i<vs.length->∃ a,vs.getD i Value.none=.ref a/\Row H a (gs.getD i []):=λi c=>by
  obtain⟨kv,hkv⟩:∃ x,kvs[i]? = some x:=⟨_,List.getElem?_eq_getElem (by lia)⟩
  obtain⟨x,hx,hH⟩:=A.at hkv;refine⟨x.2.1,?_,?_⟩
  .rw[hvs,List.getD,List.getElem?_map,hx];rfl
  .have e:=congrArg (λl=>l[i]?) w
   simp only[List.getElem?_map,hkv]at e;have O:i<gs.length:=by lia
   rw[List.getElem?_eq_getElem O]at e;have e:kv.1=gs[i].map Sum.inl:=Option.some.inj e;show H x.2.1=_;rw[hH,e,gB,show gs.getD i []=gs[i] by simp[List.getD,O]]
 have W:∀{d:Heap}{tk:Nat},(∀ b o,s.heap.get? b=some o->d.get? b=some o)->Inv X B σ H { s with heap:=d,toks:=tk }:=λk=>I.kept k
 have U:=mV gd (n:=vs.length) (by lia);have T:=qO U
 have G:∀{d:Heap},HOk X.prog X.w H d->Tis d vs gs:=λ{d} ok=>by
  have F:∀(vs:List Value) (gs:List (List Int)),vs.length=gs.length->(∀ i,i<vs.length->∃ a,vs.getD i Value.none=.ref a/\Row H a (gs.getD i []))->Tis d vs gs:=by
   intro vs
   induction vs with
   | nil=>intro gs e _;cases gs with | nil=>exact .nil | cons _ _=>cases e
   | cons v vs ih =>
    intro gs e S;cases gs with
    | nil=>cases e
    | cons x gs =>
     obtain⟨a,y,h1⟩:=S 0 (by simp);obtain rfl:v=Value.ref a:=y;exact .cons (mr ok h1) (ih gs (by simpa using e) λi c=>S (i+1) (by simpa using c))
  exact F vs gs (by lia) g
 refine pd (vs:=vs) (κ:=kI gs) (lt:=λi j=>aE (gs.getD i []) (gs.getD j [])) (I.ok.hd hc) nm ⟨ob,g1,g2,g3⟩ Z T (by lia) (λh2 d tk k Q' q'=>?_) (λd tk k i j c hj N C hC=>?_) λrr d tk m k big at'=>?_
 .exact rL (G (W (tk:=tk) k).hok) h2 q'
 .have J:=W (tk:=tk) k
  obtain⟨a,ea,oa⟩:=g i c;obtain⟨b,eb,K⟩:=g j hj;unfold kas_ask;rw[ea,eb];exact xr (by show X.A.units+1+1<cLine;lia) (mr J.hok oa) (mr J.hok K) hC
 .have N:H rr=none:=I.hok.fresh big
  have D:=hX T;have R:=mL T;generalize ik (λi j=>aE (gs.getD i []) (gs.getD j [])) vs.length=o at D R at';have E:sizeLine=16777216:=sizeLine_eq;have M:∀ i∈o,i<vs.length:=λi c=>mem_range.mp (D.mem_iff.mp c)
  let f:Nat->V:=λi=>match vs.getD i Value.none with | .ref a=>.ref a | _=>.non
  have P:∀ i,i<vs.length->∃ a,f i=.ref a/\vs.getD i Value.none=.ref a/\Row H a (gs.getD i []):=λi c=>by
   obtain⟨a,y,L⟩:=g i c;exact⟨a,by show(match vs.getD i Value.none with | .ref a=>V.ref a | _=>.non)=_;rw[y],y,L⟩
  refine⟨.ref rr,_,I.laid (a:=rr) (o:=.lst (o.map f)) (t':=tk) k big ⟨?_,_,m,kO (vs:=vs) f λi c=>?_,at'⟩,rfl,q rr o f N (by rw[<- lg,<- lv];exact D) R λi c=>?_⟩
  .rw[length_map,D.length_eq,length_range];lia
  .obtain⟨a,y,Y,_⟩:=P i (M i c)
   rw[y,Y];rfl
  .obtain⟨a,y,_,L⟩:=P i (by lia)
   exact⟨a,y,L⟩
end
section
variable {prog:Program}{w:World}{A:Around}{E:Value->Shared->Prop}{s:Shared}
theorem vp{h:Heap}{x:List Int}{a:Addr}(t:Ti h x a):IsTupleKey (bp prog w) h (x.map Sum.inl) a:=by
 obtain⟨o,d,n,j,i,g,f⟩:=t
 have b:∀{c:List Value}{x:List Int},IntsAre c x->ItemsAre (bp prog w) (x.map (Sum.inl:Int->Key)) c:=by
  intro c x h
  induction h with
  | nil=>exact .nil
  | cons n t _ ih=>exact .cons (by show Value.isInt n (.int n t)=true;simp[Value.isInt]) ih
 exact⟨o,d,n,j,i,g,b f⟩
theorem cZ:∀{x y:List Int},x.map (Sum.inl:Int->Key)=y.map Sum.inl->x=y
 | [],[],_=>rfl
 | [],_::_,h=>by cases h
 | _::_,[],h=>by cases h
 | a::x,b::y,h=>by
  rw[map_cons,map_cons]at h;injection h with h1 h2
  rw[Sum.inl.inj h1,cZ h2]
def Pr(h:Heap)(x:List Int)(a:Addr):Prop:=∃ o its n k u,h.get? a=some o/\o.cls=.type "tuple" /\ o.data=.seq its n/\its.toList=[.ref k,u]/\Ti h x k
theorem vh{x y:List Int}{a b:Addr}{C:Bool->Shared->Prop}(f:A.units<cLine)(g:x≠y)(j:Pr s.heap x a)(i:Pr s.heap y b)(h:C (aE x y) s):wpAny (model prog w) A (keyLt' (tuples' false) (.ref a) (.ref b)) C E s:=by
 obtain⟨J,D,K,v,I,p,_,q,o,c⟩:=j;obtain⟨H,u,B,G,r,l,_,n,k,d⟩:=i;refine kat_lt p q l n ?_;rw[o,k];refine kat_cons (wpAny_eqBool_tuple (knd:=bp prog w) f (vp c) (vp d) ?_);rw[decide_eq_false (λz=>g (cZ z))];refine kat_no (kat_one _ _ ?_);exact wpAny_richCompare_same_room (op:=.Lt) c.ty d.ty F.slot_tuple_lt (wpAny_call_entry F.slot_tuple_lt c.ty F.entry_tuple_lt (me c d ⟨_,rfl,(λe=>nomatch e),h⟩) (F.args_tuple_lt_2 _ _)) f
theorem pQ{M:Model}{ps:List Addr}{gs:List (List Int)}{Q:SortKind->Shared->Prop}(F:ps.length=gs.length)(y:∀ i a,ps[i]? = some a->Pr s.heap (gs.getD i []) a)(G:0<ps.length)(h:Q (tuples' false) s):wpAny M A (keyKind' (ps.map Value.ref).toArray) Q E s:=by
 have f:∀(ps:List Addr),(∀ a∈ps,∃ x,Pr s.heap x a)->∃ c:List Value,KatTups s.heap (ps.map Value.ref) c/\c.length=ps.length/\∀ v∈c,∃ k x,v=.ref k/\Ti s.heap x k:=by
  intro ps
  induction ps with
  | nil=>intro _;exact⟨[],trivial,rfl,λv hv=>by cases hv⟩
  | cons a ps ih =>
   intro p;obtain⟨c,j,l,d⟩:=ih λb hb=>p b (mem_cons_of_mem _ hb)
   obtain⟨x,o,g,n,k,u,C,q,w,z,t⟩:=p a (mem_cons_self ..);refine⟨.ref k::c,KatTups.cons C q w (by rw[<- Array.getElem?_toList,z];rfl) j,by rw[length_cons,length_cons,l],λv hv=>?_⟩
   rcases mem_cons.mp hv with rfl | hv
   .exact⟨k,x,rfl,t⟩
   .exact d v hv
 obtain⟨c,j,l,d⟩:=f ps λa ha=>by
  obtain⟨i,r⟩:=List.getElem?_of_mem ha;exact⟨_,y i a r⟩
 refine kat_kind (T:=.type "tuple") j (by lia) (λv hv=>?_) (by decide) h;obtain⟨k,x,rfl,o,g,n,D,B,_⟩:=d v hv;rw[<- B];exact(Looks.ld D).andThen .now
end
section
variable {X:Cx}
def rQ(H:Hp)(x:List Int)(a:Addr):Prop:=∃ k u,H a=some (.tup [.ref k,u])/\Row H k x
theorem lE{P:Program}{w:World}{H:Hp}{h:Heap}(c:HOk P w H h){a:Addr}{x:List Int}(f:rQ H x a):Pr h x a:=by
 obtain⟨k,u,d,p⟩:=f
 obtain⟨_,j,b,o,l,i,n,g⟩:=(show ObjOk P w H h a (.tup _) from c a _ d)
 cases b with
 | cons r1 b =>
  obtain rfl:=(show _=Value.ref k from r1)
  cases b with
  | cons r2 b =>
   cases b;exact⟨o,_,n,k,_,l,i,g,List.toList_toArray,mr c p⟩
theorem j9(hu:X.A.units+64<cLine):CallR X (.builtin "sorted") (λxs H Q=>∃(p:Addr) (ys:List V) (gs:List (List Int)),xs=[.ref p]/\SqL X.K H p ys/\ys.length<64/\PySem.Paired (λy x=>∃ a,y=V.ref a/\rQ H x a) ys gs/\gs.Nodup /\
  ∀(q:Addr) (o:List Nat),o.Perm (List.range ys.length)->o.Pairwise (λi j=>aE (gs.getD j []) (gs.getD i [])=false)->H q=none->Q (.ref q) (upd H q (.lst (o.map λi=>ys.getD i .non)))):=by
 intro g s N H xs us Q I r h;obtain⟨p,ys,gs,rfl,Y,hz,O,E,q⟩:=h;obtain⟨u,rfl,R⟩:=eC r;cases R;obtain⟨d,w,W,Z⟩:=I.list Y;have k:d.length=ys.length:=w.length.symm;have ab:ys.length=gs.length:=Paired.length O;have U:=mV E (n:=d.length) (by lia);have T:=qO U
 obtain⟨c,f,hpr⟩:∃ c:List Addr,d=c.map Value.ref/\∀ i a,c[i]? = some a->rQ H (gs.getD i []) a:=by
  have G:∀{ys:List V}{d:List Value}{gs:List (List Int)},Vals ys d->PySem.Paired (λy x=>∃ a,y=V.ref a/\rQ H x a) ys gs->∃ c:List Addr,d=c.map Value.ref/\∀ i a,c[i]? = some a->rQ H (gs.getD i []) a:=by
   intro ys d gs w
   induction w generalizing gs with
   | nil=>intro _;exact⟨[],rfl,λi a e=>by cases e⟩
   | cons r t ih =>
    intro L;cases L with
    | cons h1 L =>
     obtain⟨a,rfl,S⟩:=h1
     obtain rfl:=(show _=Value.ref a from r)
     obtain⟨c,e,f⟩:=ih L;refine⟨a::c,by rw[e];rfl,λi b P=>?_⟩;cases i with
     | zero=>cases P;exact S
     | succ i=>exact f i b P
  exact G w O
 have lp:c.length=d.length:=by rw[f,length_map]
 refine vX (lt:=λi j=>aE (gs.getD i []) (gs.getD j [])) (κ:=tuples' false) W.isList T (by lia) (by lia) (λh2 g' kp Q' q'=>?_) (λg' kp i j A hj D C hC=>?_) ?_
 .have J:Inv X g N H { s with heap:=g' }:=I.kept (t':=s.toks) kp
  rw[f];exact pQ (gs:=gs) (by lia) (λi a A=>lE J.hok (hpr i a A)) (by lia) q'
 .have J:Inv X g N H { s with heap:=g' }:=I.kept (t':=s.toks) kp
  obtain⟨a,ea⟩:∃ a,c[i]? = some a:=⟨_,List.getElem?_eq_getElem (by lia)⟩
  obtain⟨b,eb⟩:∃ b,c[j]? = some b:=⟨_,List.getElem?_eq_getElem (by lia)⟩
  unfold kas_ask;rw[f,show(c.map Value.ref).getD i Value.none=.ref a by rw[List.getD,List.getElem?_map,ea];rfl,show(c.map Value.ref).getD j Value.none=.ref b by rw[List.getD,List.getElem?_map,eb];rfl];refine vh (by show X.A.units+1+1<cLine;lia) (λe=>?_) (lE J.hok (hpr i a ea)) (lE J.hok (hpr j b eb)) hC;have K:i<gs.length:=by lia
  have F:j<gs.length:=by lia
  rw[show gs.getD i []=gs[i] by simp[List.getD,K],show gs.getD j []=gs[j] by simp[List.getD,F]]at e
  rcases Nat.lt_or_gt_of_ne D with y | y
  .exact(pairwise_iff_getElem.mp E i j K F y) e
  .exact(pairwise_iff_getElem.mp E j i F K y) e.symm
 .have l:=hX T
  have M:=mL T;generalize ik (λi j=>aE (gs.getD i []) (gs.getD j [])) d.length=o at l M ⊢;obtain⟨e,he⟩:=sortedAll_at s.heap d (List.toArray (o.map λi=>d.getD i Value.none));have D:H (s.heap.objs.size+1)=none:=I.hok.fresh (Nat.le_succ _);have B:sizeLine=16777216:=sizeLine_eq;have v:=rG w o λi A=>by rw[<- k];exact mem_range.mp (l.mem_iff.mp A)
  rw[k]at l;refine⟨.ref (s.heap.objs.size+1),_,I.laid (a:=s.heap.objs.size+1) (o:=.lst (o.map λi=>ys.getD i .non)) (t':=s.toks) (λb u z=>sortedAll_old z) (Nat.le_succ _) ⟨?_,_,e,v,?_⟩,rfl,q _ _ l M D⟩
  .rw[length_map,l.length_eq,length_range];lia
  .rw[he]
end
end L2
namespace My
open PySem L2 Tu FrM
def top(i:Nat):Stmt:=PySem.Challenge.pw_fewspeak_k65_whole_spun.main.body.getD i (.Pass ⟨0,0,0,0⟩)
abbrev az:Stmt:=bR (top 3) 0
abbrev aA:Stmt:=top 7
abbrev aF:Stmt:=top 8
abbrev da:Stmt:=top 9
abbrev dc:Stmt:=top 10
abbrev bN:Stmt:=top 12
abbrev aO:Stmt:=bR (top 16) 0
abbrev aR:Stmt:=bR (top 16) 1
abbrev bE:Stmt:=bR (top 16) 2
abbrev be:Stmt:=bR (top 16) 3
abbrev bi:Stmt:=bR (top 16) 4
abbrev aS:Stmt:=bR (top 17) 0
abbrev aX:Stmt:=bR (top 17) 1
abbrev bP:Stmt:=bR (top 17) 2
abbrev bG:Stmt:=bR (top 17) 3
abbrev bH:Stmt:=bR (top 17) 4
abbrev bB:Stmt:=bR (top 17) 5
abbrev aW:Stmt:=bR (top 17) 6
abbrev aM:Stmt:=top 18
abbrev aP:Stmt:=top 19
abbrev dl:Stmt:=top 20
abbrev ck:Stmt:=top 21
abbrev dW:Stmt:=top 22
abbrev cf:Stmt:=top 23
abbrev b7:Stmt:=top 24
abbrev dh:Stmt:=top 25
abbrev bz:Stmt:=top 26
abbrev bf:Stmt:=top 27
abbrev bA:Stmt:=top 31
abbrev bY:Stmt:=top 32
abbrev eA:Stmt:=top 33
abbrev aN:Stmt:=bR (top 34) 0
abbrev bO:Stmt:=bR (top 34) 1
abbrev bh:Stmt:=bR (top 34) 3
abbrev bW:Stmt:=top 35
abbrev dj:Stmt:=top 36
abbrev cY:Stmt:=top 37
abbrev cJ:Stmt:=top 38
abbrev er:Stmt:=top 39
abbrev bj:Stmt:=top 40
abbrev bx:Stmt:=top 41
abbrev bC:Stmt:=top 43
abbrev di:Stmt:=top 44
abbrev bD:Stmt:=top 45
abbrev bV:Stmt:=top 46
abbrev cG:Stmt:=top 47
abbrev cI:Stmt:=top 48
abbrev b9:Stmt:=top 49
abbrev b8:Stmt:=top 50
abbrev bM:Stmt:=top 51
abbrev bZ:Stmt:=top 52
abbrev gq:Stmt:=top 53
theorem fS{N P:List Str}{f:Scope}(a:f.kind=.function)(b:f.isCoroutine=false)(c:f.isGenerator=false)(d:N.take P.length=P)(h:N.Nodup/\(∀ x∈P,f.names.lookup x = some .local \/ f.names.lookup x = some .cell)/\∀ y∈f.names,y.2≠.free):FnScope N P f:=⟨a,b,c,h.1,d,h.2.1,h.2.2⟩
theorem fY:FnScope ["self","place"] ["self","place"] (ac az):=fS rfl rfl rfl rfl (by decide +kernel)
theorem sc_j:FnScope ["one","other"] ["one","other"] (ac aA):=fS rfl rfl rfl rfl (by decide +kernel)
theorem sc_l:FnScope ["numbers","found","number"] ["numbers"] (ac aF):=fS rfl rfl rfl rfl (by decide +kernel)
theorem sc_G:FnScope ["top","bottom","divisor"] ["top","bottom"] (ac da):=fS rfl rfl rfl rfl (by decide +kernel)
theorem sc_ac:FnScope ["fractions","bottom"] ["fractions"] (ac dc):=fS rfl rfl rfl rfl (by decide +kernel)
theorem nY:FnScope ["thing","low","high"] ["thing","low","high"] (ac bN):=fS rfl rfl rfl rfl (by decide +kernel)
theorem ij:FnScope ["self","kept"] ["self","kept"] (ac aO):=fS rfl rfl rfl rfl (by decide +kernel)
theorem iV:FnScope ["self"] ["self"] (ac aR):=fS rfl rfl rfl rfl (by decide +kernel)
theorem lf:FnScope ["self"] ["self"] (ac bE):=fS rfl rfl rfl rfl (by decide +kernel)
theorem j4:FnScope ["self"] ["self"] (ac be):=fS rfl rfl rfl rfl (by decide +kernel)
theorem j7:FnScope ["self"] ["self"] (ac bi):=fS rfl rfl rfl rfl (by decide +kernel)
theorem iT:FnScope ["self","parts"] ["self","parts"] (ac aS):=fS rfl rfl rfl rfl (by decide +kernel)
theorem jE:FnScope ["self"] ["self"] (ac aX):=fS rfl rfl rfl rfl (by decide +kernel)
theorem ni:FnScope ["self"] ["self"] (ac bP):=fS rfl rfl rfl rfl (by decide +kernel)
theorem mC:FnScope ["self"] ["self"] (ac bG):=fS rfl rfl rfl rfl (by decide +kernel)
theorem mi:FnScope ["self"] ["self"] (ac bH):=fS rfl rfl rfl rfl (by decide +kernel)
theorem sc_q:FnScope ["self","throw","number","last","many","make"] ["self","throw"] (ac bB):=fS rfl rfl rfl rfl (by decide +kernel)
theorem jN:FnScope ["self","carry"] ["self","carry"] (ac aW):=fS rfl rfl rfl rfl (by decide +kernel)
abbrev d8:Expr:=(vI (rX aM 0))
def aH:LamD:=kx ((("carried_make" : Str) ++ ".<locals>.") ++ "<lambda>") d8
theorem iQ:FnScope ["make","carry"] ["make","carry"] (ac aM):=fS rfl rfl rfl rfl (by decide +kernel)
theorem iq:FnScope ["node","throw"] ["node","throw"] (ac aP):=fS rfl rfl rfl rfl (by decide +kernel)
theorem sc_ab:FnScope ["node","throws","here","place","throw"] ["node","throws"] (ac dl):=fS rfl rfl rfl rfl (by decide +kernel)
abbrev iK:Expr:=(vL (vI (rX ck 1)) 0)
def ld_behind_1:LamD:=kx ((("behind" : Str) ++ ".<locals>.") ++ "<lambda>") iK
theorem sw:FnScope ["node","go"] ["node","go"] (ac ck):=fS rfl rfl rfl rfl (by decide +kernel)
abbrev km:Expr:=(vL (vI (rX dW 0)) 1)
def eD:LamD:=kx ((("both" : Str) ++ ".<locals>.") ++ "<lambda>") km
theorem sc_H:FnScope ["one","other"] ["one","other"] (ac dW):=fS rfl rfl rfl rfl (by decide +kernel)
abbrev iI:Expr:=(vL (vI (rX cf 0)) 1)
def dD:LamD:=kx ((("joined" : Str) ++ ".<locals>.") ++ "<lambda>") iI
theorem sc_t:FnScope ["kept","node"] ["kept","node"] (ac cf):=fS rfl rfl rfl rfl (by decide +kernel)
theorem sc_L:FnScope ["node","ways","ahead","here","top","bottom","sides"] ["node"] (ac b7):=fS rfl rfl rfl rfl (by decide +kernel)
theorem sc_M:FnScope ["node","found","kept","chance"] ["node"] (ac dh):=fS rfl rfl rfl rfl (by decide +kernel)
theorem sc_y:FnScope ["node","places","rows","bottom","tops","kept","chance","top","asked","one","other"] ["node","places"] (ac bz):=fS rfl rfl rfl rfl (by decide +kernel)
theorem j0:FnScope ["one","places","tops","bottom"] ["one","places","tops","bottom"] (ac bf):=fS rfl rfl rfl rfl (by decide +kernel)
theorem lB:FnScope ["thing"] ["thing"] (ac bA):=fS rfl rfl rfl rfl (by decide +kernel)
theorem o9:FnScope ["thing"] ["thing"] (ac bY):=fS rfl rfl rfl rfl (by decide +kernel)
theorem wT:FnScope ["holds"] ["holds"] (ac eA):=fS rfl rfl rfl rfl (by decide +kernel)
theorem iB:FnScope ["self","start","many"] ["self","start","many"] (ac aN):=fS rfl rfl rfl rfl (by decide +kernel)
theorem mR:FnScope ["self","number"] ["self","number"] (ac bO):=fS rfl rfl rfl rfl (by decide +kernel)
theorem j6:FnScope ["self","by"] ["self","by"] (ac bh):=fS rfl rfl rfl rfl (by decide +kernel)
theorem sc_U:FnScope ["one","other","first","end"] ["one","other"] (ac bW):=fS rfl rfl rfl rfl (by decide +kernel)
theorem v3:FnScope ["many","by","count"] ["many","by","count"] (ac dj):=fS rfl rfl rfl rfl (by decide +kernel)
theorem vP:FnScope ["turns","number"] ["turns","number"] (ac cY):=fS rfl rfl rfl rfl (by decide +kernel)
theorem sc_S:FnScope ["turns","told","many","places"] ["turns"] (ac cJ):=fS rfl rfl rfl rfl (by decide +kernel)
theorem wX:FnScope ["turns"] ["turns"] (ac er):=fS rfl rfl rfl rfl (by decide +kernel)
abbrev fo:Expr:=(vI (rX bj 0))
def ld_told_make_1:LamD:=kx ((("told_make" : Str) ++ ".<locals>.") ++ "<lambda>") fo
theorem ma:FnScope ["places"] ["places"] (ac bj):=fS rfl rfl rfl rfl (by decide +kernel)
theorem sc_B:FnScope ["turns","told","number","places"] ["turns"] (ac bx):=fS rfl rfl rfl rfl (by decide +kernel)
theorem mH:FnScope ["_law_script","_law_k"] ["_law_script","_law_k"] (ac bC):=fS rfl rfl rfl rfl (by decide +kernel)
theorem sc_Y:FnScope ["_law_cell","_law_k","_law_number"] ["_law_cell","_law_k"] (ac di):=fS rfl rfl rfl rfl (by decide +kernel)
theorem sc_u:FnScope ["_law_cell","_law_digits","_law_bases","_law_numbers_here","_law_k","_law_base"] ["_law_cell","_law_digits","_law_bases"] (ac bD):=fS rfl rfl rfl rfl (by decide +kernel)
theorem sc_V:FnScope ["_law_start","_law_many","_law_marks_here","_law_k"] ["_law_start","_law_many"] (ac bV):=fS rfl rfl rfl rfl (by decide +kernel)
theorem sc_X:FnScope ["_law_cell","_law_digits","_law_start","_law_many","_law_way"] ["_law_cell","_law_digits"] (ac cG):=fS rfl rfl rfl rfl (by decide +kernel)
theorem tH:FnScope ["_law_marks_here","_law_number"] ["_law_marks_here","_law_number"] (ac cI):=fS rfl rfl rfl rfl (by decide +kernel)
theorem sc_P:FnScope ["_law_marks_here","_law_parts_here","_law_number","_law_here"] ["_law_marks_here"] (ac b9):=fS rfl rfl rfl rfl (by decide +kernel)
theorem sc_J:FnScope ["_law_parts_here","_law_found","_law_many","_law_here"] ["_law_parts_here"] (ac b8):=fS rfl rfl rfl rfl (by decide +kernel)
theorem m9:FnScope ["_law_turns_here"] ["_law_turns_here"] (ac bM):=fS rfl rfl rfl rfl (by decide +kernel)
theorem sc_Q:FnScope ["_law_script","_law_digits","_law_many","_law_by","_law_count"] ["_law_script","_law_digits"] (ac bZ):=fS rfl rfl rfl rfl (by decide +kernel)
abbrev nu:Expr:=(vL (vL (BH (rX gq 10)) 0) 1)
def fg:LamD:=kx ((("law" : Str) ++ ".<locals>.") ++ "<lambda>") nu
theorem sc_O:FnScope ["_law_script","_law_digits","_law_turns_here","_law_marks_here","_law_handed","_law_node","_law_parts_here","_law_cell","_law_throw","_law_more","_law_total","_law_k","_law_many"] ["_law_script"] (ac gq):=fS rfl rfl rfl rfl (by decide +kernel)
set_option genInjectivity false in
set_option genSizeOf false in
structure Ad where
 f_j:Addr
 d_j:FuncData
 f_l:Addr
 d_l:FuncData
 f_G:Addr
 d_G:FuncData
 f_ac:Addr
 d_ac:FuncData
 f_A:Addr
 d_A:FuncData
 f_e:Addr
 d_e:FuncData
 f_r:Addr
 d_r:FuncData
 f_ab:Addr
 d_ab:FuncData
 f_m:Addr
 d_m:FuncData
 f_H:Addr
 d_H:FuncData
 f_t:Addr
 d_t:FuncData
 f_L:Addr
 d_L:FuncData
 f_M:Addr
 d_M:FuncData
 f_y:Addr
 d_y:FuncData
 f_I:Addr
 d_I:FuncData
 f_v:Addr
 d_v:FuncData
 f_R:Addr
 d_R:FuncData
 f_aa:Addr
 d_aa:FuncData
 f_U:Addr
 d_U:FuncData
 f_ae:Addr
 d_ae:FuncData
 f_af:Addr
 d_af:FuncData
 f_S:Addr
 d_S:FuncData
 f_ag:Addr
 d_ag:FuncData
 f_i:Addr
 d_i:FuncData
 f_B:Addr
 d_B:FuncData
 f_D:Addr
 d_D:FuncData
 f_Y:Addr
 d_Y:FuncData
 f_u:Addr
 d_u:FuncData
 f_V:Addr
 d_V:FuncData
 f_X:Addr
 d_X:FuncData
 f_T:Addr
 d_T:FuncData
 f_P:Addr
 d_P:FuncData
 f_J:Addr
 d_J:FuncData
 f_W:Addr
 d_W:FuncData
 f_Q:Addr
 d_Q:FuncData
 f_O:Addr
 d_O:FuncData
 c_N:Addr
 c_a:Addr
 i_a:Addr
 e_a:FuncData
 c_C:Addr
 c_ad:Addr
 c_Z:Addr
 c_d:Addr
 i_d:Addr
 e_d:FuncData
 c_h:Addr
 i_h:Addr
 e_h:FuncData
 c_g:Addr
 i_g:Addr
 e_g:FuncData
 x_k:Addr
 y_k:FuncData
 x_o:Addr
 y_o:FuncData
 x_n:Addr
 y_n:FuncData
 x_p:Addr
 y_p:FuncData
 x_s:Addr
 y_s:FuncData
 x_w:Addr
 y_w:FuncData
 x_x:Addr
 y_x:FuncData
 x_E:Addr
 y_E:FuncData
 x_q:Addr
 y_q:FuncData
 x_z:Addr
 y_z:FuncData
 x_F:Addr
 y_F:FuncData
 x_K:Addr
 y_K:FuncData
 lc_i:Addr
 lp_i:Addr
 lc_e:Addr
 lp_e:Addr
 lc_t:Addr
 lp_t:Addr
 lc_H:Addr
 lp_H:Addr
 lc_m:Addr
 lp_m:Addr
 lc_O:Addr
 lp_O:Addr
abbrev eP:List (Pos×Str):=[(rM fo,((("told_make" : Str) ++ ".<locals>.") ++ "<lambda>"))]
theorem lZ:(eP).Pairwise λx y=>¬(x.1.line=y.1.line/\x.1.col=y.1.col):=by decide +kernel
abbrev dF:List (Pos×Str):=[(rM d8,((("carried_make" : Str) ++ ".<locals>.") ++ "<lambda>"))]
theorem iU:(dF).Pairwise λx y=>¬(x.1.line=y.1.line/\x.1.col=y.1.col):=by decide +kernel
abbrev iy:List (Pos×Str):=[(rM iI,((("joined" : Str) ++ ".<locals>.") ++ "<lambda>"))]
theorem sS:(iy).Pairwise λx y=>¬(x.1.line=y.1.line/\x.1.col=y.1.col):=by decide +kernel
abbrev my:List (Pos×Str):=[(rM km,((("both" : Str) ++ ".<locals>.") ++ "<lambda>"))]
theorem xw:(my).Pairwise λx y=>¬(x.1.line=y.1.line/\x.1.col=y.1.col):=by decide +kernel
abbrev ii:List (Pos×Str):=[(rM iK,((("behind" : Str) ++ ".<locals>.") ++ "<lambda>"))]
theorem su:(ii).Pairwise λx y=>¬(x.1.line=y.1.line/\x.1.col=y.1.col):=by decide +kernel
abbrev pL:List (Pos×Str):=[(rM nu,((("law" : Str) ++ ".<locals>.") ++ "<lambda>"))]
theorem zK:(pL).Pairwise λx y=>¬(x.1.line=y.1.line/\x.1.col=y.1.col):=by decide +kernel
def tabs(a:Ad):oY:=[(a.lp_i,eP),(a.lp_e,dF),(a.lp_t,iy),(a.lp_H,my),(a.lp_m,ii),(a.lp_O,pL)]
theorem md(a:Ad):(a.lp_i,eP)∈tabs a:=(.head _)
theorem iR(a:Ad):(a.lp_e,dF)∈tabs a:=(.tail _ (.head _))
theorem tG(a:Ad):(a.lp_t,iy)∈tabs a:=(.tail _ (.tail _ (.head _)))
theorem wA(a:Ad):(a.lp_H,my)∈tabs a:=(.tail _ (.tail _ (.tail _ (.head _))))
theorem rR(a:Ad):(a.lp_m,ii)∈tabs a:=(.tail _ (.tail _ (.tail _ (.tail _ (.head _)))))
theorem zc(a:Ad):(a.lp_O,pL)∈tabs a:=(.tail _ (.tail _ (.tail _ (.tail _ (.tail _ (.head _))))))
structure Txt(K:Frag)(mg:Str->Option Value)(a:Ad):Prop where
 lcd_i:a.d_i.code=.ref a.lc_i
 lch_i:codeHdIn K a.lc_i a.lp_i=true
 lcd_e:a.d_e.code=.ref a.lc_e
 lch_e:codeHdIn K a.lc_e a.lp_e=true
 lcd_t:a.d_t.code=.ref a.lc_t
 lch_t:codeHdIn K a.lc_t a.lp_t=true
 lcd_H:a.d_H.code=.ref a.lc_H
 lch_H:codeHdIn K a.lc_H a.lp_H=true
 lcd_m:a.d_m.code=.ref a.lc_m
 lch_m:codeHdIn K a.lc_m a.lp_m=true
 lcd_O:a.d_O.code=.ref a.lc_O
 lch_O:codeHdIn K a.lc_O a.lp_O=true
 tnd:((tabs a).map (·.1)).Nodup
 F_j:Fun K "greatest_divisor" "greatest_divisor" aA a.f_j a.d_j
 B_j:Binds K a.d_j ["one","other"] []
 m_j:mg "greatest_divisor" = some (.ref a.f_j)
 F_l:Fun K "least_multiple" "least_multiple" aF a.f_l a.d_l
 B_l:Binds K a.d_l ["numbers"] []
 m_l:mg "least_multiple" = some (.ref a.f_l)
 F_G:Fun K "share" "share" da a.f_G a.d_G
 B_G:Binds K a.d_G ["top","bottom"] []
 m_G:mg "share" = some (.ref a.f_G)
 F_ac:Fun K "total" "total" dc a.f_ac a.d_ac
 B_ac:Binds K a.d_ac ["fractions"] []
 m_ac:mg "total" = some (.ref a.f_ac)
 F_A:Fun K "is_whole" "is_whole" bN a.f_A a.d_A
 B_A:Binds K a.d_A ["thing","low","high"] []
 m_A:mg "is_whole" = some (.ref a.f_A)
 F_e:Fun K "carried_make" "carried_make" aM a.f_e a.d_e
 B_e:Binds K a.d_e ["make","carry"] []
 m_e:mg "carried_make" = some (.ref a.f_e)
 F_r:Fun K "can_be_thrown" "can_be_thrown" aP a.f_r a.d_r
 B_r:Binds K a.d_r ["node","throw"] []
 m_r:mg "can_be_thrown" = some (.ref a.f_r)
 F_ab:Fun K "drawn" "drawn" dl a.f_ab a.d_ab
 B_ab:Binds K a.d_ab ["node","throws"] []
 m_ab:mg "drawn" = some (.ref a.f_ab)
 F_m:Fun K "behind" "behind" ck a.f_m a.d_m
 B_m:Binds K a.d_m ["node","go"] []
 m_m:mg "behind" = some (.ref a.f_m)
 F_H:Fun K "both" "both" dW a.f_H a.d_H
 B_H:Binds K a.d_H ["one","other"] []
 m_H:mg "both" = some (.ref a.f_H)
 F_t:Fun K "joined" "joined" cf a.f_t a.d_t
 B_t:Binds K a.d_t ["kept","node"] []
 m_t:mg "joined" = some (.ref a.f_t)
 F_L:Fun K "ways_of" "ways_of" b7 a.f_L a.d_L
 B_L:Binds K a.d_L ["node"] []
 m_L:mg "ways_of" = some (.ref a.f_L)
 F_M:Fun K "table" "table" dh a.f_M a.d_M
 B_M:Binds K a.d_M ["node"] []
 m_M:mg "table" = some (.ref a.f_M)
 F_y:Fun K "matrix_of" "matrix_of" bz a.f_y a.d_y
 B_y:Binds K a.d_y ["node","places"] []
 m_y:mg "matrix_of" = some (.ref a.f_y)
 F_I:Fun K "matrix_row" "matrix_row" bf a.f_I a.d_I
 B_I:Binds K a.d_I ["one","places","tops","bottom"] []
 m_I:mg "matrix_row" = some (.ref a.f_I)
 F_v:Fun K "is_number" "is_number" bA a.f_v a.d_v
 B_v:Binds K a.d_v ["thing"] []
 m_v:mg "is_number" = some (.ref a.f_v)
 F_R:Fun K "is_many" "is_many" bY a.f_R a.d_R
 B_R:Binds K a.d_R ["thing"] []
 m_R:mg "is_many" = some (.ref a.f_R)
 F_aa:Fun K "need" "need" eA a.f_aa a.d_aa
 B_aa:Binds K a.d_aa ["holds"] []
 m_aa:mg "need" = some (.ref a.f_aa)
 F_U:Fun K "overlap" "overlap" bW a.f_U a.d_U
 B_U:Binds K a.d_U ["one","other"] []
 m_U:mg "overlap" = some (.ref a.f_U)
 F_ae:Fun K "panel" "panel" dj a.f_ae a.d_ae
 B_ae:Binds K a.d_ae ["many","by","count"] []
 m_ae:mg "panel" = some (.ref a.f_ae)
 F_af:Fun K "stays" "stays" cY a.f_af a.d_af
 B_af:Binds K a.d_af ["turns","number"] []
 m_af:mg "stays" = some (.ref a.f_af)
 F_S:Fun K "counts" "counts" cJ a.f_S a.d_S
 B_S:Binds K a.d_S ["turns"] []
 m_S:mg "counts" = some (.ref a.f_S)
 F_ag:Fun K "spun" "spun" er a.f_ag a.d_ag
 B_ag:Binds K a.d_ag ["turns"] []
 m_ag:mg "spun" = some (.ref a.f_ag)
 F_i:Fun K "told_make" "told_make" bj a.f_i a.d_i
 B_i:Binds K a.d_i ["places"] []
 m_i:mg "told_make" = some (.ref a.f_i)
 F_B:Fun K "stretches" "stretches" bx a.f_B a.d_B
 B_B:Binds K a.d_B ["turns"] []
 m_B:mg "stretches" = some (.ref a.f_B)
 F_D:Fun K "_law_cell_at" "_law_cell_at" bC a.f_D a.d_D
 B_D:Binds K a.d_D ["_law_script","_law_k"] []
 m_D:mg "_law_cell_at" = some (.ref a.f_D)
 F_Y:Fun K "_law_mix" "_law_mix" di a.f_Y a.d_Y
 B_Y:Binds K a.d_Y ["_law_cell","_law_k"] []
 m_Y:mg "_law_mix" = some (.ref a.f_Y)
 F_u:Fun K "_law_numbers" "_law_numbers" bD a.f_u a.d_u
 B_u:Binds K a.d_u ["_law_cell","_law_digits","_law_bases"] []
 m_u:mg "_law_numbers" = some (.ref a.f_u)
 F_V:Fun K "_law_marks" "_law_marks" bV a.f_V a.d_V
 B_V:Binds K a.d_V ["_law_start","_law_many"] []
 m_V:mg "_law_marks" = some (.ref a.f_V)
 F_X:Fun K "_law_turn" "_law_turn" cG a.f_X a.d_X
 B_X:Binds K a.d_X ["_law_cell","_law_digits"] []
 m_X:mg "_law_turn" = some (.ref a.f_X)
 F_T:Fun K "_law_kept" "_law_kept" cI a.f_T a.d_T
 B_T:Binds K a.d_T ["_law_marks_here","_law_number"] []
 m_T:mg "_law_kept" = some (.ref a.f_T)
 F_P:Fun K "_law_parts" "_law_parts" b9 a.f_P a.d_P
 B_P:Binds K a.d_P ["_law_marks_here"] []
 m_P:mg "_law_parts" = some (.ref a.f_P)
 F_J:Fun K "_law_table" "_law_table" b8 a.f_J a.d_J
 B_J:Binds K a.d_J ["_law_parts_here"] []
 m_J:mg "_law_table" = some (.ref a.f_J)
 F_W:Fun K "_law_matrix" "_law_matrix" bM a.f_W a.d_W
 B_W:Binds K a.d_W ["_law_turns_here"] []
 m_W:mg "_law_matrix" = some (.ref a.f_W)
 F_Q:Fun K "_law_turns" "_law_turns" bZ a.f_Q a.d_Q
 B_Q:Binds K a.d_Q ["_law_script","_law_digits"] []
 m_Q:mg "_law_turns" = some (.ref a.f_Q)
 F_O:Fun K "law" "law" gq a.f_O a.d_O
 m_O:mg "law" = some (.ref a.f_O)
 g_MOST_WAYS:∃ u,mg "MOST_WAYS" = some u/\RelV (.int 4096) u
 g_CIRCLE:∃ u,mg "CIRCLE" = some u/\RelV (.int 1000) u
 g_MOST_LISTED:∃ u,mg "MOST_LISTED" = some u/\RelV (.int 24) u
 mc_a:mg "NoThrow" = some (.ref a.c_a)
 kc_NoThrow:keepIn K (.ref a.c_a)=true
 xc_a:XCls K a.c_a
 xh_a:XHd K a.c_a
 xi_NoThrow:xIn K a.c_a (some (.ref a.i_a))=true
 fn_NoThrow:isFn K (.ref a.i_a)=true
 Fi_a:Fun K "__init__" "NoThrow.__init__" az a.i_a a.e_a
 Bi_a:Binds K a.e_a ["self","place"] []
 sx_NoThrow_place:∃ cd,XSet K a.c_a "place" cd
 mc_C:mg "TooMany" = some (.ref a.c_C)
 kc_TooMany:keepIn K (.ref a.c_C)=true
 xc_C:XCls K a.c_C
 xh_C:XHd K a.c_C
 xi_TooMany:xIn K a.c_C none=true
 mc_d:mg "Told" = some (.ref a.c_d)
 cl_d:Cls K a.c_d
 mk_d:Mk K a.c_d a.i_d
 Fi_d:Fun K "__init__" "Told.__init__" aO a.i_d a.e_d
 Bi_d:Binds K a.e_d ["self","kept"] []
 na_Told_rising:NoAttr K a.c_d "rising"
 mt_k:Meth K a.c_d "is_told" a.x_k
 mt_n:Meth K a.c_d "kept" a.x_n
 mt_s:Meth K a.c_d "sides" a.x_s
 mt_x:Meth K a.c_d "parts" a.x_x
 mc_h:mg "Die" = some (.ref a.c_h)
 cl_h:Cls K a.c_h
 mk_h:Mk K a.c_h a.i_h
 Fi_h:Fun K "__init__" "Die.__init__" aS a.i_h a.e_h
 Bi_h:Binds K a.e_h ["self","parts"] []
 na_Die_makes:NoAttr K a.c_h "makes"
 mt_o:Meth K a.c_h "is_told" a.x_o
 mt_p:Meth K a.c_h "kept" a.x_p
 mt_w:Meth K a.c_h "sides" a.x_w
 mt_E:Meth K a.c_h "parts" a.x_E
 mt_q:Meth K a.c_h "after" a.x_q
 mt_z:Meth K a.c_h "carried" a.x_z
 mc_g:mg "Turn" = some (.ref a.c_g)
 cl_g:Cls K a.c_g
 mk_g:Mk K a.c_g a.i_g
 Fi_g:Fun K "__init__" "Turn.__init__" aN a.i_g a.e_g
 Bi_g:Binds K a.e_g ["self","start","many"] []
 na_Turn_start:NoAttr K a.c_g "start"
 na_Turn_many:NoAttr K a.c_g "many"
 mt_F:Meth K a.c_g "moved" a.x_F
 mt_K:Meth K a.c_g "has" a.x_K
 F_k:Fun K "is_told" "Told.is_told" aR a.x_k a.y_k
 B_k:Binds K a.y_k ["self"] []
 F_o:Fun K "is_told" "Die.is_told" aX a.x_o a.y_o
 B_o:Binds K a.y_o ["self"] []
 F_n:Fun K "kept" "Told.kept" bE a.x_n a.y_n
 B_n:Binds K a.y_n ["self"] []
 F_p:Fun K "kept" "Die.kept" bP a.x_p a.y_p
 B_p:Binds K a.y_p ["self"] []
 F_s:Fun K "sides" "Told.sides" be a.x_s a.y_s
 B_s:Binds K a.y_s ["self"] []
 F_w:Fun K "sides" "Die.sides" bG a.x_w a.y_w
 B_w:Binds K a.y_w ["self"] []
 F_x:Fun K "parts" "Told.parts" bi a.x_x a.y_x
 B_x:Binds K a.y_x ["self"] []
 F_E:Fun K "parts" "Die.parts" bH a.x_E a.y_E
 B_E:Binds K a.y_E ["self"] []
 F_q:Fun K "after" "Die.after" bB a.x_q a.y_q
 B_q:Binds K a.y_q ["self","throw"] []
 F_z:Fun K "carried" "Die.carried" aW a.x_z a.y_z
 B_z:Binds K a.y_z ["self","carry"] []
 F_F:Fun K "moved" "Turn.moved" bh a.x_F a.y_F
 B_F:Binds K a.y_F ["self","by"] []
 F_K:Fun K "has" "Turn.has" bO a.x_K a.y_K
 B_K:Binds K a.y_K ["self","number"] []
 z_abs:mg "abs" = none
 z_bool:mg "bool" = none
 z_enumerate:mg "enumerate" = none
 z_int:mg "int" = none
 z_isinstance:mg "isinstance" = none
 z_len:mg "len" = none
 z_list:mg "list" = none
 z_max:mg "max" = none
 z_min:mg "min" = none
 z_range:mg "range" = none
 z_sorted:mg "sorted" = none
 z_sum:mg "sum" = none
 z_tuple:mg "tuple" = none
 bl:∀(s:Shared) (u:Value),BindsTo s a.d_O ⟨[u],[]⟩ [("_law_script",u)]
def qo(ns:List Int)(k:Int):Int:=if k<(ns.length:Int) then ns.getD k.toNat 0 else 0
inductive spCell(K:Frag)(vs:List V)(H:Hp)(Q:VK)(_E:XK):Prop
 | mk(p:Addr)(ns:List Int)(k:Int)(h0:vs=[.ref p,.int k])(h1:SqL K H p (ns.map V.int))(h2:ns.length<=63)(h3:0<=k)(h4:k<=1000)(h5:Q (.int (qo ns k)) H):spCell K vs H Q _E
inductive spMix(vs:List V)(H:Hp)(Q:VK)(_E:XK):Prop
 | mk(c k:Int)(h0:vs=[.int c,.int k])(h1:0<=k)(h2:k<=1000)(h3:∀ r:Int,0<=r->Q (.int r) H):spMix vs H Q _E
inductive spLaw(K:Frag)(ts:List Addr)(vs:List V)(H:Hp)(Q:VK)(_E:XK):Prop
 | mk(p:Addr)(ns:List Int)(h0:vs=[.ref p])(h1:SqL K H p (ns.map V.int))(h2:ns.length<=63)(h3:(∀ P∈ts,H P=some (.tbl #[])))(h4:∀ H',Q (.bl true) H'):spLaw K ts vs H Q _E
theorem law_start{K:Frag}{c:List Addr}{H:Hp}{a:Addr}{b:List Int}(d:b.length<=63)(f:∀ P∈c,H P=some (.tbl #[]))(g:SqL K H a (b.map V.int)):spLaw K c [.ref a] H (λv _=>v=.bl true) λ_ _ _=>False:=⟨a,b,rfl,g,d,f,λ_=>rfl⟩
inductive Thing(H:Hp):V->Option Int->Prop
 | int (i:Int):Thing H (.int i) (some i)
 | bl (b:Bool):Thing H (.bl b) none
 | non:Thing H .non none
 | str (t:Str):Thing H (.str t) none
 | lst (p:Addr) (xs:List V) (e:H p=some (.lst xs)):Thing H (.ref p) none
 | tup (p:Addr) (xs:List V) (e:H p=some (.tup xs)):Thing H (.ref p) none
 | dK (p:Addr) (kvs:List (Key×V)) (e:H p=some (.dK kvs)):Thing H (.ref p) none
def inR(lo hi:Int):Option Int->Bool
 | some i=>decide (lo<=i/\i<=hi)
 | none=>false
inductive spWhole3(vs:List V)(H:Hp)(Q:VK)(_E:XK):Prop
 | mk(x:V)(lo hi:Int)(o:Option Int)(h0:vs=[x,.int lo,.int hi])(h1:Thing H x o)(h2:Q (.bl (inR lo hi o)) H):spWhole3 vs H Q _E
inductive spIs(hi:Int)(vs:List V)(H:Hp)(Q:VK)(_E:XK):Prop
 | mk(x:V)(o:Option Int)(h0:vs=[x])(h1:Thing H x o)(h2:Q (.bl (inR 0 hi o)) H):spIs hi vs H Q _E
def jV:Sp:=λvs H Q _=>vs=[.bl true]/\Q .non H
def IsT(a:Ad)(H:Hp)(x:Addr)(s m:Int):Prop:=∃ dx,H x=some (.ins a.c_g dx [("start",.int s),("many",.int m)])
theorem IsT.same{a:Ad}{H H':Hp}{x:Addr}{s m:Int}(e:Same H H')(h:IsT a H x s m):IsT a H' x s m:=let ⟨dx,q⟩:=h;⟨dx,e _ _ q⟩
def OkT(s m:Int):Prop:=0<=s/\s<1000/\0<=m/\m<=1000
inductive spInit(a:Ad)(vs:List V)(H:Hp)(Q:VK)(_E:XK):Prop
 | mk(x dx:Addr)(s m:Int)(h0:vs=[.ref x,.int s,.int m])(h1:H x=some (.ins a.c_g dx []))(h2:OkT s m)(h3:Q .non (upd (upd H x (.ins a.c_g dx [("start",.int s)])) x (.ins a.c_g dx [("start",.int s),("many",.int m)]))):spInit a vs H Q _E
inductive spOverlap(a:Ad)(vs:List V)(H:Hp)(Q:VK)(_E:XK):Prop
 | mk(x y:Addr)(s m s' m':Int)(h0:vs=[.ref x,.ref y])(h1:IsT a H x s m)(h2:IsT a H y s' m')(h3:Q (.int (ov s m s' m')) H):spOverlap a vs H Q _E
abbrev Below:List Int->List Int->Prop:=PySem.Paired (λb v=>0<=v/\v<b)
theorem Below.snoc{b v:Int}(r:0<=v/\v<b):∀{bs ns:List Int},Below bs ns->Below (bs++[b]) (ns++[v])
 | _,_,.nil=>.cons r .nil
 | _,_,.cons q t=>.cons q (Below.snoc r t)
inductive spNumbers(K:Frag)(vs:List V)(H:Hp)(Q:VK)(_E:XK):Prop
 | mk(c:Int)(d:Bool)(p:Addr)(bs:List Int)(h0:vs=[.int c,.bl d,.ref p])(h1:H p=some (.lst (bs.map V.int)))(h2:bs.length<=100)(h3:(∀ b∈bs,1<=b/\b<=1000000))(h4:∀ H' l ns,Same H H'->H l=none->H' l=some (.lst (ns.map V.int))->Below bs ns->Q (.ref l) H'):spNumbers K vs H Q _E
inductive spMarks(vs:List V)(H:Hp)(Q:VK)(_E:XK):Prop
 | mk(s m:Int)(h0:vs=[.int s,.int m])(h1:OkT s m)(h2:∀ H' l,Same H H'->H l=none->H' l=some (.lst ((dA s m).map V.int))->Q (.ref l) H'):spMarks vs H Q _E
inductive spTurn(vs:List V)(H:Hp)(Q:VK)(_E:XK):Prop
 | mk(c:Int)(d:Bool)(h0:vs=[.int c,.bl d])(h1:∀ H' p s m,Same H H'->H' p=some (.tup [.int s,.int m])->OkT s m->Q (.ref p) H'):spTurn vs H Q _E
theorem cT(x y:V):[x,y].length<=sizeLine:=by show 2<=sizeLine;decide
section
variable {P:Program}{w:World}{K:Frag}{mg:Str->Option Value}{base:Heap}{a:Ad}
theorem qT(T:Txt K mg a):FnOk P w K mg base CX0 1 a.f_D a.d_D ["_law_script","_law_k"] (spCell K):=by
 refine T.F_D.ok mH (λg H Q E h=>?_) (λcdv A outer s H g Q E hr h=>?_)
 .obtain⟨p,b,k,rfl,_⟩:=h;rfl
 .obtain⟨p,b,k,rfl,f,l,o,n,q⟩:=h
  refine⟨_,(aj (cK (cE xb (vr 1) (aL cD rfl T.z_len eM (aa (vr 0) ae)) (bw _)) (ak (aw (cF bU (vr 0) (vr 1) (λ_ _=>rfl)))) bK) (ak (aw am))),jK ?_⟩;intro i;refine⟨b.map V.int,.inl f,?_⟩;rw[length_map];unfold qo at q;refine BS (λc=>?_) (λc=>?_)
  .have d:k<(b.length:Int):=of_decide_eq_true c
   rw[if_pos d]at q;refine .inl ⟨p,_,k,.int (b.getD k.toNat 0),rfl,rfl,f,?_,q⟩;have e:((k.toNat:Nat):Int)=k:=by omega
   rw[<- e];refine gL ?_;have j:k.toNat<b.length:=by omega
   rw[e];simp[List.getElem?_map,List.getD,j]
  .have d:¬k<(b.length:Int):=λz=>c (decide_eq_true z)
   rw[if_neg d]at q;exact q
theorem uX(T:Txt K mg a):FnOk P w K mg base CX0 1 a.f_Y a.d_Y ["_law_cell","_law_k"] spMix:=by
 refine T.F_Y.ok sc_Y (λb H Q E h=>?_) (λcdv A outer s H b Q E hr h=>?_)
 .obtain⟨c,k,rfl,_⟩:=h;rfl
 .obtain⟨c,k,rfl,j,g,q⟩:=h
  refine⟨_,(aj (aD (i:=2) sc_Y.nd rfl (Or.inl rfl) (ay dY (ay dU (ay dq (ay dq (ay dY (vr 0) am) (ay dU am (vr 1))) am) am) am)) (aj (aD (i:=2) sc_Y.nd rfl (Or.inl rfl) (ay dY (ay dU (vr 2) (vr 2)) am)) (ak (aw (ay dY (ay dU (vr 2) (ay dq (vr 2) am)) am))))),eQ ?_⟩;intro d f;exact⟨cp,clB,crB,cp,clB (by omega) (by omega),cp,clB (by omega) (by omega),cp,q _ (by omega)⟩
theorem fQ(T:Txt K mg a):FnOk P w K mg base CX0 1 a.f_A a.d_A ["thing","low","high"] spWhole3:=by
 refine T.F_A.ok nY (λg H Q E h=>?_) (λcdv A outer s H g Q E hr h=>?_)
 .obtain⟨x,d,c,o,rfl,_⟩:=h;rfl
 .obtain⟨x,d,c,o,rfl,f,q⟩:=h
  refine⟨_,(ak (aw (mM (aL mS rfl T.z_isinstance gj (aa (vr 0) (aa (qe (v:=.ty "int") rfl T.z_int yS rfl) ae))) (mM (BB (aL mS rfl T.z_isinstance gj (aa (vr 0) (aa (qe (v:=.ty "bool") rfl T.z_bool xC rfl) ae)))) (oH (w6 AK AK (vr 1) (vr 0) (vr 2))))))),?_⟩;cases f with
  | int i =>
   refine⟨_,_,_,true,rfl,rfl,.int i,rfl,?_⟩;refine⟨_,_,_,false,rfl,rfl,.int i,rfl,?_⟩;exact yP (Q:=λv=>Q v H) q
  | bl b=>exact⟨_,_,_,true,rfl,rfl,.bl b,rfl,⟨_,_,_,true,rfl,rfl,.bl b,rfl,q⟩⟩
  | non=>exact⟨_,_,_,false,rfl,rfl,.non,rfl,q⟩
  | str t=>exact⟨_,_,_,false,rfl,rfl,.str t,rfl,q⟩
  | lst p xs e=>exact⟨_,_,_,false,rfl,rfl,.lst e,rfl,q⟩
  | tup p xs e=>exact⟨_,_,_,false,rfl,rfl,.tup e,rfl,q⟩
  | dK p kvs e=>exact⟨_,_,_,false,rfl,rfl,.dK e,rfl,q⟩
theorem dJ(T:Txt K mg a):FnOk P w K mg base CX0 2 a.f_v a.d_v ["thing"] (spIs 999):=by
 have b:FnOk P w K mg base CX0 1 _ _ _ spWhole3:=fQ T;refine T.F_v.ok lB (λd H Q E h=>?_) (λcdv A outer s H d Q E hr h=>?_)
 .obtain⟨x,o,rfl,_⟩:=h;rfl
 .obtain⟨x,o,rfl,c,q⟩:=h
  refine⟨_,(ak (aw (aq b hr rfl T.m_A T.F_A.kp T.B_A .nil ar (aa (vr 0) (aa am (aa (ay jq (gE rfl T.g_CIRCLE) am) ae)))))),?_⟩;exact⟨x,0,999,o,rfl,c,q⟩
theorem jO(T:Txt K mg a):FnOk P w K mg base CX0 2 a.f_R a.d_R ["thing"] (spIs 1000):=by
 have b:FnOk P w K mg base CX0 1 _ _ _ spWhole3:=fQ T;refine T.F_R.ok o9 (λd H Q E h=>?_) (λcdv A outer s H d Q E hr h=>?_)
 .obtain⟨x,o,rfl,_⟩:=h;rfl
 .obtain⟨x,o,rfl,c,q⟩:=h
  refine⟨_,(ak (aw (aq b hr rfl T.m_A T.F_A.kp T.B_A .nil ar (aa (vr 0) (aa am (aa (gE rfl T.g_CIRCLE) ae)))))),?_⟩;exact⟨x,0,1000,o,rfl,c,q⟩
theorem jh(T:Txt K mg a):FnOk P w K mg base CX0 1 a.f_aa a.d_aa ["holds"] jV:=by
 refine T.F_aa.ok wT (λb H Q E h=>?_) (λcdv A outer s H b Q E hr h=>?_)
 .obtain⟨rfl,_⟩:=h;rfl
 .obtain⟨rfl,q⟩:=h
  exact⟨_,(ak (cK (mD (gN (vr 0))) (ak u6) bK)),q⟩
theorem eG{lo a i:Int}(b:lo<=i)(c:i<=a):inR lo a (some i)=true:=decide_eq_true ⟨b,c⟩
theorem lN(T:Txt K mg a):FnOk P w K mg base CX0 3 a.i_g a.e_g ["self","start","many"] (spInit a):=by
 have c:FnOk P w K mg base CX0 2 _ _ _ _:=(jh T).mono (by decide);have f:FnOk P w K mg base CX0 2 _ _ _ (spIs 999):=dJ T;have d:FnOk P w K mg base CX0 2 _ _ _ (spIs 1000):=jO T;refine T.Fi_g.ok iB (λi H Q E h=>?_) (λcdv A outer s H i Q E hr h=>?_)
 .obtain⟨x,g,s,m,rfl,_⟩:=h;rfl
 .obtain⟨x,g,s,m,rfl,j,b,q⟩:=h
  refine⟨_,(aj (cN (aq c hr rfl T.m_aa T.F_aa.kp T.B_aa .nil ar (aa (mM (aq f hr rfl T.m_v T.F_v.kp T.B_v .nil ar (aa (vr 1) ae)) (oH (aq d hr rfl T.m_R T.F_R.kp T.B_R .nil ar (aa (vr 2) ae)))) ae))) (aj (ly (vr 0) (vr 1) rfl) (ak (ly (vr 0) (vr 2) rfl)))),eQ ?_⟩;intro k l;refine⟨_,_,rfl,.int s,?_⟩;rw[eG b.1 (by have:=b.2.1;omega)];refine⟨_,_,rfl,.int m,?_⟩;rw[eG b.2.2.1 b.2.2.2];refine⟨rfl,?_⟩;exact⟨x,_,g,_,rfl,j,T.cl_g,T.na_Turn_start,by decide,⟨x,_,g,_,rfl,ad,T.cl_g,T.na_Turn_many,by show 1<1000;decide,q⟩⟩
theorem rW{H:Hp}{x dx:Addr}{C:Addr}(f:H x=none)(a:H dx=none):Same H (upd (upd H dx (.own x)) x (.ins C dx [])):=λb o e=>by
 have c:b≠x:=λz=>by rw[z,f]at e;cases e
 have d:b≠dx:=λz=>by rw[z,a]at e;cases e
 rw[ai c,ai d];exact e
theorem oP{H:Hp}{x dx:Addr}{C:Addr}{fs:List (Str×V)}(a:H x=none)(c:H dx=none):Same H (upd (upd (upd H dx (.own x)) x (.ins C dx [])) x (.ins C dx fs)):=λb o e=>by
 have d:b≠x:=λz=>by rw[z,a]at e;cases e
 rw[ai d];exact rW a c b o e
theorem pP(T:Txt K mg a):FnOk P w K mg base CX0 1 a.f_U a.d_U ["one","other"] (spOverlap a):=by
 refine T.F_U.ok sc_U (λk H Q E h=>?_) (λcdv A outer s H k Q E hr h=>?_)
 .obtain⟨x,y,s,m,n,g,rfl,_⟩:=h;rfl
 .obtain⟨x,y,s,m,n,g,rfl,⟨c,b⟩,⟨f,d⟩,q⟩:=h
  refine⟨_,(aj (aD (i:=2) sc_U.nd rfl (Or.inl rfl) (ay dY (ay jq (ci (vr 1) rfl) (ci (vr 0) rfl)) (gE rfl T.g_CIRCLE))) (aj (aD (i:=3) sc_U.nd rfl (Or.inl rfl) (ay dq (vr 2) (ci (vr 1) rfl))) (ak (aw (ay dq (aL (kn rfl) rfl T.z_max v8 (aa am (aa (ay jq (aL (kD rfl) rfl T.z_min t7 (aa (ci (vr 0) rfl) (aa (vr 3) ae))) (vr 2)) ae))) (aL (kn rfl) rfl T.z_max v8 (aa am (aa (aL (kD rfl) rfl T.z_min t7 (aa (ci (vr 0) rfl) (aa (ay jq (vr 3) (gE rfl T.g_CIRCLE)) ae))) ae)))))))),eQ ?_⟩;intro l j;refine⟨y,_,f,_,_,rfl,d,T.cl_g,T.na_Turn_start,rfl,?_⟩;refine⟨x,_,c,_,_,rfl,b,T.cl_g,T.na_Turn_start,rfl,cp,?_⟩;refine⟨y,_,f,_,_,rfl,d,T.cl_g,T.na_Turn_many,rfl,?_⟩;refine⟨x,_,c,_,_,rfl,b,T.cl_g,T.na_Turn_many,rfl,?_⟩;refine⟨_,_,rfl,_,_,rfl,?_⟩;refine⟨x,_,c,_,_,rfl,b,T.cl_g,T.na_Turn_many,rfl,?_⟩;exact⟨_,_,rfl,_,_,rfl,q⟩
theorem gA(T:Txt K mg a):FnOk P w K mg base CX0 2 a.f_u a.d_u ["_law_cell","_law_digits","_law_bases"] (spNumbers K):=by
 have W:FnOk P w K mg base CX0 1 _ _ _ spMix:=uX T;refine T.F_u.ok sc_u (λZ H Q E h=>?_) (λcdv A outer s H Z Q E hr h=>?_)
 .obtain⟨c,d,p,j,rfl,_⟩:=h;rfl
 .obtain⟨c,d,n,j,rfl,N,al,L,q⟩:=h
  refine⟨_,(aj (aD (i:=3) sc_u.nd rfl (Or.inl rfl) (cq ae)) (aj (cV PassesOwn.never rfl (gO rfl T.z_enumerate (aa (vr 2) ae)) (eh rfl (au (ap (i:=4) sc_u.nd rfl (Or.inl rfl)) (au (ap (i:=5) sc_u.nd rfl (Or.inl rfl)) aZ))) (ak (cK (gN (vr 1)) (aj (cN (pe_m.append (vr 3) (aa (ay dY (vr 0) (vr 5)) ae))) (ak (aD (i:=0) sc_u.nd rfl (Or.inl rfl) (ay fV (vr 0) (vr 5))))) (ak (cN (pe_m.append (vr 3) (aa (ay dY (aq W hr rfl T.m_Y T.F_Y.kp T.B_Y .nil ar (aa (vr 0) (aa (ay dq am (vr 4)) ae))) (vr 5)) ae))))))) (ak (aw (vr 3))))),eQ ?_⟩;intro ab an;have sl:sizeLine=16777216:=sizeLine_eq;refine⟨Nat.zero_le _,λp F=>?_⟩;have I:n≠p:=av N F
  let Pw1:PvS:=λi D k=>i<=j.length/\∃(l:Int) (f:List Int) (u o:Option V),Same H k/\k p=some (.lst (f.map V.int))/\Below (j.take i) f/\D=[some (.int l),some (.bl d),some (.ref n),some (.ref p),u,o]
  refine⟨n,_,rfl,by rw[ai I];exact N,jU (a:=n) (xs:=j.map V.int) Pw1 ⟨Nat.zero_le _,c,[],none,none,Same.new F,ad,by rw[take_zero];exact .nil,rfl⟩ (λi D k h=>by obtain⟨_,_,_,_,_,y,_⟩:=h;exact y _ _ N) ?_ ?_⟩
  .rintro i x D k S O ⟨hi,l,f,u,o,y,G,B,rfl⟩ J
   have C:i<j.length:=by have:=(List.getElem?_eq_some_iff.mp O).1;rw[length_map]at this;exact this
   obtain⟨b,hbi⟩:∃ b,j[i]? = some b:=⟨_,List.getElem?_eq_getElem C⟩
   have ex:x=.int b:=by rw[List.getElem?_map,hbi]at O;cases O;rfl
   subst ex;obtain⟨b0,b1⟩:=L b (List.mem_of_getElem? hbi);have et:j.take (i+1)=j.take i++[b]:=by rw[take_add_one,hbi];rfl
   have nl:f.length=i:=by rw[<- Paired.length B,length_take];omega
   have X:(f.map V.int).length<sizeLine:=by rw[length_map];omega
   have R:Same k (upd k S (.tup [.int (i:Nat),.int b])):=Same.new J;have g:=R _ _ G;have em:∀ v:Int,(f.map V.int)++[V.int v]=(f++[v]).map V.int:=λv=>by rw[map_append];rfl
   refine⟨S,_,rfl,SqT.of ad,rfl,_,_,rfl,_,_,rfl,rfl,?_⟩;generalize upd k S (.tup [.int (i:Nat),.int b])=H2 at R g
   obtain⟨ns0,hns0⟩:∃ ns0,ns0=f.map V.int:=⟨_,rfl⟩
   have z:∀(M v:Int),0<=v->v<b->i+1<=j.length/\∃(l:Int) (f:List Int) (u o:Option V),Same H (upd H2 p (.lst (ns0++[V.int v])))/\(upd H2 p (.lst (ns0++[V.int v]))) p=some (.lst (f.map V.int))/\Below (j.take (i+1)) f/\[some (V.int M),some (.bl d),some (.ref n),some (.ref p),some (.int (i:Nat)),some (.int b)]=[some (.int l),some (.bl d),some (.ref n),some (.ref p),u,o]:=λM v v0 Y =>
    ⟨C,M,f++[v],_,_,(y.trans R).put F,by rw[<- em,<- hns0];exact ad,by rw[et];exact B.snoc ⟨v0,Y⟩,rfl⟩
   cases d with
   | true =>
    refine⟨.inl ⟨rfl,_,SqL.of g⟩,⟨cp (by omega),⟨p,_,_,rfl,rfl,g,X,⟨cdB (by omega) (show Bt 30 b by unfold Bt;omega),?_⟩⟩⟩⟩;rw[<- hns0];exact z _ _ (Int.emod_nonneg _ (by omega)) (Int.emod_lt_of_pos _ (by omega))
   | false =>
    refine⟨.inl ⟨rfl,_,SqL.of g⟩,⟨l,_,rfl,by omega,by omega,λr r0=>⟨cp (by omega),⟨p,_,_,rfl,rfl,g,X,?_⟩⟩⟩⟩;rw[<- hns0];exact z _ _ (Int.emod_nonneg _ (by omega)) (Int.emod_lt_of_pos _ (by omega))
  .rintro D k ⟨_,l,f,u,o,y,G,B,rfl⟩
   rw[length_map,take_of_length_le (Nat.le_refl _)]at B;exact q _ p f y F G B
theorem tQ(T:Txt K mg a):FnOk P w K mg base CX0 1 a.f_V a.d_V ["_law_start","_law_many"] spMarks:=by
 refine T.F_V.ok sc_V (λk H Q E h=>?_) (λcdv A outer s H k Q E hr h=>?_)
 .obtain⟨s,m,rfl,_⟩:=h;rfl
 .obtain⟨s,m,rfl,⟨r,n,G,D⟩,q⟩:=h
  refine⟨_,(aj (aD (i:=2) sc_V.nd rfl (Or.inl rfl) (ay zk (cq (aa am ae)) am)) (aj (cV PassesOwn.never rfl (dO rfl T.z_range (aa (vr 1) ae)) (ap (i:=3) sc_V.nd rfl (Or.inl rfl)) (ak (gx am (pF (vr 2) (ay dY (ay dq (vr 0) (vr 3)) am) gR)))) (ak (aw (vr 2))))),eQ ?_⟩;intro v C;have u:sizeLine=16777216:=sizeLine_eq;refine⟨(by decide:1<=sizeLine),λz b=>⟨z,1000,_,rfl,rfl,ad,by decide,by decide,by show 1*(1000:Int).toNat<=_;rw[u];decide,λp hp=>?_⟩⟩;have j:H p=none:=(Same.new b).free hp
  have y:(List.replicate (1000:Int).toNat [V.int 0]).flatten=(dA s ((0:Nat):Int)).map V.int:=by
   show(List.replicate 1000 [V.int 0]).flatten=(dA s 0).map V.int;rw[pM,List.map_replicate,List.flatten_replicate_singleton]
  rw[y];have B:=(Same.new (o:=.lst [V.int 0]) b).trans (Same.new (o:=.lst ((dA s ((0:Nat):Int)).map V.int)) hp);refine⟨m,rfl,by omega,by omega,?_⟩
  let Pw2:PvS:=λi g d=>∃(x:Option V),Same H d/\d p=some (.lst ((dA s (i:Int)).map V.int))/\g=[some (.int s),some (.int m),some (.ref p),x]
  refine hJ Pw2 ⟨none,B,ad,rfl⟩ ?_ ?_
  .rintro i g d F ⟨x,f,c,rfl⟩
   refine⟨cp,⟨p,_,_,((s+(0+(i:Int))) % 1000).toNat,rfl,rfl,c,?_,?_⟩⟩
   .rw[length_map,fK]
    unfold ixN;rw[if_pos (by omega),if_pos (by omega)]
   .refine⟨_,f.put j,?_,rfl⟩
    rw[ad,<- map_set,Int.zero_add,tu r n (by omega)]
  .rintro g d ⟨x,f,c,rfl⟩
   have l:((m.toNat:Nat):Int)=m:=by omega
   rw[l]at c;exact q _ p f j c
theorem wz(T:Txt K mg a):FnOk P w K mg base CX0 3 a.f_X a.d_X ["_law_cell","_law_digits"] spTurn:=by
 have n:FnOk P w K mg base CX0 2 _ _ _ (spNumbers K):=gA T;refine T.F_X.ok sc_X (λD H Q E h=>?_) (λcdv A outer s H D Q E hr h=>?_)
 .obtain⟨c,d,rfl,_⟩:=h;rfl
 .obtain⟨c,d,rfl,q⟩:=h
  refine⟨_,(aj (gx (aq n hr rfl T.m_u T.F_u.kp T.B_u .nil ar (aa (vr 0) (aa (vr 1) (aa (cq (aa am (aa am (aa am ae)))) ae)))) (uc rfl (au (ap (i:=2) sc_X.nd rfl (Or.inl rfl)) (au (ap (i:=3) sc_X.nd rfl (Or.inl rfl)) (au (ap (i:=4) sc_X.nd rfl (Or.inl rfl)) aZ))))) (aj (cK (cE pB (vr 4) am (bw _)) (ak (aD (i:=3) sc_X.nd rfl (Or.inl rfl) (cF bU (xH (du am (du am (du am (du am (du am (du am (du am (du am wH))))))))) (ay dY (vr 3) am) (λ_ _=>rfl)))) bK) (aj (cK (cE pB (vr 4) am (bw _)) (ak (aD (i:=3) sc_X.nd rfl (Or.inl rfl) (ay dY (vr 3) am))) bK) (ak (aw (bI (aa (vr 2) (aa (vr 3) ae)))))))),vF ?_⟩;intro M G S;refine⟨(by decide:3<=sizeLine),λW j=>⟨c,d,W,[1000,1001,8],rfl,ad,by decide,by decide,λH1 l ns s1 nl hl hB=>?_⟩⟩;have r:=(Same.new (o:=.lst [.int 1000,.int 1001,.int 8]) j).trans s1
  rcases hB with _ | ⟨u,_ | ⟨v,_ | ⟨X,B⟩⟩⟩
  cases B;rename_i s m wy;refine⟨l,_,rfl,SqL.of hl,rfl,_,_,rfl,_,_,rfl,_,_,rfl,rfl,?_⟩
  have b:∀ g (f:Int),Same H1 g->0<=f->f<=1000->[V.int s,.int f].length<=sizeLine/\∀ p,g p=none->Q (.ref p) (upd g p (.tup [.int s,.int f])):=λg f J O F =>
   ⟨cT _ _,λp R=>q _ p s f ((r.trans J).trans (Same.new R)) ad ⟨u.1,u.2,O,F⟩⟩
  refine ifC (λx=>?_) (λx=>?_)
  .refine⟨(by decide:8<=sizeLine),λy k=>⟨cp,?_⟩⟩
   have L:=Same.new (o:=.lst [.int 0,.int 1,.int 999,.int 1000,.int 500,.int 2,.int 998,.int 10]) k;have C:¬(wy=1):=by have z:wy=0:=x;omega
   have I:m % 8=((0:Nat):Int)\/m % 8=((1:Nat):Int)\/m % 8=((2:Nat):Int)\/m % 8=((3:Nat):Int)\/m % 8=((4:Nat):Int)\/m % 8=((5:Nat):Int)\/m % 8=((6:Nat):Int)\/m % 8=((7:Nat):Int):=by omega
   rcases I with e | e | e | e | e | e | e | e <;> exact .inl ⟨y,_,_,_,rfl,rfl,SqL.of ad,bT _ e.symm rfl,ifN C (b _ _ L (by decide) (by decide))⟩
  .refine ifC (λN=>?_) (λN=>?_)
   .exact⟨cp,b _ _ (Same.refl _) (by omega) (by omega)⟩
   .exact b _ _ (Same.refl _) v.1 (by have:=v.2;omega)
end
end My
namespace Tb
open FrM Du LexM
theorem yZ{W R c:Rws}(h:IsTab W R)(g:(c.map (·.1)).Pairwise λa b=>aE a b=true)(i:∀ k,k∈c.map (·.1)↔k∈W.map (·.1))(f:∀ x∈c,x.2=cW W x.1):c=R:=by
 have e:c.map (·.1)=R.map (·.1):=kY g h.up λk=>by rw[i,h.keys]
 have d:c=(c.map (·.1)).map λk=>(k,cW W k):=by
  rw[map_map]
  have:∀ x∈c,x=((λk=>(k,cW W k)) ∘ λx=>x.1) x:=λx hx=>by
   show x=(x.1,cW W x.1);rw[<- f x hx]
  conv=>lhs;rw[<- map_id c]
  exact map_congr_left this
 rw[d,h.eqv,e]
theorem wF{D:Nat}{W:Rws}(g:Gd D W):∀ x∈fW W,Bq D x.2:=λx a=>by
 rw[<- nv (gD W) x a,kN,mE];exact g.pmA _
end Tb
namespace Tu
def inT(t:Int×Int)(n:Int):Bool:=decide ((n - t.1) % 1000<t.2)
theorem mf(t:Int×Int)(n:Nat):mk t.1 t.2 n=if inT t (n:Int)=true then 1 else 0:=by
 unfold mk inT
 by_cases c:((n:Int) - t.1) % 1000<t.2 <;> simp[c]
def tk(ts:List (Int×Int))(k:Nat):Int×Int:=ts.getD k (0,0)
def plc(ts:List (Int×Int))(n:Int):List Nat:=(List.range ts.length).filter λk=>inT (tk ts k) n
theorem g8(a:List (Int×Int))(n:Int):(plc a n).length<=a.length:=by
 have:=length_filter_le (λk=>inT (tk a k) n) (List.range a.length);rw[length_range]at this;exact this
def js(ts:List (Int×Int))(n:Int)(i:Nat):List Nat:=(List.range i).filter λk=>inT (tk ts k) n
theorem iw(a:List (Int×Int))(n:Int)(i:Nat):js a n (i+1)=js a n i++if inT (tk a i) n=true then [i] else []:=by
 unfold js;rw[range_succ,filter_append]
 by_cases c:inT (tk a i) n=true
 .rw[if_pos c];simp[c]
 .rw[if_neg c];simp[c]
theorem re(a:List (Int×Int))(n:Int)(i:Nat):(js a n i).length<=i:=by
 have:=length_filter_le (λk=>inT (tk a k) n) (List.range i);rw[length_range]at this;exact this
theorem nJ(a:List (Int×Int))(n:Nat):∀ i:Nat,((js a (n:Int) i).length:Int)=sm (λk=>mk (tk a k).1 (tk a k).2 n) i
 | 0=>rfl
 | i+1=>by
  rw[iw,sm_succ,<- nJ a n i,length_append,mf]
  by_cases c:inT (tk a i) (n:Int)=true
  .rw[if_pos c,if_pos c];simp
  .rw[if_neg c,if_neg c];simp
def cnt(ts:List (Int×Int))(N k:Nat):Int:=sm (λn=>if (plc ts (n:Int)).length=k then 1 else 0) N
theorem fF(a:List (Int×Int))(N k:Nat):cnt a (N+1) k=cnt a N k+if (plc a (N:Int)).length=k then 1 else 0:=sm_succ _ _
def fZ(k:Nat):List (Int×List Nat)->Int
 | []=>0
 | r::rs=>(if r.2.length=k then r.1 else 0)+fZ k rs
theorem dQ(k:Nat):∀(a b:List (Int×List Nat)),fZ k (a++b)=fZ k a+fZ k b
 | [],b=>by simp[fZ]
 | r::a,b=>by rw[cons_append,fZ,fZ,dQ k a b];omega
theorem eE(k:Nat)(r:Int×List Nat):fZ k [r]=if r.2.length=k then r.1 else 0:=by rw[fZ,fZ];omega
def j8(ts:List (Int×Int))(N:Nat):List Int:=(List.range (ts.length+1)).map λk=>cnt ts N k
theorem vH(a:List (Int×Int))(N:Nat):(j8 a N).length=a.length+1:=by unfold j8;rw[length_map,length_range]
theorem om{a:List (Int×Int)}{N k:Nat}(b:k<a.length+1):(j8 a N)[k]? = some (cnt a N k):=by
 unfold j8;rw[List.getElem?_map,List.getElem?_range b];rfl
theorem xT{f g:Nat->Int}{T j:Nat}{v:Int}(b:j<T)(a:g j=v)(d:∀ k,k≠j->g k=f k):((List.range T).map f).set j v=(List.range T).map g:=by
 refine List.ext_getElem? λi=>?_
 rw[List.getElem?_set,length_map,length_range]
 by_cases hi:i<T
 .rw[List.getElem?_map,List.getElem?_map,List.getElem?_range hi]
  by_cases c:j=i
  .subst c;rw[if_pos rfl,if_pos b];show some v=some (g j);rw[a]
  .rw[if_neg c];show some (f i)=some (g i);rw[d i λe=>c e.symm]
 .by_cases c:j=i
  .omega
  .rw[if_neg c,List.getElem?_eq_none (by rw[length_map,length_range];omega),List.getElem?_eq_none (by rw[length_map,length_range];omega)]
def dX(T:Nat)(rs:List (Int×List Nat)):List Int:=(List.range T).map λk=>fZ k rs
theorem se{T:Nat}{rs:List (Int×List Nat)}{r:Int×List Nat}(h:r.2.length<T):(dX T rs).set r.2.length (fZ r.2.length rs+r.1)=dX T (rs++[r]):=by
 refine xT h ?_ λk a=>?_
 .rw[dQ,eE,if_pos rfl]
 .rw[dQ,eE,if_neg (λe=>a e.symm)];omega
theorem rH{T k:Nat}{rs:List (Int×List Nat)}(a:k<T):(dX T rs)[k]? = some (fZ k rs):=by
 unfold dX;rw[List.getElem?_map,List.getElem?_range a];rfl
theorem sA(T:Nat):dX T []=List.replicate T 0:=by
 unfold dX;rw[List.eq_replicate_iff];refine⟨by rw[length_map,length_range],λb a=>?_⟩;obtain⟨i,_,rfl⟩:=mem_map.mp a;rfl
end Tu
namespace Tu
inductive Run(ts:List (Int×Int)):Nat->List (Int×List Nat)->Prop
 | zero:Run ts 0 []
 | new {i rs}:Run ts i rs->(∀ rs0 z,rs=rs0++[z]->z.2≠plc ts (i:Int))->Run ts (i+1) (rs++[(1,plc ts (i:Int))])
 | more {i rs0 m}:Run ts i (rs0++[(m,plc ts (i:Int))])->Run ts (i+1) (rs0++[(m+1,plc ts (i:Int))])
theorem cS{f:List (Int×Int)}{i:Nat}{rs:List (Int×List Nat)}(h:Run f i rs):∀ z∈rs,1<=z.1/\z.1<=(i:Int)/\∃ n:Int,z.2=plc f n:=by
 induction h with
 | zero=>intro z a;cases a
 | new _ _ ih =>
  intro z a
  rcases mem_append.mp a with h | h
  .obtain⟨b,d,c⟩:=ih z h
   exact⟨b,by lia,c⟩
  .rw[mem_singleton.mp h]
   exact⟨Int.le_refl 1,by show(1:Int)<=_;lia,_,rfl⟩
 | more _ ih =>
  intro z a
  rcases mem_append.mp a with h | h
  .obtain⟨b,d,c⟩:=ih z (mem_append_left _ h)
   exact⟨b,by lia,c⟩
  .rw[mem_singleton.mp h]
   obtain⟨b,d,_⟩:=ih _ (mem_append_right _ mem_cons_self);exact⟨by show 1<=_+1;lia,by show _+1<=_;lia,_,rfl⟩
theorem kX{a:List (Int×Int)}{i:Nat}{rs:List (Int×List Nat)}(h:Run a (i+1) rs):1<=rs.length:=by
 cases h with
 | new _ _=>simp
 | more _=>simp
theorem i4{a:List (Int×Int)}{i:Nat}{rs:List (Int×List Nat)}(h:Run a i rs):rs.length<=i:=by
 induction h with
 | zero=>exact Nat.le_refl _
 | new _ _ ih=>rw[length_append,length_singleton];lia
 | more _ ih=>rw[length_append,length_singleton]at *;lia
theorem fE{a:List (Int×Int)}:∀{i:Nat}{rs rs':List (Int×List Nat)},Run a i rs->Run a i rs'->rs=rs'
 | 0,_,_,.zero,.zero=>rfl
 | i+1,_,_,.new h n,.new h' n'=>by rw[fE h h']
 | i+1,_,_,.new h n,.more h'=>(n _ _ (fE h h') rfl).elim
 | i+1,_,_,.more h,.new h' n'=>(n' _ _ (fE h' h) rfl).elim
 | i+1,_,_,.more h,.more h'=>by
  have e:=append_inj' (fE h h') rfl;have b:=e.2;injection b with e3 _
  injection e3 with e4 _
  rw[e.1,e4]
theorem oS(a:List (Int×Int))(n:Int):(plc a n).Nodup:=List.Pairwise.filter _ nodup_range
def nI(l:List Nat):List Int:=l.map λ(k:Nat)=>(k:Int)
theorem wg{l:List Nat}(h:l.Nodup):(nI l).Nodup:=(pairwise_map.mpr (h.imp λ{x y} n e=>n (by lia)))
theorem zD{l m:List Nat}(h:nI l=nI m):l=m:=by
 unfold nI at h;exact(List.map_inj_right λa b e=>by lia).mp h
theorem uy{l:List Nat}{k:Nat}:(k:Int)∈nI l↔k∈l:=by
 unfold nI;rw[mem_map]
 constructor
 .rintro⟨j,a,e⟩
  have:j=k:=by lia
  exact this ▸ a
 .exact λh=>⟨k,h,rfl⟩
theorem gz(c:List (Int×Int))(n:Int):(nI (plc c n)).Pairwise (·<=·):=by
 unfold nI plc;rw[pairwise_map];refine List.Pairwise.filter _ (List.pairwise_lt_range.imp λ{a b} h=>?_);lia
theorem zx{a:List (Int×Int)}{n:Int}{k:Nat}(h:k∈plc a n):k<a.length:=mem_range.mp (mem_filter.mp h).1
def d7(φ:List Nat->Int)(rs:List (Int×List Nat)):Int:=(rs.map λz=>z.1*φ z.2).sum
theorem g9(a:List Nat->Int)(rs:List (Int×List Nat))(z:Int×List Nat):d7 a (rs++[z])=d7 a rs+z.1*a z.2:=by
 unfold d7;rw[map_append,sum_append];simp
theorem lI{a:List (Int×Int)}(b:List Nat->Int){i:Nat}{rs:List (Int×List Nat)}(h:Run a i rs):d7 b rs=sm (λn=>b (plc a (n:Int))) i:=by
 induction h with
 | zero=>rfl
 | new _ _ ih=>rw[g9,sm_succ,ih];show _+1*_=_;lia
 | @more i rs0 m _ ih =>
  rw[g9]at ih;rw[g9,sm_succ,<- ih];show _+(m+1)*_=_+m*_+_;rw[Int.add_mul];lia
theorem gX(c:Int):∀ n,sm (λ_=>c) n=(n:Int)*c
 | 0=>by rw[gJ];simp
 | n+1=>by rw[sm_succ,gX c n];push_cast;rw[Int.add_mul];lia
theorem mG{a:List (Int×Int)}{i:Nat}{rs:List (Int×List Nat)}(h:Run a i rs):(rs.map (·.1)).sum=(i:Int):=by
 have:=lI (λ_=>1) h;rw[gX]at this;have e:d7 (λ_=>1) rs=(rs.map (·.1)).sum:=by unfold d7;congr 1;exact map_congr_left λz _=>Int.mul_one _
 rw[<- e,this];lia
theorem jM{a:List (Int×Int)}{i:Nat}{rs:List (Int×List Nat)}(h:Run a i rs)(k:Nat):d7 (λp=>if p.length=k then 1 else 0) rs=cnt a i k:=lI _ h
theorem Ab{g:List (Int×Int)}{rs:List (Int×List Nat)}(h:Run g 1000 rs)(n:∀ k,k<g.length->0<=(tk g k).1/\(tk g k).1<1000/\0<=(tk g k).2/\(tk g k).2<=1000){x y:Nat}(o:x<g.length)(l:y<g.length):d7 (λp=>if x∈p/\y∈p then 1 else 0) rs=ov (tk g x).1 (tk g x).2 (tk g y).1 (tk g y).2:=by
 obtain⟨a,b,c,d⟩:=n x o;obtain⟨_,_,e,f⟩:=n y l;rw[lI _ h,<- yb a b c d e f];refine eT λi _=>?_
 have r:∀ k,k<g.length->(k∈plc g (i:Int)↔inT (tk g k) (i:Int)=true):=λk s=>by
  unfold plc;rw[mem_filter,mem_range];exact⟨λz=>z.2,λz=>⟨s,z⟩⟩
 rw[mf,mf];have q:=r x o;have j:=r y l
 by_cases c1:inT (tk g x) (i:Int)=true
 .by_cases c2:inT (tk g y) (i:Int)=true
  .rw[if_pos ⟨q.mpr c1,j.mpr c2⟩,if_pos c1,if_pos c2];rfl
  .rw[if_neg (λz=>c2 (j.mp z.2)),if_pos c1,if_neg c2];rfl
 .rw[if_neg (λz=>c1 (q.mp z.1)),if_neg c1,Int.zero_mul]
theorem lh(f g:Nat->Int):∀ n,sm (λk=>f k+g k) n=sm f n+sm g n
 | 0=>rfl
 | n+1=>by rw[sm_succ,sm_succ,sm_succ,lh f g n];lia
theorem p4(f:Nat->Nat->Int)(m:Nat):∀ n,sm (λi=>sm (λj=>f i j) m) n=sm (λj=>sm (λi=>f i j) n) m
 | 0=>by
  rw[gJ];have:sm (λj=>sm (λi=>f i j) 0) m=sm (λ_=>0) m:=eT λ_ _=>rfl
  rw[this,gX];simp
 | n+1=>by
  rw[sm_succ,p4 f m n,<- lh];exact eT λj _=>(sm_succ _ _).symm
theorem yh(j:Nat)(c:Int):∀ n,sm (λk=>if j=k then c else 0) n=if j<n then c else 0
 | 0=>rfl
 | n+1=>by
  rw[sm_succ,yh j c n]
  by_cases h:j=n
  .rw[if_pos h,if_neg (by lia),if_pos (by lia)];lia
  .rw[if_neg h]
   by_cases h2:j<n
   .rw[if_pos h2,if_pos (by lia)];lia
   .rw[if_neg h2,if_neg (by lia)];lia
theorem nW(a:List (Int×Int)):∀ N:Nat,sm (λk=>(k:Int)*cnt a N k) (a.length+1)=sm (λn=>((plc a (n:Int)).length:Int)) N
 | 0=>by
  rw[gJ];have:sm (λk=>(k:Int)*cnt a 0 k) (a.length+1)=sm (λ_=>0) (a.length+1):=eT λk _=>by show(k:Int)*0=0;simp
  rw[this,gX];simp
 | N+1=>by
  rw[sm_succ (λn=>((plc a (n:Int)).length:Int)),<- nW a N]
  have:sm (λk=>(k:Int)*cnt a (N+1) k) (a.length+1)=sm (λk=>(k:Int)*cnt a N k+if (plc a (N:Int)).length=k then ((plc a (N:Int)).length:Int) else 0) (a.length+1):=eT λk _=>by
   rw[fF,Int.mul_add]
   by_cases h:(plc a (N:Int)).length=k
   .rw[if_pos h,if_pos h,h];lia
   .rw[if_neg h,if_neg h];lia
  rw[this,lh,yh,if_pos (by have:=g8 a (N:Int);lia)]
theorem AE{s m:Int}(d:0<=s)(c:s<1000)(b:0<=m)(a:m<=1000):sm (λi=>mk s m i) 1000=m:=by
 refine Eq.trans ?_ ((yb (s':=s) d c b a b a).trans (xD b a));refine eT λi _=>?_
 unfold mk
 split <;> rfl
theorem vd{f:List (Int×Int)}(j:∀ k,k<f.length->0<=(tk f k).1/\(tk f k).1<1000/\0<=(tk f k).2/\(tk f k).2<=1000):sm (λk=>(k:Int)*cnt f 1000 k) (f.length+1)=(f.map (·.2)).sum:=by
 rw[nW];have e:sm (λn=>((plc f (n:Int)).length:Int)) 1000=sm (λn=>sm (λk=>mk (tk f k).1 (tk f k).2 n) f.length) 1000:=eT λn _=>nJ f n f.length
 rw[e,p4]
 have g:sm (λk=>sm (λn=>mk (tk f k).1 (tk f k).2 n) 1000) f.length=sm (λk=>(tk f k).2) f.length:=eT λk hk=>by
  obtain⟨a,b,c,d⟩:=j k hk;exact AE a b c d
 rw[g];unfold sm
 congr 1
 apply List.ext_getElem
 .simp
 .intro i l h
  rw[getElem_map,List.getElem_range,getElem_map];unfold tk;rw[List.getD,List.getElem?_eq_getElem (by simpa using h)];rfl
end Tu
namespace Tb
open FrM Du LexM Tu
def fl(qs:List (Int×List Int)):Tr:=.die (qs.map λz=>(z.1,.leaf z.2))
structure Fl(qs:List (Int×List Int)):Prop where
 ne:qs≠[]
 ok:∀ z∈qs,1<=z.1/\z.2.Nodup/\z.2.length<=24
 tot:(qs.map (·.1)).sum=1000
theorem vj:∀{qs:List (Int×List Int)},(∀ z∈qs,1<=z.1/\z.2.Nodup/\z.2.length<=24)->Oks (qs.map λz=>(z.1,.leaf z.2))
 | [],_=>by rw[map_nil,Oks];trivial
 | z::r,h=>by
  have:=h z mem_cons_self;rw[map_cons,Oks];exact⟨this.1,by rw[Ok];exact this.2,vj λy a=>h y (mem_cons_of_mem _ a)⟩
theorem fl_ok{a:List (Int×List Int)}(h:Fl a):Ok (fl a):=by
 unfold fl;rw[Ok];exact⟨λe=>h.ne (List.map_eq_nil_iff.mp e),vj h.ok⟩
theorem tK{a:List (Int×List Int)}(h:Fl a):Tb.tot (a.map λz=>(z.1,Tr.leaf z.2))=1000:=by
 unfold Tb.tot;rw[map_map];exact h.tot
theorem uQ:∀ qs:List (Int×List Int),dns (qs.map λz=>(z.1,Tr.leaf z.2))=1
 | []=>by rw[map_nil,dns]
 | z::r=>by rw[map_cons,dns,dn,uQ r]
theorem fl_dn{a:List (Int×List Int)}(h:Fl a):dn (fl a)=1000:=by
 unfold fl;rw[dn,uQ,tK h];rfl
theorem fl_ch{a:List (Int×List Int)}(h:Fl a):∀ w∈wl (fl a) 1 1,Ch ((1000:Nat):Int) w.2:=λw b=>by
 have:=vB (fl a) 1 1 1 (fl_ok h) (by decide) (by decide) (by decide) (Int.dvd_refl 1) w b;rwa [fl_dn h,Int.one_mul]at this
theorem v6:∀ qs:List (Int×List Int),lvs (qs.map λz=>(z.1,Tr.leaf z.2))=qs.length
 | []=>by rw[map_nil,lvs];rfl
 | z::r=>by rw[map_cons,lvs,lv,v6 r,length_cons];lia
theorem fl_lv(a:List (Int×List Int)):lv (fl a)=a.length:=by unfold fl;rw[lv,v6]
theorem ue(S:Int):∀ qs:List (Int×List Int),wfs (qs.map λz=>(z.1,Tr.leaf z.2)) 1 S=qs.map λz=>(z.2,(z.1:Rat)/(S:Rat))
 | []=>by rw[map_nil,wfs];rfl
 | z::r=>by
  rw[map_cons,wfs,wf,ue S r];show(_,1*_)::_=_;rw[Rat.one_mul];rfl
theorem AR{a:List (Int×List Int)}(h:Fl a):kt (fl a)=a.map λz=>(so z.2,(z.1:Rat)/1000):=by
 unfold kt fl;rw[wf,ue,tK h];unfold kR;rw[map_map];rfl
theorem ud(f:List Int->List Int)(a:List (Int×List Int)):bnd (fl a) (λns=>.leaf (f ns))=fl (a.map λz=>(z.1,f (so z.2))):=by
 unfold fl;rw[bnd,bnds_map,map_map,map_map]
 congr 1
mutual
def Dk:Nat->Tr->Prop
 | _,.leaf ns=>ns.Nodup/\ns.length<=24
 | 0,.die _=>False
 | d+1,.die ps=>1<=ps.length/\ps.length<=1000/\Dks d ps
def Dks:Nat->List (Int×Tr)->Prop
 | _,[]=>True
 | d,(m,u)::r=>1<=m/\m<=1000000000/\Dk d u/\Dks d r
end
theorem dk_part{d:Nat}{ps:List (Int×Tr)}(h:Dks d ps):∀{p:Int×Tr},p∈ps->1<=p.1/\p.1<=1000000000/\Dk d p.2:=by
 induction ps with
 | nil=>intro p hp;cases hp
 | cons x r ih =>
  intro p hp;obtain⟨m,u⟩:=x;rw[Dks]at h
  rcases mem_cons.mp hp with rfl | hp
  .exact⟨h.1,h.2.1,h.2.2.1⟩
  .exact ih h.2.2.2 hp
theorem we:∀{qs:List (Int×List Int)},(∀ z∈qs,1<=z.1/\z.2.Nodup/\z.2.length<=24)->(∀ z∈qs,z.1<=1000)->Dks 0 (qs.map λz=>(z.1,.leaf z.2))
 | [],_,_=>by rw[map_nil,Dks];trivial
 | z::r,h,h2=>by
  have:=h z mem_cons_self;have:=h2 z mem_cons_self;rw[map_cons,Dks];exact⟨by lia,by lia,by rw[Dk];exact(h z mem_cons_self).2,we (λy a=>h y (mem_cons_of_mem _ a)) λy a=>h2 y (mem_cons_of_mem _ a)⟩
theorem wl_chs{t:Tr}(h:Ok t):∀ w∈wl t 1 1,Ch ((dn t:Nat):Int) w.2:=λw a=>by
 have:=vB t 1 1 1 h (by decide) (by decide) (by decide) (Int.dvd_refl 1) w a;rwa [Int.one_mul]at this
def rwf(f:List Nat->List Int)(rs:List (Int×List Nat)):Rws:=rs.map λz=>(f z.2,(z.1:Rat)/1000)
theorem cz(p:List Int->Bool)(x:List Int×Rat)(W:Rws):pm p (x::W)=(if p x.1=true then x.2 else 0)+pm p W:=by unfold pm;rw[map_cons,sum_cons]
theorem pC(p:List Int->Bool)(f:List Nat->List Int):∀ rs:List (Int×List Nat),pm p (rwf f rs)=((d7 (λq=>if p (f q)=true then 1 else 0) rs:Int):Rat)/1000
 | []=>by show(0:Rat)=((0:Int):Rat)/1000;grind
 | z::r=>by
  have e:d7 (λq=>if p (f q)=true then 1 else 0) (z::r)=z.1*(if p (f z.2)=true then 1 else 0)+d7 (λq=>if p (f q)=true then 1 else 0) r:=by unfold d7;rw[map_cons,sum_cons]
  have a:rwf f (z::r)=(f z.2,(z.1:Rat)/1000)::rwf f r:=rfl;rw[a,cz,pC p f r,e,Rat.intCast_add];show(if p (f z.2)=true then (z.1:Rat)/1000 else 0)+_=_
  by_cases c:p (f z.2)=true
  .rw[if_pos c,if_pos c,Int.mul_one];grind
  .rw[if_neg c,if_neg c,Int.mul_zero];grind
theorem qF(p:List Int->Bool)(k:List Int)(m:Rat):∀ st:Rws,pm p (cC k m st)=pm p st+if p k=true then m else 0
 | []=>by rw[cC,cz];show _+0=0+_;grind
 | x::r=>by
  rw[cC]
  by_cases c:x.1=k
  .rw[if_pos c,cz,cz,c]
   show(if p k=true then x.2+m else 0)+_=_
   split <;> grind
  .rw[if_neg c,cz,cz,qF p k m r];grind
theorem xB(p:List Int->Bool)(a:Rws):∀ W:Rws,pm p (W.foldl (λa w=>cC w.1 w.2 a) a)=pm p a+pm p W:=by
 intro W
 induction W generalizing a with
 | nil=>show _=_+0;grind
 | cons x W ih=>rw[foldl_cons,ih,qF,cz];grind
theorem qU(p:List Int->Bool){A B:Rws}(h:A.Perm B):pm p A=pm p B:=by
 induction h with
 | nil=>rfl
 | cons x _ ih=>rw[cz,cz,ih]
 | swap x y l=>rw[cz,cz,cz,cz];grind
 | trans _ _ ih1 ih2=>rw[ih1,ih2]
theorem IsTab.pms{W R:Rws}(h:IsTab W R)(p:List Int->Bool):Tb.pm p R=Tb.pm p W:=by
 rw[qU p h.pm];unfold fW;rw[xB];show 0+_=_
 grind
theorem jn(f:List Nat->List Int)(rs:List (Int×List Nat))(k:List Int):cW (rwf f rs) k=((d7 (λq=>if f q=k then 1 else 0) rs:Int):Rat)/1000:=by
 rw[mE,pC]
 congr 2
 unfold d7
 congr 1
 exact map_congr_left λz _=>by simp
def qr(f:List Nat->List Int)(rs:List (Int×List Nat)):List (Int×List Int):=rs.map λz=>(z.1,f z.2)
theorem fl_run{b:List (Int×Int)}{rs:List (Int×List Nat)}(h:Run b 1000 rs){f:List Nat->List Int}(g:∀ n,(f (plc b n)).Nodup/\(f (plc b n)).length<=24):Fl (qr f rs):=by
 have d:=cS h;refine⟨λe=>?_,λz hz=>?_,?_⟩
 .have:=kX h
  rw[List.map_eq_nil_iff.mp e]at this;exact absurd this (by decide)
 .obtain⟨y,c,rfl⟩:=mem_map.mp hz
  obtain⟨a,_,n,e⟩:=d y c;refine⟨a,?_⟩;show(f y.2).Nodup/\(f y.2).length<=24;rw[e];exact g n
 .unfold qr
  rw[map_map];exact mG h
theorem pi{a:List (Int×Int)}{rs:List (Int×List Nat)}(h:Run a 1000 rs){f:List Nat->List Int}(d:∀ n,(f (plc a n)).Nodup/\(f (plc a n)).length<=24){g:List Nat->List Int}(b:∀ n,so (f (plc a n))=g (plc a n)):kt (fl (qr f rs))=rwf g rs:=by
 rw[AR (fl_run h d)];unfold qr rwf;rw[map_map];refine map_congr_left λz c=>?_
 obtain⟨_,_,n,e⟩:=cS h z c;show(so (f z.2),_)=(g z.2,_);rw[e,b n]
theorem dk_run{a:List (Int×Int)}{rs:List (Int×List Nat)}(h:Run a 1000 rs){f:List Nat->List Int}(d:∀ n,(f (plc a n)).Nodup/\(f (plc a n)).length<=24):Dk 1 (fl (qr f rs)):=by
 have g:=cS h;have i:=kX h;have b:=i4 h;unfold fl;rw[Dk];refine⟨by unfold qr;rw[length_map,length_map];exact i,by unfold qr;rw[length_map,length_map];exact b,we (fl_run h d).ok λz j=>?_⟩;obtain⟨y,c,rfl⟩:=mem_map.mp j;exact(g y c).2.1
theorem so_up{l:List Int}(h:l.Pairwise (·<=·)):so l=l:=(so_uniq (List.Perm.refl _) h).symm
theorem oj{a:List (Int×Int)}(g:a.length<=12)(n:Int):(nI (plc a n)++[99]).Pairwise (·<=·)/\(nI (plc a n)++[99]).Nodup/\(nI (plc a n)++[99]).length<=24:=by
 have d:∀ x∈nI (plc a n),x<12:=λx b=>by
  obtain⟨k,f,rfl⟩:=mem_map.mp b;have:=zx f;show(k:Int)<12;lia
 refine⟨List.pairwise_append.mpr ⟨gz a n,by simp,λx b y c=>?_⟩,nodup_append.mpr ⟨wg (oS a n),by simp,λx b y c e=>?_⟩,?_⟩
 .have:=d x b
  rw[mem_singleton.mp c];lia
 .have:=d x b
  rw[mem_singleton.mp c]at e;lia
 .have:=g8 a n
  unfold nI;rw[length_append,length_map,length_singleton];lia
theorem plc_ok{a:List (Int×Int)}(b:a.length<=12)(n:Int):(nI (plc a n)).Nodup/\(nI (plc a n)).length<=24:=⟨wg (oS a n),by have:=g8 a n;unfold nI;rw[length_map];lia⟩
theorem kt_one{a:List (Int×Int)}{rs:List (Int×List Nat)}(h:Run a 1000 rs)(b:a.length<=12):kt (fl (qr nI rs))=rwf nI rs:=pi h (plc_ok b) λn=>so_up (gz a n)
def t2f(p:List Nat):List Int:=[50+((so (nI p)).length:Int)]
def t3f(p:List Nat):List Int:=so (nI p)++[99]
theorem two_ok(p:List Nat):(t2f p).Nodup/\(t2f p).length<=24:=⟨by unfold t2f;simp,by unfold t2f;simp⟩
theorem three_ok{a:List (Int×Int)}(b:a.length<=12)(n:Int):(t3f (plc a n)).Nodup/\(t3f (plc a n)).length<=24:=by unfold t3f;rw[so_up (gz a n)];exact(oj b n).2
theorem two_eq(rs:List (Int×List Nat)):bnd (fl (qr nI rs)) (λns=>.leaf [50+(ns.length:Int)])=fl (qr t2f rs):=by
 rw[ud (λns=>[50+(ns.length:Int)])];unfold qr;rw[map_map];rfl
theorem three_eq(rs:List (Int×List Nat)):bnd (fl (qr nI rs)) (λns=>bnd (.leaf [99]) λms=>.leaf (ns++ms))=fl (qr t3f rs):=by
 have e:(λns=>bnd (.leaf [99]) λms=>Tr.leaf (ns++ms))=λns=>Tr.leaf (ns++[99]):=by
  funext ns
  rw[bnd,so_up (by simp)]
 rw[e,ud (λns=>ns++[99])];unfold qr;rw[map_map];rfl
theorem zb{a:List (Int×Int)}{rs:List (Int×List Nat)}(h:Run a 1000 rs):kt (fl (qr t2f rs))=rwf (λp=>[50+(p.length:Int)]) rs:=pi h (λn=>two_ok _) λn=>by
 unfold t2f;rw[so_up (by simp),(so_perm _).length_eq];unfold nI;rw[length_map]
theorem uZ{a:List (Int×Int)}{rs:List (Int×List Nat)}(h:Run a 1000 rs)(b:a.length<=12):kt (fl (qr t3f rs))=rwf (λp=>nI p++[99]) rs:=pi h (three_ok b) λn=>by
 unfold t3f;rw[so_up (gz a n),so_up (oj b n).1]
theorem tab_same{t:Tr}{W R b:Rws}(h:Ok t)(e:kt t=W)(c:IsTab (toR (kW (wl t 1 1))) R)(a:IsTab W b):R=b:=c.uniq (e ▸ i7 h) a
theorem tab_mm{t:Tr}{R:Rws}{a:List (Int×Int)}{rs:List (Int×List Nat)}(h:Ok t)(e:kt t=rwf nI rs)(d:IsTab (toR (kW (wl t 1 1))) R)(g:Run a 1000 rs)(i:∀ k,k<a.length->0<=(tk a k).1/\(tk a k).1<1000/\0<=(tk a k).2/\(tk a k).2<=1000){x y:Nat}(j:x<a.length)(f:y<a.length):mm R (x:Int) (y:Int)=((ov (tk a x).1 (tk a x).2 (tk a y).1 (tk a y).2:Int):Rat)/1000:=by
 unfold mm;rw[d.pms,qU _ (i7 h),e,pC,<- Ab g i j f]
 congr 2
 unfold d7
 congr 1
 refine map_congr_left λz _=>?_
 show z.1*(if decide (both (nI z.2) (x:Int) (y:Int))=true then 1 else 0)=z.1*(if x∈z.2/\y∈z.2 then 1 else 0)
 have b:both (nI z.2) (x:Int) (y:Int)↔(x∈z.2/\y∈z.2):=by
  unfold both;rw[uy,uy]
 by_cases c:x∈z.2/\y∈z.2
 .rw[if_pos c,if_pos (decide_eq_true (b.mpr c))]
 .rw[if_neg c,if_neg (by simp only[decide_eq_true_eq];exact λw=>c (b.mp w))]
theorem nC{t:Tr}{W R c:Rws}(h:Ok t)(e:kt t=W)(d:IsTab (toR (kW (wl t 1 1))) R)(g:(c.map (·.1)).Pairwise λa b=>aE a b=true)(i:∀ k,k∈c.map (·.1)↔k∈W.map (·.1))(f:∀ x∈c,x.2=cW W x.1):c=R:=by
 have p:=e ▸ i7 h;exact yZ d g (λk=>(i k).trans (p.map _).mem_iff.symm) λx hx=>by rw[f x hx,kG p]
def cR(ts:List (Int×Int))(n:Nat):Rws:=((List.range n).filter λk=>decide (0<cnt ts 1000 k)).map λ(k:Nat)=>([50+(k:Int)],(cnt ts 1000 k:Rat)/1000)
theorem lG{d:List Nat->Int}(g:∀ p,0<=d p):∀{rs:List (Int×List Nat)},(∀ z∈rs,1<=z.1)->0<=d7 d rs/\(0<d7 d rs↔∃ z∈rs,0<d z.2)
 | [],_=>⟨Int.le_refl 0,⟨λh=>absurd h (Int.lt_irrefl 0),λ⟨z,hz,_⟩=>by cases hz⟩⟩
 | z::r,h=>by
  obtain⟨a,b⟩:=lG g (rs:=r) λy hy=>h y (mem_cons_of_mem _ hy)
  have k:=h z mem_cons_self;have e:d7 d (z::r)=z.1*d z.2+d7 d r:=by unfold d7;rw[map_cons,sum_cons]
  have f:=g z.2;have j:0<=z.1*d z.2:=Int.mul_nonneg (by lia) f;rw[e];refine⟨by lia,λi=>?_,?_⟩
  .by_cases c:0<d z.2
   .exact⟨z,mem_cons_self,c⟩
   .have:d z.2=0:=by lia
    rw[this,Int.mul_zero]at i;obtain⟨y,hy,w⟩:=b.mp (by lia);exact⟨y,mem_cons_of_mem _ hy,w⟩
  .rintro⟨y,hy,w⟩
   rcases mem_cons.mp hy with rfl | hy
   .have:=Int.mul_pos (show 0<y.1 by lia) w
    lia
   .have:=b.mpr ⟨y,hy,w⟩
    lia
theorem tab_two{R:Rws}{g:List (Int×Int)}{rs:List (Int×List Nat)}(f:Run g 1000 rs)(o:IsTab (toR (kW (wl (fl (qr t2f rs)) 1 1))) R):cR g (g.length+1)=R:=by
 have l:=cS f;refine nC (fl_ok (fl_run f λn=>two_ok _)) (zb f) o ?_ (λk=>?_) λx hx=>?_
 .unfold cR
  rw[map_map,pairwise_map];refine List.Pairwise.filter _ (List.pairwise_lt_range.imp λ{a b} h=>?_);show aE [50+(a:Int)] [50+(b:Int)]=true;rw[aE,if_neg (by lia),decide_eq_true_eq];lia
 .unfold cR rwf
  rw[map_map,map_map,mem_map,mem_map]
  constructor
  .rintro⟨j,i,rfl⟩
   rw[mem_filter,decide_eq_true_eq,<- jM f]at i;obtain⟨z,d,w⟩:=(lG (λp=>by split <;> decide) λz d=>(l z d).1).2.mp i.2;refine⟨z,d,?_⟩
   split at w
   .rename_i e
    show [50+(z.2.length:Int)]=[50+(j:Int)];rw[e]
   .exact absurd w (by decide)
  .rintro⟨z,d,rfl⟩
   refine⟨z.2.length,?_,rfl⟩;rw[mem_filter,decide_eq_true_eq,<- jM f,mem_range];obtain⟨_,_,n,e⟩:=l z d;refine⟨by have:=g8 g n;rw[e];lia,(lG (λp=>by split <;> decide) λz d=>(l z d).1).2.mpr ⟨z,d,by rw[if_pos rfl];decide⟩⟩
 .obtain⟨j,i,rfl⟩:=mem_map.mp hx
  show(cnt g 1000 j:Rat)/1000=_;rw[jn,<- jM f]
  congr 2
  unfold d7
  congr 1
  refine map_congr_left λz _=>?_
  show z.1*(if z.2.length=j then 1 else 0)=z.1*(if [50+(z.2.length:Int)]=[50+(j:Int)] then 1 else 0)
  by_cases c:z.2.length=j
  .rw[if_pos c,if_pos (by rw[c])]
  .rw[if_neg c,if_neg (by intro w;injection w with w;exact c (by lia))]
theorem tab_three{q R g:Rws}{n:List (Int×Int)}{rs:List (Int×List Nat)}(o:Run n 1000 rs)(l:n.length<=12)(i:IsTab (rwf nI rs) q)(r:IsTab (toR (kW (wl (fl (qr t3f rs)) 1 1))) R)(p:g.Perm (q.map λx=>(x.1++[99],x.2)))(s:(g.map (·.1)).Pairwise λa b=>aE a b=true):g=R:=by
 refine nC (fl_ok (fl_run o (three_ok l))) (uZ o l) r s (λk=>?_) λx f=>?_
 .rw[(p.map _).mem_iff,map_map]
  constructor
  .intro h
   obtain⟨x,f,rfl⟩:=mem_map.mp h;have:=(i.keys x.1).mp (mem_map.mpr ⟨x,f,rfl⟩);obtain⟨y,d,e⟩:=mem_map.mp this;obtain⟨z,j,rfl⟩:=mem_map.mp d;have e:nI z.2=x.1:=e;exact mem_map.mpr ⟨(nI z.2++[99],(z.1:Rat)/1000),mem_map.mpr ⟨z,j,rfl⟩,by show nI z.2++[99]=x.1++[99];rw[e]⟩
  .intro h
   obtain⟨y,d,rfl⟩:=mem_map.mp h;obtain⟨z,j,rfl⟩:=mem_map.mp d;have:=(i.keys (nI z.2)).mpr (mem_map.mpr ⟨(nI z.2,(z.1:Rat)/1000),mem_map.mpr ⟨z,j,rfl⟩,rfl⟩);obtain⟨x,f,e⟩:=mem_map.mp this;exact mem_map.mpr ⟨x,f,by show x.1++[99]=nI z.2++[99];rw[show x.1=nI z.2 from e]⟩
 .obtain⟨y,d,rfl⟩:=mem_map.mp (p.mem_iff.mp f)
  show y.2=cW _ (y.1++[99]);rw[i.val d,jn,jn]
  congr 2
  unfold d7
  congr 1
  refine map_congr_left λz _=>?_
  show z.1*(if nI z.2=y.1 then 1 else 0)=z.1*(if nI z.2++[99]=y.1++[99] then 1 else 0)
  by_cases c:nI z.2=y.1
  .rw[if_pos c,if_pos (by rw[c])]
  .rw[if_neg c,if_neg (λw=>c (List.append_cancel_right w))]
abbrev Iws:=List (List Int×Int)
def mq(k:List Int)(m:Int):Iws->Iws
 | []=>[(k,m)]
 | x::r=>if x.1=k then (k,x.2+m)::r else x::mq k m r
def qI(g:Iws):Rws:=g.map λx=>(x.1,(x.2:Rat)/1000)
theorem vZ(k:List Int)(m:Int):∀ g:Iws,qI (mq k m g)=cC k ((m:Rat)/1000) (qI g)
 | []=>rfl
 | x::r=>by
  have e:qI (x::r)=(x.1,(x.2:Rat)/1000)::qI r:=rfl;rw[mq,e,cC]
  by_cases c:x.1=k
  .rw[if_pos c,if_pos (show(x.1,(x.2:Rat)/1000).1=k from c)]
   show(k,((x.2+m:Int):Rat)/1000)::qI r=_;rw[Rat.intCast_add]
   congr 2
   grind
  .rw[if_neg c,if_neg (show ¬(x.1,(x.2:Rat)/1000).1=k from c),<- vZ k m r]
   rfl
def iA(rs:List (Int×List Nat)):Iws:=rs.foldl (λg z=>mq (nI z.2) z.1 g) []
theorem pZ:∀(rs:List (Int×List Nat)) (g:Iws),qI (rs.foldl (λg z=>mq (nI z.2) z.1 g) g)=(rwf nI rs).foldl (λst w=>cC w.1 w.2 st) (qI g)
 | [],g=>rfl
 | z::r,g=>by
  rw[foldl_cons,pZ r,vZ];rfl
theorem qI_iA(rs:List (Int×List Nat)):qI (iA rs)=fW (rwf nI rs):=pZ rs []
theorem iA_snoc{rs:List (Int×List Nat)}{i:Nat}{z:Int×List Nat}(h:rs[i]? = some z):iA (rs.take (i+1))=mq (nI z.2) z.1 (iA (rs.take i)):=by
 unfold iA;rw[take_add_one,h,List.foldl_append];rfl
theorem qI_keys(g:Iws):(qI g).map (·.1)=g.map (·.1):=by unfold qI;rw[map_map];rfl
theorem y7{i:List (Int×Int)}{rs:List (Int×List Nat)}(h:Run i 1000 rs)(f:List Nat->List Int):Gd 1000 (rwf f rs):=by
 have d:=cS h;have e:=mG h
 have k:(∀ z∈rs,1<=z.1)->(∀ x∈rwf f rs,Nn 1000 x.2)/\sm (rwf f rs)=(((rs.map (·.1)).sum:Int):Rat)/1000:=λc=>by
  clear e d h
  induction rs with
  | nil=>exact⟨λx hx=>(nomatch hx),(show(0:Rat)=((0:Int):Rat)/1000 by grind)⟩
  | cons z r ih =>
   obtain⟨a,b⟩:=ih λy hy=>c y (mem_cons_of_mem _ hy)
   have j:=c z mem_cons_self;have g:rwf f (z::r)=(f z.2,(z.1:Rat)/1000)::rwf f r:=rfl;rw[g]
   constructor
   .intro x hx
    rcases mem_cons.mp hx with rfl | hx
    .obtain⟨n,hn⟩:∃ n:Nat,z.1=(n:Int):=⟨z.1.toNat,by lia⟩
     show Nn 1000 ((z.1:Rat)/1000);rw[hn];have l:(0:Rat)<=(n:Rat):=by exact_mod_cast Nat.zero_le n
     refine⟨?_,n,?_⟩
     .show(0:Rat)<=((n:Nat):Rat)/1000
      grind
     .show((n:Nat):Rat)/1000*((1000:Nat):Rat)=_
      grind
    .exact a x hx
   .show(z.1:Rat)/1000+sm (rwf f r)=_
    rw[b,map_cons,sum_cons,Rat.intCast_add]
    grind
 obtain⟨a,b⟩:=k λz c=>(d z c).1
 refine⟨a,?_⟩;rw[b,e];show((1000:Int):Rat)/1000<=1
 grind
theorem iA_bd{d:List (Int×Int)}{rs:List (Int×List Nat)}(h:Run d 1000 rs){x:List Int×Int}(g:x∈iA rs):0<=x.2/\x.2<=1000:=by
 have:(x.1,(x.2:Rat)/1000)∈fW (rwf nI rs):=by rw[<- qI_iA];exact mem_map.mpr ⟨x,g,rfl⟩
 obtain⟨a,b,_⟩:=wF (y7 h nI) _ this;have a:(0:Rat)<=(x.2:Rat)/1000:=a;have b:(x.2:Rat)/1000<=1:=b;have c:(0:Rat)<=(x.2:Rat):=by grind
 have f:(x.2:Rat)<=((1000:Int):Rat):=by grind
 exact⟨by exact_mod_cast c,by exact_mod_cast f⟩
theorem low_1000(x:Int):jT x 1000=fr ((x:Rat)/1000):=low_tops (by decide) (by show(x:Rat)=(x:Rat)/1000*1000;grind)
end Tb
namespace My
open PySem L2 Tu FrM
def qC(a:Ad):Sp:=λvs H Q _=>∃(x:Addr) (s m b:Int),vs=[.ref x,.int b]/\IsT a H x s m/\OkT s m/\∀ H' y,Same H H'->IsT a H' y ((s+b) % 1000) m->Q (.ref y) H'
def xW(a:Ad):Sp:=λvs H Q _=>∃(x:Addr) (t:Int×Int) (n:Int),vs=[.ref x,.int n]/\IsT a H x t.1 t.2/\0<=n/\n<1000/\Q (.bl (inT t n)) H
def yL(a:Ad)(H:Hp)(t:Int×Int)(x:V):Prop:=OkT t.1 t.2/\∃ p,x=.ref p/\IsT a H p t.1 t.2
abbrev AllT(a:Ad)(H:Hp):List (Int×Int)->List V->Prop:=PySem.Paired (yL a H)
theorem AllT.same{a:Ad}{H H':Hp}(s:Same H H'):∀{fs:List (Int×Int)}{xs:List V},AllT a H fs xs->AllT a H' fs xs
 | _,_,.nil=>.nil
 | _,_,.cons ⟨k,p,e,r⟩ t=>.cons ⟨k,p,e,r.same s⟩ (AllT.same s t)
theorem IsT.lst{a:Ad}{H:Hp}{x l:Addr}{s m:Int}{xs ys:List V}(e:H l=some (.lst xs))(h:IsT a H x s m):IsT a (upd H l (.lst ys)) x s m:=let ⟨dx,q⟩:=h;⟨dx,by rw[ai (λz=>by rw[z,e]at q;cases q)];exact q⟩
theorem AllT.lst{a:Ad}{H:Hp}{l:Addr}{vs ys:List V}(e:H l=some (.lst vs)):∀{fs:List (Int×Int)}{xs:List V},AllT a H fs xs->AllT a (upd H l (.lst ys)) fs xs
 | _,_,.nil=>.nil
 | _,_,.cons ⟨k,p,e',r⟩ t=>.cons ⟨k,p,e',r.lst e⟩ (AllT.lst e t)
theorem AllT.get{a:Ad}{H:Hp}:∀{fs:List (Int×Int)}{xs:List V}{i:Nat}{x:V},AllT a H fs xs->xs[i]? = some x->yL a H (tk fs i) x/\i<fs.length
 | _,_,_,_,.nil,h=>by cases h
 | _,_,0,_,.cons r _,h=>by cases h;exact⟨r,Nat.zero_lt_succ _⟩
 | _,_,i+1,_,.cons _ t,h=>by obtain⟨b,c⟩:=AllT.get (i:=i) t h;exact⟨b,Nat.succ_lt_succ c⟩
theorem AllT.len{a:Ad}{H:Hp}{fs:List (Int×Int)}{xs:List V}(h:AllT a H fs xs):fs.length=xs.length:=Paired.length h
theorem AllT.snoc{a:Ad}{H:Hp}{f:Int×Int}{x:V}(r:yL a H f x):∀{fs:List (Int×Int)}{xs:List V},AllT a H fs xs->AllT a H (fs++[f]) (xs++[x])
 | _,_,.nil=>.cons r .nil
 | _,_,.cons q t=>.cons q (AllT.snoc r t)
def pan(m b:Int)(i:Nat):List (Int×Int):=(List.range i).map λ(k:Nat)=>((0+b*(0+(k:Int))) % 1000,m)
def qt(a:Ad):Sp:=λvs H Q _=>∃(m b c:Int),vs=[.int m,.int b,.int c]/\0<=m/\m<=1000/\0<=b/\b<1000/\0<=c/\c<=24/\∀ H' l xs,Same H H'->H' l=some (.lst xs)->AllT a H' (pan m b c.toNat) xs->Q (.ref l) H'
def nV(L:List Nat):List V:=L.map λ(k:Nat)=>V.int (k:Int)
structure Ts(a:Ad)(H:Hp)(l:Addr)(xs:List V)(ts:List (Int×Int)):Prop where
 h:H l=some (.lst xs)
 all:AllT a H ts xs
 len:ts.length<=24
theorem Ts.same{a:Ad}{H H':Hp}{l:Addr}{xs:List V}{b:List (Int×Int)}(s:Same H H')(t:Ts a H l xs b):Ts a H' l xs b:=⟨s _ _ t.h,t.all.same s,t.len⟩
def qQ(a:Ad):Sp:=λvs H Q _=>∃(l:Addr) (xs:List V) (ts:List (Int×Int)) (n:Int),vs=[.ref l,.int n]/\Ts a H l xs ts/\0<=n/\n<1000/\∀ H' r,Same H H'->H r=none->H' r=some (.lst (nV (plc ts n)))->Q (.ref r) H'
def IsRun(H0 H:Hp)(told:Addr)(r:Int×List Nat)(x:V):Prop:=∃ p q,x=.ref p/\H p=some (.tup [.int r.1,.ref q])/\H q=some (.lst (nV r.2))/\q≠told/\H0 q=none
abbrev AllR(H0 H:Hp)(told:Addr):List (Int×List Nat)->List V->Prop:=PySem.Paired (IsRun H0 H told)
theorem IsRun.same{b H H':Hp}{a:Addr}{z:Int×List Nat}{x:V}(s:Same H H')(h:IsRun b H a z x):IsRun b H' a z x:=let ⟨p,q,e,h1,h2,h3⟩:=h;⟨p,q,e,s _ _ h1,s _ _ h2,h3⟩
theorem AllR.same{b H H':Hp}{a:Addr}(s:Same H H'):∀{rs:List (Int×List Nat)}{xs:List V},AllR b H a rs xs->AllR b H' a rs xs
 | _,_,.nil=>.nil
 | _,_,.cons r t=>.cons (r.same s) (AllR.same s t)
theorem IsRun.lst{b H:Hp}{a:Addr}{z:Int×List Nat}{x:V}{vs ys:List V}(e:H a=some (.lst vs))(h:IsRun b H a z x):IsRun b (upd H a (.lst ys)) a z x:=let ⟨p,q,e',h1,h2,h3⟩:=h;⟨p,q,e',by rw[ai (λw=>by rw[w,e]at h1;cases h1)];exact h1,by rw[ai h3.1];exact h2,h3⟩
theorem AllR.lst{b H:Hp}{a:Addr}{vs ys:List V}(e:H a=some (.lst vs)):∀{rs:List (Int×List Nat)}{xs:List V},AllR b H a rs xs->AllR b (upd H a (.lst ys)) a rs xs
 | _,_,.nil=>.nil
 | _,_,.cons r t=>.cons (r.lst e) (AllR.lst e t)
theorem AllR.snoc{b H:Hp}{a:Addr}{z:Int×List Nat}{x:V}(r:IsRun b H a z x):∀{rs:List (Int×List Nat)}{xs:List V},AllR b H a rs xs->AllR b H a (rs++[z]) (xs++[x])
 | _,_,.nil=>.cons r .nil
 | _,_,.cons q t=>.cons q (AllR.snoc r t)
theorem AllR.unsnoc{b H:Hp}{a:Addr}:∀{rs:List (Int×List Nat)}{xs:List V},AllR b H a rs xs->xs≠[]->∃ rs0 z xs0 x,rs=rs0++[z]/\xs=xs0++[x]/\AllR b H a rs0 xs0/\IsRun b H a z x
 | _,_,.nil,h=>(h rfl).elim
 | _,_,.cons r .nil,_=>⟨[],_,[],_,rfl,rfl,.nil,r⟩
 | _,_,.cons r (.cons r' t),_=>by
  obtain⟨rs0,z,xs0,x,g,c,f,d⟩:=AllR.unsnoc (.cons r' t) (λh=>by cases h);exact⟨_::rs0,z,_::xs0,x,by rw[g];rfl,by rw[c];rfl,.cons r f,d⟩
theorem AllR.get{b H:Hp}{a:Addr}:∀{fs:List (Int×List Nat)}{xs:List V}{i:Nat}{x:V},AllR b H a fs xs->xs[i]? = some x->∃ f,fs[i]? = some f/\IsRun b H a f x
 | _,_,_,_,.nil,h=>by cases h
 | _,_,0,_,.cons r _,h=>⟨_,rfl,by cases h;exact r⟩
 | _,_,i+1,_,.cons _ t,h=>AllR.get (i:=i) t h
theorem m6(xs:List V)(x y:V):(xs++[x]).set xs.length y=xs++[y]:=by
 induction xs with
 | nil=>rfl
 | cons z zs ih=>rw[cons_append,length_cons,List.set_cons_succ,ih];rfl
theorem yk{K:Frag}{H:Hp}:∀(l:List Nat),DVs K H (l.map λ(k:Nat)=>PyData.int (k:Int)) (nV l)
 | []=>by simp[DVs,nV]
 | c::l=>by
  unfold nV;rw[map_cons,map_cons,DVs];exact⟨_,_,rfl,by simp[DV],yk l⟩
theorem yE:∀(l:List Nat),PyData.canLayAll0 (l.map λ(k:Nat)=>PyData.int (k:Int))=true/\PyData.depthAll (l.map λ(k:Nat)=>PyData.int (k:Int))<=1
 | []=>by simp[PyData.canLayAll0,PyData.depthAll]
 | t::l=>by
  obtain⟨a,b⟩:=yE l;rw[map_cons,PyData.canLayAll0,PyData.depthAll,a,PyData.canLay0];refine⟨rfl,?_⟩;simp only[PyData.depth];lia
theorem nK(l:List Nat):SeqAt.shaped (.list (l.map λ(k:Nat)=>PyData.int (k:Int)))=true:=by
 obtain⟨a,b⟩:=yE l;unfold SeqAt.shaped;rw[PyData.canLay0,a,Bool.true_and];refine decide_eq_true ?_;simp only[PyData.depth];lia
theorem AX{K:Frag}{H:Hp}{p:Addr}{l:List Nat}(h:H p=some (.lst (nV l))):DV K H (.list (l.map λ(k:Nat)=>PyData.int (k:Int))) (.ref p):=by
 rw[DV];exact⟨p,_,rfl,SqL.of h,yk l⟩
theorem rC:∀ l m:List Nat,PyData.eqvAll (l.map λ(k:Nat)=>PyData.int (k:Int)) (m.map λ(k:Nat)=>PyData.int (k:Int))=decide (l=m)
 | [],[]=>rfl
 | [],_::_=>rfl
 | _::_,[]=>rfl
 | x::l,y::m=>by
  rw[map_cons,map_cons,PyData.eqvAll,rC l m,Bool.eq_iff_iff];simp[PyData.eqv];intro _;lia
theorem BU{K:Frag}{H:Hp}{p q:Addr}{l m:List Nat}{Q:VK}(a:H p=some (.lst (nV l)))(d:H q=some (.lst (nV m)))(c:∀ b:Bool,b=decide (l=m)->Q (.bl b) H):rEqD K false (.ref p) (.ref q) H Q:=by
 refine⟨_,_,AX a,AX d,nK l,nK m,c _ ?_⟩;simp only[Bool.false_eq_true,if_false];rw[PyData.eqv,rC]
def e8(a:Ad):Sp:=λvs H Q _=>∃(l:Addr) (xs:List V) (ts:List (Int×Int)),vs=[.ref l]/\Ts a H l xs ts/\∀ H' r rs ys,Same H H'->H r=none->H' r=some (.lst ys)->AllR H H' r rs ys->Run ts 1000 rs->(∀ k,fZ k rs=cnt ts 1000 k)->(∀ z∈rs,z.2.length<=ts.length)->rs.length<=1000->Q (.ref r) H'
def oh(a:Ad):Sp:=λvs H Q _=>∃(l:Addr) (xs:List V) (ts:List (Int×Int)),vs=[.ref l]/\Ts a H l xs ts/\∀ H' r,Same H H'->H r=none->H' r=some (.lst ((j8 ts 1000).map V.int))->Q (.ref r) H'
section
variable {P:Program}{w:World}{K:Frag}{mg:Str->Option Value}{base:Heap}{a:Ad}
theorem gy{H:Hp}{x dx:Addr}{C:Addr}{fs gs:List (Str×V)}(b:H x=none)(a:H dx=none):Same H (upd (upd (upd (upd H dx (.own x)) x (.ins C dx [])) x (.ins C dx fs)) x (.ins C dx gs)):=by
 rw[qK];exact oP b a
theorem vt(T:Txt K mg a):FnOk P w K mg base CX0 5 a.x_F a.y_F ["self","by"] (qC a):=by
 have d:FnOk P w K mg base CX0 3 _ _ _ (spInit a):=lN T;refine T.F_F.ok j6 (λl H Q E h=>?_) (λcdv A outer s H l Q E hr h=>?_)
 .obtain⟨x,s,m,b,rfl,_⟩:=h;rfl
 .obtain⟨x,s,m,b,rfl,⟨g,f⟩,n,q⟩:=h
  refine⟨_,(ak (aw (dI T.mk_g d hr rfl T.mc_g T.Bi_g .nil ar (aa (ay dY (ay dq (ci (vr 0) rfl) (vr 1)) (gE rfl T.g_CIRCLE)) (aa (ci (vr 0) rfl) ae))))),?_⟩;refine⟨x,_,g,_,_,rfl,f,T.cl_g,T.na_Turn_start,rfl,cp,?_⟩;refine⟨x,_,g,_,_,rfl,f,T.cl_g,T.na_Turn_many,rfl,?_⟩
  refine λy i k c j=>⟨y,i,(s+b) % 1000,m,rfl,ad,⟨by lia,by lia,n.2.2⟩,rfl,q _ y (gy k c) ⟨i,ad⟩⟩
theorem zL(T:Txt K mg a):FnOk P w K mg base CX0 3 a.x_K a.y_K ["self","number"] (xW a):=by
 have b:FnOk P w K mg base CX0 2 _ _ _ _:=(jh T).mono (by decide);have c:FnOk P w K mg base CX0 2 _ _ _ (spIs 999):=dJ T;refine T.F_K.ok mR (λj H Q E h=>?_) (λcdv A outer s H j Q E hr h=>?_)
 .obtain⟨x,t,n,rfl,_⟩:=h;rfl
 .obtain⟨x,t,n,rfl,⟨f,d⟩,g,k,q⟩:=h
  refine⟨_,(aj (cN (aq b hr rfl T.m_aa T.F_aa.kp T.B_aa .nil ar (aa (aq c hr rfl T.m_v T.F_v.kp T.B_v .nil ar (aa (vr 1) ae)) ae))) (ak (aw (kT xb (ay dY (ay jq (vr 1) (ci (vr 0) rfl)) (gE rfl T.g_CIRCLE)) (ci (vr 0) rfl) (bw _))))),jK ?_⟩;intro i;refine⟨_,_,rfl,.int n,?_⟩;rw[eG g (by lia)];refine⟨rfl,?_⟩;refine⟨x,_,f,_,_,rfl,d,T.cl_g,T.na_Turn_start,rfl,cp,?_⟩;exact⟨x,_,f,_,_,rfl,d,T.cl_g,T.na_Turn_many,rfl,q⟩
theorem uI(T:Txt K mg a):FnOk P w K mg base CX0 4 a.f_af a.d_af ["turns","number"] (qQ a):=by
 have k:FnOk P w K mg base CX0 3 _ _ _ _:=(jh T).mono (by decide);have J:FnOk P w K mg base CX0 3 _ _ _ _:=(dJ T).mono (by decide);have G:FnOk P w K mg base CX0 3 _ _ _ (xW a):=zL T;refine T.F_af.ok vP (λY H Q E h=>?_) (λcdv A outer s H Y Q E hr h=>?_)
 .obtain⟨l,xs,b,n,rfl,_⟩:=h;rfl
 .obtain⟨l,xs,b,n,rfl,u,R,n1,q⟩:=h
  refine⟨_,(aj (cN (aq k hr rfl T.m_aa T.F_aa.kp T.B_aa .nil ar (aa (aq J hr rfl T.m_v T.F_v.kp T.B_v .nil ar (aa (vr 1) ae)) ae))) (ak (aw (ba rfl (N:=["place","turn","number"]) (ix:=[none,none,some 1]) ⟨rfl,rfl,rfl,rfl,⟨rfl,rfl,rfl,trivial⟩⟩ (gO rfl T.z_enumerate (aa (vr 0) ae)) ⟨λC s H W=>(cO (K:=K) (n:=2) rfl rfl (au (ap (i:=0) (show List.Nodup (["place","turn","number"]:List Str) by decide +kernel) rfl (Or.inl rfl)) (au (ap (i:=1) (show List.Nodup (["place","turn","number"]:List Str) by decide +kernel) rfl (Or.inl rfl)) aZ))),λC s H W=>iY (gN (fU (vr 1) T.cl_g T.mt_K G hr T.B_K .nil ar (aa (vr 2) ae))),λC s H W=>(vr 0)⟩)))),jK ?_⟩;intro ab;have sl:sizeLine=16777216:=sizeLine_eq;refine⟨_,_,rfl,.int n,?_⟩;rw[eG R (by lia)];refine⟨rfl,?_⟩;have tl:=u.all.len;have Z:=u.len;refine⟨l,_,rfl,u.h,λD M=>?_⟩;refine kd (a:=l) (xs:=xs) (λi f g=>i<=b.length/\Same H g/\g D=some (.lst f)/\f=nV (js b n i)) ⟨Nat.zero_le _,Same.new M,ad,rfl⟩ (λi f g h=>h.2.1 _ _ u.h) (λi f g h=>h.2.2.1) ?_ ?_
  .rintro i x f g p P' hx ⟨hi,B,d,rfl⟩ hp O
   obtain⟨⟨_,L,rfl,X⟩,y⟩:=u.all.get hx;have F:=Same.new (o:=.tup [.int (i:Nat),.ref L]) hp;have j:=F _ _ d;have I:=(X.same B).same F;have r:=B.trans F;refine⟨p,_,rfl,SqT.of ad,rfl,_,_,rfl,_,_,rfl,rfl,⟨rfl,trivial⟩,?_⟩;obtain⟨S,v⟩:=I;refine⟨L,S,_,rfl,v,rfl,⟨L,tk b i,n,rfl,⟨S,v⟩,R,n1,?_⟩⟩
   have ll:(nV (js b n i)).length<sizeLine:=by
    unfold nV;rw[length_map];have:=re b n i;lia
   have z:=iw b n i;refine ifB (λc=>?_) (λc=>?_)
   .rw[if_pos c]at z
    exact⟨j,ll,O _ _ ⟨y,r.put M,ad,by rw[z];unfold nV;rw[map_append];rfl⟩⟩
   .rw[if_neg (by rw[c];decide),append_nil]at z
    exact O _ _ ⟨y,r,j,by rw[z]⟩
  .rintro f g ⟨_,B,d,rfl⟩
   have e:js b n xs.length=plc b n:=by rw[<- tl];rfl
   rw[e]at d;exact q _ D B M d
theorem uz(m b:Int)(i:Nat):pan m b (i+1)=pan m b i++[((0+b*(0+(i:Int))) % 1000,m)]:=by
 unfold pan;rw[range_succ,map_append];rfl
theorem vQ(T:Txt K mg a):FnOk P w K mg base CX0 6 a.f_ae a.d_ae ["many","by","count"] (qt a):=by
 have o:FnOk P w K mg base CX0 5 _ _ _ _:=(jh T).mono (by decide);have J:FnOk P w K mg base CX0 5 _ _ _ _:=(dJ T).mono (by decide);have v:FnOk P w K mg base CX0 5 _ _ _ _:=(jO T).mono (by decide);have G:FnOk P w K mg base CX0 5 _ _ _ _:=(fQ T).mono (by decide);have F:FnOk P w K mg base CX0 4 _ _ _ _:=(lN T).mono (by decide);have L:FnOk P w K mg base CX0 5 _ _ _ (qC a):=vt T;refine T.F_ae.ok v3 (λR H Q E h=>?_) (λcdv A outer s H R Q E hr h=>?_)
 .obtain⟨m,b,c,rfl,_⟩:=h;rfl
 .obtain⟨m,b,c,rfl,u,r,Z,b1,X,c1,q⟩:=h
  refine⟨_,(aj (cN (aq o hr rfl T.m_aa T.F_aa.kp T.B_aa .nil ar (aa (mM (aq v hr rfl T.m_R T.F_R.kp T.B_R .nil ar (aa (vr 0) ae)) (mM (aq J hr rfl T.m_v T.F_v.kp T.B_v .nil ar (aa (vr 1) ae)) (oH (aq G hr rfl T.m_A T.F_A.kp T.B_A .nil ar (aa (vr 2) (aa am (aa (gE rfl T.g_MOST_LISTED) ae))))))) ae))) (ak (aw (ba rfl (N:=["place","by","many"]) (ix:=[none,some 1,some 0]) ⟨rfl,rfl,rfl,rfl,⟨rfl,rfl,rfl,⟨rfl,rfl,rfl,trivial⟩⟩⟩ (dO rfl T.z_range (aa (vr 2) ae)) ⟨λC s H M=>ap (i:=0) (show List.Nodup (["place","by","many"]:List Str) by decide +kernel) rfl (Or.inl rfl),λC s H M=>bb,λC s H M=>(fU (dI T.mk_g F hr rfl T.mc_g T.Bi_g .nil ar (aa am (aa (vr 2) ae))) T.cl_g T.mt_F L hr T.B_F .nil ar (aa (ay dU (vr 1) (vr 0)) ae))⟩)))),jK ?_⟩;intro an;have sl:sizeLine=16777216:=sizeLine_eq;refine⟨_,_,rfl,.int m,?_⟩;rw[eG u r];refine⟨_,_,rfl,.int b,?_⟩;rw[eG Z (by lia)];refine⟨_,0,24,_,rfl,.int c,?_⟩;rw[eG X c1];refine⟨rfl,?_⟩;refine⟨c,rfl,by lia,by lia,λD O=>?_⟩
  let Pw1:PvL:=λj d l=>j<=c.toNat/\Same H l/\l D=some (.lst d)/\AllT a l (pan m b j) d
  refine jz (lo:=0) (n:=c.toNat) Pw1 ⟨Nat.zero_le _,Same.new O,ad,.nil⟩ (λj d l h=>h.2.2.1) ?_ ?_
  .rintro j d l P' hj ⟨ab,B,k,p⟩ S
   refine⟨⟨rfl,rfl,trivial⟩,λy x Y I al=>⟨y,x,0,m,rfl,ad,⟨by decide,by decide,u,r⟩,rfl,?_⟩⟩;have s2:=gy (C:=a.c_g) (fs:=[("start",.int 0)]) (gs:=[("start",.int 0),("many",.int m)]) Y I;refine⟨y,x,_,rfl,ad,rfl,?_⟩;refine⟨cmB (show Bt 10 b by unfold Bt;lia) (show Bt 10 (0+(j:Int)) by unfold Bt;lia),?_⟩;refine⟨y,0,m,_,rfl,⟨x,ad⟩,⟨by decide,by decide,u,r⟩,λH3 z W hz=>?_⟩;have g:=s2.trans W;have f:=g _ _ k;have yl:d.length=j:=by rw[<- p.len];unfold pan;rw[length_map,length_range]
   refine⟨f,by lia,S _ _ ⟨hj,(B.trans g).put O,ad,?_⟩⟩;rw[uz];exact AllT.snoc ⟨⟨by lia,by lia,u,r⟩,z,rfl,hz.lst f⟩ ((p.same g).lst f)
  .rintro d l ⟨_,B,k,p⟩
   exact q _ D d B k p
theorem gM(T:Txt K mg a):FnOk P w K mg base CX0 5 a.f_B a.d_B ["turns"] (e8 a):=by
 have X:FnOk P w K mg base CX0 4 _ _ _ (qQ a):=uI T;refine T.F_B.ok sc_B (λvs H Q E h=>?_) (λcdv A outer s H vs Q E hr h=>?_)
 .obtain⟨l,xs,u,rfl,_⟩:=h;rfl
 .obtain⟨l,xs,u,rfl,ht,q⟩:=h
  refine⟨_,(aj (aD (i:=1) sc_B.nd rfl (Or.inl rfl) (cq ae)) (aj (cV PassesOwn.never rfl (dO rfl T.z_range (aa (gE rfl T.g_CIRCLE) ae)) (ap (i:=2) sc_B.nd rfl (Or.inl rfl)) (aj (aD (i:=3) sc_B.nd rfl (Or.inl rfl) (aq X hr rfl T.m_af T.F_af.kp T.B_af .nil ar (aa (vr 0) (aa (vr 2) ae)))) (ak (cK (PW.pt (uE (jI (vr 1) (λ_=>rfl)) (qd (cE (yd hr.units) (cF bU (cF bU (vr 1) (iF iC am) (λ_ _=>rfl)) am (λ_ _=>rfl)) (vr 3) (bw _))))) (ak (gx (bI (aa (ay dq (cF bU (cF bU (vr 1) (iF iC am) (λ_ _=>rfl)) am (λ_ _=>rfl)) am) (aa (vr 3) ae))) (pF (vr 1) (iF iC am) gR))) (ak (cN (pe_m.append (vr 1) (aa (bI (aa am (aa (vr 3) ae))) ae)))))))) (ak (aw (vr 1))))),eQ ?_⟩;intro as a1;have sl:sizeLine=16777216:=sizeLine_eq;refine⟨Nat.zero_le _,λr Z=>?_⟩;refine⟨1000,rfl,by decide,by decide,?_⟩
  let Pw2:PvS:=λi σ H'=>∃(x:List (Int×List Nat)) (v:List V) (x2 x3:Option V),i<=1000/\Same H H'/\H' r=some (.lst v)/\AllR H H' r x v/\Run u i x/\(∀ k,fZ k x=cnt u i k)/\(∀ z∈x,z.2.length<=u.length)/\x.length<=i/\σ=[some (.ref l),some (.ref r),x2,x3]
  refine hJ (lo:=0) (n:=1000) Pw2
   ⟨[],[],none,none,by decide,Same.new Z,ad,.nil,.zero,(λk=>rfl),(λz M=>by cases M),Nat.le_refl _,rfl⟩ ?_ ?_
  .rintro i σ H1 hi ⟨x,v,x2,x3,a0,Y,B,hA,R,S,M,N,rfl⟩
   refine⟨l,xs,u,_,rfl,ht.same Y,by lia,by lia,λH2 C s2 fq hq=>?_⟩;rw[Int.zero_add]at hq;have d:=s2 _ _ B;have I:=hA.same s2
   have nq:C≠r/\H C=none:=⟨λe=>(by rw[e,B]at fq;cases fq),Y.free fq⟩
   have L:=Y.trans s2;have yl:v.length=x.length:=(Paired.length hA).symm;have J:=g8 u (i:Int);refine⟨_,.inl ⟨v,SqL.of d,rfl⟩,?_⟩;refine ifB (λc=>?_) (λc0=>?_)
   rotate_left
   .refine⟨.inl ⟨rfl,_,SqL.of d⟩,⟨cT _ _,λp D=>⟨r,v,_,rfl,rfl,Same.new D _ _ d,by lia,?_⟩⟩⟩
    have g:=Same.new (o:=.tup [.int 1,.ref C]) D;have f:=g _ _ d;refine⟨x++[(1,plc u (i:Int))],v++[.ref p],_,_,by lia,(L.trans g).put Z,ad,?_,.new R ?_,λk=>?_,λz hz'=>?_,by rw[length_append];exact Nat.succ_le_succ N,rfl⟩
    .exact AllR.snoc (IsRun.lst f ⟨p,C,rfl,ad,g _ _ hq,nq⟩) ((I.same g).lst f)
    .intro F z e
     rw[e,length_append]at yl;cases v with
     | nil=>simp at yl
     | cons y0 yr=>cases c0
    .rw[dQ,eE,S,fF]
    .rcases mem_append.mp hz' with h | h
     .exact M z h
     .rw[mem_singleton.mp h];exact J
   have hy:v≠[]:=λe=>by rw[e]at c;cases c
   obtain⟨F,G,j,y,rfl,rfl,ab,⟨O,qz,rfl,h1,h2,h3⟩⟩:=I.unsnoc hy;refine .inl ⟨r,_,_,.ref O,rfl,rfl,SqL.of d,gY _ _,.inr (.inl ⟨O,_,_,.ref qz,rfl,rfl,SqT.of h1,bT 1 rfl rfl,?_⟩)⟩;refine BU h2 hq λb hb=>ifB (λc=>?_) (λc1=>?_)
   rotate_left
   .refine⟨.inl ⟨rfl,_,SqL.of d⟩,⟨cT _ _,λp D=>⟨r,(j++[V.ref O]),_,rfl,rfl,Same.new D _ _ d,by lia,?_⟩⟩⟩
    have g:=Same.new (o:=.tup [.int 1,.ref C]) D;have f:=g _ _ d;refine⟨(F++[G])++[(1,plc u (i:Int))],(j++[V.ref O])++[.ref p],_,_,by lia,(L.trans g).put Z,ad,?_,.new R ?_,λk=>?_,λz hz'=>?_,by rw[length_append];exact Nat.succ_le_succ N,rfl⟩
    .exact AllR.snoc (IsRun.lst f ⟨p,C,rfl,ad,g _ _ hq,nq⟩) ((I.same g).lst f)
    .intro an z e
     have e2:=(append_inj' e rfl).2;cases e2;rw[hb]at c1;exact of_decide_eq_false c1
    .rw[dQ,eE,S,fF]
    .rcases mem_append.mp hz' with h | h
     .exact M z h
     .rw[mem_singleton.mp h];exact J
   have W:G.2=plc u (i:Int):=of_decide_eq_true (hb ▸ c);have al:=congrArg List.length W;refine .inl ⟨r,_,_,.ref O,rfl,rfl,SqL.of d,gY _ _,.inr (.inl ⟨O,_,_,.int G.1,rfl,rfl,SqT.of h1,bT 0 rfl rfl,?_⟩)⟩;refine⟨cT _ _,λp D=>⟨r,_,_,j.length,rfl,rfl,Same.new D _ _ d,?_,?_⟩⟩
   .unfold ixN
    rw[length_append];show(if (0:Int)<=-1 then _ else _)=_;rw[if_neg (by decide),if_pos (by show -(((j.length+1:Nat)):Int)<=-1;lia)]
    congr 1
    show(-1+((j.length+1:Nat):Int)).toNat=_;lia
   .have g:=Same.new (o:=.tup [.int (G.1+1),.ref C]) D
    have f:=g _ _ d;rw[m6];refine⟨F++[(G.1+1,plc u (i:Int))],j++[.ref p],_,_,by lia,(L.trans g).put Z,ad,?_,.more (m:=G.1) (by rw[<- W];exact R),λk=>?_,λz' hz'=>?_,by rw[length_append]at N ⊢;exact Nat.le_succ_of_le N,rfl⟩
    .exact AllR.snoc (IsRun.lst f ⟨p,C,rfl,ad,g _ _ hq,nq⟩) ((ab.same g).lst f)
    .have:=S k
     rw[dQ,eE,al]at this;rw[dQ,eE,fF];show _+(if (plc u (i:Int)).length=k then G.1+1 else 0)=_
     split
     .rename_i c2
      rw[if_pos c2]at this;lia
     .rename_i c2
      rw[if_neg c2]at this;lia
    .rcases mem_append.mp hz' with h | h
     .exact M z' (mem_append_left _ h)
     .rw[mem_singleton.mp h];exact J
  .rintro σ H' ⟨x,v,x2,x3,_,Y,B,hA,R,S,M,N,rfl⟩
   exact q _ r x v Y Z B hA R S M N
theorem sv(T:Txt K mg a):FnOk P w K mg base CX0 6 a.f_S a.d_S ["turns"] (oh a):=by
 have X:FnOk P w K mg base CX0 5 _ _ _ (e8 a):=gM T;refine T.F_S.ok sc_S (λvs H Q E h=>?_) (λcdv A outer s H vs Q E hr h=>?_)
 .obtain⟨l,xs,c,rfl,_⟩:=h;rfl
 .obtain⟨l,xs,c,rfl,I,q⟩:=h
  refine⟨_,(aj (lJ rfl (i:=1) sc_S.nd rfl rfl (by with_unfolding_all rfl) (N:=["place"]) (ix:=[none]) ⟨rfl,rfl,rfl,rfl,trivial⟩ (dO rfl T.z_range (aa (ay dq (aL cD rfl T.z_len eM (aa (vr 0) ae)) am) ae)) ⟨λC s H fp=>ap (i:=0) (show List.Nodup (["place"]:List Str) by decide +kernel) rfl (Or.inl rfl),λC s H fp=>bb,λC s H fp=>am⟩) (aj (cV PassesOwn.never rfl (aY (aq X hr rfl T.m_B T.F_B.kp T.B_B .nil ar (aa (vr 0) ae))) (eh rfl (au (ap (i:=2) sc_S.nd rfl (Or.inl rfl)) (au (ap (i:=3) sc_S.nd rfl (Or.inl rfl)) aZ))) (ak (w5 (vr 1) (aL cD rfl T.z_len eM (aa (vr 3) ae)) uA (vr 2) pD gR))) (ak (aw (vr 1))))),eQ ?_⟩;intro as a1;have sl:sizeLine=16777216:=sizeLine_eq;have tl:=I.all.len;have an:=I.len;refine⟨_,.inl (SqL.of I.h),?_⟩;rw[<- tl];refine⟨_,rfl,by lia,by lia,λD hD=>?_⟩
  let Pw3:PvL:=λj u y=>j<=c.length+1/\y=upd H D (.lst u)/\u=List.replicate j (V.int 0)
  refine jz (lo:=0) (n:=((c.length:Int)+1).toNat) Pw3 ⟨Nat.zero_le _,rfl,rfl⟩ (λj u y h=>by rw[h.2.1];exact ad) ?_ ?_
  .rintro j u y P' hj ⟨a0,rfl,rfl⟩ hP
   refine⟨trivial,ad,?_,hP _ _ ⟨by lia,qK,List.replicate_succ'.symm⟩⟩;rw[List.length_replicate];lia
  rintro u H1 ⟨_,rfl,rfl⟩
  have e0:List.replicate ((c.length:Int)+1).toNat (V.int 0)=(dX (c.length+1) []).map V.int:=by
   rw[sA,List.map_replicate];congr 1
  rw[e0];have R:Same H (upd H D (.lst ((dX (c.length+1) []).map V.int))):=Same.new hD;have p:(upd H D (.lst ((dX (c.length+1) []).map V.int))) D=_:=ad;generalize upd H D (.lst ((dX (c.length+1) []).map V.int))=H1 at R p;refine⟨l,xs,c,rfl,I.same R,λH2 r g u s2 fr F hA hR hw hz hl=>?_⟩;have nr:r≠D:=λe=>by rw[e,p]at fr;cases fr
  have G:=s2 _ _ p;have S:=R.trans s2
  let Pw4:PvS:=λi J y=>∃(O W:Option V),i<=g.length/\(∀ b,b≠D->y b=H2 b)/\y D=some (.lst ((dX (c.length+1) (g.take i)).map V.int))/\J=[some (.ref l),some (.ref D),O,W]
  refine .inl ⟨⟨_,SqL.of F⟩,dC (K:=K) (a:=r) (xs:=u) Pw4
   ⟨none,none,Nat.zero_le _,λ_ _=>rfl,by rw[take_zero];exact G,rfl⟩ (λi J y _ h=>by obtain⟨_,_,_,v,_⟩:=h;exact SqL.of (by rw[v r nr];exact F)) ?_ ?_⟩
  .rintro i x J H3 hx ⟨O,W,hi,v,d,rfl⟩
   obtain⟨f,L,⟨Z,qf,rfl,Y,h2,h3,h4⟩⟩:=hA.get hx;have np:Z≠D:=λe=>by rw[e,G]at Y;cases Y
   have nq:qf≠D:=λe=>by rw[e,p]at h4;cases h4
   have ab:i<g.length:=(List.getElem?_eq_some_iff.mp L).1;have al:=hz f (List.mem_of_getElem? L);have et:g.take (i+1)=g.take i++[f]:=by rw[take_add_one,L];rfl
   refine⟨Z,_,rfl,SqT.of (by rw[v Z np];exact Y),rfl,_,_,rfl,_,_,rfl,rfl,?_⟩;refine⟨_,.inl (SqL.of (by rw[v qf nq];exact h2)),?_⟩;have ln:(nV f.2).length=f.2.length:=by unfold nV;rw[length_map]
   rw[ln];have M:atI ((dX (c.length+1) (g.take i)).map V.int) ((f.2.length:Nat):Int)=some (.int (fZ f.2.length (g.take i))):=gL (by rw[List.getElem?_map,rH (by lia)];rfl);refine⟨D,_,_,_,rfl,rfl,SqL.of d,by lia,M,?_⟩;refine⟨_,_,rfl,rfl,?_⟩;refine⟨D,_,_,f.2.length,rfl,rfl,d,?_,?_⟩
   .rw[length_map]
    unfold ixN dX;rw[length_map,length_range,if_pos (by lia),if_pos (by lia)]
    congr 1
   .refine⟨_,_,ab,λb B=>by rw[ai B];exact v b B,?_,rfl⟩
    rw[ad,<- map_set,se (by lia),et]
  .rintro J H3 ⟨O,W,_,v,d,rfl⟩
   have yl:u.length=g.length:=(Paired.length hA).symm;rw[yl,take_of_length_le (Nat.le_refl _)]at d
   have ec:dX (c.length+1) g=j8 c 1000:=by
    unfold dX j8;exact map_congr_left λk _=>hw k
   rw[ec]at d;exact q _ D (λb o e=>by rw[v b (λz=>by rw[z,hD]at e;cases e)];exact S _ _ e) hD d
end
open Tb (Tr)
def Af(H:Hp)(v:V)(ns:List Int):Prop:=∃ p,v=.ref p/\H p=some (.lst (ns.map V.int))/\ns.length<=12/\ns.Nodup
def Aq(H:Hp)(r:V->Tr->Prop)(pt:Int×Tr)(x:V):Prop:=∃ q w,x=.ref q/\H q=some (.tup [.int pt.1,w])/\1<=pt.1/\pt.1<=1000000000/\r w pt.2
def Bg(H:Hp)(r:V->Tr->Prop)(v:V)(ps:List (Int×Tr)):Prop:=∃ p vs,v=.ref p/\H p=some (.tup vs)/\Paired (Aq H r) ps vs/\1<=ps.length/\ps.length<=4
def fh(H:Hp):Nat->V->Tr->Prop
 | 0=>λv t=>match t with | .leaf ns=>Af H v ns | .die _=>False
 | d+1=>λv t=>match t with | .leaf ns=>Af H v ns | .die ps=>Bg H (fh H d) v ps
theorem d9{H:Hp}{v:V}{a:List Int}:∀ d,fh H d v (.leaf a)↔Af H v a
 | 0=>Iff.rfl
 | _+1=>Iff.rfl
theorem jr{H:Hp}{v:V}{ps:List (Int×Tr)}:∀{d},fh H d v (.die ps)->∃ d',d=d'+1/\Bg H (fh H d') v ps
 | 0,h=>False.elim h
 | d+1,h=>⟨d,rfl,h⟩
theorem ah{f c:Type}{r d:f->c->Prop}(h:∀ a b,r a b->d a b):∀{as:List f}{bs:List c},Paired r as bs->Paired d as bs
 | _,_,.nil=>.nil
 | _,_,.cons x t=>.cons (h _ _ x) (ah h t)
theorem cP{d c:Type}{r:d->c->Prop}{a:d}{b:c}(h:r a b):∀{as:List d}{bs:List c},Paired r as bs->Paired r (as++[a]) (bs++[b])
 | _,_,.nil=>.cons h .nil
 | _,_,.cons x t=>.cons x (cP h t)
theorem aG{b a:Type}{r:b->a->Prop}:∀{as:List b}{bs:List a}{i:Nat}{y:a},Paired r as bs->bs[i]? = some y->∃ x,as[i]? = some x/\r x y
 | _,_,_,_,.nil,h=>by cases h
 | _,_,0,_,.cons r _,h=>⟨_,rfl,by cases h;exact r⟩
 | _,_,i+1,_,.cons _ t,h=>aG (i:=i) t h
def nw(H:Hp)(P:Option Addr)(H':Hp):Hp:=λb=>if (H b).isNone && (some b != P) then H' b else none
theorem Bj{H H':Hp}{P:Option Addr}{b:Addr}(h:H b=none)(n:some b≠P):nw H P H' b=H' b:=by
 unfold nw;rw[h];simp[n]
theorem rj{H H':Hp}{P:Option Addr}{b:Addr}{o:HO}(h:nw H P H' b=some o):H b=none/\some b≠P/\H' b=some o:=by
 unfold nw at h
 split at h
 .rename_i c
  simp at c;exact⟨c.1,c.2,h⟩
 .cases h
def Srt(ns kept:List Int):Prop:=ns.Perm kept/\ns.Pairwise (·<=·)
def IsTold(a:Ad)(H:Hp)(v:V)(kept:List Int):Prop:=∃ x dx t ns,v=.ref x/\H x=some (.ins a.c_d dx [("rising",.ref t)])/\H t=some (.tup (ns.map V.int))/\Srt ns kept
def IsLam(H:Hp)(d:LamD)(fv:List Str)(v:V)(vals:List V):Prop:=∃ f c clos,v=.ref f/\H f=some (.ext (dS f d clos c))/\H c=some (.ext (eY c d.qual))/\clos.map (·.1)=fv/\(clos.map (·.2)).Nodup/\CellsAt H clos vals
theorem dH{H H':Hp}(s:SameT H H'):∀{clos:List (Str×Addr)}{vals:List V},CellsAt H clos vals->CellsAt H' clos vals
 | _,_,.nil=>.nil
 | _,_,.cons r t=>.cons (s.at r) (dH s t)
theorem IsLam.t{H H':Hp}{d:LamD}{g:List Str}{v:V}{a:List V}(s:SameT H H')(h:IsLam H d g v a):IsLam H' d g v a:=by
 obtain⟨f,c,b,n,j,i,o,l,k⟩:=h;exact⟨f,c,b,n,s.at j,s.at i,o,l,dH s k⟩
theorem IsTold.t{a:Ad}{H H':Hp}{v:V}{b:List Int}(s:SameT H H')(h:IsTold a H v b):IsTold a H' v b:=by
 obtain⟨x,g,t,j,f,d,c,i⟩:=h;exact⟨x,g,t,j,f,s.at d,s.at c,i⟩
abbrev fvT:List Str:=["places"]
def NodeR(H0 H:Hp)(d:Nat)(pt:Int×Tr)(y:V):Prop:=∃ q f w,y=.ref q/\H q=some (.tup [.int pt.1,f])/\IsLam H ld_told_make_1 fvT f [w]/\1<=pt.1/\pt.1<=1000000000/\fh H0 d w pt.2
theorem NodeR.t{a H H':Hp}{d:Nat}(s:SameT H H')(b:Int×Tr)(y:V)(h:NodeR a H d b y):NodeR a H' d b y:=by
 obtain⟨q,f,w,k,g,c,l,j,i⟩:=h;exact⟨q,f,w,k,s.at g,c.t s,l,j,i⟩
def IsDie(a:Ad)(H0 H:Hp)(d:Nat)(v:V)(ps:List (Int×Tr)):Prop:=∃ x dx l ys,v=.ref x/\H x=some (.ins a.c_h dx [("makes",.ref l)])/\H l=some (.lst ys)/\Paired (NodeR H0 H d) ps ys/\1<=ps.length/\ps.length<=5000
theorem IsDie.t{a:Ad}{b H H':Hp}{d:Nat}{v:V}{ps:List (Int×Tr)}(s:SameT H H')(h:IsDie a b H d v ps):IsDie a b H' d v ps:=by
 obtain⟨x,n,l,g,k,f,c,o,j,i⟩:=h;exact⟨x,n,l,g,k,s.at f,s.at c,ah (NodeR.t s) o,j,i⟩
def IsNode(a:Ad)(H0 H:Hp)(d:Nat)(v:V):Tr->Prop
 | .leaf ns=>IsTold a H v ns
 | .die ps=>∃ d',d=d'+1/\IsDie a H0 H d' v ps
theorem IsNode.t{a:Ad}{b H H':Hp}{d:Nat}{v:V}(s:SameT H H'):∀{t:Tr},IsNode a b H d v t->IsNode a b H' d v t
 | .leaf _,h=>IsTold.t s h
 | .die _,⟨d',e,h⟩=>⟨d',e,h.t s⟩
inductive spToldI(a:Ad)(vs:List V)(H:Hp)(Q:VK)(_E:XK):Prop
 | mk(x dx l:Addr)(ns:List Int)(h0:vs=[.ref x,.ref l])(h1:H x=some (.ins a.c_d dx []))(h2:(H l=some (.lst (ns.map V.int))\/H l=some (.tup (ns.map V.int))))(h3:ns.length<64)(h4:∀ H' t ns',(∀ b o,b≠x->H b=some o->H' b=some o)->H' x=some (.ins a.c_d dx [("rising",.ref t)])->H' t=some (.tup (ns'.map V.int))->Srt ns' ns->Q .non H'):spToldI a vs H Q _E
inductive spDieI(a:Ad)(vs:List V)(H:Hp)(Q:VK)(_E:XK):Prop
 | mk(x dx l:Addr)(xs:List V)(h0:vs=[.ref x,.ref l])(h1:H x=some (.ins a.c_h dx []))(h2:H l=some (.lst xs))(h3:∀ H' t,H t=none->(∀ b o,b≠x->H b=some o->H' b=some o)->H' x=some (.ins a.c_h dx [("makes",.ref t)])->H' t=some (.lst xs)->Q .non H'):spDieI a vs H Q _E
def uK(a:Ad):Sp:=λvs H Q _=>∃ v,vs=[v]/\TabsOk (tabs a) H/\∀ H' f,SameT H H'->TabsOk (tabs a) H'->IsLam H' ld_told_make_1 fvT f [v]->Q f H'
def sP(a:Ad)(H H':Hp)(u:V):Prop:=∀ x dx l,u=.ref x->H' x=some (.ins a.c_h dx [("makes",.ref l)])->H l=none
def sqO:HO->Bool
 | .lst _=>true
 | .tup _=>true
 | _=>false
def SqH(H:Hp):Prop:=∀ b o,H b=some o->sqO o=true
def sqH(H:Hp):Hp:=λb=>match H b with
 | some o=>if sqO o=true then some o else none
 | none=>none
theorem ju{H:Hp}{b:Addr}{o:HO}(e:sqH H b=some o):H b=some o/\sqO o=true:=by
 unfold sqH at e;cases h:H b with
 | none=>rw[h]at e;cases e
 | some o' =>
  rw[h]at e;dsimp only at e
  by_cases c:sqO o'=true
  .rw[if_pos c]at e;cases e;exact⟨rfl,c⟩
  .rw[if_neg c]at e;cases e
theorem zd{H:Hp}{b:Addr}{o:HO}(c:sqO o=true)(e:H b=some o):sqH H b=some o:=by
 unfold sqH;rw[e];exact if_pos c
theorem zX{H:Hp}:SqH (sqH H):=λb o e=>(ju e).2
theorem qj{H:Hp}{D:Addr}{q:List V}(u:H D=some (.lst q)){d:LamD}{o:List Str}{f:V}{k:List V}(h:IsLam H d o f k):IsLam (untr H D) d o f k:=by
 have g:∀ b n,H b=some (.ext n)->b≠D:=λb n e z=>by rw[z,u]at e;cases e
 obtain⟨v,c,a,w,j,i,l,p,s⟩:=h;refine⟨v,c,a,w,by rw[aI (g _ _ j)];exact j,by rw[aI (g _ _ i)];exact i,l,p,?_⟩;clear j i l p
 induction s with
 | nil=>exact .nil
 | cons r _ ih=>exact .cons (by rw[aI (g _ _ r)];exact r) ih
theorem yA(l:List Nat):nV l=(nI l).map V.int:=by unfold nV nI;rw[map_map];rfl
def rtr(rs:List (Int×List Nat)):List (Int×Tr):=rs.map λz=>(z.1,.leaf (nI z.2))
inductive spSpun(a:Ad)(vs:List V)(H:Hp)(Q:VK)(_E:XK):Prop
 | mk(l:Addr)(xs:List V)(ts:List (Int×Int))(h0:vs=[.ref l])(h1:Ts a H l xs ts)(h2:ts.length<=12)(h3:TabsOk (tabs a) H)(h4:∀ H' u H0 rs,SameT H H'->TabsOk (tabs a) H'->SqH H0->SameT H0 H'->(∀ b o,H0 b=some o->H b=none)->Run ts 1000 rs->IsNode a H0 H' 1 u (.die (rtr rs))->sP a H H' u->Q u H'):spSpun a vs H Q _E
section
variable {P:Program}{w:World}{K:Frag}{mg:Str->Option Value}{base:Heap}{a:Ad}
theorem ja(T:Txt K mg a):FnOk P w K mg base CX0 1 a.i_d a.e_d ["self","kept"] (spToldI a):=by
 refine T.Fi_d.ok ij (λy H Q E h=>?_) (λcdv A outer s H y Q E hr h=>?_)
 .obtain⟨x,g,l,k,rfl,_⟩:=h;rfl
 .obtain⟨x,g,l,k,rfl,j,r,v,q⟩:=h
  refine⟨_,(ak (ly (vr 0) (dN gm rfl T.z_tuple nk (aa (aL j3 rfl T.z_sorted fP (aa (vr 1) ae)) ae)) rfl)),?_⟩;refine⟨l,k,rfl,r.imp SqL.of SqT.of,v,λp c C F D=>?_⟩;have i:=Same.new (o:=.lst (c.map V.int)) D;refine⟨p,_,rfl,.inl ⟨SqL.of ad,λt f=>?_⟩⟩;have B:=Same.new (o:=.tup (c.map V.int)) f;have d:=i.trans B;have u:t≠x:=λz=>by rw[z,i _ _ j]at f;cases f
  refine⟨x,a.c_d,g,[],rfl,d _ _ j,T.cl_d,T.na_Told_rising,(by decide),?_⟩;exact q _ t c (λb o n e=>by rw[ai n];exact d _ _ e) ad (by rw[ai u];exact ad) ⟨C,F⟩
theorem vv(T:Txt K mg a):FnOk P w K mg base CX0 1 a.i_h a.e_h ["self","parts"] (spDieI a):=by
 refine T.Fi_h.ok iT (λp H Q E h=>?_) (λcdv A outer s H p Q E hr h=>?_)
 .obtain⟨x,i,l,d,rfl,_⟩:=h;rfl
 .obtain⟨x,i,l,d,rfl,g,j,q⟩:=h
  refine⟨_,(ak (ly (vr 0) (dN gC rfl T.z_list lV (aa (vr 1) ae)) rfl)),?_⟩;refine⟨l,d,rfl,.inl (SqL.of j),λt c=>?_⟩;have f:=Same.new (o:=.lst d) c;have k:t≠x:=λz=>by rw[z,g]at c;cases c
  refine⟨x,a.c_h,i,[],rfl,f _ _ g,T.cl_h,T.na_Die_makes,(by decide),?_⟩;exact q _ t c (λb o n e=>by rw[ai n];exact f _ _ e) ad (by rw[ai k];exact ad)
theorem made{a H':Hp}{x dx:Addr}{f d:HO}(c:a x=none)(g:a dx=none)(k:∀ b o,b≠x->(upd (upd a dx f) x d) b=some o->H' b=some o):Same a H':=λb o e=>by
 refine k b o (av e c) ?_;rw[ai (av e c),ai (av e g)];exact e
theorem xI(T:Txt K mg a)(i:Bm mg base):FnOk P w K mg base CX0 1 a.f_i a.d_i ["places"] (uK a):=by
 refine T.F_i.okL T.lcd_i ma (by decide +kernel) (λl H Q E h=>?_) (λA outer s H l Q E hr h=>?_)
 .obtain⟨v,rfl,_⟩:=h;rfl
 .obtain⟨v,rfl,j,q⟩:=h
  refine⟨_,(oA (ia (d:=ld_told_make_1) rfl T.lch_i i rfl (by with_unfolding_all rfl) rfl (md a) (.head _) T.tnd lZ)),?_⟩;refine⟨j,λo k x p c u g f=>?_⟩;exact λr b n=>q _ _ (p.trans b.t) (c.same b) ⟨o,k,_,rfl,b _ _ g,b _ _ f,rfl,by simp,.cons (n 0 _ _ _ rfl rfl (by with_unfolding_all rfl)) .nil⟩
theorem Az{H H':Hp}{D:Addr}(s:SameT H H')(h:H D=none):SameT H (untr H' D):=λb o e=>by
 rw[aI (av e h)];exact s b o e
theorem fk{H H':Hp}{D:Addr}(s:SameT H H'):SameT (untr H D) (untr H' D):=λb o e=>by
 by_cases hb:b=D
 .rw[hb,bX]at e;cases e
 .rw[aI hb]at e ⊢
  exact s b o e
theorem eI{H:Hp}{D:Addr}{o:HO}:SameT (untr H D) (untr (upd H D o) D):=λb a e=>by
 by_cases hb:b=D
 .rw[hb,bX]at e;cases e
 .rw[aI hb]at e
  rw[aI hb,ai hb];exact SameT.refl b a e
theorem aU{c a:Type}{r:c->a->Prop}{b:List c}{x:c}{i:Nat}{ys:List a}{y:a}(h:Paired r (b.take i) ys)(e:b[i]? = some x)(q:r x y):Paired r (b.take (i+1)) (ys++[y]):=by
 rw[take_add_one,e];exact cP q h
theorem xf(T:Txt K mg a)(hB:Bm mg base):FnOk P w K mg base CX0 7 a.f_ag a.d_ag ["turns"] (spSpun a):=by
 have a':FnOk P w K mg base CX0 5 _ _ _ _:=(vv T).mono (by decide);have a9:FnOk P w K mg base CX0 6 _ _ _ _:=(xI T hB).mono (by decide);have a0:FnOk P w K mg base CX0 6 _ _ _ _:=(gM T).mono (by decide);refine T.F_ag.ok wX (λvs H Q E h=>?_) (λcdv A outer s H vs Q E hr h=>?_)
 .obtain⟨l,xs,X,rfl,_⟩:=h;rfl
 .obtain⟨l,xs,X,rfl,ht,a3,hT,q⟩:=h
  have a7:sizeLine=16777216:=sizeLine_eq;refine⟨_,(ak (aw (dI T.mk_h a' hr rfl T.mc_h T.Bi_h .nil ar (aa (ba rfl (N:=["many","places"]) (ix:=[none,none]) ⟨rfl,rfl,rfl,rfl,trivial⟩ (aY (aq a0 hr rfl T.m_B T.F_B.kp T.B_B .nil ar (aa (vr 0) ae))) ⟨λC s H fp=>(cO (K:=K) (n:=2) rfl rfl (au (ap (i:=0) (show List.Nodup (["many","places"]:List Str) by decide +kernel) rfl (Or.inl rfl)) (au (ap (i:=1) (show List.Nodup (["many","places"]:List Str) by decide +kernel) rfl (Or.inl rfl)) aZ))),λC s H fp=>bb,λC s H fp=>(bI (aa (vr 0) (aa (aq a9 hr rfl T.m_i T.F_i.kp T.B_i .nil ar (aa (vr 1) ae)) ae)))⟩) ae)))),?_⟩;refine⟨l,xs,X,rfl,ht,λH1 r d p s1 fr O hA hR hw hz hl=>?_⟩;have ab:=cS hR;have yl:p.length=d.length:=(Paired.length hA).symm;refine .inl ⟨⟨_,SqL.of O⟩,λD hD=>?_⟩;have an:=hT.same s1;have ext:∀{c:Hp},TabsOk (tabs a) c->∀{p:List V}{M:List V},c D=some (.lst p)->TabsOk (tabs a) (upd c D (.lst M)):=λa6 p M e=>a6.put (λps z=>by rw[e]at z;cases z) λφ z=>by rw[e]at z;cases z
  let H0:Hp:=sqH (nw H (some r) H1)
  have a5:SameT H0 H1:=Same.t λb o e=>(rj (ju e).1).2.2
  let Pw1:PvL:=λi v c=>SameT H1 c/\TabsOk (tabs a) c/\c D=some (.lst v)/\i<=d.length/\Paired (NodeR H0 (untr c D) 0) ((rtr d).take i) v
  refine aJ (K:=K) (a:=r) (xs:=p) Pw1
   ⟨(Same.new hD).t,an.same (Same.new hD),ad,Nat.zero_le _,.nil⟩ (λi p c h=>SqL.of (h.1.at O)) (λi p c h=>h.2.2.1) ?_ ?_
  .rintro i y v c P' hy ⟨G,B,x,hi,I⟩ al
   obtain⟨⟨m,S⟩,f,p1,q1,rfl,bm,a1,bg,a8⟩:=hA.get hy;have a4:i<d.length:=(List.getElem?_eq_some_iff.mp f).1;obtain⟨m1,m2,n,a2⟩:=ab _ (List.mem_of_getElem? f);refine⟨p1,_,rfl,SqT.of (G.at bm),rfl,_,_,rfl,_,_,rfl,rfl,trivial,?_⟩;refine⟨.ref q1,rfl,B,λH2 f2 t2 bl hf=>?_⟩;have u:=t2.at x;refine⟨by show 2<=sizeLine;decide,λq2 F=>?_⟩;have nq:q2≠D:=λz=>by rw[z,u]at F;cases F
   have R:=Same.new (o:=.tup [.int m,f2]) F;have J:=R _ _ u;have rl:(rtr d).length=d.length:=length_map ..;have zl:v.length<=1000:=by rw[<- I.length,length_take];lia
   have as:=(G.trans t2).trans R.t;have L:(rtr d)[i]? = some (m,.leaf (nI S)):=by unfold rtr;rw[List.getElem?_map,f];rfl
   have lp:S.length<=12:=Nat.le_trans (hz _ (List.mem_of_getElem? f)) a3;have np:S.Nodup:=by rw[show S=plc X n from a2];exact oS X n
   have h0:H0 q1=some (.lst ((nI S).map V.int)):=zd rfl (by rw[Bj a8 (λz=>bg (Option.some.inj z)),<- yA];exact a1);refine⟨J,by lia,al _ _ ⟨as.put hD,ext (bl.same R) J,ad,a4,aU (ah (NodeR.t ?_) I) L ⟨q2,f2,.ref q1,rfl,?_,?_,m1,by show m<=_;have:m<=1000:=m2;lia,⟨q1,rfl,h0,by unfold nI;rw[length_map];exact lp,wg np⟩⟩⟩⟩
   .exact(fk (t2.trans R.t)).trans eI
   .rw[aI nq,ai nq];exact ad
   .exact(qj u hf).t ((fk R.t).trans eI)
  .rintro v c ⟨G,B,x,hi,I⟩
   rw[yl,show d.length=(rtr d).length from(length_map ..).symm,take_length]at I;intro Z g W j bn;have s9:Same c (upd (upd c g (.own Z)) Z (.ins a.c_h g [])):=λb o e=>by rw[ai (av e W),ai (av e j)];exact e
   refine⟨Z,g,D,v,rfl,ad,s9 _ _ x,λH2 l2 fl k g1 g2=>⟨rfl,?_⟩⟩;have Y:=made W j k;have rl:(rtr d).length=d.length:=length_map ..;have r1:=kX hR;refine q _ _ H0 d ((s1.t.trans G).trans Y.t) (B.same Y) zX (a5.trans (G.trans Y.t)) (λb o e=>(rj (ju e).1).1) hR ⟨0,rfl,Z,g,l2,v,rfl,g1,g2,ah (NodeR.t λb o e=>?_) I,by lia,by lia⟩ λx3 dx3 l3 e3 e4=>?_
   .by_cases hb:b=D
    .rw[hb,bX]at e;cases e
    .rw[aI hb]at e;exact Y.t b o e
   .cases e3
    rw[g1]at e4;cases e4;exact((s1.t.trans G).trans s9.t).free fl
end
end My
namespace My
open PySem L2 FrM
open Tb (Tr)
theorem wa{b p:Addr}{v:V}(e:HO.ext (cu b (.ref p))=HO.ext (cu b v)):v=.ref p:=by
 injection e with e
 obtain⟨h,c⟩:=jc b { cls:=.type "cell",data:=.cell (some (.ref p)) } (by intro z;cases z);have y:cu b v h:=by rw[<- e];exact⟨_,_,c,rfl,rfl⟩
 obtain⟨o,u,a,d,r⟩:=y;rw[c]at a;cases a;cases d
 cases v <;> first | (obtain⟨_,z⟩:=r;cases z;done) | (cases r;rfl) | (cases r;done)
theorem LamOk.mono{P:Program}{w:World}{K:Frag}{mg:Str->Option Value}{a:Heap}{j k:Nat}{d:LamD}{l ps:List Str}{sp:List V->Sp}(L:LamOk P w K mg a j d l ps sp)(h:j<=k):LamOk P w K mg a k d l ps sp:=λA b s H f c g p n i Q E o=>L A b s H f c g p n i Q E (o.mono h)
theorem TabsOk.untrs{b:oY}{H:Hp}{a:List (Str×Addr)}{d:List V}(i:TabsOk b H)(f:CellsAt H a d):TabsOk b (untrs H (a.map (·.2))):=λq h=>by
 obtain⟨k,n,g,j⟩:=i q h;exact⟨k,aB f n (λv z=>nomatch z),g,λl hl=>(j l hl).imp id λ⟨c,x,y⟩=>⟨c,x,aB f y λv=>cw⟩⟩
theorem pJ{H H' c:Hp}{a:List (Str×Addr)}(s:SameT (untrs H (a.map (·.2))) H')(g:Same H' c)(f:∀ p∈a,c p.2=H p.2):SameT H c:=λb o e=>by
 by_cases hb:b∈a.map (·.2)
 .obtain⟨p,d,rfl⟩:=mem_map.mp hb
  rw[f p d,e];exact⟨λ_=>rfl,o,rfl⟩
 .exact(s.trans g.t) b o (by rw[aK hb];exact e)
theorem jp{H:Hp}{b:Addr}:∀{clos:List (Str×Addr)}{vals:List V},CellsAt H clos vals->b∈clos.map (·.2)->∃ v∈vals,H b=some (.ext (cu b v))
 | _,_,.nil,h=>by cases h
 | _,_,.cons r t,h=>by
  rcases mem_cons.mp h with rfl | h
  .exact⟨_,mem_cons_self ..,r⟩
  .obtain⟨v,a,e⟩:=jp t h
   exact⟨v,mem_cons_of_mem _ a,e⟩
theorem fi{H:Hp}{b:List (Str×Addr)}{a:List V}(d:CellsAt H b a)(f:∀ v∈a,∃ p,v=.ref p):∀{clos:List (Str×Addr)}{vals:List V},(∀ v∈vals,v ∉ a)->CellsAt H clos vals->CellsAt (untrs H (b.map (·.2))) clos vals
 | _,_,_,.nil=>.nil
 | _,_,hd,.cons r t=>by
  refine .cons ?_ (fi d f (λv h=>hd v (mem_cons_of_mem _ h)) t);rw[aK λz=>?_]
  .exact r
  .obtain⟨g,c,e⟩:=jp d z
   obtain⟨p,rfl⟩:=f g c;rw[r]at e;have i:=wa (Option.some.inj e).symm;exact hd _ (mem_cons_self ..) (by rw[i];exact c)
abbrev fvC:List Str:=["make","carry"]
abbrev fvB:List Str:=["go"]
def spL(a:Ad):List V->Sp:=λvals vs H Q _=>∃ w d t H0,vals=[w]/\vs=[]/\fh H0 d w t/\d=0/\SameT H0 H/\TabsOk (tabs a) H/\SqH H0/\∀ H' u,SameT H H'->TabsOk (tabs a) H'->IsNode a H0 H' d u t->sP a H H' u->Q u H'
theorem lsT:LamScope ld_told_make_1 fvT []:=⟨rfl,rfl,rfl,by decide +kernel,by decide +kernel,by decide +kernel,by decide +kernel,by decide +kernel⟩
theorem lsC:LamScope aH fvC []:=⟨rfl,rfl,rfl,by decide +kernel,by decide +kernel,by decide +kernel,by decide +kernel,by decide +kernel⟩
theorem lsB:LamScope ld_behind_1 fvB ["after"]:=⟨rfl,rfl,rfl,by decide +kernel,by decide +kernel,by decide +kernel,by decide +kernel,by decide +kernel⟩
def spV(u:V):Sp:=λvs H Q _=>∃ v,vs=[v]/\Q u H
def uF(a:Ad):Sp:=λvs H Q _=>∃ x dx t,vs=[.ref x]/\H x=some (.ins a.c_d dx [("rising",.ref t)])/\Q (.ref t) H
def RawR(H:Hp)(pt:Int×V)(y:V):Prop:=∃ q,y=.ref q/\H q=some (.tup [.int pt.1,pt.2])/\1<=pt.1
theorem RawR.t{H H':Hp}(s:SameT H H')(a:Int×V)(y:V)(h:RawR H a y):RawR H' a y:=by
 obtain⟨q,b,d,c⟩:=h;exact⟨q,b,s.at d,c⟩
def IsRaw(a:Ad)(H:Hp)(v:V)(rs:List (Int×V)):Prop:=∃ x dx l ys,v=.ref x/\H x=some (.ins a.c_h dx [("makes",.ref l)])/\H l=some (.lst ys)/\Paired (RawR H) rs ys/\1<=rs.length/\rs.length<=5000
theorem IsRaw.t{a:Ad}{H H':Hp}{v:V}{rs:List (Int×V)}(s:SameT H H')(h:IsRaw a H v rs):IsRaw a H' v rs:=by
 obtain⟨x,j,l,d,i,c,b,k,g,f⟩:=h;exact⟨x,j,l,d,i,s.at c,s.at b,ah (RawR.t s) k,g,f⟩
def zM:Sp:=λvs H Q _=>∃ v,vs=[v]/\∀ l,H l=none->Q (.ref l) (upd H l (.lst []))
def xz(rs:List (Int×V)):Int:=(rs.map (·.1)).sum
def xk(a:Ad):Sp:=λvs H Q _=>∃ v rs,vs=[v]/\IsRaw a H v rs/\∀ H',Same H H'->Q (.int (xz rs)) H'
abbrev fvO:List Str:=["other"]
abbrev fvK:List Str:=["kept"]
theorem lsO:LamScope eD fvO ["kept"]:=⟨rfl,rfl,rfl,by decide +kernel,by decide +kernel,by decide +kernel,by decide +kernel,by decide +kernel⟩
theorem lsK:LamScope dD fvK ["more"]:=⟨rfl,rfl,rfl,by decide +kernel,by decide +kernel,by decide +kernel,by decide +kernel,by decide +kernel⟩
section
variable {P:Program}{w:World}{K:Frag}{mg:Str->Option Value}{base:Heap}{a:Ad}
theorem qS(T:Txt K mg a):FnOk P w K mg base CX0 1 a.x_k a.y_k ["self"] (spV (.bl true)):=by
 refine T.F_k.ok iV (λb H Q E h=>?_) (λcdv A outer s H b Q E hr h=>?_)
 .obtain⟨v,rfl,_⟩:=h;rfl
 .obtain⟨v,rfl,q⟩:=h
  exact⟨_,(ak (aw jt)),q⟩
theorem vR(T:Txt K mg a):FnOk P w K mg base CX0 1 a.x_s a.y_s ["self"] (spV (.int 0)):=by
 refine T.F_s.ok j4 (λb H Q E h=>?_) (λcdv A outer s H b Q E hr h=>?_)
 .obtain⟨v,rfl,_⟩:=h;rfl
 .obtain⟨v,rfl,q⟩:=h
  exact⟨_,(ak (aw am)),q⟩
theorem ql(T:Txt K mg a):FnOk P w K mg base CX0 1 a.x_n a.y_n ["self"] (uF a):=by
 refine T.F_n.ok lf (λc H Q E h=>?_) (λcdv A outer s H c Q E hr h=>?_)
 .obtain⟨x,b,t,rfl,_⟩:=h;rfl
 .obtain⟨x,b,t,rfl,d,q⟩:=h
  exact⟨_,(ak (aw (ci (vr 0) rfl))),x,_,b,_,_,rfl,d,T.cl_d,T.na_Told_rising,rfl,q⟩
theorem qw(T:Txt K mg a):FnOk P w K mg base CX0 1 a.x_o a.y_o ["self"] (spV (.bl false)):=by
 refine T.F_o.ok jE (λb H Q E h=>?_) (λcdv A outer s H b Q E hr h=>?_)
 .obtain⟨v,rfl,_⟩:=h;rfl
 .obtain⟨v,rfl,q⟩:=h
  exact⟨_,(ak (aw jt)),q⟩
theorem qa(T:Txt K mg a):FnOk P w K mg base CX0 1 a.x_p a.y_p ["self"] (spV .non):=by
 refine T.F_p.ok ni (λb H Q E h=>?_) (λcdv A outer s H b Q E hr h=>?_)
 .obtain⟨v,rfl,_⟩:=h;rfl
 .obtain⟨v,rfl,q⟩:=h
  exact⟨_,(ak (aw zg)),q⟩
theorem yY(T:Txt K mg a)(hB:Bm mg base):LamOk P w K mg base 4 ld_told_make_1 fvT [] (spL a):=by
 have D:FnOk P w K mg base CX0 2 _ _ _ _:=(ja T).mono (by decide);refine gZ lsT (λpm O g c us B=>match us,B with | [],_=>rfl) (λvals vs H Q E h=>?_) (λA outer s H f c g vals vs Q E hr hfv ca h=>?_)
 .obtain⟨w',d,t,J,rfl,rfl,_⟩:=h;rfl
 .obtain⟨w',d,t,J,rfl,rfl,I,rfl,L,S,F,q⟩:=h
  refine⟨_,(dI T.mk_d D hr rfl T.mc_d T.Bi_d .nil ar (aa (vr 0) ae)),?_⟩
  have n:SameT J (untrs H (g.map (·.2))):=λb o e=>by
   have Z:b ∉ g.map (·.2):=λz=>by
    obtain⟨v,X⟩:=ca.at z;have c:=F b o e;have r:=L.at e (by cases o <;> first | rfl | cases c);rw[X]at r;cases r;cases c
   rw[aK Z];exact L b o e
  cases t with
  | die ps=>exact False.elim I
  | leaf ns =>
   obtain⟨p,rfl,hp,B⟩:=(d9 0).mp I;have j:=n.at hp;have l:=TabsOk.untrs S ca;generalize hU:untrs H (g.map (·.2))=HU at n j l;intro x y M i ab;have W:Same HU (upd (upd HU y (.own x)) x (.ins a.c_d y [])):=λb o e=>by rw[ai (av e M),ai (av e i)];exact e
   refine⟨x,y,p,ns,rfl,ad,.inl (W _ _ j),by have:=B.1;lia,λH' t C k G g2 R=>⟨rfl,λH3 s3 hc=>?_⟩⟩;have N:=made M i k;refine q _ _ (pJ (hU ▸ N.t) s3 hc) ((l.same N).same s3) ⟨x,y,t,C,rfl,s3 _ _ G,s3 _ _ g2,R⟩ λx2 Y l2 r u=>?_
   cases r;rw[s3 _ _ G]at u;injection u with u
   injection u with _ _ e4
   injection e4 with e4 _
   injection e4 with e5 _
   exact absurd e5 (by decide)
theorem yD(T:Txt K mg a):FnOk P w K mg base CX0 1 a.x_x a.y_x ["self"] zM:=by
 refine T.F_x.ok j7 (λc H Q E h=>?_) (λcdv A outer s H c Q E hr h=>?_)
 .obtain⟨v,rfl,_⟩:=h;rfl
 .obtain⟨v,rfl,q⟩:=h
  exact⟨_,(ak (aw (cq ae))),Nat.zero_le _,λl b=>q l b⟩
theorem uG(T:Txt K mg a):FnOk P w K mg base CX0 1 a.x_w a.y_w ["self"] (xk a):=by
 refine T.F_w.ok mC (λJ H Q E h=>?_) (λcdv A outer s H J Q E hr h=>?_)
 .obtain⟨v,f,rfl,_⟩:=h;rfl
 .obtain⟨v,f,rfl,⟨x,W,l,g,rfl,S,z,F,L,M⟩,q⟩:=h
  have o:sizeLine=16777216:=sizeLine_eq;refine⟨_,(ak (aw (aL (iu rfl) rfl T.z_sum oE (aa (ba rfl (N:=["many","make"]) (ix:=[none,none]) ⟨rfl,rfl,rfl,rfl,trivial⟩ (aY (ci (vr 0) rfl)) ⟨λC s H G=>(cO (K:=K) (n:=2) rfl rfl (au (ap (i:=0) (show List.Nodup (["many","make"]:List Str) by decide +kernel) rfl (Or.inl rfl)) (au (ap (i:=1) (show List.Nodup (["many","make"]:List Str) by decide +kernel) rfl (Or.inl rfl)) aZ))),λC s H G=>bb,λC s H G=>(vr 0)⟩) ae)))),?_⟩;refine⟨x,_,W,_,_,rfl,S,T.cl_h,T.na_Die_makes,rfl,.inl ⟨⟨_,SqL.of z⟩,λD I=>?_⟩⟩
  let Pw1:PvL:=λi k c=>Same H c/\c D=some (.lst k)/\i<=f.length/\k=((f.take i).map (·.1)).map V.int
  refine aJ (K:=K) (a:=l) (xs:=g) Pw1 ⟨Same.new I,ad,Nat.zero_le _,rfl⟩ (λi g c h=>SqL.of (h.1 _ _ z)) (λi g c h=>h.2.1) ?_ ?_
  .rintro i y k c X O ⟨j,b,Y,rfl⟩ u
   obtain⟨⟨B,t⟩,d,R,rfl,p,_⟩:=aG F O;have r:i<f.length:=(List.getElem?_eq_some_iff.mp d).1;refine⟨R,_,rfl,SqT.of (j _ _ p),rfl,_,_,rfl,_,_,rfl,rfl,trivial,b,by rw[length_map,length_map,length_take];lia,u _ _ ⟨j.put I,ad,r,?_⟩⟩;rw[take_add_one,d];simp
  .rintro k c ⟨j,b,_,rfl⟩
   rw[show g.length=f.length from F.length.symm,take_length]at b;exact⟨D,_,rfl,SqL.of b,q _ j⟩
end
open Tb (Tr bnd gw)
def IsPl(a:Ad)(H:Hp)(v:V)(t:Tr):Prop:=∃ H0 d,SqH H0/\SameT H0 H/\IsNode a H0 H d v t/\Tb.Lb t/\d<=1
theorem IsPl.t{a:Ad}{H H':Hp}{v:V}{t:Tr}(s:SameT H H')(h:IsPl a H v t):IsPl a H' v t:=by
 obtain⟨f,d,g,c,b,i⟩:=h;exact⟨f,d,g,c.trans s,b.t s,i⟩
def IsMkP(H:Hp)(m:V)(t:Tr):Prop:=∃ w H0 d,IsLam H ld_told_make_1 fvT m [w]/\SqH H0/\SameT H0 H/\fh H0 d w t/\d=0
theorem IsMkP.t{H H':Hp}{m:V}{t:Tr}(s:SameT H H')(h:IsMkP H m t):IsMkP H' m t:=by
 obtain⟨w,c,d,f,b,a,g⟩:=h;exact⟨w,c,d,f.t s,b,a.trans s,g⟩
def IsGo(b:Bool)(a:Ad)(H:Hp)(go:V)(g:List Int->Tr)(ev:Bool):Prop :=
 (b=true/\∃ u t,IsLam H eD fvO go [u]/\IsPl a H u t/\g=(λns=>bnd t λms=>.leaf (ns++ms))/\ev=false) \/
 (∃ kt ns,IsLam H dD fvK go [.ref kt]/\H kt=some (.tup (ns.map V.int))/\ns.length<=12/\g=(λms=>.leaf (ns++ms))/\ev=false) \/
 IsLam H fg [] go []/\g=(λns=>.leaf [50+(ns.length:Int)])/\ev=false
theorem IsGo.t{b:Bool}{a:Ad}{H H':Hp}{i:V}{g:List Int->Tr}{j:Bool}(s:SameT H H')(h:IsGo b a H i g j):IsGo b a H' i g j:=by
 rcases h with⟨l,u,t,d,c,f⟩ | ⟨k,n,d,c,f⟩ | ⟨d,c⟩
 .exact .inl ⟨l,u,t,d.t s,c.t s,f⟩
 .exact .inr (.inl ⟨k,n,d.t s,s.at c,f⟩)
 .exact .inr (.inr ⟨d.t s,c⟩)
def CdR(H:Hp)(cr:V)(g:List Int->Tr)(ev:Bool)(pt:Int×Tr)(y:V):Prop:=∃ q f m t,y=.ref q/\H q=some (.tup [.int pt.1,f])/\1<=pt.1/\pt.1<=1000000000/\IsLam H aH fvC f [m,cr]/\IsMkP H m t/\pt.2=bnd t g/\(ev=true->Tb.Par 0 t)
theorem CdR.t{H H':Hp}{a:V}{g:List Int->Tr}{b:Bool}(s:SameT H H')(c:Int×Tr)(y:V)(h:CdR H a g b c y):CdR H' a g b c y:=by
 obtain⟨q,f,m,t,n,i,d,o,l,j,k⟩:=h;exact⟨q,f,m,t,n,s.at i,d,o,l.t s,j.t s,k⟩
def IsCd(a:Ad)(H:Hp)(v:V)(ps:List (Int×Tr)):Prop:=∃ x dx l ys cr go g ev,v=.ref x/\H x=some (.ins a.c_h dx [("makes",.ref l)])/\H l=some (.lst ys)/\IsLam H ld_behind_1 fvB cr [go]/\IsGo true a H go g ev/\Paired (CdR H cr g ev) ps ys/\1<=ps.length/\ps.length<=5000
theorem IsCd.t{a:Ad}{H H':Hp}{v:V}{ps:List (Int×Tr)}(s:SameT H H')(h:IsCd a H v ps):IsCd a H' v ps:=by
 obtain⟨x,q,l,i,f,c,g,j,p,d,b,r,o,k,n⟩:=h;exact⟨x,q,l,i,f,c,g,j,p,s.at d,s.at b,r.t s,o.t s,ah (CdR.t s) k,n⟩
def IsNd(a:Ad)(H:Hp)(v:V)(t:Tr):Prop:=IsPl a H v t\/(∃ ps,t=.die ps/\IsCd a H v ps)\/∃ ns,t=.leaf ns/\IsTold a H v ns
theorem IsNd.t{a:Ad}{H H':Hp}{v:V}{t:Tr}(s:SameT H H')(h:IsNd a H v t):IsNd a H' v t:=by
 rcases h with h | ⟨c,e,h⟩ | ⟨b,e,h⟩
 .exact .inl (h.t s)
 .exact .inr (.inl ⟨c,e,h.t s⟩)
 .exact .inr (.inr ⟨b,e,h.t s⟩)
theorem zr{H:Hp}{g:List (Str×Addr)}{a:List V}(j:CellsAt H g a)(G:∀ v∈a,∃ p,v=.ref p)(s:∀ v∈a,∀ p xs,v=.ref p->H p≠some (.lst xs)/\H p≠some (.tup xs)){m:V}{t:Tr}(h:IsMkP H m t):IsMkP (untrs H (g.map (·.2))) m t:=by
 obtain⟨w,x,d,J,u,i,k,l⟩:=h
 have n:∀ b o,x b=some o->b ∉ g.map (·.2):=λb o e z=>by
  obtain⟨v,D⟩:=j.at z;have c:=u b o e;have r:=i.at e (by cases o <;> first | rfl | cases c);rw[D]at r;cases r;cases c
 refine⟨w,x,d,?_,u,λb o e=>by rw[aK (n b o e)];exact i b o e,k,l⟩;obtain⟨f,c,L,E,K,B,F,y,I⟩:=J
 have A:w ∉ a:=λz=>by
  cases t with
  | leaf ns =>
   obtain⟨p,rfl,q,_⟩:=(d9 d).mp k;exact(s _ z p (ns.map V.int) rfl).1 (i.at q)
  | die ps =>
   obtain⟨M,rfl,p,C,rfl,q,_⟩:=jr k;exact(s _ z p C rfl).2 (i.at q)
 refine⟨f,c,L,E,aB j K λv=>dw,aB j B λv=>cw,F,y,fi j G (λv hv z=>?_) I⟩;rw[mem_singleton.mp hv]at z;exact A z
theorem uv{a:Ad}{H:Hp}{g:List (Str×Addr)}{i:List V}(j:CellsAt H g i)(hr:∀ v∈i,∃ p,v=.ref p)(K:∀ v∈i,∀ p xs,v=.ref p->H p≠some (.lst xs)/\H p≠some (.tup xs)){u:V}{t:Tr}(h:IsPl a H u t):IsPl a (untrs H (g.map (·.2))) u t:=by
 obtain⟨D,d,M,n,L,h5⟩:=h
 have E:∀ b o,D b=some o->b ∉ g.map (·.2):=λb o e z=>by
  obtain⟨v,T⟩:=j.at z;have c:=M b o e;have J:=n.at e (by cases o <;> first | rfl | cases c);rw[T]at J;cases J;cases c
 have s0:SameT D (untrs H (g.map (·.2))):=λb o e=>by rw[aK (E b o e)];exact n b o e
 refine⟨D,d,M,s0,?_,h5⟩;cases t with
 | leaf ns =>
  obtain⟨x,F,t2,A,B,G,s,C⟩:=L;exact⟨x,F,t2,A,B,aB j G (λv z=>nomatch z),aB j s (λv z=>nomatch z),C⟩
 | die ps =>
  obtain⟨N,e,x,F,l,S,B,G,s,C,O,g6⟩:=L;refine⟨N,e,x,F,l,S,B,aB j G (λv z=>nomatch z),aB j s (λv z=>nomatch z),ah (λpt y r=>?_) C,O,g6⟩;obtain⟨q,f,w,r1,r2,r3,r4,X,k⟩:=r;refine⟨q,f,w,r1,aB j r2 (λv z=>nomatch z),?_,r4,X,k⟩;obtain⟨f',c,cl,k1,Q,Z,Y,W,P⟩:=r3;refine⟨f',c,cl,k1,aB j Q λv=>dw,aB j Z λv=>cw,Y,W,fi j hr (λv hv z=>?_) P⟩;rw[mem_singleton.mp hv]at z;cases hp2:pt.2 with
  | leaf ns =>
   rw[hp2]at k;obtain⟨p,rfl,I,_⟩:=(d9 N).mp k;exact(K _ z p (ns.map V.int) rfl).1 (n.at I)
  | die ps2 =>
   rw[hp2]at k;obtain⟨d2,rfl,p,R,rfl,I,_⟩:=jr k;exact(K _ z p R rfl).2 (n.at I)
open Tb (Tr bnd gw)
def qc(a:Ad):Sp:=λvs H Q _=>∃ mk cr,vs=[mk,cr]/\TabsOk (tabs a) H/\∀ H' f,SameT H H'->TabsOk (tabs a) H'->IsLam H' aH fvC f [mk,cr]->Q f H'
def CarR(cr:V)(H:Hp)(r:Int×V)(y:V):Prop:=∃ q f,y=.ref q/\H q=some (.tup [.int r.1,f])/\1<=r.1/\IsLam H aH fvC f [r.2,cr]
theorem CarR.t{a:V}{H H':Hp}(s:SameT H H')(r:Int×V)(y:V)(h:CarR a H r y):CarR a H' r y:=by
 obtain⟨q,f,d,c,b,g⟩:=h;exact⟨q,f,d,s.at c,b,g.t s⟩
def IsCar(a:Ad)(H:Hp)(cr v:V)(rs:List (Int×V)):Prop:=∃ x dx l ys,v=.ref x/\H x=some (.ins a.c_h dx [("makes",.ref l)])/\H l=some (.lst ys)/\Paired (CarR cr H) rs ys/\1<=rs.length/\rs.length<=5000
theorem IsCar.t{a:Ad}{H H':Hp}{b v:V}{rs:List (Int×V)}(s:SameT H H')(h:IsCar a H b v rs):IsCar a H' b v rs:=by
 obtain⟨x,k,l,f,j,d,c,n,i,g⟩:=h;exact⟨x,k,l,f,j,s.at d,s.at c,ah (CarR.t s) n,i,g⟩
def ku(a:Ad):Sp:=λvs H Q _=>∃ v cr rs,vs=[v,cr]/\IsRaw a H v rs/\TabsOk (tabs a) H/\∀ H' u,SameT H H'->TabsOk (tabs a) H'->IsCar a H' cr u rs->sP a H H' u->Q u H'
theorem Bs{K:Frag}{H:Hp}{x y:Addr}{xs ys:List V}{Q:VK}(c:H x=some (.tup xs))(b:H y=some (.tup ys))(d:xs.length+ys.length<=sizeLine)(q:∀ H' p,Same H H'->H' p=some (.tup (xs++ys))->Q (.ref p) H'):lC K (.ref x) (.ref y) H Q\/qG K (.ref x) (.ref y) H Q:=by
 cases xs with
 | nil=>exact .inl ⟨x,y,ys,rfl,rfl,SqT.of c,SqT.of b,q H y (Same.refl H) b⟩
 | cons a xs =>
  refine .inr ⟨x,y,_,ys,rfl,rfl,SqT.of c,SqT.of b,by simp,d,λe=>?_,λ_ p hp=>q _ p (Same.new hp) ad⟩;subst e;exact q H x (Same.refl H) (by rw[c,append_nil])
def Bf(a:Ad):List V->Sp:=λvals vs H Q _=>∃ kt mt ns ms,vals=[.ref kt]/\vs=[.ref mt]/\H kt=some (.tup (ns.map V.int))/\H mt=some (.tup (ms.map V.int))/\ns.length+ms.length<64/\∀ H' u,Same H H'->IsTold a H' u (ns++ms)->Q u H'
theorem yc{H H' c:Hp}{a:List (Str×Addr)}(s:Same (untrs H (a.map (·.2))) H')(g:Same H' c)(f:∀ p∈a,c p.2=H p.2):Same H c:=λb o e=>by
 by_cases hb:b∈a.map (·.2)
 .obtain⟨p,d,rfl⟩:=mem_map.mp hb
  rw[f p d];exact e
 .exact g _ _ (s _ _ (by rw[aK hb];exact e))
section
variable {P:Program}{w:World}{K:Frag}{mg:Str->Option Value}{base:Heap}{a:Ad}
theorem ul(T:Txt K mg a)(o:Bm mg base):FnOk P w K mg base CX0 1 a.f_e a.d_e ["make","carry"] (qc a):=by
 refine T.F_e.okL T.lcd_e iQ (by decide +kernel) (λn H Q E h=>?_) (λA outer s H n Q E hr h=>?_)
 .obtain⟨p,j,rfl,_⟩:=h;rfl
 .obtain⟨p,j,rfl,k,q⟩:=h
  refine⟨_,(oA (ia (d:=aH) rfl T.lch_e o rfl (by with_unfolding_all rfl) rfl (iR a) (.head _) T.tnd iU)),?_⟩;refine⟨k,λr l y u c x g f=>?_⟩;exact λv b i=>q _ _ (u.trans b.t) (c.same b) ⟨r,l,_,rfl,b _ _ g,b _ _ f,rfl,by simp,.cons (i 0 _ _ _ rfl rfl (by with_unfolding_all rfl)) (.cons (i 1 _ _ _ rfl rfl (by with_unfolding_all rfl)) .nil)⟩
theorem o8(T:Txt K mg a)(hB:Bm mg base):FnOk P w K mg base CX0 3 a.x_z a.y_z ["self","carry"] (ku a):=by
 have ab:FnOk P w K mg base CX0 1 _ _ _ (spDieI a):=vv T;have a3:FnOk P w K mg base CX0 2 _ _ _ _:=(ul T hB).mono (by decide);refine T.F_z.ok jN (λvs H Q E h=>?_) (λcdv A outer s H vs Q E hr h=>?_)
 .obtain⟨v,cr,O,rfl,_⟩:=h;rfl
 .obtain⟨v,cr,O,rfl,⟨x,dx,l,j,rfl,hx,hl,hP,al,an⟩,hT,q⟩:=h
  have Y:sizeLine=16777216:=sizeLine_eq;refine⟨_,(ak (aw (dI T.mk_h ab hr rfl T.mc_h T.Bi_h .nil ar (aa (ba rfl (N:=["many","make","carry"]) (ix:=[none,none,some 1]) ⟨rfl,rfl,rfl,rfl,⟨rfl,rfl,rfl,trivial⟩⟩ (aY (ci (vr 0) rfl)) ⟨λC s H fp=>(cO (K:=K) (n:=2) rfl rfl (au (ap (i:=0) (show List.Nodup (["many","make","carry"]:List Str) by decide +kernel) rfl (Or.inl rfl)) (au (ap (i:=1) (show List.Nodup (["many","make","carry"]:List Str) by decide +kernel) rfl (Or.inl rfl)) aZ))),λC s H fp=>bb,λC s H fp=>(bI (aa (vr 0) (aa (aq a3 hr rfl T.m_e T.F_e.kp T.B_e .nil ar (aa (vr 1) (aa (vr 2) ae))) ae)))⟩) ae)))),?_⟩;refine⟨x,_,dx,_,_,rfl,hx,T.cl_h,T.na_Die_makes,rfl,.inl ⟨⟨_,SqL.of hl⟩,λD hD=>?_⟩⟩;have ext:∀{c:Hp},TabsOk (tabs a) c->∀{j:List V}{G:List V},c D=some (.lst j)->TabsOk (tabs a) (upd c D (.lst G)):=λa4 j G e=>a4.put (λps z=>by rw[e]at z;cases z) λφ z=>by rw[e]at z;cases z
  let Pw1:PvL:=λi r c=>SameT H c/\TabsOk (tabs a) c/\c D=some (.lst r)/\i<=O.length/\Paired (CarR cr (untr c D)) (O.take i) r
  refine aJ (K:=K) (a:=l) (xs:=j) Pw1
   ⟨(Same.new hD).t,hT.same (Same.new hD),ad,Nat.zero_le _,.nil⟩ (λi j c h=>SqL.of (h.1.at hl)) (λi j c h=>h.2.2.1) ?_ ?_
  .rintro i y r c P' hy ⟨S,p,F,hi,J⟩ a2
   obtain⟨⟨M,f⟩,I,q1,rfl,Z,m0⟩:=aG hP hy;have a0:i<O.length:=(List.getElem?_eq_some_iff.mp I).1;refine⟨q1,_,rfl,SqT.of (S.at Z),rfl,_,_,rfl,_,_,rfl,rfl,⟨rfl,trivial⟩,?_⟩;refine⟨f,cr,rfl,p,λH2 f2 t2 a1 hf=>?_⟩;have B:=t2.at F;refine⟨by show 2<=sizeLine;decide,λq2 u=>?_⟩;have nq:q2≠D:=λz=>by rw[z,B]at u;cases u
   have R:=Same.new (o:=.tup [.int M,f2]) u;have L:=R _ _ B;have yl:r.length<=5000:=by rw[<- J.length,length_take];lia
   have as:=(S.trans t2).trans R.t;refine⟨L,by lia,a2 _ _ ⟨as.put hD,ext (a1.same R) L,ad,a0,aU (ah (CarR.t ?_) J) I ⟨q2,f2,rfl,?_,m0,?_⟩⟩⟩
   .exact(fk (t2.trans R.t)).trans eI
   .rw[aI nq,ai nq];exact ad
   .exact(qj B hf).t ((fk R.t).trans eI)
  .rintro r c ⟨S,p,F,hi,J⟩
   rw[show j.length=O.length from hP.length.symm,take_length]at J;intro X d W g a5;have s9:Same c (upd (upd c d (.own X)) X (.ins a.c_h d [])):=λb o e=>by rw[ai (av e W),ai (av e g)];exact e
   refine⟨X,d,D,r,rfl,ad,s9 _ _ F,λH2 l2 fl k g1 g2=>⟨rfl,?_⟩⟩;have s2:=made W g k;refine q _ _ (S.trans s2.t) (p.same s2) ⟨X,d,l2,r,rfl,g1,g2,ah (CarR.t λb o e=>?_) J,al,an⟩ λx3 dx3 l3 e3 e4=>?_
   .by_cases hb:b=D
    .rw[hb,bX]at e;cases e
    .rw[aI hb]at e;exact s2.t b o e
   .cases e3
    rw[g1]at e4;cases e4;exact(S.trans s9.t).free fl
theorem xG(T:Txt K mg a):LamOk P w K mg base 3 dD fvK ["more"] (Bf a):=by
 have u:FnOk P w K mg base CX0 1 _ _ _ (spToldI a):=ja T;refine gZ lsK (λpm L d c Y l=>match Y,l with | [_],_=>rfl) (λvals vs H Q E h=>?_) (λA outer s H f c d vals vs Q E hr hfv ca h=>?_)
 .obtain⟨J,I,y,B,rfl,rfl,_⟩:=h;rfl
 .obtain⟨J,I,y,B,rfl,rfl,X,R,l,q⟩:=h
  have n:sizeLine=16777216:=sizeLine_eq;refine⟨_,(dI T.mk_d u hr rfl T.mc_d T.Bi_d .nil ar (aa (ay nG (vr 1) (vr 0)) ae)),?_⟩;have g:untrs H (d.map (·.2)) J=some (.tup (y.map V.int)):=aB ca X λv z=>nomatch z
  have i:untrs H (d.map (·.2)) I=some (.tup (B.map V.int)):=aB ca R λv z=>nomatch z
  generalize hU:untrs H (d.map (·.2))=U at g i;refine Bs g i (by rw[length_map,length_map];lia) λD p S G=>?_
  rw[<- map_append]at G;intro x k C j ab;have N:Same D (upd (upd D k (.own x)) x (.ins a.c_d k [])):=λb o e=>by rw[ai (av e C),ai (av e j)];exact e
  refine⟨x,k,p,y++B,rfl,ad,.inr (N _ _ G),by rw[length_append];exact l,λH' W r Z O g2 M=>⟨rfl,λH3 s3 hc=>?_⟩⟩;have F:=S.trans (made C j Z);rw[<- hU]at F;exact q H3 (.ref x) (yc F s3 hc) ⟨x,k,W,r,rfl,s3 _ _ O,s3 _ _ g2,M⟩
end
open Tb (Tr)
theorem lsL:LamScope fg [] ["_law_kept_here"]:=⟨rfl,rfl,rfl,by decide +kernel,by decide +kernel,by decide +kernel,by decide +kernel,by decide +kernel⟩
def Bp(a:Ad):List V->Sp:=λvals vs H Q _=>∃(kt:Addr) (ns:List Int),vals=[]/\vs=[.ref kt]/\H kt=some (.tup (ns.map V.int))/\ns.length<=12/\∀ H' u,Same H H'->IsTold a H' u [50+(ns.length:Int)]->Q u H'
section
variable {P:Program}{w:World}{K:Frag}{mg:Str->Option Value}{base:Heap}{a:Ad}
theorem Am(T:Txt K mg a):LamOk P w K mg base 3 fg [] ["_law_kept_here"] (Bp a):=by
 have r:FnOk P w K mg base CX0 1 _ _ _ (spToldI a):=ja T;refine gZ lsL (λY G d c O u=>match O,u with | [_],_=>rfl) (λvals vs H Q E h=>?_) (λA outer s H f c d vals vs Q E hr hfv ca h=>?_)
 .obtain⟨F,g,rfl,rfl,_⟩:=h;rfl
 .obtain⟨F,g,rfl,rfl,N,u,q⟩:=h
  have l:sizeLine=16777216:=sizeLine_eq;refine⟨_,(dI T.mk_d r hr rfl T.mc_d T.Bi_d .nil ar (aa (cq (aa (ay dq am (aL cD rfl T.z_len eM (aa (vr 0) ae))) ae)) ae)),?_⟩;have i:untrs H (d.map (·.2)) F=some (.tup (g.map V.int)):=aB ca N λv z=>nomatch z
  generalize hU:untrs H (d.map (·.2))=U at i;refine⟨_,.inr (SqT.of i),?_⟩;rw[length_map];refine⟨by show 1<=sizeLine;decide,λp X=>?_⟩;have y:=Same.new (o:=.lst [.int (50+(g.length:Int))]) X;have D:=ad (H:=U) (a:=p) (o:=.lst [.int (50+(g.length:Int))]);generalize upd U p (.lst [.int (50+(g.length:Int))])=U1 at y D;intro x k B j S;have J:Same U1 (upd (upd U1 k (.own x)) x (.ins a.c_d k [])):=λb o e=>by rw[ai (av e B),ai (av e j)];exact e
  refine⟨x,k,p,[50+(g.length:Int)],rfl,ad,.inl (J _ _ D),by show 1<64;decide,λZ M n R L W I=>⟨rfl,λH3 s3 hc=>?_⟩⟩;have C:=y.trans (made B j R);rw[<- hU]at C;exact q H3 (.ref x) (yc C s3 hc) ⟨x,k,M,n,rfl,s3 _ _ L,s3 _ _ W,I⟩
end
open Tb (Tr bnd gw)
theorem IsGo.up{b:Bool}{a:Ad}{H:Hp}{d:V}{g:List Int->Tr}{c:Bool}(h:IsGo b a H d g c):IsGo true a H d g c:=by
 rcases h with⟨f,h⟩ | h | h
 .exact .inl ⟨rfl,h⟩
 .exact .inr (.inl h)
 .exact .inr (.inr h)
def Bad(H:Hp)(Bd:List Addr):Prop:=∀ b∈Bd,∃ ys,H b=some (.lst ys)
theorem Bad.t{H H':Hp}{Bd:List Addr}(s:SameT H H')(h:Bad H Bd):Bad H' Bd:=λb a=>let ⟨ys,e⟩:=h b a;⟨ys,s.at e⟩
theorem cU{H H':Hp}{a:List Addr}(s:SameT H H'):SameT (untrs H a) (untrs H' a):=λb o e=>by
 by_cases hb:b∈a
 .rw[dz hb]at e;cases e
 .rw[aK hb]at e ⊢;exact s b o e
theorem aC{H:Hp}{a:List Addr}{b:Addr}{o:HO}(e:untrs H a b=some o):b ∉ a/\H b=some o:=by
 by_cases hb:b∈a
 .rw[dz hb]at e;cases e
 .rw[aK hb]at e;exact⟨hb,e⟩
theorem cm{H:Hp}{a:List Addr}:SameT (untrs H a) H:=λb o e=>⟨λ_=>(aC e).2,o,(aC e).2⟩
theorem cM{H:Hp}{Bd:List Addr}{b:Addr}{o:HO}(a:Bad H Bd)(e:H b=some o)(n:∀ ys,o≠.lst ys):untrs H Bd b=some o:=by
 rw[aK λz=>?_]
 .exact e
 .obtain⟨ys,c⟩:=a b z
  rw[e]at c;exact n ys (Option.some.inj c)
theorem gv(H:Hp)(a fs:List Addr):untrs (untrs H a) fs=untrs (untrs H fs) a:=by
 funext b
 unfold untrs
 split <;> split <;> rfl
theorem gU{H:Hp}{Bd:List Addr}(a:Bad H Bd){d:LamD}{l:List Str}{f:V}{g:List V}(h:IsLam H d l f g):IsLam (untrs H Bd) d l f g:=by
 obtain⟨p,c,b,q,k,j,i,n,o⟩:=h;refine⟨p,c,b,q,cM a k (λ_ z=>nomatch z),cM a j (λ_ z=>nomatch z),i,n,?_⟩;clear k j i n
 induction o with
 | nil=>exact .nil
 | cons r _ ih=>exact .cons (cM a r (λ_ z=>nomatch z)) ih
theorem gu{H:Hp}{Bd:List Addr}(c:Bad H Bd){a:List (Str×Addr)}{b:List V}(h:CellsAt H a b):CellsAt (untrs H Bd) a b:=by
 induction h with
 | nil=>exact .nil
 | cons r _ ih=>exact .cons (cM c r (λ_ z=>nomatch z)) ih
theorem hV{a:Ad}{H:Hp}{Bd:List Addr}(b:Bad H Bd){u:V}{d:List Int}(h:IsTold a H u d):IsTold a (untrs H Bd) u d:=by
 obtain⟨x,j,t,c,i,g,f,k⟩:=h;exact⟨x,j,t,c,i,cM b g (λ_ z=>nomatch z),cM b f (λ_ z=>nomatch z),k⟩
theorem kB{a:Ad}{H k H':Hp}{Bd:List Addr}{d:Nat}{u:V}{t:Tr}(c:Bad H Bd)(s:SameT H H')(h:IsNode a k H' d u t)(J:sP a H H' u):IsNode a k (untrs H' Bd) d u t:=by
 have b:=c.t s;cases t with
 | leaf ns=>exact hV b h
 | die ps =>
  obtain⟨G,e,x,n,l,A,j,o,v,B,p,E⟩:=h
  have g:l ∉ Bd:=λz=>by
   obtain⟨K,i⟩:=c l z;rw[J x n l j o]at i;cases i
  refine⟨G,e,x,n,l,A,j,cM b o (λ_ z=>nomatch z),by rw[aK g];exact v,ah (λpt y r=>?_) B,p,E⟩;obtain⟨q,f,w,D,I,C,F⟩:=r;exact⟨q,f,w,D,cM b I (λ_ z=>nomatch z),gU b C,F⟩
theorem qY{a:Ad}{H c H':Hp}{Bd:List Addr}{d:Nat}{u:V}{t:Tr}(g:Bad H Bd)(s:SameT H H')(f:SqH c)(l:SameT c H')(i:∀ b∈Bd,c b=none)(h:IsNode a c H' d u t)(n:sP a H H' u)(j:Tb.Lb t)(k:d<=1):IsPl a (untrs H' Bd) u t :=
 ⟨c,d,f,λb o e=>by rw[aK (λz=>by rw[i b z]at e;cases e)];exact l b o e,kB g s h n,j,k⟩
theorem oz{H:Hp}{a:List V}(h:∀ v∈a,∃ p d cl c,v=.ref p/\H p=some (.ext (dS p d cl c))):(∀ v∈a,∃ p,v=.ref p)/\∀ v∈a,∀ p xs,v=.ref p->H p≠some (.lst xs)/\H p≠some (.tup xs):=by
 refine⟨λv b=>let ⟨p,_,_,_,e,_⟩:=h v b;⟨p,e⟩,λv b p xs e=>?_⟩;obtain⟨i,d,cl,c,f,g⟩:=h v b;rw[e]at f;cases f;rw[g];exact⟨(λz=>by cases z),(λz=>by cases z)⟩
theorem yC{b:Bool}{a:Ad}{H:Hp}{j:List (Str×Addr)}{i:List V}(o:CellsAt H j i)(B:∀ v∈i,∃ p d cl c,v=.ref p/\H p=some (.ext (dS p d cl c))){A:V}{g:List Int->Tr}{Q:Bool}(h:IsGo b a H A g Q):IsGo b a (untrs H (j.map (·.2))) A g Q:=by
 obtain⟨P,N⟩:=oz B
 have q:∀{d:LamD}{L:List Str}{w:V},w ∉ i->IsLam H d L A [w]->IsLam (untrs H (j.map (·.2))) d L A [w]:=λ{d L w} I T=>by
  obtain⟨f,c,cl,E,K,D,G,C,J⟩:=T;refine⟨f,c,cl,E,aB o K λv=>dw,aB o D λv=>cw,G,C,fi o P (λv B z=>?_) J⟩;rw[mem_singleton.mp B]at z;exact I z
 rcases h with⟨X,u,t,s,n,F⟩ | ⟨S,R,s,n,F⟩ | ⟨s,n⟩
 .refine .inl ⟨X,u,t,q (λz=>?_) s,uv o P N n,F⟩
  obtain⟨p,d,cl,c,O,M⟩:=B u z;obtain⟨H0,d0,_,_,k,_⟩:=n;cases t with
  | leaf R=>obtain⟨x,Y,t2,W,r,y,_⟩:=k;rw[O]at r;cases r;rw[M]at y;cases y
  | die ps=>obtain⟨_,_,x,Y,l,Z,r,y,_⟩:=k;rw[O]at r;cases r;rw[M]at y;cases y
 .refine .inr (.inl ⟨S,R,q (λz=>?_) s,aB o n (λv z=>nomatch z),F⟩)
  exact(N _ z S _ rfl).2 n
 .refine .inr (.inr ⟨?_,n⟩)
  obtain⟨f,c,cl,E,K,D,G,C,J⟩:=s;refine⟨f,c,cl,E,aB o K λv=>dw,aB o D λv=>cw,G,C,?_⟩;cases J;exact .nil
def Res(a:Ad)(H:Hp)(Bd:List Addr)(t:Tr)(Q:VK):Prop:=∀ H' u,SameT H H'->TabsOk (tabs a) H'->IsNd a (untrs H' Bd) u t->Q u H'
def yJ(b:Bool)(a:Ad):List V->Sp:=λvals vs H Q _=>b=true/\∃ u kt ns t Bd,vals=[u]/\vs=[.ref kt]/\Bad H Bd/\H kt=some (.tup (ns.map V.int))/\ns.length<=12/\IsPl a (untrs H Bd) u t/\TabsOk (tabs a) H/\Res a H Bd (bnd t λms=>.leaf (ns++ms)) Q
def pA(b:Bool)(a:Ad):Sp:=λvs H Q _=>∃ v go g ev t Bd,vs=[v,go]/\Bad H Bd/\IsPl a (untrs H Bd) v t/\IsGo b a (untrs H Bd) go g ev/\(ev=true->Tb.Par 0 t)/\TabsOk (tabs a) H/\Res a H Bd (bnd t g) Q
def Aw(a:Ad):Sp:=λvs H Q _=>∃ u kt ns t Bd,vs=[.ref kt,u]/\Bad H Bd/\H kt=some (.tup (ns.map V.int))/\ns.length<=12/\IsPl a (untrs H Bd) u t/\TabsOk (tabs a) H/\Res a H Bd (bnd t λms=>.leaf (ns++ms)) Q
section
variable {P:Program}{w:World}{K:Frag}{mg:Str->Option Value}{base:Heap}{a:Ad}
theorem zn{k:Nat}{d:LamD}{l ps:List Str}:LamOk P w K mg base k d l ps (yJ false a):=λA g s H f c h y p i Q E q o u v n j x r b=>absurd b.1 (by decide)
theorem nE(T:Txt K mg a)(hB:Bm mg base)(b:Bool){k:Nat}(hk:5<=k)(J:LamOk P w K mg base k eD fvO ["kept"] (yJ b a)):FnOk P w K mg base CX0 (k+1) a.f_m a.d_m ["node","go"] (pA b a):=by
 have M:LamOk P w K mg base k dD fvK ["more"] (Bf a):=LamOk.mono (xG T) (by lia);have Y:LamOk P w K mg base k fg [] ["_law_kept_here"] (Bp a):=LamOk.mono (Am T) (by lia);have a6:FnOk P w K mg base CX0 k _ _ _ (spV (.bl true)):=(qS T).mono (by lia);have bg:FnOk P w K mg base CX0 k _ _ _ (spV (.bl false)):=(qw T).mono (by lia);have Z:FnOk P w K mg base CX0 k _ _ _ (uF a):=(ql T).mono (by lia);have X:FnOk P w K mg base CX0 k _ _ _ (spV .non):=(qa T).mono (by lia);have bm:FnOk P w K mg base CX0 k _ _ _ (ku a):=(o8 T hB).mono (by lia);refine T.F_m.okL T.lcd_m sw (by decide +kernel) (λvs H Q E h=>?_) (λA outer s H vs Q E hr h=>?_)
 .obtain⟨v,go,g,ev,t,Bd,rfl,_⟩:=h;rfl
 .obtain⟨v,go,g,ev,t,Bd,rfl,G,bo,a4,a1,hT,q⟩:=h
  refine⟨_,(xE (cK (gN (PE.or (ax (vr 0) T.cl_d T.mt_k a6 hr T.B_k .nil ar) (ax (vr 0) T.cl_h T.mt_o bg hr T.B_o .nil ar))) (ak (aw (PE.or (gG (vr 1) J hr (aa (PE.or (ax (vr 0) T.cl_d T.mt_n Z hr T.B_n .nil ar) (ax (vr 0) T.cl_h T.mt_p X hr T.B_p .nil ar)) ae)) (PE.or (gG (vr 1) M hr (aa (PE.or (ax (vr 0) T.cl_d T.mt_n Z hr T.B_n .nil ar) (ax (vr 0) T.cl_h T.mt_p X hr T.B_p .nil ar)) ae)) (gG (vr 1) Y hr (aa (PE.or (ax (vr 0) T.cl_d T.mt_n Z hr T.B_n .nil ar) (ax (vr 0) T.cl_h T.mt_p X hr T.B_p .nil ar)) ae)))))) bK) (oA (fU (vr 0) T.cl_h T.mt_z bm hr T.B_z .nil ar (aa (ia (d:=ld_behind_1) rfl T.lch_m hB rfl (by with_unfolding_all rfl) rfl (rR a) (.head _) T.tnd su) ae)))),?_⟩;obtain⟨H0,d,a5,s0,hn,an,b2⟩:=bo;cases t with
  | leaf ns =>
   obtain⟨x,F,kt,a8,rfl,B,C,hs⟩:=hn;have B:=(aC B).2;have C:=(aC C).2;have en:a8=Tb.so ns:=Tb.so_uniq hs.1 hs.2;subst en;rw[Tb.Lb]at an;have sl:(Tb.so ns).length=ns.length:=(Tb.so_perm ns).length_eq;rw[Tb.bnd]at q;refine .inl ⟨x,F,_,rfl,B,rfl,_,rfl,?_⟩
   rcases a4 with⟨hb,u,t,⟨f,c,R,rfl,i,o,W,k5,D⟩,L,rfl,rfl⟩ | ⟨ab,br,⟨f,c,R,rfl,i,o,W,k5,D⟩,L,h3,rfl,rfl⟩ | ⟨⟨f,c,R,rfl,i,o,W,k5,D⟩,rfl,rfl⟩
   .have i:=(aC i).2
    have o:=(aC o).2;have D:CellsAt H R [u]:=dH cm D;refine .inl ⟨⟨f,_,_,c,rfl,i⟩,.inl ⟨x,F,_,rfl,B,rfl,x,F,kt,rfl,B,λ_ _ _ _ _ e=>e,f,c,R,_,rfl,i,o,W,k5,D,hb,u,kt,Tb.so ns,t,Bd,rfl,rfl,G,C,by lia,L,hT,q⟩⟩
   .have i:=(aC i).2
    have o:=(aC o).2;have L:=(aC L).2;have D:CellsAt H R [.ref ab]:=dH cm D;refine .inr (.inl ⟨⟨f,_,_,c,rfl,i⟩,.inl ⟨x,F,_,rfl,B,rfl,x,F,kt,rfl,B,λ_ _ _ _ _ e=>e,f,c,R,_,rfl,i,o,W,k5,D,ab,kt,br,Tb.so ns,rfl,rfl,L,C,by lia,λH' u s1 hu=>?_⟩⟩);exact q _ _ s1.t (hT.same s1) (.inr (.inr ⟨_,rfl,hV (G.t s1.t) hu⟩))
   .have i:=(aC i).2
    have o:=(aC o).2;have D:CellsAt H R []:=dH cm D;refine .inr (.inr ⟨⟨f,_,_,c,rfl,i⟩,.inl ⟨x,F,_,rfl,B,rfl,x,F,kt,rfl,B,λ_ _ _ _ _ e=>e,f,c,R,_,rfl,i,o,W,k5,D,kt,Tb.so ns,rfl,rfl,C,by lia,λH' u s1 hu=>?_⟩⟩);exact q _ _ s1.t (hT.same s1) (.inr (.inr ⟨_,rfl,hV (G.t s1.t) hu⟩))
  | die I =>
   obtain⟨d',rfl,x,F,l,N,rfl,B,hl,hP,al,bq⟩:=hn;have S:=(aC B).2;have a0:=(aC hl).2;rw[Tb.bnd,Tb.bnds_map]at q
   obtain⟨n,hraw,hrs⟩:∃ n:List (Int×V),Paired (RawR H) n N/\Paired (λ(p:Int×Tr) (r:Int×V)=>p.1=r.1/\1<=p.1/\p.1<=1000000000/\IsMkP (untrs H Bd) r.2 p.2) I n:=by
    clear hl a0 al bq q an a1
    induction hP with
    | nil=>exact⟨[],.nil,.nil⟩
    | @cons pt y I N r _ ih =>
     obtain⟨n,i1,i2⟩:=ih;obtain⟨q9,f,w9,r1,r2,r3,r4,r5,r6⟩:=r;exact⟨(pt.1,f)::n,.cons ⟨q9,r1,(aC r2).2,r4⟩ i1,.cons ⟨rfl,r4,r5,w9,H0,d',r3,a5,s0,r6,by lia⟩ i2⟩
   have rl:n.length=I.length:=hrs.length.symm
   have as:IsRaw a H (.ref x) n:=⟨x,F,l,N,rfl,S,a0,hraw,by lia,by lia⟩
   refine .inr ⟨x,F,_,rfl,S,rfl,_,rfl,?_⟩;refine⟨x,F,_,rfl,S,rfl,hT,λf1 c1 H2 t2 bt n1 bF bn=>?_⟩;refine⟨_,_,n,rfl,as.t t2,bt,λH3 u t3 bS hu nl=>λH4 s4 hc=>?_⟩;have t4:=t2.trans (t3.trans s4.t);have j:=G.t t4
   have a9:IsLam H4 ld_behind_1 fvB (.ref f1) [go]:=⟨f1,c1,_,rfl,s4 _ _ (t3.at bF),s4 _ _ (t3.at bn),rfl,by simp,.cons (hc 1 _ _ _ rfl rfl (by with_unfolding_all rfl)) .nil⟩
   have a7:sP a H2 H4 u:=λx9 a' l9 e1 e2=>by
    obtain⟨x',b1,l',b0,e3,g1,_⟩:=hu;rw[e1]at e3;cases e3;rw[s4 _ _ g1]at e2;cases e2;exact nl x9 a' l9 e1 g1
   obtain⟨x2,a3,l2,bL,rfl,g1,g2,g3,g4,g5⟩:=hu.t s4.t;refine q _ _ t4 (bS.same s4) (.inr (.inl ⟨_,rfl,x2,a3,l2,bL,.ref f1,go,g,ev,rfl,cM j g1 (λ_ z=>nomatch z),?_,gU j a9,(a4.t (cU t4)).up,?_,by rw[length_map];exact al,by rw[length_map];lia⟩))
   .rw[aK λz=>?_]
    .exact g2
    .obtain⟨zs,e2⟩:=(G.t t2) l2 z
     rw[a7 x2 a3 l2 rfl g1]at e2;cases e2
   .clear g4 g5 rl as hraw
    have bl:∀{I:List (Int×Tr)}{n:List (Int×V)}{N:List V},(ev=true->Tb.Pars 0 I)->Paired (λ(p:Int×Tr) (r:Int×V)=>p.1=r.1/\1<=p.1/\p.1<=1000000000/\IsMkP (untrs H Bd) r.2 p.2) I n->Paired (CarR (.ref f1) H4) n N->Paired (CdR (untrs H4 Bd) (.ref f1) g ev) (I.map λp=>(p.1,bnd p.2 g)) N:=by
     intro I n N a2 h1
     induction h1 generalizing N with
     | nil=>intro L;cases L;exact .nil
     | @cons p r I n x1 _ ih =>
      intro L;cases L with
      | cons y1 t1 =>
       obtain⟨e1,m1,m2,hm⟩:=x1;obtain⟨q9,f9,k1,i,o,W⟩:=y1
       have O:ev=true->Tb.Par 0 p.2/\Tb.Pars 0 I:=λz=>by
        have:=a2 z;obtain⟨p1,p2⟩:=p;rw[Tb.Pars]at this;exact this
       refine .cons ⟨q9,f9,r.2,p.2,k1,?_,m1,m2,gU j W,hm.t (cU t4),rfl,λz=>(O z).1⟩ (ih (λz=>(O z).2) t1);show untrs H4 Bd q9=some (.tup [.int p.1,f9]);rw[e1];exact cM j i (λ_ z=>nomatch z)
    refine bl (λz=>?_) hrs g3;have:=a1 z;rw[Tb.Par]at this;exact this
end
open Tb (Tr bnd gw)
theorem qW{f:Addr}{d d':LamD}{b a:List (Str×Addr)}{c i:Addr}(e:HO.ext (dS f d b c)=HO.ext (dS f d' a i)):d.qual=d'.qual:=by
 injection e with e
 obtain⟨h,j⟩:=jc f (kla_obj "<lambda>" d.qual d.params d.body d.scope b .none c .none) (by intro z;cases z);have y:dS f d' a i h:=by rw[<- e];exact⟨_,_,j⟩
 obtain⟨o,u,g⟩:=y;rw[j]at g;injection g with g
 injection g with _ _ g
 injection g with g
 injection g
theorem cv(H:Hp):untrs H []=H:=by funext b;exact aK (by simp)
theorem pO{H:Hp}{Bd:List Addr}{a:List (Str×Addr)}{c:List V}(g:CellsAt H a c)(d:Bad H Bd):Bad (untrs H (a.map (·.2))) Bd:=λb f=>let ⟨ys,e⟩:=d b f;⟨ys,aB g e λv z=>nomatch z⟩
theorem Ac{a:Ad}{H:Hp}{v:V}{t:Tr}(h:IsPl a H v t):∃ x C dx fs,v=.ref x/\H x=some (.ins C dx fs):=by
 obtain⟨j,d,_,_,f,_⟩:=h;cases t with
 | leaf ns=>obtain⟨x,dx,k,g,b,c,_⟩:=f;exact⟨x,_,dx,_,b,c⟩
 | die ps=>obtain⟨_,_,x,dx,l,i,b,c,_⟩:=f;exact⟨x,_,dx,_,b,c⟩
def Bo(a:Ad):List V->Sp:=λvals vs H Q _=>∃ v go g ev t Bd,vals=[go]/\vs=[v]/\Bad H Bd/\IsPl a (untrs H Bd) v t/\IsGo true a (untrs H Bd) go g ev/\(ev=true->Tb.Par 0 t)/\TabsOk (tabs a) H/\Res a H Bd (bnd t g) Q
def zE(a:Ad):List V->Sp:=λvals vs H Q _=>∃ m cr go g ev t Bd,vals=[m,cr]/\vs=[]/\Bad H Bd/\IsMkP (untrs H Bd) m t/\IsLam (untrs H Bd) ld_behind_1 fvB cr [go]/\IsGo true a (untrs H Bd) go g ev/\(ev=true->Tb.Par 0 t)/\TabsOk (tabs a) H/\Res a H Bd (bnd t g) Q
def uM(a:Ad):Sp:=λvs H Q _=>∃ v1 v2 t1 t2,vs=[v1,v2]/\IsPl a H v1 t1/\IsPl a H v2 t2/\TabsOk (tabs a) H/\∀ H' u,SameT H H'->TabsOk (tabs a) H'->IsNd a H' u (bnd t1 λns=>bnd t2 λms=>.leaf (ns++ms))->Q u H'
theorem zu{b:Bool}{a:Ad}{H:Hp}{i:V}{g:List Int->Tr}{j:Bool}(h:IsGo b a H i g j):∃ p d cl c,i=.ref p/\H p=some (.ext (dS p d cl c)):=by
 rcases h with⟨_,u,t,⟨f,c,cl,e,k,_⟩,_⟩ | ⟨l,n,⟨f,c,cl,e,k,_⟩,_⟩ | ⟨⟨f,c,cl,e,k,_⟩,_⟩ <;> exact⟨f,_,cl,c,e,k⟩
theorem lW{H:Hp}:∀{d:Nat}{v:V}{t:Tr},fh H d v t->Tb.Lb t
 | d,v,.leaf ns,h=>by
  obtain⟨p,_,_,b,_⟩:=(d9 d).mp h;rw[Tb.Lb];exact b
 | 0,v,.die ps,h=>False.elim h
 | d+1,v,.die ps,h=>by
  obtain⟨p,f,-,-,a,-,-⟩:=h;rw[Tb.Lb];refine Tb.lbs_of ?_
  induction a with
  | nil=>intro p hp;cases hp
  | cons r _ ih =>
   intro p hp
   rcases mem_cons.mp hp with rfl | hp
   .obtain⟨_,_,_,_,_,_,c⟩:=r
    exact lW c
   .exact ih p hp
section
variable {P:Program}{w:World}{K:Frag}{mg:Str->Option Value}{base:Heap}{a:Ad}
theorem w4(T:Txt K mg a)(b:Bm mg base):FnOk P w K mg base CX0 6 a.f_m a.d_m ["node","go"] (pA false a):=nE T b false (Nat.le_refl 5) zn
theorem tJ(T:Txt K mg a)(v:Bm mg base):FnOk P w K mg base CX0 7 a.f_t a.d_t ["kept","node"] (Aw a):=by
 have g:FnOk P w K mg base CX0 6 _ _ _ (pA false a):=w4 T v;refine T.F_t.okL T.lcd_t sc_t (by decide +kernel) (λC H Q E h=>?_) (λA outer s H C Q E hr h=>?_)
 .obtain⟨u,x,p,t,r,rfl,_⟩:=h;rfl
 .obtain⟨u,x,p,t,r,rfl,i,j,y,f,B,q⟩:=h
  refine⟨_,(qZ sc_t.nd (by decide +kernel) g hr rfl T.m_m T.F_m.kp T.B_m .nil (aa (vr 1) (aa (ia (d:=dD) rfl T.lch_t v rfl (by with_unfolding_all rfl) rfl (tG a) (.head _) T.tnd sS) ae))),?_⟩;refine⟨B,λo D G F k I n l=>λH3 s3 hc=>?_⟩;have c:=F.trans s3.t;have b:=i.t c;refine⟨u,.ref o,_,false,t,r,rfl,b,f.t (cU c),.inr (.inl ⟨x,p,gU b ⟨o,D,_,rfl,s3 _ _ n,s3 _ _ l,rfl,by simp,.cons (hc 0 _ _ _ rfl rfl (by with_unfolding_all rfl)) .nil⟩,cM b (c.at j) (λ_ z=>nomatch z),y,rfl,rfl⟩),(λz=>nomatch z),k.same s3,λH' u' t' hT' hN=>q _ _ (c.trans t') hT' hN⟩
theorem zI(T:Txt K mg a)(M:Bm mg base):LamOk P w K mg base 8 eD fvO ["kept"] (yJ true a):=by
 have n:FnOk P w K mg base CX0 7 _ _ _ (Aw a):=tJ T M;refine gZ lsO (λN G g c L D=>match L,D with | [_],_=>rfl) (λvals vs H Q E h=>?_) (λA outer s H f c g vals vs Q E hr hfv ca h=>?_)
 .obtain⟨_,u,B,r,t,y,rfl,rfl,_⟩:=h;rfl
 .obtain⟨_,u,B,r,t,y,rfl,rfl,i,k,F,d,I,q⟩:=h
  refine⟨_,(aq n hr rfl T.m_t T.F_t.kp T.B_t .nil ar (aa (vr 0) (aa (vr 1) ae))),?_⟩;have l:=gu i ca;obtain⟨x,C,R,O,o,J⟩:=Ac d
  have b:=uv l (λv j=>by rw[mem_singleton.mp j];exact⟨x,o⟩) (λv j p xs e=>by
   rw[mem_singleton.mp j,o]at e;cases e;rw[J]
   exact⟨(λz=>by cases z),(λz=>by cases z)⟩) d
  rw[gv]at b;refine⟨u,B,r,t,y,rfl,pO ca i,aB ca k (λv z=>nomatch z),F,b,TabsOk.untrs I ca,λH' u' t' hT' hN=>λH3 s3 hc=>?_⟩;exact q _ _ (pJ t' s3 hc) (hT'.same s3) (hN.t (cU s3.t))
theorem pe(T:Txt K mg a)(b:Bm mg base):FnOk P w K mg base CX0 9 a.f_m a.d_m ["node","go"] (pA true a):=nE T b true (by decide) (zI T b)
theorem Bh(T:Txt K mg a)(R:Bm mg base):LamOk P w K mg base 10 ld_behind_1 fvB ["after"] (Bo a):=by
 have x:FnOk P w K mg base CX0 9 _ _ _ (pA true a):=pe T R;refine gZ lsB (λS I k c O G=>match O,G with | [_],_=>rfl) (λvals vs H Q E h=>?_) (λA outer s H f c k vals vs Q E hr hfv ca h=>?_)
 .obtain⟨v,r,g,F,t,B,rfl,rfl,_⟩:=h;rfl
 .obtain⟨v,r,g,F,t,B,rfl,rfl,l,u,o,D,J,q⟩:=h
  refine⟨_,(aq x hr rfl T.m_m T.F_m.kp T.B_m .nil ar (aa (vr 0) (aa (vr 1) ae))),?_⟩;have n:=gu l ca;have j:∀ v∈[r],∃ p d cl c,v=.ref p/\untrs H B p=some (.ext (dS p d cl c)):=λv N=>by rw[mem_singleton.mp N];exact zu o
  obtain⟨y,z⟩:=oz j;have b:=uv n y z u;have i:=yC n j o;rw[gv]at b i;refine⟨v,r,g,F,t,B,rfl,pO ca l,b,i,D,TabsOk.untrs J ca,λX W L C M=>λH3 s3 hc=>?_⟩;exact q _ _ (pJ L s3 hc) (C.same s3) (M.t (cU s3.t))
theorem AD(T:Txt K mg a)(hB:Bm mg base):LamOk P w K mg base 11 aH fvC [] (zE a):=by
 have y:LamOk P w K mg base 10 ld_told_make_1 fvT [] (spL a):=LamOk.mono (yY T hB) (by decide);have D:LamOk P w K mg base 10 ld_behind_1 fvB ["after"] (Bo a):=Bh T hB;refine gZ lsC (λpm a' l c us hl=>match us,hl with | [],_=>rfl) (λvals vs H Q E h=>?_) (λA outer s H f c l vals vs Q E hr hfv ca h=>?_)
 .obtain⟨m,cr,go,g,ev,t,G,rfl,rfl,_⟩:=h;rfl
 .obtain⟨m,cr,go,g,ev,t,G,rfl,rfl,Y,hm,O,al,a7,hT,q⟩:=h
  refine⟨_,(gG (vr 1) D hr (aa (fM (vr 0) y hr) ae)),?_⟩;have x:=gu Y ca
  have C:∀ v∈[m,cr],∃ p d j c,v=.ref p/\untrs H G p=some (.ext (dS p d j c)):=λv hv=>by
   rcases mem_cons.mp hv with rfl | hv
   .obtain⟨_,_,_,⟨f',c',j,e,k,_⟩,_⟩:=hm
    exact⟨f',_,j,c',e,k⟩
   .rw[mem_singleton.mp hv]
    obtain⟨f',c',j,e,k,_⟩:=O;exact⟨f',_,j,c',e,k⟩
  obtain⟨M,a9⟩:=oz C;have F:=zr x M a9 hm;have n:=yC x C al
  have i:IsLam (untrs (untrs H G) (l.map (·.2))) ld_behind_1 fvB cr [go]:=by
   obtain⟨fB,cB,Z,rfl,L,b3,b4,b5,b6⟩:=O;refine⟨fB,cB,Z,rfl,aB x L λv=>dw,aB x b3 λv=>cw,b4,b5,fi x M (λv hv z=>?_) b6⟩;rw[mem_singleton.mp hv]at z
   obtain⟨pg,dg,clg,cg,eg,kg⟩:∃ p d j c,go=.ref p/\untrs H G p=some (.ext (dS p d j c))/\d.qual≠ld_told_make_1.qual/\d.qual≠ld_behind_1.qual:=by
    rcases al with⟨_,u,t,⟨f,c,j,e,k,_⟩,_⟩ | ⟨kt,ns,⟨f,c,j,e,k,_⟩,_⟩ | ⟨⟨f,c,j,e,k,_⟩,_⟩ <;> exact⟨f,_,j,c,e,k,by decide +kernel,by decide +kernel⟩
   rcases mem_cons.mp z with e | z
   .obtain⟨_,_,_,⟨f',c',j,e1,k1,_⟩,_⟩:=hm
    rw[<- e,eg]at e1;cases e1;rw[kg.1]at k1;exact kg.2.1 (qW (Option.some.inj k1))
   .have e:=mem_singleton.mp z
    rw[eg]at e;cases e;rw[kg.1]at L;exact kg.2.2 (qW (Option.some.inj L))
  rw[gv]at F n i;have r:=pO ca Y;have W:=TabsOk.untrs hT ca;generalize hU:untrs H (l.map (·.2))=U at F n i r W;obtain⟨wt,H0,d0,⟨fA,cA,an,rfl,a2,a3,a4,a5,a6⟩,I,s0,S,a1⟩:=F;obtain⟨fB,cB,Z,rfl,L,b3,b4,b5,b6⟩:=id i;have J:SameT H0 U:=s0.trans cm;refine⟨⟨fB,_,_,cB,rfl,(aC L).2⟩,fA,cA,an,_,rfl,(aC a2).2,(aC a3).2,a4,a5,dH cm a6,wt,d0,t,H0,rfl,rfl,S,a1,J,W,I,λH1 u B as a8 nl=>?_⟩;have R:=r.t B;have ab:=i.t (cU B);obtain⟨bg,a0,N,e9,d2,d3,d4,d5,d6⟩:=id ab;cases e9
  have f0:∀ b∈G,H0 b=none:=λb hb=>by
   cases e:H0 b with
   | none=>rfl
   | some o =>
    obtain⟨_,o',e'⟩:=s0 b o e;rw[dz hb]at e';cases e'
  have X:=qY r B I (J.trans B) f0 a8 nl (lW S) (by lia);refine⟨λ_ _ _ _ _ e=>B.at e,fB,a0,N,_,rfl,(aC d2).2,(aC d3).2,d4,d5,dH cm d6,u,go,g,ev,t,G,rfl,rfl,R,X,n.t (cU B),a7,as,λH2 u' t2 hT2 hN=>λH3 s3 hc=>?_⟩;rw[<- hU]at B;exact q _ _ (pJ (B.trans t2) s3 hc) (hT2.same s3) (hN.t (cU s3.t))
theorem wE(T:Txt K mg a)(u:Bm mg base):FnOk P w K mg base CX0 10 a.f_H a.d_H ["one","other"] (uM a):=by
 have f:FnOk P w K mg base CX0 9 _ _ _ (pA true a):=pe T u;refine T.F_H.okL T.lcd_H sc_H (by decide +kernel) (λx H Q E h=>?_) (λA outer s H x Q E hr h=>?_)
 .obtain⟨l,p,n,r,rfl,_⟩:=h;rfl
 .obtain⟨l,p,n,r,rfl,C,y,v,q⟩:=h
  refine⟨_,(qZ sc_H.nd (by decide +kernel) f hr rfl T.m_m T.F_m.kp T.B_m .nil (aa (vr 0) (aa (ia (d:=eD) rfl T.lch_H u rfl (by with_unfolding_all rfl) rfl (wA a) (.head _) T.tnd xw) ae))),?_⟩;refine⟨v,λo D F c g G j i=>λH3 s3 hc=>?_⟩;have k:=c.trans s3.t;refine⟨l,.ref o,_,false,n,[],rfl,(λb B=>by cases B),by rw[cv];exact C.t k,.inl ⟨rfl,p,r,by rw[cv];exact⟨o,D,_,rfl,s3 _ _ j,s3 _ _ i,rfl,by simp,.cons (hc 1 _ _ _ rfl rfl (by with_unfolding_all rfl)) .nil⟩,by rw[cv];exact y.t k,rfl,rfl⟩,(λz=>nomatch z),g.same s3,λH' u' t' hT' hN=>?_⟩;rw[cv]at hN;exact q _ _ (k.trans t') hT' hN
end
open Tb (Tr Ent Way bnd gw Dq Dqs)
def IsMkN(a:Ad)(H:Hp)(f:V)(t:Tr):Prop:=IsMkP H f t\/∃ m cr go g ev t1,IsLam H aH fvC f [m,cr]/\IsMkP H m t1/\IsLam H ld_behind_1 fvB cr [go]/\IsGo true a H go g ev/\(ev=true->Tb.Par 0 t1)/\t=bnd t1 g
theorem IsMkN.t{a:Ad}{H H':Hp}{f:V}{t:Tr}(s:SameT H H')(h:IsMkN a H f t):IsMkN a H' f t:=by
 rcases h with h | ⟨m,j,c,g,k,b,n,i,d,o,l⟩
 .exact .inl (h.t s)
 .exact .inr ⟨m,j,c,g,k,b,n.t s,i.t s,d.t s,o.t s,l⟩
def NdR(a:Ad)(H:Hp)(p:Int×Tr)(r:Int×V):Prop:=p.1=r.1/\1<=p.1/\p.1<=1000000000/\IsMkN a H r.2 p.2
theorem pS{a:Ad}{H:Hp}{v:V}{b:List Int}(h:IsNd a H v (.leaf b)):IsTold a H v b:=by
 rcases h with⟨_,_,_,_,h,_⟩ | ⟨_,e,_⟩ | ⟨_,e,h⟩
 .exact h
 .cases e
 .cases e;exact h
theorem v5{a:Ad}{H:Hp}{v:V}{ps:List (Int×Tr)}(h:IsNd a H v (.die ps)):∃ rs,IsRaw a H v rs/\Paired (NdR a H) ps rs:=by
 rcases h with⟨J,d,n,Q,⟨M,Z,x,B,l,b,rfl,A,k,q,u,w⟩,_,O⟩ | ⟨X,e,x,B,l,b,L,P,g,K,rfl,A,k,F,I,q,u,w⟩ | ⟨_,e,_⟩
 .have c:∀{ps:List (Int×Tr)}{b:List V},Paired (NodeR J H M) ps b->∃ rs:List (Int×V),Paired (RawR H) rs b/\Paired (NdR a H) ps rs:=by
   intro ps b h
   induction h with
   | nil=>exact⟨[],.nil,.nil⟩
   | @cons pt y ps b r _ ih =>
    obtain⟨rs,C,D⟩:=ih;obtain⟨o,f,Y,z,G,T,j,p,s⟩:=r;exact⟨(pt.1,f)::rs,.cons ⟨o,z,G,j⟩ C,.cons ⟨rfl,j,p,.inl ⟨Y,J,M,T,n,Q,s,by lia⟩⟩ D⟩
  obtain⟨rs,E,i⟩:=c q;have:rs.length=ps.length:=i.length.symm;exact⟨rs,⟨x,B,l,b,rfl,A,k,E,by lia,by lia⟩,i⟩
 .cases e
  have c:∀{ps:List (Int×Tr)}{b:List V},Paired (CdR H L g K) ps b->∃ rs:List (Int×V),Paired (RawR H) rs b/\Paired (NdR a H) ps rs:=by
   intro ps b h
   induction h with
   | nil=>exact⟨[],.nil,.nil⟩
   | @cons pt y ps b r _ ih =>
    obtain⟨rs,C,D⟩:=ih;obtain⟨o,f,m,W,z,G,j,p,s,S,R,N⟩:=r;exact⟨(pt.1,f)::rs,.cons ⟨o,z,G,j⟩ C,.cons ⟨rfl,j,p,.inr ⟨m,L,P,g,K,W,s,S,F,I,N,R⟩⟩ D⟩
  obtain⟨rs,E,i⟩:=c q;have:rs.length=ps.length:=i.length.symm;exact⟨rs,⟨x,B,l,b,rfl,A,k,E,by lia,by lia⟩,i⟩
 .cases e
theorem xo{a:Ad}{H:Hp}{ps:List (Int×Tr)}{rs:List (Int×V)}(h:Paired (NdR a H) ps rs):xz rs=Tb.tot ps:=by
 induction h with
 | nil=>rfl
 | cons r _ ih =>
  unfold xz Tb.tot at *;rw[map_cons,map_cons,sum_cons,sum_cons,ih,r.1]
theorem wJ{a:Ad}{H:Hp}{Bd:List Addr}{f:V}{t:Tr}{Q:VK}(h:IsMkN a (untrs H Bd) f t)(k:Bad H Bd)(E:TabsOk (tabs a) H)(q:Res a H Bd t Q):o7 ld_told_make_1 fvT (spL a) f [] H Q\/o7 aH fvC (zE a) f [] H Q:=by
 rcases h with⟨w,x,d,⟨C,c,B,rfl,n,v,s,p,l⟩,i,y,j,A⟩ | ⟨m,R,J,g,O,M,⟨C,c,B,rfl,n,v,s,p,l⟩,L,K,G,P,rfl⟩
 .have I:∀ b∈Bd,x b=none:=λb N=>by
   cases e:x b with
   | none=>rfl
   | some o =>
    obtain⟨_,T,F⟩:=y b o e;rw[dz N]at F;cases F
  exact .inl ⟨C,c,B,_,rfl,(aC n).2,(aC v).2,s,p,dH cm l,w,d,t,x,rfl,rfl,j,A,y.trans cm,E,i,λW u z D r S=>q _ _ z D (.inl (qY k z i ((y.trans cm).trans z) I r S (lW j) (by lia)))⟩
 .exact .inr ⟨C,c,B,_,rfl,(aC n).2,(aC v).2,s,p,dH cm l,m,R,J,g,O,M,Bd,rfl,rfl,k,L,K,G,P,E,q⟩
theorem gS{H:Hp}{a:List Addr}{b:Addr}{o:HO}(f:b∈a):SameT (untrs H a) (untrs (upd H b o) a):=λc u e=>by
 obtain⟨n,d⟩:=aC e;have:untrs (upd H b o) a c=some u:=by rw[aK n,ai (λz=>n (by rw[z];exact f))];exact d
 exact⟨λ_=>this,u,this⟩
theorem rT{H H':Hp}{a:List Addr}{D:Addr}(s:SameT H H')(h:H D=none):SameT (untrs H a) (untrs H' (D::a)):=λc u e=>by
 obtain⟨n,b⟩:=aC e
 have d:c ∉ D::a:=λz=>by
  rcases mem_cons.mp z with z | z
  .rw[z,h]at b;cases b
  .exact n z
 rw[aK d];exact s c u b
theorem sL{H:Hp}{a:List Addr}{D:Addr}:SameT (untrs H (D::a)) (untrs H a):=λc u e=>by
 obtain⟨n,b⟩:=aC e;have:untrs H a c=some u:=by rw[aK (λz=>n (mem_cons_of_mem _ z))];exact b
 exact⟨λ_=>this,u,this⟩
def PartN(a:Ad)(H:Hp)(pt:Int×Tr)(z:V):Prop:=∃ q u,z=.ref q/\H q=some (.tup [.int pt.1,u])/\IsNd a H u pt.2
theorem PartN.t{a:Ad}{H H':Hp}(s:SameT H H')(b:Int×Tr)(z:V)(h:PartN a H b z):PartN a H' b z:=by
 obtain⟨q,u,c,f,d⟩:=h;exact⟨q,u,c,s.at f,d.t s⟩
def zJ(a:Ad):Sp:=λvs H Q _=>∃ v ps Bd,vs=[v]/\Bad H Bd/\IsNd a (untrs H Bd) v (.die ps)/\TabsOk (tabs a) H/\∀ H' D zs,SameT H H'->TabsOk (tabs a) H'->H D=none->H' D=some (.lst zs)->Paired (PartN a (untrs H' Bd)) ps zs->Q (.ref D) H'
section
variable {P:Program}{w:World}{K:Frag}{mg:Str->Option Value}{base:Heap}{a:Ad}
theorem yt(T:Txt K mg a)(hB:Bm mg base):FnOk P w K mg base CX0 12 a.x_E a.y_E ["self"] (zJ a):=by
 have g:LamOk P w K mg base 11 ld_told_make_1 fvT [] (spL a):=LamOk.mono (yY T hB) (by decide);have I:LamOk P w K mg base 11 aH fvC [] (zE a):=AD T hB;refine T.F_E.ok mi (λvs H Q E h=>?_) (λcdv A outer s H vs Q E hr h=>?_)
 .obtain⟨v,L,Bd,rfl,_⟩:=h;rfl
 .obtain⟨v,L,Bd,rfl,as,a6,hT,q⟩:=h
  have ab:sizeLine=16777216:=sizeLine_eq;obtain⟨rs,⟨x,dx,l,F,rfl,hx,hl,r,a9,a'⟩,X⟩:=v5 a6;have rl:rs.length=L.length:=X.length.symm;have an:F.length=rs.length:=r.length.symm;have hx:=(aC hx).2;have hl:=(aC hl).2;refine⟨_,(ak (aw (ba rfl (N:=["many","make"]) (ix:=[none,none]) ⟨rfl,rfl,rfl,rfl,trivial⟩ (aY (ci (vr 0) rfl)) ⟨λC s H fp=>(cO (K:=K) (n:=2) rfl rfl (au (ap (i:=0) (show List.Nodup (["many","make"]:List Str) by decide +kernel) rfl (Or.inl rfl)) (au (ap (i:=1) (show List.Nodup (["many","make"]:List Str) by decide +kernel) rfl (Or.inl rfl)) aZ))),λC s H fp=>bb,λC s H fp=>(bI (aa (vr 0) (aa (PE.or (fM (vr 1) g hr) (fM (vr 1) I hr)) ae)))⟩))),?_⟩;refine⟨x,_,dx,_,_,rfl,hx,T.cl_h,T.na_Die_makes,rfl,.inl ⟨⟨_,SqL.of hl⟩,λD hD=>?_⟩⟩;have ext:∀{d:Hp},TabsOk (tabs a) d->∀{F:List V}{M:List V},d D=some (.lst F)->TabsOk (tabs a) (upd d D (.lst M)):=λa8 F M e=>a8.put (λL z=>by rw[e]at z;cases z) λφ z=>by rw[e]at z;cases z
  let Pw1:PvL:=λi k d=>SameT H d/\TabsOk (tabs a) d/\d D=some (.lst k)/\i<=L.length/\Paired (PartN a (untrs d (D::Bd))) (L.take i) k
  refine aJ (K:=K) (a:=l) (xs:=F) Pw1
   ⟨(Same.new hD).t,hT.same (Same.new hD),ad,Nat.zero_le _,.nil⟩ (λi F d h=>SqL.of (h.1.at hl)) (λi F d h=>h.2.2.1) ?_ ?_
  .rintro i y k d P' hy ⟨J,G,j,hi,S⟩ a7
   obtain⟨⟨R,f⟩,a0,q1,rfl,B,m0⟩:=aG r hy;obtain⟨⟨c,t⟩,O,e9,_,_,al⟩:=aG X a0;have e9:c=R:=e9;subst e9;have B:=(aC B).2;have a4:i<L.length:=(List.getElem?_eq_some_iff.mp O).1
   have p:Bad d (D::Bd):=λb hb=>by
    rcases mem_cons.mp hb with rfl | hb
    .exact⟨_,j⟩
    .exact as.t J b hb
   refine⟨q1,_,rfl,SqT.of (J.at B),rfl,_,_,rfl,_,_,rfl,rfl,trivial,?_⟩;refine wJ (al.t (rT J hD)) p G λH2 u t2 a5 hu=>?_
   have a3:=t2.at j;refine⟨by show 2<=sizeLine;decide,λq2 a2=>?_⟩;have Y:=Same.new (o:=.tup [.int c,u]) a2;have W:=Y _ _ a3;have yl:k.length<=5000:=by rw[<- S.length,length_take];lia
   have a1:=(J.trans t2).trans Y.t;have Z:=(p.t t2).t Y.t;have c3:SameT (untrs H2 (D::Bd)) (untrs (upd (upd H2 q2 (.tup [.int c,u])) D (.lst (k++[.ref q2]))) (D::Bd)):=(cU Y.t).trans (gS mem_cons_self);refine⟨W,by lia,a7 _ _ ⟨a1.put hD,ext (a5.same Y) W,ad,a4,aU (ah (PartN.t ((cU t2).trans c3)) S) O ⟨q2,u,rfl,?_,hu.t c3⟩⟩⟩;exact(gS (o:=.lst (k++[.ref q2])) mem_cons_self).at (cM Z ad (λ_ z=>nomatch z))
  .rintro k d ⟨J,G,j,hi,S⟩
   rw[an,rl,take_length]at S;exact q d D k J G hD j (ah (PartN.t sL) S)
end
end My
namespace L2
open PySem PySem.Spec PyProof.Rows
section
variable {X:Cx}{a b c d:Expr}{ta tb tc td:TE}{pos:Pos}
end
section
variable {X:Cx}{o e:Expr}{es:List Expr}{to:TE}{t:TA}{apos cpos:Pos}
theorem pe_m.extend(h:PE X o to)(f:PA X (e::es) t)(c:attributeBase o "extend" X.env (eval o X.env)=eval o X.env:=by rfl)
  (d:((backTo cpos (starEach (e::es) X.env)).all (λx=>!x.1) && (backToKw cpos (keywordEach [] X.env)).all (λx=>x.1.isSome) && decide ((e::es).length+([]:List Keyword).length+(if ([]:List Keyword).isEmpty then 0 else 1)<30))=true:=by rfl)
  (b:(apos.endLine == cpos.line)=true:=by rfl) (g:starEach (e::es) X.env=(false,eval e X.env)::starEach es X.env:=by rfl) (a:(backTo cpos (starEach es X.env)).any (·.1)=false:=by rfl) :
  PE X (.Call (.Attribute o "extend" apos) (e::es) [] cpos) (tBM X.K "list" p5 to t):=yw F.plainAttrs_list F.slot_list_extend F.type_list_extend rP h f c d b g a
end
end L2
namespace My
open PySem L2 FrM
open Tb (Tr Ent Way bnd gw Dk Dks)
def bd(d:Nat):Nat:=60*(5 - d)+2
def EntR(a:Ad)(H:Hp)(e:Ent)(y:V):Prop:=∃ q v d,y=.ref q/\H q=some (.tup [v,.int e.2.1,.int e.2.2])/\IsNd a H v e.1/\Dk d e.1/\d<=5/\Bt (bd d) e.2.1/\Bt (bd d) e.2.2/\0<e.2.2
theorem EntR.t{a:Ad}{H H':Hp}(s:SameT H H')(e:Ent)(y:V)(h:EntR a H e y):EntR a H' e y:=by
 obtain⟨q,v,d,c,g,f,b⟩:=h;exact⟨q,v,d,c,s.at g,f.t s,b⟩
def WayR(H:Hp)(w:Way)(y:V):Prop:=∃ q kt ct ns,y=.ref q/\H q=some (.tup [.ref kt,.ref ct])/\H kt=some (.tup (ns.map V.int))/\Srt ns w.1/\H ct=some (.tup [.int w.2.1,.int w.2.2])/\Bt 400 w.2.1/\Bt 400 w.2.2/\0<w.2.2
theorem WayR.t{H H':Hp}(s:SameT H H')(w:Way)(y:V)(h:WayR H w y):WayR H' w y:=by
 obtain⟨q,c,f,k,i,b,a,j,g,d⟩:=h;exact⟨q,c,f,k,i,s.at b,s.at a,j,s.at g,d⟩
def RefM(a:Ad)(H:Hp)(E:XK):Prop:=∀ H',SameT H H'->TabsOk (tabs a) H'->E (.ref a.c_C) none H'
def ut(a:Ad):Sp:=λvs H Q E=>∃ v d t,vs=[v]/\IsNd a H v t/\Dk d t/\d<=5/\Tb.Ok t/\TabsOk (tabs a) H/\(Tb.lv t<=4096->∀ H' l zs,SameT H H'->TabsOk (tabs a) H'->H l=none->H' l=some (.lst zs)->Paired (WayR H') (Tb.wl t 1 1) zs->Q (.ref l) H')/\(4096<Tb.lv t->RefM a H E)
theorem zW{a:Ad}{H d:Hp}{E:XK}{c:Addr}(t:SameT H d)(j:TabsOk (tabs a) d)(q:∀ H',SameT H H'->TabsOk (tabs a) H'->E (.ref c) none H'):∀ z,d z=none->∃ x dct φ,V.ref z=.ref x/\(upd d z (.ext (XD0 z c))) x=some (.ext φ)/\(∀ h,φ h->XU x c dct h)/\H x=none/\E (.ref c) dct (untr (upd d z (.ext (XD0 z c))) x):=λz g=>by
 have f:Same d (untr (upd d z (.ext (XD0 z c))) z):=λb o e=>by
  have i:b≠z:=λy=>by rw[y,g]at e;cases e
  rw[aI i,ai i];exact e
 exact⟨z,none,_,rfl,ad,λh y=>y,t.free g,q _ (t.trans f.t) (j.same f)⟩
def cut2(H:Hp)(l m:Addr):Hp:=untrs H [l,m]
theorem gK{H:Hp}{l m b:Addr}{o:HO}(h:cut2 H l m b=some o):b≠l/\b≠m/\H b=some o:=by
 obtain⟨n,e⟩:=aC h;exact⟨λz=>n (by rw[z];simp),λz=>n (by rw[z];simp),e⟩
theorem gW{H:Hp}{l m b:Addr}{o:HO}(a:b≠l)(c:b≠m)(h:H b=some o):cut2 H l m b=some o:=by
 unfold cut2;rw[aK (by simp[a,c])];exact h
theorem SameT.cut2{H H':Hp}{l m:Addr}(s:SameT H H'):SameT (cut2 H l m) (My.cut2 H' l m):=cU s
theorem pK{H:Hp}{l m:Addr}{o:HO}:SameT (cut2 H l m) (cut2 (upd H l o) l m):=gS (by simp)
theorem yI{H:Hp}{l m:Addr}{o:HO}:SameT (cut2 H l m) (cut2 (upd H m o) l m):=gS (by simp)
theorem nZ{H:Hp}{l m:Addr}:SameT (cut2 H l m) H:=cm
theorem zH{H H':Hp}{l m:Addr}(s:SameT H H')(a:H l=none)(d:H m=none):SameT H (cut2 H' l m):=λb o e=>by
 have c:b ∉ [l,m]:=λz=>by
  rcases mem_cons.mp z with z | z
  .rw[z,a]at e;cases e
  .rw[mem_singleton.mp z,d]at e;cases e
 unfold cut2;rw[aK c];exact s b o e
theorem eV{d c:Type}{r:d->c->Prop}:∀{as:List d}{bs:List c},Paired r as bs->bs≠[]->∃ as' a bs' b,as=as'++[a]/\bs=bs'++[b]/\Paired r as' bs'/\r a b
 | _,_,.nil,h=>absurd rfl h
 | _,_,.cons (a:=a) (b:=b) x (.nil),_=>⟨[],_,[],_,rfl,rfl,.nil,x⟩
 | _,_,.cons x (.cons y t),_=>by
  obtain⟨as',a,bs',b,j,f,i,g⟩:=eV (.cons y t) (by simp);exact⟨_::as',a,_::bs',b,by rw[j];rfl,by rw[f];rfl,.cons x i,g⟩
theorem cut_sub{H:Hp}{D:Addr}:SameT (untr H D) H:=λb a e=>by
 by_cases hb:b=D
 .rw[hb,bX]at e;cases e
 .rw[aI hb]at e
  exact SameT.refl b a e
theorem sR{H:Hp}{l m b:Addr}(h:H b=none):cut2 H l m b=none:=by
 cases e:cut2 H l m b with
 | none=>rfl
 | some o=>rw[(gK e).2.2]at h;cases h
theorem vz{H:Hp}{l m D:Addr}{o:HO}:SameT (untr (cut2 H l m) D) (untr (cut2 (upd H D o) l m) D):=λb a e=>by
 by_cases hb:b=D
 .rw[hb,bX]at e;cases e
 .rw[aI hb]at e
  obtain⟨d,c,h⟩:=gK e;have:untr (cut2 (upd H D o) l m) D b=some a:=by rw[aI hb];exact gW d c (by rw[ai hb];exact h)
  exact⟨λ_=>this,a,this⟩
theorem kA{b a:Type}{r:b->a->Prop}{f:List b}{d:List a}(c:Paired r f d):∀{as:List b}{bs:List a},Paired r as bs->Paired r (as++f) (bs++d)
 | _,_,.nil=>c
 | _,_,.cons x t=>.cons x (kA c t)
theorem uY:∀{d:Nat}{ps:List (Int×Tr)},Dks d ps->(ps.length:Int)<=Tb.tot ps/\Tb.tot ps<=(ps.length:Int)*1000000000
 | _,[],_=>by simp[Tb.tot]
 | d,(m,u)::r,h=>by
  rw[Tb.Dks]at h;have c:=uY h.2.2.2;have b:=h.1;have f:=h.2.1;have a:Tb.tot ((m,u)::r)=m+Tb.tot r:=by unfold Tb.tot;rw[map_cons,sum_cons]
  rw[a,length_cons];have e:((r.length+1:Nat):Int)*1000000000=(r.length:Int)*1000000000+1000000000:=by rw[Int.natCast_add,Int.add_mul];simp
  rw[e];show((r.length+1:Nat):Int)<=m+_/\m+_<=_;lia
section
variable {P:Program}{w:World}{K:Frag}{mg:Str->Option Value}{base:Heap}{a:Ad}
theorem wI(T:Txt K mg a)(hB:Bm mg base):FnOk P w K mg base (CXG P w) 14 a.f_L a.d_L ["node"] (ut a):=by
 have dt:FnOk P w K mg base CX0 13 _ _ _ _:=(qS T).mono (by decide);have dL:FnOk P w K mg base CX0 13 _ _ _ _:=(qw T).mono (by decide);have ek:FnOk P w K mg base CX0 13 _ _ _ _:=(ql T).mono (by decide);have d0:FnOk P w K mg base CX0 13 _ _ _ _:=(qa T).mono (by decide);have d5:FnOk P w K mg base CX0 13 _ _ _ _:=(vR T).mono (by decide);have dy:FnOk P w K mg base CX0 13 _ _ _ _:=(uG T).mono (by decide);have eq:FnOk P w K mg base CX0 13 _ _ _ _:=(yD T).mono (by decide);have ef:FnOk P w K mg base CX0 13 _ _ _ _:=(yt T hB).mono (by decide);refine T.F_L.okG sc_L (λvs H Q E h=>?_) (λcdv A outer s H vs Q E hr h=>?_)
 .obtain⟨v,d,t,rfl,_⟩:=h;rfl
 .obtain⟨v,d,t,rfl,hn,d2,hd,dV,hT,q1,q2⟩:=h
  have ej:sizeLine=16777216:=sizeLine_eq;refine⟨_,(aj (aD (i:=1) sc_L.nd rfl (Or.inl rfl) (cq ae)) (aj (aD (i:=2) sc_L.nd rfl (Or.inl rfl) (cq (aa (bI (aa (vr 0) (aa am (aa am ae)))) ae))) (aj (jm oG (jI (vr 2) (λ_=>rfl)) (aj (gx (pe_m.pop (vr 2)) (eh rfl (au (ap (i:=3) sc_L.nd rfl (Or.inl rfl)) (au (ap (i:=4) sc_L.nd rfl (Or.inr rfl)) (au (ap (i:=5) sc_L.nd rfl (Or.inr rfl)) aZ))))) (aj (cK (gN (PE.or (ax (vr 3) T.cl_d T.mt_k dt hr T.B_k .nil ar) (ax (vr 3) T.cl_h T.mt_o dL hr T.B_o .nil ar))) (ak (cN (pe_m.append (vr 1) (aa (bI (aa (PE.or (ax (vr 3) T.cl_d T.mt_n ek hr T.B_n .nil ar) (ax (vr 3) T.cl_h T.mt_p d0 hr T.B_p .nil ar)) (aa (bI (aa (vr 4) (aa (vr 5) ae))) ae))) ae)))) (aj (aD (i:=6) sc_L.nd rfl (Or.inr rfl) (PE.or (ax (vr 3) T.cl_d T.mt_s d5 hr T.B_s .nil ar) (ax (vr 3) T.cl_h T.mt_w dy hr T.B_w .nil ar))) (ak (cN (pe_m.extend (vr 2) (aa (ba rfl (N:=["many","after","top","bottom","sides"]) (ix:=[none,none,some 4,some 5,some 6]) ⟨rfl,rfl,rfl,rfl,⟨rfl,rfl,rfl,⟨rfl,rfl,rfl,⟨rfl,rfl,rfl,trivial⟩⟩⟩⟩ (aY (PE.or (ax (vr 3) T.cl_d T.mt_x eq hr T.B_x .nil ar) (ax (vr 3) T.cl_h T.mt_E ef hr T.B_E .nil ar))) ⟨λC s H fp=>(cO (K:=K) (n:=2) rfl rfl (au (ap (i:=0) (show List.Nodup (["many","after","top","bottom","sides"]:List Str) by decide +kernel) rfl (Or.inl rfl)) (au (ap (i:=1) (show List.Nodup (["many","after","top","bottom","sides"]:List Str) by decide +kernel) rfl (Or.inl rfl)) aZ))),λC s H fp=>bb,λC s H fp=>(bI (aa (vr 1) (aa (ay dU (vr 2) (vr 0)) (aa (ay dU (vr 3) (vr 4)) ae))))⟩) ae)))))) (ak (cK (cE Bz (ay dq (aL cD rfl T.z_len eM (aa (vr 1) ae)) (aL cD rfl T.z_len eM (aa (vr 2) ae))) (gE rfl T.g_MOST_WAYS) (bw _)) (ak (fT T.xc_C T.xh_C (xK T.xi_TooMany T.kc_TooMany rfl T.mc_C))) bK))))) (ak (aw (vr 1)))))),vF ?_⟩;intro eu eH ev;refine⟨Nat.zero_le _,λj a'=>?_⟩;have u1:=Same.new (o:=.lst []) a';refine⟨by show 3<=sizeLine;decide,λq0 ch=>?_⟩;have u2:=Same.new (o:=.tup [v,.int 1,.int 1]) ch;refine⟨by show 1<=sizeLine;decide,λg as=>?_⟩
  have u3:=Same.new (o:=.lst [.ref q0]) as;have b4:=(u1.trans u2).trans u3;have O:=(u2.trans u3) _ _ (ad (H:=H) (a:=j) (o:=.lst []));have cj:=u3 _ _ (ad (H:=upd H j (.lst [])) (a:=q0) (o:=.tup [v,.int 1,.int 1]));have J:=ad (H:=upd (upd H j (.lst [])) q0 (.tup [v,.int 1,.int 1])) (a:=g) (o:=.lst [.ref q0]);have a0:H g=none:=(u1.trans u2).free as;have d3:q0≠g:=λz=>by rw[<- z,ad]at as;cases as
  have ei:q0≠j:=λz=>by rw[z,ad]at ch;cases ch
  have bL:j≠g:=λz=>by rw[<- z,u2 _ _ (ad (H:=H) (a:=j) (o:=.lst []))]at as;cases as
  have cB:Bt (bd d) 1:=(show Bt 2 1 by unfold Bt;decide).mono (by unfold bd;lia)
  let Pw2:PvS:=λc σ X=>∃(s:List Ent) (k:List Way) (ys G:List V) (x3 x4 x5 x6:Option V),c=Tb.stS s/\SameT H X/\TabsOk (tabs a) X/\X g=some (.lst ys)/\X j=some (.lst G)/\Paired (EntR a (cut2 X g j)) s ys/\Paired (WayR (cut2 X g j)) k G/\Tb.Wk t k s/\k.length+s.length<=4096/\σ=[some v,some (.ref j),some (.ref g),x3,x4,x5,x6]
  refine⟨Pw2,
   ⟨_,[(t,(1,1))],[],[.ref q0],[],none,none,none,none,rfl,b4.t,hT.same b4,J,O,.cons ⟨q0,v,d,rfl,gW d3 ei cj,hn.t (zH b4.t a0 a'),d2,hd,cB,cB,Int.zero_lt_one⟩ .nil,.nil,Tb.Wk.start dV,(show 0+1<=4096 by decide),rfl⟩,?_⟩
  clear O cj J;rintro c σ X ⟨s,k,ys,G,x3,x4,x5,x6,rfl,t1,c1,a5,cy,hE,a8,hW,R,rfl⟩;refine⟨_,.inl ⟨_,SqL.of a5,rfl⟩,?_⟩;refine ifB (λhc=>?_) (λhc=>?_)
  .refine⟨_,λ_ _ h=>h,?_⟩
   have ne:ys≠[]:=λz=>by rw[z]at hc;cases hc
   obtain⟨s',e,f,y,rfl,rfl,b6,q,v1,d1,rfl,hq,d6,F,e2,b1,b2,b0⟩:=eV hE ne;obtain⟨u,Z,bt⟩:=e;obtain⟨ep,ey,ds⟩:=gK hq;refine⟨.inl ⟨rfl,_,SqL.of a5⟩,⟨g,_,_,rfl,rfl,a5,by simp;rfl,?_⟩⟩;have ed:(f++[V.ref q]).dropLast=f:=List.dropLast_concat;have t2:SameT H (upd X g (.lst (f++[V.ref q]).dropLast)):=t1.put a0;have cb:TabsOk (tabs a) (upd X g (.lst (f++[V.ref q]).dropLast)):=c1.put (λr z=>by rw[a5]at z;cases z) λφ z=>by rw[a5]at z;cases z
   have S:(upd X g (.lst (f++[V.ref q]).dropLast)) g=some (.lst f):=by rw[ad,ed]
   have M:(upd X g (.lst (f++[V.ref q]).dropLast)) j=some (.lst G):=by rw[ai bL];exact cy
   have dg:(upd X g (.lst (f++[V.ref q]).dropLast)) q=some (.tup [v1,.int Z,.int bt]):=by rw[ai ep];exact ds
   have c2:SameT (cut2 X g j) (cut2 (upd X g (.lst (f++[V.ref q]).dropLast)) g j):=pK;refine⟨q,_,rfl,SqT.of dg,rfl,_,_,rfl,_,_,rfl,_,_,rfl,rfl,?_⟩;generalize upd X g (.lst (f++[V.ref q]).dropLast)=H2 at t2 cb S M dg c2;have co:=ah (EntR.t c2) b6;have bF:=ah (WayR.t c2) a8;have b5:=d6.t c2;cases u with
   | leaf ns =>
    obtain⟨x,dx,kt,dv,rfl,hx,c5,hs⟩:=pS b5;have ab:=(gK hx).2.2;have es:=(gK c5).2.2;refine .inl ⟨x,dx,_,rfl,ab,rfl,_,rfl,?_⟩;refine⟨.inl ⟨rfl,_,SqL.of M⟩,.inl ⟨x,dx,_,rfl,ab,rfl,x,dx,kt,rfl,ab,?_⟩⟩;have br:bd d1<=400:=by unfold bd;lia
    have zl:G.length=k.length:=a8.length.symm;have yl:f.length=s'.length:=b6.length.symm;have cs:k.length+(s'.length+1)<=4096:=by rw[length_append]at R;exact R
    refine⟨by show 2<=sizeLine;decide,λct a3=>?_⟩;have n1:=Same.new (o:=.tup [.int Z,.int bt]) a3;refine⟨by show 2<=sizeLine;decide,λp fp=>?_⟩;have n2:=Same.new (o:=.tup [.ref kt,.ref ct]) fp;have an:=n1.trans n2;have bg:=n2 _ _ (ad (H:=H2) (a:=ct) (o:=.tup [.int Z,.int bt]));have c0:=ad (H:=upd H2 ct (.tup [.int Z,.int bt])) (a:=p) (o:=.tup [.ref kt,.ref ct]);have em:ct≠g:=λz=>by rw[z,S]at a3;cases a3
    have c':ct≠j:=λz=>by rw[z,M]at a3;cases a3
    have dT:p≠g:=λz=>by rw[z,n1 _ _ S]at fp;cases fp
    have c7:p≠j:=λz=>by rw[z,n1 _ _ M]at fp;cases fp
    generalize upd (upd H2 ct (.tup [.int Z,.int bt])) p (.tup [.ref kt,.ref ct])=H4 at an bg c0;have I:=an _ _ M;have B:(upd H4 j (.lst (G++[.ref p]))) g=some (.lst f):=by rw[ai (Ne.symm bL)];exact an _ _ S
    have c4:SameT (cut2 H2 g j) (cut2 (upd H4 j (.lst (G++[.ref p]))) g j):=(SameT.cut2 an.t).trans yI;have c9:TabsOk (tabs a) (upd H4 j (.lst (G++[.ref p]))):=(cb.same an).put (λr z=>by rw[I]at z;cases z) λφ z=>by rw[I]at z;cases z
    have t5:SameT H (upd H4 j (.lst (G++[.ref p]))):=(t2.trans an.t).put a';have bo:=c4.at c5;have bn:cut2 (upd H4 j (.lst (G++[.ref p]))) g j ct=some (.tup [.int Z,.int bt]):=gW em c' (by rw[ai c'];exact bg);have dp:cut2 (upd H4 j (.lst (G++[.ref p]))) g j p=some (.tup [.ref kt,.ref ct]):=gW dT c7 (by rw[ai c7];exact c0);refine⟨j,G,_,rfl,rfl,I,by lia,?_⟩;have W:=ad (H:=H4) (a:=j) (o:=.lst (G++[.ref p]));generalize upd H4 j (.lst (G++[.ref p]))=Y at B c4 c9 t5 bo bn dp W;refine⟨_,.inl (SqL.of W),⟨_,.inl (SqL.of B),?_⟩⟩;have ll:((G++[V.ref p]).length:Int)+(f.length:Int)<=4096:=by rw[length_append,length_singleton];lia
    refine ifC (λz=>absurd (show(4096:Int)<((G++[V.ref p]).length:Int)+(f.length:Int) from z) (by lia)) λ_=>?_
    refine⟨Tb.stS s',?_,s',k++[(ns,(Z,bt))],f,G++[.ref p],_,_,_,_,rfl,t5,c9,B,W,ah (EntR.t c4) co,cP ⟨p,kt,ct,dv,rfl,dp,bo,hs,bn,b1.mono br,b2.mono br,b0⟩ (ah (WayR.t c4) bF),hW.leaf,?_,rfl⟩
    .rw[Tb.stS_app,Tb.stS,Tb.stS,Tb.sz];lia
    .rw[length_append,length_singleton];lia
   | die r =>
    obtain⟨rs,cg,eo⟩:=v5 b5;have a1:=cg.t nZ;obtain⟨x,dx,l,mk,rfl,ab,eR,_⟩:=id a1
    obtain⟨d',rfl⟩:∃ d',d1=d'+1:=by
     cases d1 with
     | zero=>rw[Tb.Dk]at F;exact F.elim
     | succ d'=>exact⟨d',rfl⟩
    rw[Tb.Dk]at F;refine .inr ⟨x,dx,_,rfl,ab,rfl,_,rfl,?_⟩;have cA:Tb.Ok (.die r):=hW.ok _ (mem_append_right _ mem_cons_self);rw[Tb.Ok]at cA;refine .inr ⟨x,dx,_,rfl,ab,rfl,.ref x,rs,rfl,a1,λH3 n3=>?_⟩;rw[xo eo];have J:=n3 _ _ S;have O:=n3 _ _ M;refine⟨.inl ⟨rfl,_,SqL.of J⟩,?_⟩;have ec:=n3 _ _ ab;have et:r.length<=1000:=F.2.1;have d4:∀ p∈r,1<=p.1/\p.1<=1000000000:=λp hp=>let z:=Tb.dk_part F.2.2 hp;⟨z.1,z.2.1⟩
    obtain⟨ex,e1⟩:=uY F.2.2;have t3:=t2.trans n3.t
    have c3:Bad H3 [g,j]:=λb hb=>by
     rcases mem_cons.mp hb with z | z
     .rw[z];exact⟨_,J⟩
     .rw[mem_singleton.mp z];exact⟨_,O⟩
    refine .inr ⟨x,dx,_,rfl,ec,rfl,.ref x,r,[g,j],rfl,c3,b5.t (SameT.cut2 n3.t),cb.same n3,λH4 D zz t4 eb fD hD hP=>?_⟩;have bq:=t4.at J;have I:=t4.at O;have ca:zz.length=r.length:=hP.length.symm;have bS:Bt 43 (Tb.tot r):=by unfold Bt;lia
    have dm:bd (d'+1)+43<=bd d':=by unfold bd;lia
    refine .inl ⟨⟨_,SqL.of hD⟩,λD2 a7=>?_⟩
    let Pw1:PvL:=λi L Y=>i<=r.length/\Same H4 Y/\Y D2=some (.lst L)/\Paired (EntR a (untr (cut2 Y g j) D2)) ((Tb.kids r Z bt (Tb.tot r)).take i) L
    refine aJ (K:=K) (a:=D) (xs:=zz) Pw1 ⟨Nat.zero_le _,Same.new a7,ad,.nil⟩ (λi ys X h=>SqL.of (h.2.1 _ _ hD)) (λi ys X h=>h.2.2.1) ?_ ?_
    .rintro i y L Y P' hy ⟨hi,n5,a9,al⟩ dK
     obtain⟨⟨m,u⟩,a6,qq,un,rfl,b3,en⟩:=aG hP hy;have b3:=(aC b3).2;have dd:=(Tb.dk_part F.2.2 (List.mem_of_getElem? a6)).2.2;have eg:i<r.length:=(List.getElem?_eq_some_iff.mp a6).1;have mp:=d4 _ (List.mem_of_getElem? a6);have bm:Bt 43 m:=by have h1:1<=m:=mp.1;have h2:m<=1000000000:=mp.2;unfold Bt;lia
     have c8:L.length<=5000:=by rw[<- al.length,length_take];unfold Tb.kids;rw[length_map];lia
     refine⟨qq,_,rfl,SqT.of (n5 _ _ b3),rfl,_,_,rfl,_,_,rfl,rfl,⟨rfl,rfl,rfl,trivial⟩,?_⟩;have bl:bd (d'+1)<=400:=by unfold bd;lia
     refine⟨cmB (b1.mono bl) bm,cmB (b2.mono bl) bS,by show 3<=sizeLine;decide,λq3 f3=>?_⟩;have n6:=Same.new (o:=.tup [un,.int (Z*m),.int (bt*Tb.tot r)]) f3;have ea:=n6 _ _ a9;have dr:q3≠D2:=λz=>by rw[z,a9]at f3;cases f3
     have cx:q3≠g:=λz=>by rw[z,n5 _ _ bq]at f3;cases f3
     have df:q3≠j:=λz=>by rw[z,n5 _ _ I]at f3;cases f3
     refine⟨ea,by lia,dK _ _ ⟨eg,(n5.trans n6).put a7,ad,?_⟩⟩;have cc:SameT (untr (cut2 Y g j) D2) (untr (cut2 (upd (upd Y q3 (.tup [un,.int (Z*m),.int (bt*Tb.tot r)])) D2 (.lst (L++[.ref q3]))) g j) D2):=(fk (SameT.cut2 n6.t)).trans vz;have cn:SameT (cut2 H4 g j) (untr (cut2 (upd (upd Y q3 (.tup [un,.int (Z*m),.int (bt*Tb.tot r)])) D2 (.lst (L++[.ref q3]))) g j) D2):=Az (SameT.cut2 ((n5.trans n6).put a7).t) (sR a7);have hk:(Tb.kids r Z bt (Tb.tot r))[i]? = some (u,(Z*m,bt*Tb.tot r)):=by unfold Tb.kids;rw[List.getElem?_map,a6];rfl
     refine aU (ah (EntR.t cc) al) hk ⟨q3,un,d',rfl,?_,en.t cn,dd,by lia,(b1.mul bm).mono dm,(b2.mul bS).mono dm,Int.mul_pos b0 (by lia)⟩;rw[aI dr];exact gW cx df (by rw[ai dr];exact ad)
    .rintro L Y ⟨_,n5,a9,al⟩
     have kl:(Tb.kids r Z bt (Tb.tot r)).length=zz.length:=by unfold Tb.kids;rw[length_map,ca]
     rw[<- kl,take_length]at al;have c8:L.length=r.length:=by rw[<- al.length,kl,ca]
     have yl:f.length=s'.length:=b6.length.symm;have zl:G.length=k.length:=a8.length.symm;have cs:k.length+(s'.length+1)<=4096:=by rw[length_append]at R;exact R
     have B:=n5 _ _ bq;have W:=n5 _ _ I;refine⟨g,D2,f,L,rfl,rfl,B,a9,by lia,?_⟩;have t6:SameT H (upd Y g (.lst (f++L))):=((t3.trans t4).trans n5.t).put a0;have b':TabsOk (tabs a) (upd Y g (.lst (f++L))):=(eb.same n5).put (λr z=>by rw[B]at z;cases z) λφ z=>by rw[B]at z;cases z
     have a4:=ad (H:=Y) (a:=g) (o:=.lst (f++L));have a2:(upd Y g (.lst (f++L))) j=some (.lst G):=by rw[ai bL];exact W
     have c6:SameT (cut2 H2 g j) (cut2 (upd Y g (.lst (f++L))) g j):=(SameT.cut2 ((n3.t.trans t4).trans n5.t)).trans pK;have k6:SameT (untr (cut2 Y g j) D2) (cut2 (upd Y g (.lst (f++L))) g j):=cut_sub.trans pK;generalize upd Y g (.lst (f++L))=H6 at t6 b' a4 a2 c6 k6;have de:=hW.die;refine⟨_,.inl (SqL.of a2),⟨_,.inl (SqL.of a4),?_⟩⟩;have eS:(Tb.kids r Z bt (Tb.tot r)).length=L.length:=by rw[kl,ca,c8]
     refine ifC (λz=>?_) λz=>?_
     .have z:(4096:Int)<(G.length:Int)+((f++L).length:Int):=z
      have:=de.few;rw[length_append]at this z;exact zW t6 b' (q2 (by lia))
     .have z:¬(4096:Int)<(G.length:Int)+((f++L).length:Int):=z
      rw[length_append]at z;refine⟨_,?_,s'++Tb.kids r Z bt (Tb.tot r),k,f++L,G,_,_,_,_,rfl,t6,b',a4,a2,kA (ah (EntR.t k6) al) (ah (EntR.t c6) co),ah (WayR.t c6) bF,de,?_,rfl⟩
      .rw[Tb.stS_app,Tb.stS_app,Tb.stS_kids,Tb.stS,Tb.stS,Tb.sz];lia
      .rw[length_append];lia
  .have e0:ys=[]:=List.isEmpty_iff.mp (by simpa using hc)
   subst e0;cases hE;have ew:=hW.done;have el:Tb.lv t<=4096:=by rw[<- Tb.wl_len t 1 1,<- ew];simpa using R
   refine q1 el _ j G t1 c1 a' cy ?_;rw[<- ew];exact ah (WayR.t nZ) a8
end
end My
namespace My
open PySem L2 FrM Du
open Tb (Tr Ent Way Rws Ch Lm2)
def AB:Sp:=λ_ _ _ _=>False
inductive spGcd(vs:List V)(H:Hp)(Q:VK)(_E:XK):Prop
 | mk(x y:Int)(h0:vs=[.int x,.int y])(h1:0<=x)(h2:0<=y)(h3:Q (.int (Int.gcd x y)) H):spGcd vs H Q _E
def Cd(H:Hp)(Q:VK)(T B:Int):Prop:=∀ H' p,Same H H'->H' p=some (.tup [.int (jT T B).1,.int (jT T B).2])->Q (.ref p) H'
inductive spLow(vs:List V)(H:Hp)(Q:VK)(_E:XK):Prop
 | mk(T B:Int)(h0:vs=[.int T,.int B])(h1:0<B)(h2:Bt 6000 T)(h3:Bt 6000 B)(h4:Cd H Q T B):spLow vs H Q _E
def PT(K:Frag)(H:Hp)(p:Addr)(f:Int×Int):Prop:=H p=some (.tup [.int f.1,.int f.2])\/wq K p [.int f.1,.int f.2]=true
theorem PT.sq{K:Frag}{H:Hp}{p:Addr}{f:Int×Int}(h:PT K H p f):SqT K H p [.int f.1,.int f.2]:=h.elim SqT.of za
def IsF(K:Frag)(H:Hp)(f:Int×Int)(x:V):Prop:=∃ p,x=.ref p/\PT K H p f
theorem IsF.tk{K:Frag}{H H':Hp}{f:Int×Int}{x:V}(k:TK H H')(h:IsF K H f x):IsF K H' f x:=let ⟨p,e,q⟩:=h;⟨p,e,q.imp (λz=>k _ _ z) id⟩
abbrev AllF(K:Frag)(H:Hp):List (Int×Int)->List V->Prop:=PySem.Paired (IsF K H)
theorem IsF.same{K:Frag}{H H':Hp}{f:Int×Int}{x:V}(s:Same H H')(h:IsF K H f x):IsF K H' f x:=h.tk s.tk
theorem AllF.tk{K:Frag}{H H':Hp}(k:TK H H'):∀{fs:List (Int×Int)}{xs:List V},AllF K H fs xs->AllF K H' fs xs
 | _,_,.nil=>.nil
 | _,_,.cons r t=>.cons (r.tk k) (AllF.tk k t)
theorem AllF.get{K:Frag}{H:Hp}:∀{fs:List (Int×Int)}{xs:List V}{i:Nat}{x:V},AllF K H fs xs->xs[i]? = some x->∃ f,fs[i]? = some f/\IsF K H f x
 | _,_,_,_,.nil,h=>by cases h
 | _,_,0,_,.cons r _,h=>⟨_,rfl,by cases h;exact r⟩
 | _,_,i+1,_,.cons _ t,h=>AllF.get (i:=i) t h
theorem AllF.snoc{K:Frag}{H:Hp}{f:Int×Int}{x:V}(r:IsF K H f x):∀{fs:List (Int×Int)}{xs:List V},AllF K H fs xs->AllF K H (fs++[f]) (xs++[x])
 | _,_,.nil=>.cons r .nil
 | _,_,.cons q t=>.cons q (AllF.snoc r t)
theorem AllF.len{K:Frag}{H:Hp}{fs:List (Int×Int)}{xs:List V}(h:AllF K H fs xs):fs.length=xs.length:=Paired.length h
theorem xU(T B:Int):Int.gcd (if T<0 then -T else T) B=Int.gcd T B:=by
 split
 .exact Int.neg_gcd
 .rfl
theorem px0{K:Frag}{H:Hp}{p:Addr}{x y:V}{Q:VK}(h:SqT K H p [x,y])(q:Q x H):rIx K (.ref p) (.int 0) H Q:=.inr (.inl ⟨p,_,_,x,rfl,rfl,h,gL (j:=0) rfl,q⟩)
theorem px1{K:Frag}{H:Hp}{p:Addr}{x y:V}{Q:VK}(h:SqT K H p [x,y])(q:Q y H):rIx K (.ref p) (.int 1) H Q:=.inr (.inl ⟨p,_,_,y,rfl,rfl,h,gL (j:=1) rfl,q⟩)
abbrev IsQ(K:Frag)(H:Hp)(q:Rat)(x:V):Prop:=IsF K H (fr q) x
inductive spLcm(K:Frag)(vs:List V)(H:Hp)(Q:VK)(_E:XK):Prop
 | mk(l:Addr)(ns:List Int)(D:Nat)(h0:vs=[.ref l])(h1:SqL K H l (ns.map V.int))(h2:0<D)(h3:D<=Lm2)(h4:(∀ n∈ns,0<n/\n ∣ (D:Int)))(h5:∀ r,0<r->r ∣ (D:Int)->(∀ n∈ns,n ∣ r)->Q (.int r) H):spLcm K vs H Q _E
inductive spTotal(K:Frag)(vs:List V)(H:Hp)(Q:VK)(_E:XK):Prop
 | mk(l:Addr)(fs:List (Int×Int))(xs:List V)(D:Nat)(h0:vs=[.ref l])(h1:H l=some (.lst xs))(h2:AllF K H fs xs)(h3:xs.length<=5000)(h4:0<D)(h5:D<=Lm2)(h6:(∀ f∈fs,Ch (D:Int) f))(h7:∀ H' z,Same H H'->IsQ K H' (Tb.sumQ fs) z->Q z H'):spTotal K vs H Q _E
theorem uB{L:Int}:∀{xs:List Int},(∀ x∈xs,0<=x/\x<=L)->0<=xs.sum/\xs.sum<=(xs.length:Int)*L
 | [],_=>by simp
 | x::xs,h=>by
  have b:=uB λy a=>h y (mem_cons_of_mem _ a)
  have c:=h x mem_cons_self;rw[sum_cons,length_cons];have e:((xs.length+1:Nat):Int)*L=(xs.length:Int)*L+L:=by rw[Int.natCast_add,Int.add_mul];simp
  rw[e];lia
theorem zh{L t b:Int}(i:0<L)(g:0<=t)(h:t<=b)(f:0<b)(d:b ∣ L):0<=t*(L/b)/\t*(L/b)<=L:=by
 obtain⟨c,rfl⟩:=d;rw[Int.mul_ediv_cancel_left c (by lia)]
 have a:0<=c:=by
  rcases Int.lt_or_le c 0 with z | z
  .have:=Int.mul_neg_of_pos_of_neg f z;lia
  .exact z
 exact⟨Int.mul_nonneg g a,Int.mul_le_mul_of_nonneg_right h a⟩
theorem BK{D n:Nat}{i:Int}(d:D<=Lm2)(f:n<=5000)(j:0<=i)(h:i<=(n:Int)*(D:Int)):Bt 2800 i:=by
 unfold Bt;have g:(n:Int)*(D:Int)<=5000*(Lm2:Nat):=Int.mul_le_mul (by lia) (by lia) (by lia) (by lia);have b:i.natAbs<=5000*Lm2:=by lia
 have a:5000*Lm2<2 ^ 13*Lm2:=Nat.mul_lt_mul_of_pos_right (by decide) (by unfold Lm2;exact Nat.pow_pos (by decide));have c:2 ^ 13*Lm2<=2 ^ 2800:=by unfold Lm2;rw[<- Nat.pow_add];exact Nat.pow_le_pow_right (by decide) (by decide)
 exact Nat.lt_of_le_of_lt b (Nat.lt_of_lt_of_le a c)
section
variable {P:Program}{w:World}{K:Frag}{mg:Str->Option Value}{base:Heap}{a:Ad}
theorem AG{k:Nat}{f:Addr}{a:FuncData}{ps:List Str}:FnOk P w K mg base CX0 k f a ps AB:=⟨λ_ _ _ _ h=>h.elim,λ_ _ _ _ _ _ _ _ _ _ _ _ _ h=>h.elim⟩
theorem vq(T:Txt K mg a):FnOk P w K mg base CX0 1 a.f_j a.d_j ["one","other"] spGcd:=by
 refine T.F_j.ok sc_j (λu H Q E h=>?_) (λcdv A outer s H u Q E hr h=>?_)
 .obtain⟨x,y,rfl,_⟩:=h;rfl
 .obtain⟨k,l,rfl,z,v,q⟩:=h
  refine⟨_,(aj (jm PassesOwn.never (jI (vr 1) (λ_=>rfl)) (ak (Ae rfl sc_j.nd (i:=0) (j:=1) rfl rfl (by decide) rfl rfl (aa (vr 1) (aa (ay dY (vr 0) (vr 1)) ae)) rfl))) (ak (aw (vr 0)))),jK ?_⟩;intro p;refine⟨λm n g=>g=H/\∃ x y:Int,0<=x/\0<=y/\m=y.toNat/\Int.gcd x y=Int.gcd k l/\n=[some (.int x),some (.int y)],⟨_,rfl,k,l,z,v,rfl,rfl,rfl⟩,?_⟩;rintro m n g ⟨rfl,x,y,B,r,rfl,o,rfl⟩;refine⟨_,rfl,?_⟩;refine ifB (λc=>?_) (λc=>?_)
  .have f:y≠0:=by simpa using c
   let Pw4:St->Hp->Prop:=λd b=>b=g/\d=[some (.int y),some (.int (x % y))]
   refine⟨Pw4,?_,?_⟩
   .rintro d b ⟨rfl,rfl⟩
    exact⟨(x % y).toNat,by have:=Int.emod_lt_of_pos x (show 0<y by lia);have:=Int.emod_nonneg x f;lia,rfl,y,x % y,r,Int.emod_nonneg x f,rfl,by rw[wd,o],rfl⟩
   .exact⟨cp (by lia),_,_,rfl,rfl,rfl⟩
  .have f:y=0:=by simpa using c
   subst f;rw[Int.gcd_zero_right]at o;have:x=(Int.gcd k l:Int):=by lia
   rw[<- this]at q;exact q
theorem fJ(T:Txt K mg a):FnOk P w K mg base CX0 2 a.f_G a.d_G ["top","bottom"] spLow:=by
 have d:FnOk P w K mg base CX0 1 a.f_G a.d_G ["top","bottom"] AB:=AG;have f:FnOk P w K mg base CX0 1 _ _ _ spGcd:=vq T;refine T.F_G.ok sc_G (λl H Q E h=>?_) (λcdv A outer s H l Q E hr h=>?_)
 .obtain⟨x,y,rfl,_⟩:=h;rfl
 .obtain⟨t,b,rfl,n,D,o,q⟩:=h
  refine⟨_,(aj (cK (cE xb (vr 1) am (bw _)) (ak (aw (aq d hr rfl T.m_G T.F_G.kp T.B_G .nil ar (aa (iF iC (vr 0)) (aa (iF iC (vr 1)) ae))))) bK) (aj (aD (i:=2) sc_G.nd rfl (Or.inl rfl) (aq f hr rfl T.m_j T.F_j.kp T.B_j .nil ar (aa (aL uh rfl T.z_abs zw (aa (vr 0) ae)) (aa (vr 1) ae)))) (ak (aw (bI (aa (ay fV (vr 0) (vr 2)) (aa (ay fV (vr 1) (vr 2)) ae))))))),eQ ?_⟩;intro u k;obtain⟨g,v,C,z,B⟩:=low t b n;refine ifC (λc=>absurd c (by lia)) (λ_=>?_);refine⟨t,rfl,⟨_,_,rfl,by split <;> lia,by lia,?_⟩⟩;rw[xU];have j:Bt 6000 (Int.gcd t b:Int):=o.le (by lia);refine⟨cdB g j,cdB g j,cT _ _,λp r=>?_⟩;exact q _ p (Same.new r) ad
theorem vE(T:Txt K mg a):FnOk P w K mg base CX0 2 a.f_l a.d_l ["numbers"] (spLcm K):=by
 have z:FnOk P w K mg base CX0 1 _ _ _ spGcd:=vq T;refine T.F_l.ok sc_l (λI H Q E h=>?_) (λcdv A outer s H I Q E hr h=>?_)
 .obtain⟨l,g,D,rfl,_⟩:=h;rfl
 .obtain⟨l,g,D,rfl,B,y,d,v,q⟩:=h
  refine⟨_,(aj (aD (i:=1) sc_l.nd rfl (Or.inl rfl) am) (aj (cV PassesOwn.never rfl (aY (vr 0)) (ap (i:=2) sc_l.nd rfl (Or.inl rfl)) (ak (aD (i:=1) sc_l.nd rfl (Or.inl rfl) (ay dU (ay fV (vr 1) (aq z hr rfl T.m_j T.F_j.kp T.B_j .nil ar (aa (vr 1) (aa (vr 2) ae)))) (vr 2))))) (ak (aw (vr 1))))),eQ ?_⟩;intro S ab
  let Pw1:PvS:=λi o p=>p=H/\∃(r:Int) (x:Option V),o=[some (.ref l),some (.int r),x]/\0<r/\r ∣ (D:Int)/\∀ n∈g.take i,n ∣ r
  refine .inl ⟨⟨_,B⟩,dC (K:=K) (a:=l) (xs:=g.map V.int) Pw1 ⟨rfl,1,none,rfl,by lia,Int.one_dvd _,(λn j=>by cases j)⟩ (λi o p _ h=>by rw[h.1];exact B) ?_ ?_⟩
  .rintro i x o p f ⟨rfl,r,L,rfl,u,c,k⟩
   rw[List.getElem?_map]at f
   obtain⟨n,j,rfl⟩:∃ n,g[i]? = some n/\V.int n=x:=by
    cases e:g[i]? with
    | none=>rw[e]at f;cases f
    | some n=>rw[e]at f;cases f;exact⟨n,rfl,rfl⟩
   obtain⟨F,C⟩:=v n (List.mem_of_getElem? j);obtain⟨O,Y,R,Z⟩:=Tb.lcm_step u F c C;have g0:0<Int.gcd r n:=Int.gcd_pos_of_ne_zero_right _ (by lia);have W:(Int.gcd r n:Int)<=n:=Int.le_of_dvd F (Int.gcd_dvd_right (a:=r) (b:=n));have M:=Int.le_of_dvd (by lia) C;have G:=Int.le_of_dvd (by lia) c;have X:=Tb.bt_of (i:=(Int.gcd r n:Int)) y d (by lia) (by lia);have N:=Tb.bt_of (i:=n) y d (by lia) M;have J:=Tb.bt_of (i:=r/(Int.gcd r n:Int)) y d (Int.ediv_nonneg (by lia) (by lia)) (Int.le_trans (Int.ediv_le_self _ (by lia)) G);refine⟨r,n,rfl,by lia,by lia,?_⟩;refine⟨cdB (by lia) X,?_⟩;refine⟨cmB J N,rfl,_,_,rfl,O,Z,λm hm=>?_⟩;rw[take_add_one,j]at hm
   rcases mem_append.mp hm with hm | hm
   .exact Int.dvd_trans (k m hm) Y
   .have:m=n:=by simpa using hm
    rw[this];exact R
  .rintro o p ⟨rfl,r,L,rfl,u,c,k⟩
   refine q r u c ?_;rw[length_map,take_length]at k;exact k
theorem uw(T:Txt K mg a):FnOk P w K mg base CX0 3 a.f_ac a.d_ac ["fractions"] (spTotal K):=by
 have ab:FnOk P w K mg base CX0 2 _ _ _ (spLcm K):=vE T;have X:FnOk P w K mg base CX0 2 _ _ _ spLow:=fJ T;refine T.F_ac.ok sc_ac (λvs H Q E h=>?_) (λcdv A outer s H vs Q E hr h=>?_)
 .obtain⟨l,d,xs,D,rfl,_⟩:=h;rfl
 .obtain⟨l,d,xs,D,rfl,M,hF,an,R,k,g,q⟩:=h
  have S:sizeLine=16777216:=sizeLine_eq;have fl:d.length=xs.length:=hF.len;refine⟨_,(aj (aD (i:=1) sc_ac.nd rfl (Or.inr rfl) (aq ab hr rfl T.m_l T.F_l.kp T.B_l .nil ar (aa (ba rfl (N:=["fraction"]) (ix:=[none]) ⟨rfl,rfl,rfl,rfl,trivial⟩ (aY (vr 0)) ⟨λC s H L=>ap (i:=0) (show List.Nodup (["fraction"]:List Str) by decide +kernel) rfl (Or.inl rfl),λC s H L=>bb,λC s H L=>(cF (iW (K:=K) rfl) (vr 0) am (λ_ _=>rfl))⟩) ae))) (ak (aw (aq X hr rfl T.m_G T.F_G.kp T.B_G .nil ar (aa (aL (iu rfl) rfl T.z_sum oE (aa (ba rfl (N:=["top","own","bottom"]) (ix:=[none,none,some 1]) ⟨rfl,rfl,rfl,rfl,⟨rfl,rfl,rfl,trivial⟩⟩ (aY (vr 0)) ⟨λC s H L=>(cO (K:=K) (n:=2) rfl rfl (au (ap (i:=0) (show List.Nodup (["top","own","bottom"]:List Str) by decide +kernel) rfl (Or.inl rfl)) (au (ap (i:=1) (show List.Nodup (["top","own","bottom"]:List Str) by decide +kernel) rfl (Or.inl rfl)) aZ))),λC s H L=>bb,λC s H L=>(ay dU (vr 0) (ay fV (vr 2) (vr 1)))⟩) ae)) (aa (vr 1) ae)))))),jK ?_⟩;intro as;refine .inl ⟨⟨_,SqL.of M⟩,λD1 J=>?_⟩
  let Pw2:PvL:=λi u j=>Same H j/\j D1=some (.lst u)/\i<=d.length/\u=((d.take i).map (·.2)).map V.int
  refine aJ (K:=K) (a:=l) (xs:=xs) Pw2 ⟨Same.new J,ad,Nat.zero_le _,rfl⟩ (λi Y j h=>SqL.of (h.1 _ _ M)) (λi Y j h=>h.2.1) ?_ ?_
  .rintro i y u j P' hy ⟨B,v,hi,rfl⟩ G
   obtain⟨⟨t,b⟩,c,p,rfl,hp⟩:=hF.get hy;have F:i<d.length:=(List.getElem?_eq_some_iff.mp c).1;refine⟨trivial,px1 (IsF.same B ⟨p,rfl,hp⟩ |> λ⟨_,e,z⟩=>by cases e;exact z.sq) ⟨v,by rw[length_map,length_map,length_take];lia,G _ _ ⟨B.put J,ad,F,?_⟩⟩⟩;rw[take_add_one,c];simp
  rintro u H1 ⟨B,v,_,rfl⟩;rw[<- fl,take_length]at v;refine⟨D1,d.map (·.2),D,rfl,SqL.of v,R,k,λn hn=>?_,λr r1 hr9 hrn=>?_⟩
  .obtain⟨f,c,rfl⟩:=mem_map.mp hn
   exact⟨(g f c).b0,(g f c).dv⟩
  have W:=Int.le_of_dvd (show(0:Int)<(D:Int) by lia) hr9;have dr:∀ f∈d,f.2 ∣ r:=λf c=>hrn _ (mem_map.mpr ⟨f,c,rfl⟩)
  refine .inl ⟨⟨_,SqL.of (B _ _ M)⟩,λD3 I=>?_⟩
  let Pw3:PvL:=λi u j=>Same H1 j/\j D3=some (.lst u)/\i<=d.length/\u=((d.take i).map λf=>f.1*(r/f.2)).map V.int
  refine aJ (K:=K) (a:=l) (xs:=xs) Pw3 ⟨Same.new I,ad,Nat.zero_le _,rfl⟩ (λi Y j h=>SqL.of (h.1 _ _ (B _ _ M))) (λi Y j h=>h.2.1) ?_ ?_
  .rintro i y u j P' hy ⟨O,o,hi,rfl⟩ G
   obtain⟨⟨t,b⟩,c,p,rfl,hp⟩:=hF.get hy;have F:i<d.length:=(List.getElem?_eq_some_iff.mp c).1;have hc:=g _ (List.mem_of_getElem? c);obtain⟨b1,b2⟩:=Tb.ch_bt R k hc;have b0:0<b:=hc.b0
   have al:SqT K j p [.int t,.int b]:=by
    obtain⟨_,e,z⟩:=IsF.same (B.trans O) (x:=.ref p) ⟨p,rfl,hp⟩;cases e;exact z.sq
   have br:=Tb.bt_of (i:=r/b) R k (Int.ediv_nonneg (by lia) (by lia)) (Int.le_trans (Int.ediv_le_self _ (by lia)) W);refine⟨p,_,rfl,al,rfl,_,_,rfl,_,_,rfl,rfl,⟨rfl,trivial⟩,cdB b0 b2,cmB b1 br,o,by rw[length_map,length_map,length_take];lia,G _ _ ⟨O.put I,ad,F,?_⟩⟩;rw[take_add_one,c];simp
  rintro u H2 ⟨O,o,_,rfl⟩;rw[<- fl,take_length]at o;refine⟨D3,_,rfl,SqL.of o,?_⟩
  have sb:0<=(d.map λf=>f.1*(r/f.2)).sum/\(d.map λf=>f.1*(r/f.2)).sum<=((d.map λf=>f.1*(r/f.2)).length:Int)*r:=uB λx hx=>by
   obtain⟨f,c,rfl⟩:=mem_map.mp hx;exact zh r1 (g f c).t0 (g f c).le (g f c).b0 (dr f c)
  rw[length_map]at sb;have sD:(d.map λf=>f.1*(r/f.2)).sum<=(d.length:Int)*(D:Int):=Int.le_trans sb.2 (Int.mul_le_mul_of_nonneg_left W (by lia));refine⟨_,_,rfl,r1,(BK k (by lia) sb.1 sD).mono (by decide),(Tb.bt_of R k (by lia) W).mono (by decide),λH3 p s3 Z=>q _ _ ((B.trans O).trans s3) ⟨p,rfl,.inl ?_⟩⟩;rw[Z,Tb.low_tops r1 (Tb.top_sum r1 λf c=>⟨(g f c).b0,dr f c⟩)]
end
end My
namespace My
open PySem L2 FrM Du LexM
open Tb (Tr Ent Way Rws Ch Lm2 Grp bnd gw Dk Dks)
theorem cZ{x y:List Int}(h:x.map (Sum.inl:Int->Key)=y.map Sum.inl):x=y:=by
 have:=congrArg (List.map λk:Key=>match k with | .inl i=>i | .inr _=>0) h;rw[map_map,map_map]at this
 have e:∀ l:List Int,l.map ((λk:Key=>match k with | .inl i=>i | .inr _=>0) ∘ Sum.inl)=l:=λl=>by
  induction l with
  | nil=>rfl
  | cons a l ih=>rw[map_cons,ih];rfl
 rw[e,e]at this;exact this
def GrR(K:Frag)(H1 H:Hp)(x:List Int×List (Int×Int))(kv:List Key×V):Prop:=kv.1=x.1.map Sum.inl/\∃ l ys,kv.2=.ref l/\H1 l=none/\H l=some (.lst ys)/\AllF K H1 x.2 ys
theorem GrR.m{K:Frag}{a H H':Hp}(h:∀ l ys,H l=some (.lst ys)->H' l=some (.lst ys))(x:List Int×List (Int×Int))(b:List Key×V)(g:GrR K a H x b):GrR K a H' x b:=by
 obtain⟨e,l,ys,f,d,c,i⟩:=g;exact⟨e,l,ys,f,d,h _ _ c,i⟩
theorem AF{K:Frag}{c H:Hp}{l:Addr}{ys:List V}{g:Grp}{a:List (List Key×V)}(h:Paired (GrR K c H) g a)(n:V.ref l ∉ a.map (·.2)):Paired (GrR K c (upd H l (.lst ys))) g a:=by
 induction h with
 | nil=>exact .nil
 | @cons x kv g a r t ih =>
  rw[map_cons,mem_cons,not_or]at n;obtain⟨e,j,b,d,i,f,k⟩:=r;refine .cons ⟨e,j,b,d,i,?_,k⟩ (ih n.2);rw[ai (λz=>n.1 (by rw[d,z]))];exact f
theorem yK{K:Frag}{n H:Hp}{k:List Int}{c:Int×Int}{v:V}{g:Grp}{a:List (List Key×V)}(h:Paired (GrR K n H) g a)(i:(a.map (·.2)).Nodup)(b:cH a (k.map Sum.inl)=some v) :
  ∃ x l ys,x∈g/\v=.ref l/\n l=none/\H l=some (.lst ys)/\ys.length=x.2.length/\∀ ct,IsF K n c ct->Paired (GrR K n (upd H l (.lst (ys++[ct])))) (Tb.pushG k c g) a:=by
 induction h with
 | nil=>cases b
 | @cons x j g a r t ih =>
  obtain⟨e,l,ys,f,q,s,p⟩:=r;rw[map_cons,nodup_cons]at i
  by_cases z:x.1=k
  .rw[bu (by rw[e,z])]at b
   have b:j.2=v:=Option.some.inj b;refine⟨x,l,ys,mem_cons_self,by rw[<- b,f],q,s,p.len.symm,λct d=>?_⟩;rw[Tb.pushG,if_pos z];rw[f]at i;exact .cons ⟨by show j.1=k.map Sum.inl;rw[e,z],l,ys++[ct],f,q,ad,p.snoc d⟩ (AF t i.1)
  .rw[bv (λy=>z (cZ (e.symm.trans y)))]at b
   obtain⟨G,E,o,B,u,A,D,w,F⟩:=ih i.2 b;refine⟨G,E,o,mem_cons_of_mem _ B,u,A,D,w,λct d=>?_⟩;rw[Tb.pushG,if_neg z];refine .cons ⟨e,l,ys,f,q,?_,p⟩ (F ct d)
   have C:v∈a.map (·.2):=by
    unfold cH at b;cases hf:a.find? (λj=>decide (j.1=k.map Sum.inl)) with
    | none=>rw[hf]at b;cases b
    | some y =>
     rw[hf]at b;have:y.2=v:=Option.some.inj b;exact mem_map.mpr ⟨y,List.mem_of_find?_eq_some hf,this⟩
   rw[ai (λy=>i.1 (by rw[f,y,<- u];exact C))];exact s
theorem zy{K:Frag}{d H:Hp}{k:List Int}{c:Int×Int}{D:Addr}{f:V}{g:Grp}{a:List (List Key×V)}(h:Paired (GrR K d H) g a)(b:cH a (k.map Sum.inl)=none)(l:d D=none)(j:H D=some (.lst [f]))(i:IsF K d c f):Paired (GrR K d H) (Tb.pushG k c g) (a++[(k.map Sum.inl,.ref D)]):=by
 induction h with
 | nil=>exact .cons ⟨rfl,D,[f],rfl,l,j,.cons i .nil⟩ .nil
 | @cons x kv g a r t ih =>
  have z:¬x.1=k:=λz=>by rw[bu (by rw[r.1,z])]at b;cases b
  rw[bv (λy=>z (cZ (r.1.symm.trans y)))]at b;rw[Tb.pushG,if_neg z];exact .cons r (ih b)
theorem wV{K:Frag}{b H:Hp}{g:Grp}{a:List (List Key×V)}(h:Paired (GrR K b H) g a):a.map (·.1)=(g.map (·.1)).map λx=>x.map Sum.inl:=by
 induction h with
 | nil=>rfl
 | cons r _ ih=>rw[map_cons,map_cons,map_cons,ih,r.1]
theorem Bw{K:Frag}{f H:Hp}{g:Grp}{a:List (List Key×V)}(h:Paired (GrR K f H) g a)(d:(g.map (·.1)).Nodup){i:Nat}{x:List Int×List (Int×Int)}(b:g[i]? = some x):∃ l ys,cH a (x.1.map Sum.inl)=some (.ref l)/\H l=some (.lst ys)/\AllF K f x.2 ys:=by
 induction h generalizing i with
 | nil=>cases b
 | @cons x' kv g a r t ih =>
  rw[map_cons,nodup_cons]at d;obtain⟨e,l,ys,p,u,j,s⟩:=r;cases i with
  | zero =>
   cases b;exact⟨l,ys,by rw[bu e,p],j,s⟩
  | succ i =>
   obtain⟨o,c,q,k,n⟩:=ih d.2 (i:=i) b;refine⟨o,c,?_,k,n⟩;rw[bv,q];intro y;have:=cZ (e.symm.trans y);exact d.1 (by rw[this];exact mem_map.mpr ⟨x,List.mem_of_getElem? b,rfl⟩)
def RowR(K:Frag)(H:Hp)(x:List Int×Rat)(y:V):Prop:=∃ p kt z,y=.ref p/\H p=some (.tup [.ref kt,z])/\H kt=some (.tup (x.1.map V.int))/\IsQ K H x.2 z
theorem RowR.tk{K:Frag}{H H':Hp}(s:TK H H')(x:List Int×Rat)(y:V)(h:RowR K H x y):RowR K H' x y:=by
 obtain⟨p,f,z,c,b,a,d⟩:=h;exact⟨p,f,z,c,s _ _ b,s _ _ a,d.tk s⟩
def jg(a:Ad)(K:Frag):Sp:=λvs H Q E=>∃ v d t,∃ D:Nat,vs=[v]/\IsNd a H v t/\Dk d t/\d<=5/\Tb.Ok t/\Tb.lv t<64/\0<D/\D<=Lm2/\(∀ w∈Tb.wl t 1 1,Ch (D:Int) w.2)/\TabsOk (tabs a) H/\(Tb.lv t<=4096->∀ H' l R ys,SameT H H'->TabsOk (tabs a) H'->H l=none->H' l=some (.lst ys)->Paired (RowR K H') R ys->Tb.IsTab (Tb.toR (Tb.kW (Tb.wl t 1 1))) R->ys.length<=4096->Q (.ref l) H')/\(4096<Tb.lv t->RefM a H E)
theorem RefM.t{a:Ad}{H H':Hp}{E:XK}(s:SameT H H')(h:RefM a H E):RefM a H' E:=λb t=>h b (s.trans t)
section
variable {P:Program}{w:World}{K:Frag}{mg:Str->Option Value}{base:Heap}{a:Ad}
theorem oo(T:Txt K mg a)(hB:Bm mg base):FnOk P w K mg base (CXG P w) 15 a.f_M a.d_M ["node"] (jg a K):=by
 have b4:FnOk P w K mg base (CXG P w) 14 _ _ _ (ut a):=wI T hB;have bL:FnOk P w K mg base CX0 14 _ _ _ _:=(uw T).mono (by decide);refine T.F_M.okG sc_M (λvs H Q E h=>?_) (λcdv A outer s H vs Q E hr h=>?_)
 .obtain⟨v,d,t,D9,rfl,_⟩:=h;rfl
 .obtain⟨v,d,t,D9,rfl,hn,cA,hd,ch,c',Dp,b6,a1,hT,q1,q2⟩:=h
  have c4:sizeLine=16777216:=sizeLine_eq;refine⟨_,(aj (aD (i:=1) sc_M.nd rfl (Or.inr rfl) jY) (aj (cV oG rfl (aY (aq b4 hr rfl T.m_L T.F_L.kp T.B_L .nil tN (aa (vr 0) ae))) (eh rfl (au (ap (i:=2) sc_M.nd rfl (Or.inl rfl)) (au (ap (i:=3) sc_M.nd rfl (Or.inl rfl)) aZ))) (ak (cN (pe_m.append (zV (iH hr) (vr 1) (vr 2) (cq ae) ⟨rfl,rfl,rfl,rfl⟩) (aa (vr 3) ae))))) (ak (aw (ba rfl (N:=["kept","found"]) (ix:=[none,some 1]) ⟨rfl,rfl,rfl,rfl,⟨rfl,rfl,rfl,trivial⟩⟩ (aY (aL (gh rfl hr.units) rfl T.z_sorted fP (aa (vr 1) ae))) ⟨λC s H fp=>ap (i:=0) (show List.Nodup (["kept","found"]:List Str) by decide +kernel) rfl (Or.inl rfl),λC s H fp=>bb,λC s H fp=>(bI (aa (vr 0) (aa (aq bL hr rfl T.m_ac T.F_ac.kp T.B_ac .nil ar (aa (qm (iH hr) (vr 1) (vr 0) (λ_ _=>rfl)) ae)) ae)))⟩))))),eQ ?_⟩;intro dp de;intro J br;have u1:=Same.new (o:=.dT []) br;have an:=ad (H:=H) (a:=J) (o:=.dT []);generalize upd H J (.dT [])=Ha at u1 an;refine⟨v,d,t,rfl,hn.t u1.t,cA,hd,ch,hT.same u1,λb' Z lw zs t1 co dv a3 hW=>?_,λh=>(q2 h).t u1.t⟩;have I:=t1.at an;have zl:zs.length=Tb.lv t:=by rw[<- hW.length,Tb.wl_len]
  have bg:∀ w∈Tb.kW (Tb.wl t 1 1),Ch (D9:Int) w.2:=λw hw=>by
   obtain⟨y,hy,rfl⟩:=mem_map.mp hw;exact a1 y hy
  clear a1;have bn:=Tb.kW_len t;have cx:SameT H Z:=u1.t.trans t1;generalize hWW:Tb.wl t 1 1=W at hW bg bn q1;have dr:W.length=zs.length:=hW.length;have c9:∀ b,Z b=none->b≠J:=λb hb z=>by rw[z,I]at hb;cases hb
  let Pw1:PvS:=λi σ G=>∃(B:List (List Key×V)) (x2 x3:Option V),(∀ b o,b≠J->Z b=some o->G b=some o)/\TabsOk (tabs a) G/\G J=some (.dT B)/\Paired (GrR K Z G) (Tb.grp ((Tb.kW W).take i)) B/\(B.map (·.2)).Nodup/\i<=zs.length/\σ=[some v,some (.ref J),x2,x3]
  refine .inl ⟨⟨_,SqL.of a3⟩,dC (K:=K) (a:=lw) (xs:=zs) Pw1 ⟨[],none,none,(λb o _ e=>e),co,I,.nil,nodup_nil,Nat.zero_le _,rfl⟩ (λi σ G _ h=>by
   obtain⟨B,x2,x3,k,_⟩:=h
   exact SqL.of (k _ _ (bQ a3 I (λz=>nomatch z)) a3)) ?_ ?_⟩
  .rintro i y σ G hy ⟨B,x2,x3,kp,a6,O,hG,nd,hi,rfl⟩
   obtain⟨⟨F,tp,bt⟩,hw,q,kt,ct,ns,rfl,hq,a5,as,c5,dd,dg,b0⟩:=aG hW hy;have al:i<zs.length:=(List.getElem?_eq_some_iff.mp hy).1;have ek:ns=Tb.so F:=Tb.so_uniq as.1 as.2;have cs:=Tb.kW_get hw;have gk:=Tb.grp_gk (Tb.kW W) i (by lia);have gl:B.length<=i:=by rw[<- hG.length];exact gk.1
   have nq:q≠J:=bQ hq I (λz=>nomatch z);have c7:kt≠J:=bQ a5 I (λz=>nomatch z);have eg:=Tb.grp_snoc cs
   have hF:IsF K Z (tp,bt) (.ref ct):=⟨ct,rfl,.inl c5⟩
   rw[ek]at a5;refine⟨q,_,rfl,SqT.of (kp _ _ nq hq),rfl,_,_,rfl,_,_,rfl,rfl,?_⟩;refine⟨J,rfl,.inr ⟨B,.inl O⟩,Nat.zero_le _,λD fD=>?_⟩;have n2:=Same.new (o:=.lst []) fD;have nD:D≠J:=λz=>by rw[z,O]at fD;cases fD
   have b3:Z D=none:=by
    cases hh:Z D with
    | none=>rfl
    | some o=>rw[kp _ _ nD hh]at fD;cases fD
   have bm:(upd G D (.lst [])) kt=some (.tup (((Tb.so F).map Sum.inl).map kV)):=by rw[gB];exact n2 _ _ (kp _ _ c7 a5)
   have Y:TabsOk (tabs a) (upd G D (.lst [])):=a6.same n2;have M:=n2 _ _ O;have cy:=ad (H:=G) (a:=D) (o:=.lst []);have bo:∀ b o,b≠J->Z b=some o->(upd G D (.lst [])) b=some o:=λb o n e=>n2 _ _ (kp _ _ n e)
   have c6:=ah (GrR.m λl X e=>n2 _ _ e) hG;have bq:∀ l X,G l=some (.lst X)->l≠D:=λl X e z=>by rw[z,fD]at e;cases e
   refine⟨B,_,kt,rfl,bm,M,by lia,λv' cc=>?_,λhn'=>?_⟩
   .obtain⟨x,l,X,a4,rfl,fl,hl,c8,b1⟩:=yK (c:=(tp,bt)) c6 nd cc
    generalize upd G D (.lst [])=H2 at *;have yl:=(gk.2 x a4).1;refine⟨.inl ⟨rfl,_,SqL.of hl⟩,⟨l,X,_,rfl,rfl,hl,by lia,?_⟩⟩;have nl:l≠J:=bQ hl M (λz=>nomatch z);refine⟨B,_,_,λb o n e=>?_,Y.put (λps z=>by rw[hl]at z;cases z) (λφ z=>by rw[hl]at z;cases z),by rw[ai (Ne.symm nl)];exact M,by rw[eg];exact b1 _ hF,nd,al,rfl⟩;rw[ai (λz=>by rw[z,fl]at e;cases e)];exact bo _ _ n e
   .generalize eH2:upd G D (.lst [])=H2 at *
    have L:(upd H2 J (.dT (B++[((Tb.so F).map Sum.inl,.ref D)]))) D=some (.lst []):=by rw[ai nD];exact cy
    refine⟨.inl ⟨rfl,_,SqL.of L⟩,⟨D,[],_,rfl,rfl,L,by show 0<_;lia,?_⟩⟩;have c1:TabsOk (tabs a) (upd H2 J (.dT (B++[((Tb.so F).map Sum.inl,.ref D)]))):=Y.put (λps z=>by rw[M]at z;cases z) λφ z=>by rw[M]at z;cases z
    have GN:Paired (GrR K Z (upd (upd H2 J (.dT (B++[((Tb.so F).map Sum.inl,.ref D)]))) D (.lst ([]++[.ref ct])))) (Tb.pushG (Tb.so F) (tp,bt) (Tb.grp ((Tb.kW W).take i))) (B++[((Tb.so F).map Sum.inl,.ref D)]):=zy (ah (GrR.m λl X e=>by rw[ai (bq _ _ e),ai (bQ e O (λz=>nomatch z))];exact n2 _ _ e) hG) hn' b3 ad hF;refine⟨B++[((Tb.so F).map Sum.inl,.ref D)],_,_,λb o n e=>?_,c1.put (λps z=>by rw[L]at z;cases z) (λφ z=>by rw[L]at z;cases z),by rw[ai (Ne.symm nD)];exact ad,by rw[eg];exact GN,?_,al,rfl⟩
    .rw[ai (λz=>by rw[z,b3]at e;cases e),ai n]
     exact bo _ _ n e
    .rw[map_append]
     refine nodup_append.mpr ⟨nd,by simp,λu hu u' c2 e=>?_⟩;have e':u'=V.ref D:=by simpa using c2
     rw[e,e']at hu;obtain⟨kv,cB,e9⟩:=mem_map.mp hu;obtain⟨j,hj⟩:=List.getElem?_of_mem cB;obtain⟨x,_,r⟩:=aG hG hj;obtain⟨_,l,X,h1,_,h3,_⟩:=r;rw[e9]at h1;cases h1;exact bq _ _ h3 rfl
  rintro σ H2 ⟨B,x2,x3,kp,a6,O,hG,nd,hi,rfl⟩;have gk:=Tb.grp_gk (Tb.kW W) zs.length (by lia);have et:(Tb.kW W).take zs.length=Tb.kW W:=take_of_length_le (by rw[bn];lia);rw[et]at hG gk;have a8:=Tb.grp_nd (Tb.kW W);have a0:=Tb.rat_grp (Tb.kW W);generalize hg:Tb.grp (Tb.kW W)=g at hG gk a8 a0;have bl:(g.map (·.1)).Nodup:=by have:=a8;unfold Tb.NdR at this;rwa [Tb.rat_keys]at this
  have t2:SameT H H2:=λb o e=>by
   have nb:b≠J:=λz=>by rw[z,br]at e;cases e
   obtain⟨e1,o1,e2⟩:=cx b o e;have:=kp _ _ nb e2;exact⟨λnp=>kp _ _ nb (e1 np),o1,this⟩
  have kl:B.length=g.length:=hG.length.symm;have gl:g.length<=4096:=by have:=gk.1;lia
  refine⟨J,B,g.map (·.1),rfl,O,by have:=gk.1;lia,wV hG,bl,λq o f fq op cg bS=>?_⟩;rw[length_map]at op bS;have u3:=Same.new (o:=.lst (o.map f)) fq;have a2:=ad (H:=H2) (a:=q) (o:=.lst (o.map f));have Y:=a6.same u3;generalize upd H2 q (.lst (o.map f))=H3 at u3 a2 Y;have t3:=t2.trans u3.t;have ds:H q=none:=t2.free fq;have b5:(Tb.rat g).length=g.length:=by unfold Tb.rat;rw[length_map]
  obtain⟨rp,rs⟩:=Tb.tab_of a8 (o:=o) (by rw[b5];exact op) (by rw[Tb.rat_keys];exact cg);have ol:o.length=g.length:=by rw[op.length_eq,length_range]
  generalize hR:(o.map λi=>(Tb.rat g).getD i ([],0))=R at rp rs;have Rl:R.length=o.length:=by rw[<- hR,length_map]
  refine .inl ⟨⟨_,SqL.of a2⟩,λD3 L=>?_⟩
  let Pw2:PvL:=λi ws G=>i<=o.length/\Same H3 G/\G D3=some (.lst ws)/\Paired (RowR K G) (R.take i) ws
  refine aJ (K:=K) (a:=q) (xs:=o.map f) Pw2 ⟨Nat.zero_le _,Same.new L,ad,.nil⟩ (λi X G h=>SqL.of (h.2.1 _ _ a2)) (λi X G h=>h.2.2.1) ?_ ?_
  .rintro i y ws G P' hy ⟨dt,n5,a7,S⟩ ca
   rw[List.getElem?_map]at hy
   obtain⟨j,hj,rfl⟩:∃ j,o[i]? = some j/\f j=y:=by
    cases e:o[i]? with
    | none=>rw[e]at hy;cases hy
    | some j=>rw[e]at hy;cases hy;exact⟨j,rfl,rfl⟩
   have al:i<o.length:=(List.getElem?_eq_some_iff.mp hj).1;have a':j<g.length:=mem_range.mp (op.mem_iff.mp (List.mem_of_getElem? hj));obtain⟨b,eb,hb⟩:=bS j a'
   obtain⟨x,hx⟩:∃ x,g[j]? = some x:=⟨_,List.getElem?_eq_getElem a'⟩
   have a9:(g.map (·.1)).getD j []=x.1:=by rw[List.getD,List.getElem?_map,hx];rfl
   rw[a9]at hb;have hb:H2 b=some (.tup (x.1.map V.int)):=hb;have bF:=(u3.trans n5) _ _ hb;obtain⟨l,X,hv,hl,hF⟩:=Bw hG bl hx;have a4:=List.mem_of_getElem? hx;obtain⟨xl,xc⟩:=gk.2 x a4;have c0:TK Z G:=λb us e=>(u3.trans n5) _ _ (kp _ _ (bQ e I (λz=>nomatch z)) e)
   have dm:ws.length<=4096:=by rw[<- S.length,length_take];lia
   rw[eb];refine⟨⟨rfl,trivial⟩,?_⟩;refine⟨J,_,rfl,.inr ⟨B,x.1.map Sum.inl,b,.inl ((u3.trans n5) _ _ O),rfl,by rw[gB];exact bF,hv.symm⟩,?_⟩;refine⟨l,x.2,X,D9,rfl,(u3.trans n5) _ _ hl,hF.tk c0,by rw[<- hF.len];lia,Dp,b6,λc hc=>?_,λH6 z s6 hz=>?_⟩
   .obtain⟨w9,cb,e9⟩:=xc c hc
    rw[<- e9];exact bg w9 cb
   refine⟨by show 2<=sizeLine;decide,λp fp=>?_⟩;have s7:=Same.new (o:=.tup [.ref b,z]) fp;have b2:=(s6.trans s7) _ _ a7;have c3:=(n5.trans s6).trans s7;refine⟨b2,by lia,ca _ _ ⟨al,c3.put L,ad,?_⟩⟩
   have eR:R[i]? = some (x.1,Tb.sumQ x.2):=by
    rw[<- hR,List.getElem?_map,hj];show some ((Tb.rat g).getD j ([],0))=_;unfold Tb.rat;rw[List.getD,List.getElem?_map,hx];rfl
   have ab:TK (upd H6 p (.tup [.ref b,z])) (upd (upd H6 p (.tup [.ref b,z])) D3 (.lst (ws++[.ref p]))):=λb us e=>by rw[ai (bQ e b2 (λz=>nomatch z))];exact e
   refine aU (ah (RowR.tk ((s6.trans s7).tk.trans ab)) S) eR ⟨p,b,z,rfl,ab _ _ ad,ab _ _ ((s6.trans s7) _ _ bF),(hz.same s7).tk ab⟩
  .rintro ws H5 ⟨_,n5,a7,S⟩
   have cj:H D3=none:=t3.free L;rw[length_map,<- Rl,take_length]at S;refine q1 b' _ D3 R ws (t3.trans n5.t) (Y.same n5) cj a7 S ⟨?_,rs⟩ (by rw[<- S.length];lia);rw[<- a0];exact rp
end
open Tb (Tr Ent Way Rws Ch Lm2 Grp bnd gw Dk Dks)
theorem vM(i:Int)(a:List Int):inV (.int i) (a.map V.int)=decide (i∈a):=by
 unfold inV;rw[List.any_map]
 induction a with
 | nil=>rfl
 | cons x r ih =>
  rw[any_cons,ih];simp only[mem_cons,Function.comp]
  by_cases e:i=x
  .subst e;simp[eqV]
  .have b:¬x=i:=λz=>e z.symm
   simp[eqV,e,b]
theorem rO(a:List Int):(a.map V.int).all gI=true:=by
 rw[all_map];exact all_eq_true.mpr λx _=>rfl
def TF(kvs:List (List Key×V))(F:Tb.F2t):Prop:=∀ x y:Int,(cH kvs [.inl x,.inl y]).getD (.int 0)=.int (F x y)
theorem TF.nil:TF [] (λ_ _=>0):=λ_ _=>rfl
theorem TF.put{a:List (List Key×V)}{F:Tb.F2t}(h:TF a F)(x y n:Int):TF (ez a [.inl x,.inl y] (.int n)) (λx' y'=>if x'=x/\y'=y then n else F x' y'):=λx' y'=>by
 show _=V.int (if x'=x/\y'=y then n else F x' y');rw[uR]
 by_cases c:x'=x/\y'=y
 .rw[if_pos (by rw[c.1,c.2]),if_pos c];rfl
 .rw[if_neg,if_neg c]
  .exact h x' y'
  .intro z
   injection z with z1 z2
   injection z1 with z1
   injection z2 with z2
   injection z2 with z2
   exact c ⟨z1,z2⟩
theorem jo{f d:Type}{r c:f->d->Prop}:∀{as:List f}{bs:List d},(∀ a∈as,∀ b,r a b->c a b)->Paired r as bs->Paired c as bs
 | _,_,_,.nil=>.nil
 | _,_,h,.cons x t=>.cons (h _ mem_cons_self _ x) (jo (λa g b i=>h a (mem_cons_of_mem _ g) b i) t)
inductive spMR(K:Frag)(vs:List V)(H:Hp)(Q:VK)(_E:XK):Prop
 | mk(i L:Int)(lp dt:Addr)(ps:List Int)(kvs:List (List Key×V))(F:Tb.F2t)(h0:vs=[.int i,.ref lp,.ref dt,.int L])(h1:H lp=some (.lst (ps.map V.int)))(h2:ps.length<=100)(h3:H dt=some (.dT kvs))(h4:TF kvs F)(h5:0<L)(h6:Bt 6000 L)(h7:(∀ j∈ps,Bt 6000 (F i j)))(h8:∀ H' D zs,Same H H'->H D=none->H' D=some (.lst zs)->Paired (λj z=>IsF K H' (jT (F i j) L) z) ps zs->Q (.ref D) H'):spMR K vs H Q _E
def rF(K:Frag)(H H':Hp)(M:Int->Int->Rat)(ps:List Int)(i:Int)(y:V):Prop:=∃ D zs,y=.ref D/\H D=none/\H' D=some (.lst zs)/\Paired (λj z=>IsQ K H' (M i j) z) ps zs
def yp(a:Ad)(K:Frag):Sp:=λvs H Q E=>∃ v d t lp ps,vs=[v,.ref lp]/\IsNd a H v t/\Dk d t/\d<=5/\Tb.Ok t/\Tb.lv t<64/\Tb.dn t<=Lm2/\TabsOk (tabs a) H/\H lp=some (.lst (ps.map V.int))/\ps.length<=100/\(Tb.lv t<=4096->∀ H' l R ys,SameT H H'->TabsOk (tabs a) H'->H l=none->H' l=some (.lst ys)->V.ref l ∉ ys->Tb.IsTab (Tb.toR (Tb.kW (Tb.wl t 1 1))) R->Paired (rF K H H' (Tb.mm R) ps) ps ys->ys.Nodup->Q (.ref l) H')/\(4096<Tb.lv t->RefM a H E)
theorem fG{a:List Int}{i:Nat}{x:V}(h:(a.map V.int)[i]? = some x):∃ n,a[i]? = some n/\V.int n=x:=by
 rw[List.getElem?_map]at h;cases e:a[i]? with
 | none=>rw[e]at h;cases h
 | some n=>rw[e]at h;cases h;exact⟨n,rfl,rfl⟩
section
variable {P:Program}{w:World}{K:Frag}{mg:Str->Option Value}{base:Heap}{a:Ad}
theorem xO(T:Txt K mg a):FnOk P w K mg base CX0 3 a.f_I a.d_I ["one","places","tops","bottom"] (spMR K):=by
 have J:FnOk P w K mg base CX0 2 _ _ _ spLow:=fJ T;refine T.F_I.ok j0 (λvs H Q E h=>?_) (λcdv A outer s H vs Q E hr h=>?_)
 .obtain⟨i,L,Y,dt,B,d,F,rfl,_⟩:=h;rfl
 .obtain⟨i,L,Y,dt,B,d,F,rfl,x,ab,k,hF,hL,bL,bF,q⟩:=h
  have I:sizeLine=16777216:=sizeLine_eq;refine⟨_,(ak (aw (ba rfl (N:=["other","bottom","tops","one"]) (ix:=[none,some 3,some 2,some 0]) ⟨rfl,rfl,rfl,rfl,⟨rfl,rfl,rfl,⟨rfl,rfl,rfl,⟨rfl,rfl,rfl,trivial⟩⟩⟩⟩ (aY (vr 1)) ⟨λC s H fp=>ap (i:=0) (show List.Nodup (["other","bottom","tops","one"]:List Str) by decide +kernel) rfl (Or.inl rfl),λC s H fp=>bb,λC s H fp=>(aq J hr rfl T.m_G T.F_G.kp T.B_G .nil ar (aa (jv (iH hr) (vr 2) (bI (aa (vr 3) (aa (vr 0) ae))) am ⟨rfl,rfl,rfl,rfl⟩) (aa (vr 1) ae)))⟩))),?_⟩;refine .inl ⟨⟨_,SqL.of x⟩,λD X=>?_⟩
  let Pw1:PvL:=λn g c=>n<=B.length/\Same H c/\c D=some (.lst g)/\Paired (λj z=>IsF K c (jT (F i j) L) z) (B.take n) g
  refine aJ (K:=K) (a:=Y) (xs:=B.map V.int) Pw1 ⟨Nat.zero_le _,Same.new X,ad,.nil⟩ (λn ys c h=>SqL.of (h.2.1 _ _ x)) (λn ys c h=>h.2.2.1) ?_ ?_
  .rintro n y g c P' hy ⟨hn,v,f,r⟩ W
   obtain⟨j,S,rfl⟩:=fG hy;have R:n<B.length:=(List.getElem?_eq_some_iff.mp S).1;refine⟨⟨rfl,rfl,rfl,trivial⟩,?_⟩;refine⟨dt,rfl,.inr ⟨d,.inl (v _ _ k)⟩,cT _ _,λt ft=>?_⟩;have G:=Same.new (o:=.tup [.int i,.int j]) ft;refine⟨_,.inr ⟨d,[.inl i,.inl j],t,.inl ((v.trans G) _ _ k),rfl,ad,rfl⟩,?_⟩;refine⟨F i j,L,by rw[hF i j];rfl,hL,bF j (List.mem_of_getElem? S),bL,λZ p O M=>?_⟩;have l:=(G.trans O) _ _ f;have u:TK Z (upd Z D (.lst (g++[.ref p]))):=λb us e=>by rw[ai (bQ e l (λz=>nomatch z))];exact e
   refine⟨l,by rw[<- r.length,length_take];lia,W _ _ ⟨R,((v.trans G).trans O).put X,ad,?_⟩⟩;refine aU (ah (λj z (h:IsF K c (jT (F i j) L) z)=>(h.same (G.trans O)).tk u) r) S ⟨p,rfl,.inl (u _ _ M)⟩
  .rintro g c ⟨_,v,f,r⟩
   rw[length_map,take_length]at r;exact q _ D g v X f r
theorem sk(T:Txt K mg a)(hB:Bm mg base):FnOk P w K mg base (CXG P w) 16 a.f_y a.d_y ["node","places"] (yp a K):=by
 have c8:FnOk P w K mg base (CXG P w) 15 _ _ _ (jg a K):=oo T hB;have dp:FnOk P w K mg base CX0 15 _ _ _ _:=(vE T).mono (by decide);have d1:FnOk P w K mg base CX0 15 _ _ _ _:=(xO T).mono (by decide);refine T.F_y.okG sc_y (λvs H Q E h=>?_) (λcdv A outer s H vs Q E hr h=>?_)
 .obtain⟨v,d,t,lp,ps,rfl,_⟩:=h;rfl
 .obtain⟨v,d,t,lp,ps,rfl,hn,dv,hd,Z,c',a0,hT,dV,dT,q1,q2⟩:=h
  have d3:sizeLine=16777216:=sizeLine_eq
  refine⟨_,(aj (aD (i:=2) sc_y.nd rfl (Or.inl rfl) (aq c8 hr rfl T.m_M T.F_M.kp T.B_M .nil tN (aa (vr 0) ae))) (aj (aD (i:=3) sc_y.nd rfl (Or.inr rfl) (aq dp hr rfl T.m_l T.F_l.kp T.B_l .nil ar (aa (ba rfl (N:=["kept","chance"]) (ix:=[none,none]) ⟨rfl,rfl,rfl,rfl,trivial⟩ (aY (vr 2)) ⟨λC s H fp=>(cO (K:=K) (n:=2) rfl rfl (au (ap (i:=0) (show List.Nodup (["kept","chance"]:List Str) by decide +kernel) rfl (Or.inl rfl)) (au (ap (i:=1) (show List.Nodup (["kept","chance"]:List Str) by decide +kernel) rfl (Or.inl rfl)) aZ))),λC s H fp=>bb,λC s H fp=>(cF (iW (K:=K) rfl) (vr 1) am (λ_ _=>rfl))⟩) ae))) (aj (aD (i:=4) sc_y.nd rfl (Or.inr rfl) jY) (aj (cV oG rfl (aY (vr 2)) (eh rfl (au (ap (i:=5) sc_y.nd rfl (Or.inl rfl)) (au (ap (i:=6) sc_y.nd rfl (Or.inl rfl)) aZ))) (aj (aD (i:=7) sc_y.nd rfl (Or.inl rfl) (ay dU (cF bU (vr 6) am (λ_ _=>rfl)) (ay fV (vr 3) (cF bU (vr 6) am (λ_ _=>rfl))))) (aj (lJ rfl (i:=8) sc_y.nd rfl rfl (by with_unfolding_all rfl) (N:=["place","places"]) (ix:=[none,some 1]) ⟨rfl,rfl,rfl,rfl,⟨rfl,rfl,rfl,trivial⟩⟩ (aY (vr 5)) ⟨λC s H fp=>ap (i:=0) (show List.Nodup (["place","places"]:List Str) by decide +kernel) rfl (Or.inl rfl),λC s H fp=>iY (cE (pj (K:=K) rfl) (vr 0) (vr 1) (by with_unfolding_all rfl)),λC s H fp=>(vr 0)⟩) (ak (cV oG rfl (aY (vr 8)) (ap (i:=9) sc_y.nd rfl (Or.inl rfl)) (ak (cV oG rfl (aY (vr 8)) (ap (i:=10) sc_y.nd rfl (Or.inl rfl)) (ak (rq (iH hr) (vr 4) (bI (aa (vr 9) (aa (vr 10) ae))) (ay dq (jv (iH hr) (vr 4) (bI (aa (vr 9) (aa (vr 10) ae))) am ⟨rfl,rfl,rfl,rfl⟩) (vr 7)) rfl))))))))) (ak (aw (ba rfl (N:=["one","places","tops","bottom"]) (ix:=[none,some 1,some 4,some 3]) ⟨rfl,rfl,rfl,rfl,⟨rfl,rfl,rfl,⟨rfl,rfl,rfl,⟨rfl,rfl,rfl,trivial⟩⟩⟩⟩ (aY (vr 1)) ⟨λC s H fp=>ap (i:=0) (show List.Nodup (["one","places","tops","bottom"]:List Str) by decide +kernel) rfl (Or.inl rfl),λC s H fp=>bb,λC s H fp=>(aq d1 hr rfl T.m_I T.F_I.kp T.B_I .nil ar (aa (vr 0) (aa (vr 1) (aa (vr 2) (aa (vr 3) ae)))))⟩))))))),A0 ?_⟩
  intro ei ec eg ed;refine⟨v,d,t,Tb.dn t,rfl,hn,dv,hd,Z,c',Tb.dn_pos t Z,a0,Tb.wl_chs Z,hT,λdf H1 lr R ys t1 ds eb ch hR a6 ek=>?_,q2⟩;have Dp:=Tb.dn_pos t Z;have gd:=Tb.tab_gd Z a6;have c0:=Tb.tab_key Z a6;have Rl:R.length=ys.length:=hR.length;have cB:=t1.at dV;have dr:∀ r∈R,Bt 2721 r.2.num/\Bt 2721 (r.2.den:Int):=λr hr=>Tb.bq_bb Dp a0 (gd.one hr)
  have co:∀ r∈R,(0:Int)<(r.2.den:Int)/\(r.2.den:Int) ∣ ((Tb.dn t:Nat):Int):=λr hr=>let z:=Tb.bq_bt Dp (gd.one hr);⟨z.2.2.1,z.2.2.2⟩
  refine .inl ⟨⟨_,SqL.of ch⟩,λD1 c4=>?_⟩
  let Pw2:PvL:=λi zs H'=>Same H1 H'/\H' D1=some (.lst zs)/\i<=R.length/\zs=((R.take i).map λr=>(r.2.den:Int)).map V.int
  refine aJ (K:=K) (a:=lr) (xs:=ys) Pw2 ⟨Same.new c4,ad,Nat.zero_le _,rfl⟩ (λi ys H' h=>SqL.of (h.1 _ _ ch)) (λi ys H' h=>h.2.1) ?_ ?_
  .rintro i y zs H' P' hy ⟨s1,bg,hi,rfl⟩ Y
   obtain⟨r,B,a5⟩:=aG hR hy;obtain⟨p,kt,z,rfl,hp,b4,z9,rfl,hz⟩:=RowR.tk s1.tk r _ a5;have b':i<R.length:=(List.getElem?_eq_some_iff.mp B).1;refine⟨p,_,rfl,SqT.of hp,rfl,_,_,rfl,_,_,rfl,rfl,trivial,px1 hz.sq ⟨bg,by rw[length_map,length_map,length_take];lia,Y _ _ ⟨s1.put c4,ad,b',?_⟩⟩⟩;rw[take_add_one,B];simp;rfl
  rintro zs Ha ⟨s1,bg,_,rfl⟩;rw[<- Rl,take_length]at bg;refine⟨D1,_,Tb.dn t,rfl,SqL.of bg,Dp,a0,λn c9=>?_,λL hL0 hLD hLn=>?_⟩
  .obtain⟨r,B,rfl⟩:=mem_map.mp c9
   exact co r B
  have dL:∀ r∈R,(r.2.den:Int) ∣ L:=λr hr=>hLn _ (mem_map.mpr ⟨r,hr,rfl⟩)
  have LD:=Int.le_of_dvd (show(0:Int)<((Tb.dn t:Nat):Int) by lia) hLD;have bL:=Tb.bt_of (i:=L) Dp a0 (by lia) LD;intro q cA;have u2:=Same.new (o:=.dT []) cA;have I:=ad (H:=Ha) (a:=q) (o:=.dT []);have c5:=ds.same (s1.trans u2);have t2:=t1.trans (s1.trans u2).t;have a':=s1.trans u2;have ct:=ah (RowR.tk a'.tk) hR;generalize upd Ha q (.dT [])=H2 at u2 I c5 t2 a' ct;have a8:=a' _ _ ch;have a7:=a' _ _ cB;have dx:lr≠q:=bQ a8 I (λz=>nomatch z);have c6:lp≠q:=bQ a7 I (λz=>nomatch z);have c3:H q=none:=(t1.trans s1.t).free cA
  let Pw3:PvS:=λi S H'=>∃(J:List (List Key×V)) (x5 x6 x7 x8 x9 g:Option V),(∀ b o,b≠q->H2 b=some o->H' b=some o)/\TabsOk (tabs a) H'/\H' q=some (.dT J)/\TF J (Tb.tF ps L (R.take i))/\J.length<=576*i/\i<=R.length/\S=[some v,some (.ref lp),some (.ref lr),some (.int L),some (.ref q),x5,x6,x7,x8,x9,g]
  refine .inl ⟨⟨_,SqL.of a8⟩,dC (K:=K) (a:=lr) (xs:=ys) Pw3 ⟨[],none,none,none,none,none,none,(λb o _ e=>e),c5,I,TF.nil,Nat.zero_le _,Nat.zero_le _,rfl⟩ (λi S H' _ h=>by
   obtain⟨J,x5,x6,x7,x8,x9,g,k,_⟩:=h
   exact SqL.of (k _ _ dx a8)) ?_ ?_⟩
  .rintro i y S H' hy ⟨J,x5,x6,x7,x8,x9,g,kp,cj,bS,hF,d4,hi,rfl⟩
   obtain⟨r,B,a5⟩:=aG ct hy;have b':i<R.length:=(List.getElem?_eq_some_iff.mp B).1;have rm:=List.mem_of_getElem? B;obtain⟨p,kt,z,rfl,hp,b4,z9,rfl,hz⟩:=RowR.tk (H':=H') (λb us e=>kp _ _ (bQ e I (λz=>nomatch z)) e) r _ a5;obtain⟨b1,b2⟩:=dr r rm;obtain⟨d0,dd⟩:=co r rm;obtain⟨a3,a1⟩:=c0 r rm;have bq:=Tb.bt_of (i:=L/(r.2.den:Int)) Dp a0 (Int.ediv_nonneg (by lia) (by lia)) (Int.le_trans (Int.ediv_le_self _ (by lia)) LD);refine⟨p,_,rfl,SqT.of hp,rfl,_,_,rfl,_,_,rfl,rfl,?_⟩;refine px0 hz.sq (px1 hz.sq ⟨cdB d0 b2,cmB b1 bq,?_⟩);refine .inr ⟨⟨_,SqT.of b4⟩,λD3 cs=>?_⟩;have c7:=kp _ _ c6 a7
   let Pw4:PvL:=λn zs H5=>Same H' H5/\H5 D3=some (.lst zs)/\n<=r.1.length/\zs=(Tb.askd ps (r.1.take n)).map V.int
   refine vb (K:=K) (a:=kt) (xs:=r.1.map V.int) Pw4 ⟨Same.new cs,ad,Nat.zero_le _,rfl⟩ (λn ys H5 h=>SqT.of (h.1 _ _ b4)) (λn ys H5 h=>h.2.1) ?_ ?_
   .rintro n y zs H5 P' hy ⟨M,f,d',rfl⟩ Y
    obtain⟨x,hx,rfl⟩:=fG hy;have ab:n<r.1.length:=(List.getElem?_eq_some_iff.mp hx).1;refine⟨⟨rfl,trivial⟩,lp,_,rfl,.inl (SqL.of (M _ _ c7)),rfl,rO _,?_⟩;have ea:=Tb.askd_snoc (ps:=ps) hx;rw[vM];refine ifC (λc=>?_) (λc=>?_)
    .rw[if_pos c]at ea
     have:=Tb.askd_len ps (r.1.take n);rw[length_take]at this;exact⟨f,by rw[length_map];lia,Y _ _ ⟨M.put cs,ad,ab,by rw[ea,map_append];rfl⟩⟩
    .rw[if_neg c,append_nil]at ea
     exact Y _ _ ⟨M,f,ab,by rw[ea]⟩
   rintro zs H5 ⟨M,f,_,rfl⟩;rw[length_map,take_length]at f;have a3:=Tb.askd_nd (ps:=ps) a3;have a1:=Nat.le_trans (Tb.askd_len ps r.1) a1;have b0:=Tb.tF_snoc (ps:=ps) (L:=L) B;generalize hal:Tb.askd ps r.1=al at f a3 a1 b0;have br:=M _ _ bS;have b3:D3≠q:=bQ f br (λz=>nomatch z);have dK:∀ b o,b≠q->H2 b=some o->H5 b=some o:=λb o n e=>M _ _ (kp _ _ n e)
   have dy:=cj.same M;have ej:r.2.num*(L/(r.2.den:Int))=Tb.tp L r:=rfl;generalize hG:Tb.tF ps L (R.take i)=G at hF b0
   let Pw5:PvS:=λn S H6=>∃(D:List (List Key×V)) (x9 g:Option V),(∀ b o,b≠q->H5 b=some o->H6 b=some o)/\TabsOk (tabs a) H6/\H6 q=some (.dT D)/\TF D (Tb.F1 G al n (Tb.tp L r))/\D.length<=576*i+24*n/\n<=al.length/\S=[some v,some (.ref lp),some (.ref lr),some (.int L),some (.ref q),some (.ref kt),some (.ref z9),some (.int (Tb.tp L r)),some (.ref D3),x9,g]
   refine .inl ⟨⟨_,SqL.of f⟩,dC (K:=K) (a:=D3) (xs:=al.map V.int) Pw5 ⟨J,_,_,(λb o _ e=>e),dy,br,by rw[Tb.F1_zero];exact hF,by lia,Nat.zero_le _,rfl⟩ (λn S H6 _ h=>by
    obtain⟨D,x9,g,k,_⟩:=h
    exact SqL.of (k _ _ b3 f)) ?_ ?_⟩
   .rintro n y S H6 hy ⟨D,x9,g,bm,b5,a2,a9,bn,d6,rfl⟩
    obtain⟨x0,b6,rfl⟩:=fG hy;have ab:n<al.length:=(List.getElem?_eq_some_iff.mp b6).1
    let Pw6:PvS:=λm S H7=>∃(l:List (List Key×V)) (g:Option V),(∀ b o,b≠q->H5 b=some o->H7 b=some o)/\TabsOk (tabs a) H7/\H7 q=some (.dT l)/\TF l (Tb.F2 G al n m (Tb.tp L r))/\l.length<=576*i+24*n+m/\m<=al.length/\S=[some v,some (.ref lp),some (.ref lr),some (.int L),some (.ref q),some (.ref kt),some (.ref z9),some (.int (Tb.tp L r)),some (.ref D3),some (.int x0),g]
    refine .inl ⟨⟨_,SqL.of (bm _ _ b3 f)⟩,dC (K:=K) (a:=D3) (xs:=al.map V.int) Pw6 ⟨D,_,bm,b5,a2,by rw[Tb.F2_zero];exact a9,by lia,Nat.zero_le _,rfl⟩ (λm S H7 _ h=>by
     obtain⟨l,g,k,_⟩:=h
     exact SqL.of (k _ _ b3 f)) ?_ ?_⟩
    .rintro m y S H7 hy ⟨l,g,ca,cc,W,a4,bo,d5,rfl⟩
     obtain⟨y0,cy,rfl⟩:=fG hy;have de:m<al.length:=(List.getElem?_eq_some_iff.mp cy).1;have dg:=Tb.F2_step (F:=G) (t:=Tb.tp L r) a3 b6 cy;refine⟨q,rfl,.inr ⟨l,.inl W⟩,cT _ _,λtt ft=>?_⟩;have s8:=Same.new (o:=.tup [.int x0,.int y0]) ft;have bt:=s8 _ _ W;refine⟨_,.inr ⟨l,[.inl x0,.inl y0],tt,.inl bt,rfl,ad,rfl⟩,?_⟩;rw[a4 x0 y0];refine⟨cT _ _,λt2 dm=>?_⟩;have s9:=Same.new (o:=.tup [.int x0,.int y0]) dm;have X:=s9 _ _ bt;refine⟨q,_,rfl,.inr ⟨l,[.inl x0,.inl y0],t2,X,rfl,ad,by lia,rfl⟩,?_⟩;have cg:=s8.trans s9;generalize upd (upd H7 tt (.tup [.int x0,.int y0])) t2 (.tup [.int x0,.int y0])=H9 at X cg;have ef:=fw l [.inl x0,.inl y0] (.int (Tb.F2 G al n m (Tb.tp L r) x0 y0+Tb.tp L r));refine⟨_,_,λb o nb e=>by rw[ai nb];exact cg _ _ (ca _ _ nb e),(cc.same cg).put (λps z=>by rw[X]at z;cases z) (λφ z=>by rw[X]at z;cases z),ad,by rw[dg];exact a4.put x0 y0 _,by lia,de,rfl⟩
    .rintro S H7 ⟨l,g,ca,cc,W,a4,bo,d5,rfl⟩
     rw[length_map]at a4 bo;exact⟨l,_,_,ca,cc,W,by rw[<- Tb.F2_end a3 b6];exact a4,by lia,ab,rfl⟩
   .rintro S H6 ⟨D,x9,g,bm,b5,a2,a9,bn,d6,rfl⟩
    rw[length_map]at a9 bn;refine⟨D,_,_,_,_,_,_,λb o nb e=>bm _ _ nb (dK _ _ nb e),b5,a2,λx y=>?_,by lia,b',rfl⟩;rw[a9 x y,Tb.F1_end,b0 x y]
  rintro S H3 ⟨J,x5,x6,x7,x8,x9,g,kp,cj,bS,hF,d4,hi,rfl⟩;rw[<- Rl,take_length]at hF;have as:=kp _ _ c6 a7
  have t3:SameT H H3:=λb o e=>by
   have nb:b≠q:=λz=>by rw[z,c3]at e;cases e
   obtain⟨e1,o1,e2⟩:=t2 b o e;exact⟨λnp=>kp _ _ nb (e1 np),o1,kp _ _ nb e2⟩
  refine .inl ⟨⟨_,SqL.of as⟩,λD5 f=>?_⟩
  let Pw7:PvL:=λn ws H'=>n<=ps.length/\Same H3 H'/\H' D5=some (.lst ws)/\ws.Nodup/\Paired (rF K H3 (untr H' D5) (Tb.mm R) ps) (ps.take n) ws
  refine aJ (K:=K) (a:=lp) (xs:=ps.map V.int) Pw7 ⟨Nat.zero_le _,Same.new f,ad,nodup_nil,.nil⟩ (λn ys H' h=>SqL.of (h.2.1 _ _ as)) (λn ys H' h=>h.2.2.1) ?_ ?_
  .rintro n y ws H' P' hy ⟨d',M,bl,bF,O⟩ Y
   obtain⟨x,hx,rfl⟩:=fG hy;have ab:n<ps.length:=(List.getElem?_eq_some_iff.mp hx).1;have wl:ws.length<=100:=by rw[<- O.length,length_take];lia
   refine⟨⟨rfl,rfl,rfl,trivial⟩,?_⟩;refine⟨x,L,lp,q,ps,J,Tb.tF ps L R,rfl,M _ _ as,dT,M _ _ bS,hF,hL0,bL.mono (by decide),λj hj=>?_,λH7 D7 zs s7 fD7 hD7 hz7=>?_⟩
   .obtain⟨g1,g2⟩:=Tb.tF_le hL0 gd (List.mem_of_getElem? hx) hj dL
    exact(bL.mono (show 2721<=6000 by decide)).le (by lia)
   have cx:=s7 _ _ bl;have cb:D7≠D5:=λz=>by rw[z,bl]at fD7;cases fD7
   have c1:∀{b:Addr}{us:List V},H7 b=some (.tup us)->(untr (upd H7 D5 (.lst (ws++[.ref D7]))) D5) b=some (.tup us):=λ{b us} e=>by
    have nb:b≠D5:=bQ e cx (λz=>nomatch z);rw[aI nb,ai nb];exact e
   have c2:SameT (untr H' D5) (untr (upd H7 D5 (.lst (ws++[.ref D7]))) D5):=(fk s7.t).trans eI;refine⟨cx,by lia,Y _ _ ⟨ab,(M.trans s7).put f,ad,?_,?_⟩⟩
   .refine nodup_append.mpr ⟨bF,by simp,λu hu u' d2 e=>?_⟩
    have e':u'=V.ref D7:=by simpa using d2
    rw[e,e']at hu;obtain⟨j,hj⟩:=List.getElem?_of_mem hu;obtain⟨i9,_,D9,an,e9,_,h9,_⟩:=aG O hj;cases e9;rw[aI cb,fD7]at h9;cases h9
   .refine aU (ah (λi y ⟨D9,an,e9,f9,h9,p9⟩=>⟨D9,an,e9,f9,c2.at h9,ah (λj z h=>h.tk (λb us e=>c2.at e)) p9⟩) O) hx ⟨D7,zs,rfl,M.free fD7,?_,?_⟩
    .rw[aI cb,ai cb];exact hD7
    .refine jo (λj hj z h=>?_) hz7
     rw[Tb.low_tops hL0 (Tb.tF_rat hL0 (List.mem_of_getElem? hx) hj dL)]at h;exact h.tk λb us e=>c1 e
  .rintro ws H' ⟨_,M,bl,bF,O⟩
   rw[length_map,take_length]at O;refine q1 df _ D5 R ws (t3.trans M.t) (cj.same M) (t3.free f) bl (λhm=>?_) a6 (ah (λi y ⟨D9,an,e9,f9,h9,p9⟩=>⟨D9,an,e9,t3.free f9,cut_sub.at h9,ah (λj z h=>h.tk (λb us e=>cut_sub.at e)) p9⟩) O) bF;obtain⟨j,hj⟩:=List.getElem?_of_mem hm;obtain⟨i9,_,D9,an,e9,_,h9,_⟩:=aG O hj;cases e9;rw[bX]at h9;cases h9
end
end My
namespace My
open PySem L2 FrM Tu
open Tb (Tr bnd gw)
def tot{α:Type}(ps:List (Int×α)):Int:=(ps.map (·.1)).sum
def gt{α:Type}:List (Int×α)->Int->Option α
 | [],_=>none
 | (m,t)::r,k=>if k<m then some t else gt r (k - m)
theorem gH{a:Type}{m:Int}{u:a}{r:List (Int×a)}:tot ((m,u)::r)=m+tot r:=by simp[tot]
theorem pk{d:Type}:∀(l:List (Int×d)),(∀ p∈l,0<=p.1)->0<=tot l
 | [],_=>by simp[tot]
 | (m,u)::r,h=>by
  have a:=h (m,u) (mem_cons_self ..);have b:=pk r λp c=>h p (mem_cons_of_mem _ c)
  rw[gH];simp at a;lia
theorem qp{a:Type}:∀(ps:List (Int×a)) (k:Nat) (t m:Int) (u:a),(∀ p∈ps,0<=p.1)->ps[k]? = some (m,u)->tot (ps.take k)<=t->t<tot (ps.take (k+1))->gt ps t=some u
 | [],k,t,m,u,_,h,_,_=>by simp at h
 | (m0,u0)::r,0,t,m,u,hp,h,h0,h1=>by
  simp at h;obtain⟨rfl,rfl⟩:=h;unfold gt;rw[if_pos (by simpa[tot] using h1)]
 | (m0,u0)::r,k+1,t,m,u,hp,h,h0,h1=>by
  have d:tot (((m0,u0)::r).take (k+1))=m0+tot (r.take k):=by simp[tot]
  have c:tot (((m0,u0)::r).take (k+1+1))=m0+tot (r.take (k+1)):=by simp[tot]
  have b:=pk (r.take k) λp h=>hp p (mem_cons_of_mem _ (List.mem_of_mem_take h))
  unfold gt;rw[if_neg (by lia)];exact qp r k (t - m0) m u (λp h=>hp p (mem_cons_of_mem _ h)) (by simpa using h) (by lia) (by lia)
theorem nU{a:Type}{ps:List (Int×a)}{k:Nat}{m:Int}{u:a}(h:ps[k]? = some (m,u)):tot (ps.take (k+1))=tot (ps.take k)+m:=by
 rw[take_add_one,h];simp[tot]
theorem xF{a:Ad}{H:Hp}{v:V}{rs:List (Int×V)}(h:IsRaw a H v rs):∀ p∈rs,1<=p.1:=by
 obtain⟨x,n,l,j,k,i,b,g,d,c⟩:=h;clear d c b
 induction g with
 | nil=>intro p hp;cases hp
 | cons r _ ih =>
  intro p hp
  rcases mem_cons.mp hp with rfl | hp
  .obtain⟨_,_,_,f⟩:=r
   exact f
  .exact ih p hp
inductive spI1(c:Addr)(f1:Str)(vs:List V)(H:Hp)(Q:VK)(_E:XK):Prop
 | mk(x:Addr)(m:Int)(h0:vs=[.ref x,.int m])(h1:H x=some (.ext (XD0 x c)))(h2:∀ dx,H dx=none->dx≠x->Q .non (upd (upd H dx (.ext (XDct dx [(f1,.int m)]))) x (.ext (XD1 x c dx)))):spI1 c f1 vs H Q _E
theorem zQ{c:Addr}{a:Str}:∀ vs H Q E,spI1 c a vs H Q E->vs.length<=100:=by
 rintro _ _ _ _ ⟨_,_,rfl,_⟩;exact(by decide:2<=100)
theorem gQ{a:Type}(ys:List (Int×a)):∀(xs:List (Int×a)) (t:Int),0<=t->(∀ p∈xs,0<=p.1)->gt (xs++ys) t=if t<tot xs then gt xs t else gt ys (t - tot xs)
 | [],t,h0,_=>by
  have e:tot ([]:List (Int×a))=0:=rfl;rw[e,Int.sub_zero,if_neg (by lia),nil_append]
 | (m,u)::r,t,h0,h=>by
  have b:∀ p∈r,0<=p.1:=λp f=>h p (mem_cons_of_mem _ f)
  have n:=pk r b;rw[gH];show(if t<m then some u else gt (r++ys) (t - m))=if t<m+tot r then (if t<m then some u else gt r (t - m)) else _
  by_cases c:t<m
  .rw[if_pos c,if_pos (by lia),if_pos c]
  .rw[if_neg c,if_neg c,gQ ys r (t - m) (by lia) b]
   by_cases d:t<m+tot r
   .rw[if_pos d,if_pos (by lia)]
   .rw[if_neg d,if_neg (by lia),show t - m - tot r=t - (m+tot r) by lia]
theorem iX(xs ys:List (Int×List Nat)):rtr (xs++ys)=rtr xs++rtr ys:=by unfold rtr;rw[map_append]
theorem mv{rs:List (Int×List Nat)}{a:List (Int×Int)}{i:Nat}(h:Run a i rs):tot (rtr rs)=(i:Int):=by
 rw[<- mG h];unfold tot rtr;rw[map_map];rfl
theorem vD{rs:List (Int×List Nat)}{b:List (Int×Int)}{i:Nat}(h:Run b i rs):∀ p∈rtr rs,0<=p.1:=λp a=>by
 obtain⟨z,c,rfl⟩:=mem_map.mp a;have:=(cS h z c).1;show 0<=z.1;lia
theorem m8{f:List (Int×Int)}{i:Nat}{rs:List (Int×List Nat)}(h:Run f i rs):∀ t:Int,0<=t->t<(i:Int)->gt (rtr rs) t=some (.leaf (nI (plc f t))):=by
 induction h with
 | zero=>intro t a l;lia
 | @new i rs h _ ih =>
  intro t a l;rw[iX,gQ _ _ t a (vD h),mv h]
  by_cases c:t<(i:Int)
  .rw[if_pos c];exact ih t a c
  .rw[if_neg c]
   have e:t=(i:Int):=by lia
   subst e;show(if (i:Int) - (i:Int)<1 then _ else _)=_;rw[if_pos (by lia)]
 | @more i rs0 m h ih =>
  intro t a l;have k:=vD h;have g:=mv h;rw[iX]at g k
  have o:tot (rtr rs0++rtr [(m,plc f (i:Int))])=tot (rtr rs0)+m:=by
   unfold tot;rw[map_append,sum_append];show _+(m+0)=_;lia
  rw[o]at g;have j:∀ p∈rtr rs0,0<=p.1:=λp n=>k p (mem_append_left _ n)
  rw[iX,gQ _ _ t a j];have b:=ih t a;rw[iX,gQ _ _ t a j]at b
  by_cases c:t<tot (rtr rs0)
  .rw[if_pos c]at b ⊢
   have:1<=m:=(cS h _ (mem_append_right _ mem_cons_self)).1;exact b (by lia)
  .rw[if_neg c]at b ⊢
   show(if t - tot (rtr rs0)<m+1 then some (Tr.leaf (nI (plc f (i:Int)))) else none)=_;rw[if_pos (by lia)]
   by_cases d:t<(i:Int)
   .rw[<- b d]
    show _=if t - tot (rtr rs0)<m then some (Tr.leaf (nI (plc f (i:Int)))) else none
    rw[if_pos (by lia)]
   .have e:t=(i:Int):=by lia
    rw[e]
def SpN(a:Ad)(H:Hp)(v:V)(ts:List (Int×Int))(rs:List (Int×List Nat)):Prop:=∃ H0,SqH H0/\SameT H0 H/\Run ts 1000 rs/\IsNode a H0 H 1 v (.die (rtr rs))
theorem SpN.t{a:Ad}{H H':Hp}{v:V}{b:List (Int×Int)}{rs:List (Int×List Nat)}(s:SameT H H')(h:SpN a H v b rs):SpN a H' v b rs:=by
 obtain⟨f,g,d,c,i⟩:=h;exact⟨f,g,d.trans s,c,i.t s⟩
def MkT(H:Hp)(p:Int×Tr)(r:Int×V):Prop:=p.1=r.1/\IsMkP H r.2 p.2
theorem lQ{a:Ad}{H:Hp}{v:V}{o:List (Int×Int)}{rs:List (Int×List Nat)}(h:SpN a H v o rs):∃ fs,IsRaw a H v fs/\tot fs=1000/\Paired (MkT H) (rtr rs) fs:=by
 obtain⟨j,d,B,F,k,P,x,I,l,b,rfl,G,n,s,z,D⟩:=h
 have g:∀{c:List (Int×Tr)}{b:List V},Paired (NodeR j H k) c b->∃ rs:List (Int×V),Paired (RawR H) rs b/\Paired (MkT H) c rs/\tot rs=tot c:=by
  intro c b h
  induction h with
  | nil=>exact⟨[],.nil,.nil,rfl⟩
  | @cons pt y c b r _ ih =>
   obtain⟨rs,J,K,q⟩:=ih;obtain⟨p,f,N,E,O,C,M,Q,w⟩:=r;exact⟨(pt.1,f)::rs,.cons ⟨p,E,O,M⟩ J,.cons ⟨rfl,N,j,k,C,d,B,w,by lia⟩ K,by rw[gH,q];exact(gH (m:=pt.1) (u:=pt.2)).symm⟩
 obtain⟨fs,L,i,A⟩:=g s;have:fs.length=(rtr rs).length:=i.length.symm;exact⟨fs,⟨x,I,l,b,rfl,G,n,L,by lia,by lia⟩,by rw[A,mv F];rfl,i⟩
theorem jX{H:Hp}:∀{ps:List (Int×Tr)}{rs:List (Int×V)}{t:Int}{u:Tr},Paired (MkT H) ps rs->gt ps t=some u->∃ f,gt rs t=some f/\IsMkP H f u
 | _,_,_,_,.nil,h=>by cases h
 | (m,u0)::ps,(m',f)::rs,t,u,.cons r hr,h=>by
  have e:m=m':=r.1;subst e;have h:(if t<m then some u0 else gt ps (t - m))=some u:=h;show ∃ f',(if t<m then some f else gt rs (t - m))=some f'/\_
  by_cases c:t<m
  .rw[if_pos c]at h ⊢
   cases h;exact⟨f,rfl,r.2⟩
  .rw[if_neg c]at h ⊢
   exact jX hr h
theorem ou{a:Ad}{H:Hp}{f:V}{l:List Int}{Q:VK}(h:IsMkP H f (.leaf l))(p:TabsOk (tabs a) H)(q:∀ H' u,SameT H H'->TabsOk (tabs a) H'->IsTold a H' u l->Q u H'):o7 ld_told_make_1 fvT (spL a) f [] H Q:=by
 obtain⟨w,v,d,⟨z,c,x,rfl,r,s,n,B,o⟩,j,y,k,g⟩:=h;exact⟨z,c,x,_,rfl,r,s,n,B,o,w,d,_,v,rfl,rfl,k,g,y,p,j,λH' u A i b _=>q _ _ A i b⟩
def wo(a:Ad):Sp:=λvs H Q _=>∃ v,∃ t:Int,∃ rs,vs=[v,.int t]/\IsRaw a H v rs/\∀ H',Same H H'->Q (.bl (inR 0 (tot rs - 1) (some t))) H'
def zp(a:Ad):Sp:=λvs H Q E=>∃ v rs f,∃ t:Int,vs=[v,.int t]/\IsRaw a H v rs/\0<=t/\t<tot rs/\gt rs t=some f/\∀ H1,Same H H1->o7 ld_told_make_1 fvT (spL a) f [] H1 Q
def AT(a:Ad):Sp:=λvs H Q E=>∃ v l ts rs,∃ t:Int,vs=[v,.ref l]/\SpN a H v ts rs/\H l=some (.lst [.int t])/\0<=t/\t<1000/\TabsOk (tabs a) H/\∀ H' kt,SameT H H'->TabsOk (tabs a) H'->H' kt=some (.tup ((nI (plc ts t)).map V.int))->Q (.ref kt) H'
section
variable {P:Program}{w:World}{K:Frag}{mg:Str->Option Value}{base:Heap}{a:Ad}
theorem uJ(T:Txt K mg a):FnOk P w K mg base CX0 2 a.f_r a.d_r ["node","throw"] (wo a):=by
 have f:FnOk P w K mg base CX0 1 _ _ _ spWhole3:=fQ T;have c:FnOk P w K mg base CX0 1 _ _ _ (spV (.int 0)):=vR T;have b:FnOk P w K mg base CX0 1 _ _ _ (xk a):=uG T;refine T.F_r.ok iq (λi H Q E h=>?_) (λcdv A outer s H i Q E hr h=>?_)
 .obtain⟨v,t,d,rfl,_⟩:=h;rfl
 .obtain⟨v,t,d,rfl,g,q⟩:=h
  refine⟨_,(ak (aw (aq f hr rfl T.m_A T.F_A.kp T.B_A .nil ar (aa (vr 1) (aa am (aa (ay jq (PE.or (ax (vr 0) T.cl_d T.mt_s c hr T.B_s .nil ar) (ax (vr 0) T.cl_h T.mt_w b hr T.B_w .nil ar)) am) ae)))))),?_⟩;obtain⟨x,n,l,p,rfl,k,_⟩:=id g;refine .inr ⟨x,n,_,rfl,k,rfl,_,d,rfl,g,λo j=>?_⟩;exact⟨_,0,tot d - 1,_,rfl,.int t,q _ j⟩
theorem jP(T:Txt K mg a):FnOk P w K mg base CX0 1 a.i_a a.e_a ["self","place"] (spI1 a.c_a "place"):=by
 refine T.Fi_a.ok fY (λd H Q E h=>?_) (λcdv A outer s H d Q E hr h=>?_)
 .obtain⟨x,m,rfl,_⟩:=h;rfl
 .obtain⟨x,m,rfl,i,q⟩:=h
  obtain⟨c,g⟩:=T.sx_NoThrow_place;refine⟨_,(ak (wK (vr 0) (vr 1) rfl)),?_⟩;exact⟨x,a.c_a,c,rfl,g,.inl ⟨i,λj f b=>q j f b⟩⟩
theorem yg(T:Txt K mg a)(hB:Bm mg base):FnOk P w K mg base (CXG P w) 12 a.x_q a.y_q ["self","throw"] (zp a):=by
 have o:LamOk P w K mg base 11 ld_told_make_1 fvT [] (spL a):=LamOk.mono (yY T hB) (by decide);have N:FnOk P w K mg base CX0 11 _ _ _ _:=(uJ T).mono (by decide);have W:FnOk P w K mg base CX0 10 _ _ _ _:=(jP T).mono (by decide);refine T.F_q.okG sc_q (λvs H Q E h=>?_) (λcdv A outer s H vs Q E hr h=>?_)
 .obtain⟨v,rs,f,t,rfl,_⟩:=h;rfl
 .obtain⟨v,j,f0,t,rfl,hd,t0,t1,ab,F⟩:=h
  refine⟨_,(aj (cK (mD (gN (aq N hr rfl T.m_r T.F_r.kp T.B_r .nil ar (aa (vr 0) (aa (vr 1) ae))))) (ak (fT T.xc_a T.xh_a (pv T.xi_NoThrow T.kc_NoThrow T.fn_NoThrow W hr rfl T.mc_a T.Bi_a (aa am ae) zQ))) bK) (aj (aD (i:=2) sc_q.nd rfl (Or.inl rfl) am) (aj (aD (i:=3) sc_q.nd rfl (Or.inl rfl) (ay jq (cF bU (cF bU (ci (vr 0) rfl) am (λ_ _=>rfl)) am (λ_ _=>rfl)) am)) (aj (jm oG (cE xb (vr 3) (vr 1) (bw _)) (aj (wc (i:=2) sc_q.nd rfl (Or.inl rfl) am pD) (ak (wc (i:=3) sc_q.nd rfl (Or.inl rfl) (cF bU (cF bU (ci (vr 0) rfl) (vr 2) (λ_ _=>rfl)) am (λ_ _=>rfl)) pD)))) (aj (gx (cF bU (ci (vr 0) rfl) (vr 2) (λ_ _=>rfl)) (eh rfl (au (ap (i:=4) sc_q.nd rfl (Or.inl rfl)) (au (ap (i:=5) sc_q.nd rfl (Or.inl rfl)) aZ)))) (ak (aw (fM (vr 5) o hr)))))))),AO ?_⟩;intro a1 a0 a2 an a3;refine⟨v,t,j,rfl,hd,λH1 s1=>?_⟩;have hc:inR 0 (tot j - 1) (some t)=true:=decide_eq_true ⟨t0,by lia⟩;cases hc':inR 0 (tot j - 1) (some t) with
  | false=>rw[hc]at hc';cases hc'
  | true =>
   have S:=hd.t s1.t;have I:=xF hd;obtain⟨x,Z,l,B,rfl,Y,J,hP,al,as⟩:=id S;have yl:B.length=j.length:=hP.length.symm
   have r:∀ k:Nat,k<j.length->∃ q d f,B[k]? = some (.ref q)/\j[k]? = some (d,f)/\H1 q=some (.tup [.int d,f]):=λk hk=>by
    have L:k<B.length:=by lia
    have e:B[k]? = some B[k]:=List.getElem?_eq_getElem L;obtain⟨⟨d,u⟩,n,q,e2,M,_⟩:=aG hP e;exact⟨q,d,u,by rw[e,e2],n,M⟩
   obtain⟨qz,mz,fz,yz,pz,hz⟩:=r 0 (by lia);refine⟨x,_,Z,_,_,rfl,Y,T.cl_h,T.na_Die_makes,rfl,.inl ⟨l,_,_,_,rfl,rfl,SqL.of J,bT 0 rfl yz,.inr (.inl ⟨qz,_,_,_,rfl,rfl,SqT.of hz,bT 0 rfl rfl,?_⟩)⟩⟩;have tz:tot (j.take 1)=mz:=by rw[nU pz];simp[tot]
   refine⟨λk σ H'=>H'=H1/\∃(b:Nat) (g:Int) (R O:Option V),σ=[some (.ref x),some (.int t),some (.int (b:Nat)),some (.int g),R,O]/\b<j.length/\g=tot (j.take (b+1)) - 1/\tot (j.take b)<=t/\k=j.length - b,⟨_,rfl,0,_,_,_,rfl,by lia,by rw[tz],by simpa[tot] using t0,rfl⟩,?_⟩;rintro k σ H' ⟨rfl,b,g,R,O,rfl,hn,y,C,rfl⟩;refine ifC (λc=>?_) λc=>?_
   .have c:g<t:=c
    have D:b+1<j.length:=by
     rcases Nat.lt_or_ge (b+1) j.length with h | h
     .exact h
     .rw[take_of_length_le h]at y;lia
    obtain⟨q,d,f,X,n,hq⟩:=r (b+1) D
    let Pw2:St->Hp->Prop:=λz G=>G=H'/\z=[some (.ref x),some (.int t),some (.int ((b+1:Nat):Int)),some (.int (g+d)),R,O]
    refine⟨Pw2,?_,?_⟩
    .rintro z G ⟨rfl,rfl⟩
     exact⟨_,by lia,rfl,b+1,_,_,_,rfl,D,by rw[nU n];lia,by lia,rfl⟩
    .refine⟨_,rfl,_,_,rfl,rfl,_,rfl,?_⟩
     exact⟨x,_,Z,_,_,rfl,Y,T.cl_h,T.na_Die_makes,rfl,.inl ⟨l,_,_,_,rfl,rfl,SqL.of J,bT (b+1) (by show(b:Int)+1=((b+1:Nat):Int);lia) X,.inr (.inl ⟨q,_,_,_,rfl,rfl,SqT.of hq,bT 0 rfl rfl,_,_,rfl,rfl,rfl,by rw[show((b+1:Nat):Int)=(b:Int)+1 by lia];rfl⟩)⟩⟩
   .have c:¬g<t:=c
    obtain⟨q,d,f,X,n,hq⟩:=r b hn;have eu:=qp j b t d f (λp hp=>by have:=I p hp;lia) n C (by lia);rw[ab]at eu;cases eu;exact⟨x,_,Z,_,_,rfl,Y,T.cl_h,T.na_Die_makes,rfl,.inl ⟨l,_,_,_,rfl,rfl,SqL.of J,bT b (by lia) X,q,_,rfl,SqT.of hq,rfl,_,_,rfl,_,_,rfl,rfl,F _ s1⟩⟩
theorem ve(T:Txt K mg a)(hB:Bm mg base):FnOk P w K mg base (CXG P w) 13 a.f_ab a.d_ab ["node","throws"] (AT a):=by
 have I:FnOk P w K mg base CX0 12 _ _ _ _:=(uJ T).mono (by decide);have r:FnOk P w K mg base CX0 11 _ _ _ _:=(jP T).mono (by decide);have G:FnOk P w K mg base (CXG P w) 12 _ _ _ (zp a):=yg T hB;have M:FnOk P w K mg base CX0 12 _ _ _ _:=(qS T).mono (by decide);have F:FnOk P w K mg base CX0 12 _ _ _ _:=(qw T).mono (by decide);have J:FnOk P w K mg base CX0 12 _ _ _ _:=(ql T).mono (by decide);have O:FnOk P w K mg base CX0 12 _ _ _ _:=(qa T).mono (by decide);refine T.F_ab.okG sc_ab (λvs H Q E h=>?_) (λcdv A outer s H vs Q E d h=>?_)
 .obtain⟨v,l,y,rs,t,rfl,_⟩:=h;rfl
 .obtain⟨v,l,y,rs,t,rfl,hn,hl,S,h1,hT,q⟩:=h
  refine⟨_,(aj (aD (i:=2) sc_ab.nd rfl (Or.inl rfl) (vr 0)) (aj (cV oG rfl (gO rfl T.z_enumerate (aa (vr 1) ae)) (eh rfl (au (ap (i:=3) sc_ab.nd rfl (Or.inl rfl)) (au (ap (i:=4) sc_ab.nd rfl (Or.inl rfl)) aZ))) (aj (cK (mD (gN (aq I d rfl T.m_r T.F_r.kp T.B_r .nil ar (aa (vr 2) (aa (vr 4) ae))))) (ak (fT T.xc_a T.xh_a (pv T.xi_NoThrow T.kc_NoThrow T.fn_NoThrow r d rfl T.mc_a T.Bi_a (aa (vr 3) ae) zQ))) bK) (ak (aD (i:=2) sc_ab.nd rfl (Or.inl rfl) (fU (vr 2) T.cl_h T.mt_q G d T.B_q .nil tN (aa (vr 4) ae)))))) (aj (cK (mD (gN (PE.or (ax (vr 2) T.cl_d T.mt_k M d T.B_k .nil ar) (ax (vr 2) T.cl_h T.mt_o F d T.B_o .nil ar)))) (ak (fT T.xc_a T.xh_a (pv T.xi_NoThrow T.kc_NoThrow T.fn_NoThrow r d rfl T.mc_a T.Bi_a (aa (aL cD rfl T.z_len eM (aa (vr 1) ae)) ae) zQ))) bK) (ak (aw (PE.or (ax (vr 2) T.cl_d T.mt_n J d T.B_n .nil ar) (ax (vr 2) T.cl_h T.mt_p O d T.B_p .nil ar))))))),vF ?_⟩;intro an al as
  let Pw1:PvS:=λi D g=>SameT H g/\TabsOk (tabs a) g/\∃(b:V) (X L:Option V),D=[some v,some (.ref l),some b,X,L]/\(i=0->b=v)/\(1<=i->IsTold a g b (nI (plc y t)))
  refine⟨l,_,rfl,hl,jU (a:=l) (xs:=[.int t]) Pw1 ⟨SameT.refl,hT,v,none,none,rfl,λ_=>rfl,λz=>absurd z (by decide)⟩ (λi D g h=>h.1.at hl) ?_ ?_⟩
  .rintro i x D g p o ⟨C,n,b,X,L,rfl,e0,_⟩ hp
   cases i with
   | succ i=>cases o
   | zero =>
    cases o;cases e0 rfl;have s2:Same g (upd g p (.tup [.int ((0:Nat):Int),.int t])):=Same.new hp;refine⟨p,_,rfl,SqT.of ad,rfl,_,_,rfl,_,_,rfl,rfl,?_⟩;obtain⟨R,j,et,k⟩:=lQ (hn.t (C.trans s2.t));obtain⟨_,_,_,d,_⟩:=id hn;refine⟨v,t,R,rfl,j,λH2 B=>?_⟩;have W:=C.trans (s2.trans B).t;have Z:=n.same (s2.trans B);have hc:inR 0 (tot R - 1) (some t)=true:=decide_eq_true ⟨S,by lia⟩;rw[hc];obtain⟨f,hf,k⟩:=jX k (m8 d t S h1);have c:=j.t B.t;obtain⟨x0,u,l',ys,rfl,Y,_⟩:=id c;refine⟨x0,u,_,rfl,Y,rfl,_,R,f,t,rfl,c,S,by lia,hf,λH3 s4=>?_⟩;refine ou (k.t (B.trans s4).t) (Z.same s4) λH5 u5 t5 N hu=>?_
    exact⟨(W.trans s4.t).trans t5,N,u5,_,_,rfl,(λz=>by cases z),λ_=>hu⟩
  .rintro D g ⟨C,n,b,X,L,rfl,_,e1⟩
   obtain⟨x,u,tt,ms,rfl,o,ab,hs⟩:=e1 (Nat.le_refl 1);have e:ms=nI (plc y t):=(Tb.so_uniq hs.1 hs.2).trans (Tb.so_up (gz y t));subst e;refine .inl ⟨x,u,_,rfl,o,rfl,_,rfl,?_⟩;exact .inl ⟨x,u,_,rfl,o,rfl,x,u,tt,rfl,o,q _ tt C n ab⟩
end
end My
namespace My
open PySem L2 FrM Du LexM Tu
open Tb (Tr Rws)
theorem xu{K:Frag}{H:Hp}{p:Addr}{t b:Int}(h:SqT K H p [.int t,.int b]):DV K H (.tuple [.int t,.int b]) (.ref p):=by
 rw[DV];refine⟨p,_,rfl,h,?_⟩;rw[DVs];refine⟨_,_,rfl,by simp[DV],?_⟩;rw[DVs];exact⟨_,_,rfl,by simp[DV],by simp[DVs]⟩
def nR(x:List Int):PyData:=.tuple (x.map PyData.int)
theorem n4{K:Frag}{H:Hp}:∀ x:List Int,DVs K H (x.map PyData.int) (x.map V.int)
 | []=>by simp[DVs]
 | i::x=>by
  rw[map_cons,map_cons,DVs];exact⟨_,_,rfl,by simp[DV],n4 x⟩
theorem eZ{K:Frag}{H:Hp}{p:Addr}{x:List Int}(h:H p=some (.tup (x.map V.int))):DV K H (nR x) (.ref p):=by
 unfold nR;rw[DV];exact⟨p,_,rfl,SqT.of h,n4 x⟩
def frD(q:Rat):PyData:=.tuple [.int q.num,.int q.den]
def wW(x:List Int×Rat):PyData:=.tuple [nR x.1,frD x.2]
theorem yo{K:Frag}{H:Hp}{q:Rat}{z:V}(h:IsQ K H q z):DV K H (frD q) z:=by
 obtain⟨p,rfl,a⟩:=h;exact xu a.sq
theorem g7{K:Frag}{H:Hp}{x:List Int×Rat}{y:V}(h:RowR K H x y):DV K H (wW x) y:=by
 obtain⟨p,d,z,rfl,c,a,b⟩:=h;unfold wW;rw[DV];refine⟨p,_,rfl,SqT.of c,?_⟩;rw[DVs];refine⟨_,_,rfl,eZ a,?_⟩;rw[DVs];exact⟨_,_,rfl,yo b,by simp[DVs]⟩
theorem dR{K:Frag}{H:Hp}{b:Type}{r:b->V->Prop}{f:b->PyData}(h:∀ a y,r a y->DV K H (f a) y){c:List b}{ys:List V}(p:Paired r c ys):DVs K H (c.map f) ys:=by
 induction p with
 | nil=>simp[DVs]
 | cons x _ ih=>rw[map_cons,DVs];exact⟨_,_,rfl,h _ _ x,ih⟩
theorem cL{K:Frag}{H:Hp}{l:Addr}{a:List PyData}{ys:List V}(h:H l=some (.lst ys))(d:DVs K H a ys):DV K H (.list a) (.ref l):=by
 rw[DV];exact⟨l,_,rfl,SqL.of h,d⟩
def Ly(n:Nat)(d:PyData):Prop:=PyData.canLay0 d=true/\PyData.depth d<=n
theorem ph{n:Nat}:∀{ds:List PyData},(∀ d∈ds,Ly n d)->PyData.canLayAll0 ds=true/\PyData.depthAll ds<=n
 | [],_=>by simp[PyData.canLayAll0,PyData.depthAll]
 | d::ds,h=>by
  obtain⟨a,f⟩:=ph λx hx=>h x (mem_cons_of_mem _ hx)
  obtain⟨b,c⟩:=h d mem_cons_self;rw[PyData.canLayAll0,PyData.depthAll,a,b];exact⟨rfl,by lia⟩
theorem jJ{n:Nat}{a:List PyData}(h:∀ d∈a,Ly n d):Ly (n+1) (.tuple a):=by
 obtain⟨b,c⟩:=ph h;refine⟨by rw[PyData.canLay0,b],?_⟩;simp only[PyData.depth];lia
theorem i6{n:Nat}{a:List PyData}(h:∀ d∈a,Ly n d):Ly (n+1) (.list a):=by
 obtain⟨b,c⟩:=ph h;refine⟨by rw[PyData.canLay0,b],?_⟩;simp only[PyData.depth];lia
theorem oO(i:Int):Ly 1 (.int i):=⟨by simp[PyData.canLay0],by simp[PyData.depth]⟩
theorem dM{n:Nat}{d:PyData}(h:Ly n d)(a:n<=5):SeqAt.shaped d=true:=by
 unfold SeqAt.shaped;rw[h.1,Bool.true_and];exact decide_eq_true (by have:=h.2;lia)
theorem p6(x:List Int):∀ d∈x.map PyData.int,Ly 1 d:=λd a=>by
 obtain⟨i,_,rfl⟩:=mem_map.mp a;exact oO i
theorem yv(q:Rat):Ly 2 (frD q):=jJ (n:=1) λd hd=>by
 rcases mem_cons.mp hd with rfl | hd
 .exact oO _
 .rw[mem_singleton.mp hd];exact oO _
theorem yQ(x:List Int×Rat):Ly 3 (wW x):=jJ (n:=2) λd hd=>by
 rcases mem_cons.mp hd with rfl | hd
 .exact jJ (p6 x.1)
 .rw[mem_singleton.mp hd];exact yv _
def qh(R:Rws):PyData:=.list (R.map wW)
theorem lO(R:Rws):Ly 4 (qh R):=i6 λd a=>by
 obtain⟨x,_,rfl⟩:=mem_map.mp a;exact yQ x
theorem eL{K:Frag}{H:Hp}{x y:V}{d:PyData}{n:Nat}{Q:VK}(b:DV K H d x)(c:DV K H d y)(h:Ly n d)(a:n<=5)(q:Q (.bl false) H):rEqD K true x y H Q:=by
 refine⟨d,d,b,c,dM h a,dM h a,?_⟩;rw[SeqAt.eqv_refl _ (SeqAt.canLay_of_shaped (dM h a))];exact q
theorem nS:∀ l m:List Int,PyData.eqvAll (l.map PyData.int) (m.map PyData.int)=decide (l=m)
 | [],[]=>rfl
 | [],_::_=>rfl
 | _::_,[]=>rfl
 | x::l,y::m=>by
  rw[map_cons,map_cons,PyData.eqvAll,nS l m,Bool.eq_iff_iff];simp[PyData.eqv]
theorem jk(x:List Int):Ly 2 (nR x):=jJ (p6 x)
theorem y8{K:Frag}{H:Hp}{p q:Addr}{l m:List Int}{Q:VK}(a:H p=some (.tup (l.map V.int)))(d:H q=some (.tup (m.map V.int)))(c:∀ b:Bool,b=decide (l=m)->Q (.bl b) H):rEqD K false (.ref p) (.ref q) H Q:=by
 refine⟨_,_,eZ a,eZ d,dM (jk l) (by decide),dM (jk m) (by decide),c _ ?_⟩;simp only[Bool.false_eq_true,if_false];unfold nR;rw[PyData.eqv,nS]
def PartL(H:Hp)(z:Int×List Nat)(y:V):Prop:=∃ p q,y=.ref p/\H p=some (.tup [.int z.1,.ref q])/\H q=some (.tup ((nI z.2).map V.int))
theorem PartL.tk{H H':Hp}(s:TK H H')(z:Int×List Nat)(y:V)(h:PartL H z y):PartL H' z y:=by
 obtain⟨p,q,a,c,b⟩:=h;exact⟨p,q,a,s _ _ c,s _ _ b⟩
def oq(z:Int×List Nat):PyData:=.tuple [.int z.1,nR (nI z.2)]
theorem lU{K:Frag}{H:Hp}(z:Int×List Nat)(y:V)(h:PartL H z y):DV K H (oq z) y:=by
 obtain⟨p,q,rfl,b,a⟩:=h;unfold oq;rw[DV];refine⟨p,_,rfl,SqT.of b,?_⟩;rw[DVs];refine⟨_,_,rfl,by simp[DV],?_⟩;rw[DVs];exact⟨_,_,rfl,eZ a,by simp[DVs]⟩
theorem xt(z:Int×List Nat):Ly 3 (oq z):=jJ (n:=2) λd hd=>by
 rcases mem_cons.mp hd with rfl | hd
 .exact⟨by simp[PyData.canLay0],by simp[PyData.depth]⟩
 .rw[mem_singleton.mp hd];exact jk _
theorem ng(rs:List (Int×List Nat)):Ly 4 (.list (rs.map oq)):=i6 λd a=>by
 obtain⟨x,_,rfl⟩:=mem_map.mp a;exact xt x
theorem yF{K:Frag}{H:Hp}{r e:Addr}{rs:List (Int×List Nat)}{ys:List V}{Q:VK}(d:H r=some (.lst ys))(f:Paired (PartL H) rs ys)(a:H e=some (.lst []))(c:∀ b:Bool,b=decide (rs≠[])->Q (.bl b) H):rEqD K true (.ref r) (.ref e) H Q:=by
 refine⟨_,.list [],cL d (dR lU f),cL a (by simp[DVs]),dM (ng rs) (by decide),rfl,c _ ?_⟩;cases rs with
 | nil=>simp[PyData.eqv,PyData.eqvAll]
 | cons z r=>simp[PyData.eqv,PyData.eqvAll]
def xY(H:Hp)(t:Int×Int)(x:V):Prop:=∃ p,x=.ref p/\H p=some (.lst ((dA t.1 t.2).map V.int))
structure Ms(H:Hp)(l:Addr)(ts:List (Int×Int)):Prop where
 at':∃ xs,H l=some (.lst xs)/\Paired (xY H) ts xs
 len:ts.length<=12
theorem Ms.same{H H':Hp}{l:Addr}{a:List (Int×Int)}(s:SameT H H')(h:Ms H l a):Ms H' l a:=by
 obtain⟨⟨c,g,d⟩,b⟩:=h;exact⟨⟨c,s.at g,ah (λt x ⟨p,e,f⟩=>⟨p,e,s.at f⟩) d⟩,b⟩
inductive spKept(vs:List V)(H:Hp)(Q:VK)(_E:XK):Prop
 | mk(l:Addr)(ts:List (Int×Int))(n:Int)(h0:vs=[.ref l,.int n])(h1:Ms H l ts)(h2:0<=n)(h3:n<1000)(h4:∀ H' p,Same H H'->H' p=some (.tup ((nI (plc ts n)).map V.int))->Q (.ref p) H'):spKept vs H Q _E
inductive spParts(vs:List V)(H:Hp)(Q:VK)(_E:XK):Prop
 | mk(l:Addr)(ts:List (Int×Int))(h0:vs=[.ref l])(h1:Ms H l ts)(h2:∀ H' r rs ys,Same H H'->H r=none->H' r=some (.lst ys)->Paired (PartL H') rs ys->Run ts 1000 rs->Q (.ref r) H'):spParts vs H Q _E
section
variable {P:Program}{w:World}{K:Frag}{mg:Str->Option Value}{base:Heap}{a:Ad}
theorem qi(T:Txt K mg a):FnOk P w K mg base CX0 1 a.f_T a.d_T ["_law_marks_here","_law_number"] spKept:=by
 refine T.F_T.ok tH (λM H Q E h=>?_) (λcdv A outer s H M Q E hr h=>?_)
 .obtain⟨l,b,n,rfl,_⟩:=h;rfl
 .obtain⟨l,b,n,rfl,⟨⟨G,B,I⟩,J⟩,n0,n1,q⟩:=h
  have sl:sizeLine=16777216:=sizeLine_eq;have S:b.length=G.length:=I.length;refine⟨_,(ak (aw (dN gm rfl T.z_tuple nk (aa (ba rfl (N:=["_law_k","_law_number","_law_marks_here"]) (ix:=[none,some 1,some 0]) ⟨rfl,rfl,rfl,rfl,⟨rfl,rfl,rfl,⟨rfl,rfl,rfl,trivial⟩⟩⟩ (dO rfl T.z_range (aa (aL cD rfl T.z_len eM (aa (vr 0) ae)) ae)) ⟨λC s H u=>ap (i:=0) (show List.Nodup (["_law_k","_law_number","_law_marks_here"]:List Str) by decide +kernel) rfl (Or.inl rfl),λC s H u=>iY (cE pB (cF (iW (K:=K) rfl) (cF (iW (K:=K) rfl) (vr 2) (vr 0) (λ_ _=>rfl)) (vr 1) (λ_ _=>rfl)) am (bw _)),λC s H u=>(vr 0)⟩) ae)))),?_⟩;refine⟨_,.inl (SqL.of B),?_⟩;rw[<- S];refine⟨_,rfl,by lia,by lia,λD L=>?_⟩
  let Pw1:PvL:=λi j k=>i<=b.length/\Same H k/\k D=some (.lst j)/\j=nV (js b n i)
  refine jz (lo:=0) (n:=(b.length:Int).toNat) Pw1 ⟨Nat.zero_le _,Same.new L,ad,rfl⟩ (λi j k h=>h.2.2.1) ?_ ?_
  .rintro i j k Z hi ⟨Y,g,d,rfl⟩ F
   have r:i<b.length:=by lia
   obtain⟨x,hx⟩:∃ x,G[i]? = some x:=⟨_,List.getElem?_eq_getElem (by lia)⟩
   obtain⟨t,R,p,rfl,X⟩:=aG I hx;have v:tk b i=t:=by unfold tk;rw[List.getD,R];rfl
   have O:((dA t.1 t.2).map V.int)[n.toNat]? = some (.int (Tu.mk t.1 t.2 n.toNat)):=by rw[List.getElem?_map,sI (by lia)];rfl
   have o:=iw b n i;rw[v]at o;have f:=mf t n.toNat;rw[show((n.toNat:Nat):Int)=n by lia]at f;refine⟨⟨rfl,rfl,trivial⟩,?_⟩;refine .inl ⟨l,_,_,.ref p,rfl,rfl,SqL.of (g _ _ B),bT i (by lia) hx,.inl ⟨p,_,_,_,rfl,rfl,SqL.of (g _ _ X),bT n.toNat (by lia) O,?_⟩⟩
   have W:(nV (js b n i)).length<sizeLine:=by
    unfold nV;rw[length_map];have:=re b n i;lia
   refine ifC (λc=>?_) (λc=>?_)
   .have c:Tu.mk t.1 t.2 n.toNat=1:=c
    have y:inT t n=true:=by
     rw[f]at c
     by_cases z:inT t n=true
     .exact z
     .rw[if_neg z]at c;cases c
    rw[if_pos y]at o;exact⟨d,W,F _ _ ⟨r,g.put L,ad,by rw[o];unfold nV;rw[map_append,Int.zero_add];rfl⟩⟩
   .have c:¬Tu.mk t.1 t.2 n.toNat=1:=c
    have y:¬inT t n=true:=λz=>c (by rw[f,if_pos z])
    rw[if_neg y,append_nil]at o;exact F _ _ ⟨r,g,d,by rw[o]⟩
  .rintro j k ⟨_,g,d,rfl⟩
   have e:js b n (b.length:Int).toNat=plc b n:=by rw[Int.toNat_natCast];rfl
   rw[e,yA]at d;refine⟨D,_,rfl,.inl ⟨SqL.of d,λp u=>?_⟩⟩;exact q _ p (g.trans (Same.new u)) ad
theorem vN(T:Txt K mg a):FnOk P w K mg base CX0 2 a.f_P a.d_P ["_law_marks_here"] spParts:=by
 have as:FnOk P w K mg base CX0 1 _ _ _ spKept:=qi T;refine T.F_P.ok sc_P (λvs H Q E h=>?_) (λcdv A outer s H vs Q E hr h=>?_)
 .obtain⟨l,B,rfl,_⟩:=h;rfl
 .obtain⟨l,B,rfl,ht,q⟩:=h
  refine⟨_,(aj (aD (i:=1) sc_P.nd rfl (Or.inl rfl) (cq ae)) (aj (cV PassesOwn.never rfl (dO rfl T.z_range (aa am ae)) (ap (i:=2) sc_P.nd rfl (Or.inl rfl)) (aj (aD (i:=3) sc_P.nd rfl (Or.inl rfl) (aq as hr rfl T.m_T T.F_T.kp T.B_T .nil ar (aa (vr 0) (aa (vr 2) ae)))) (ak (cK (PW.pt (uE (cE (iD hr.units) (vr 1) (cq ae) (bw _)) (qd (cE (yd hr.units) (cF bU (cF bU (vr 1) (iF iC am) (λ_ _=>rfl)) am (λ_ _=>rfl)) (vr 3) (bw _))))) (ak (gx (bI (aa (ay dq (cF bU (cF bU (vr 1) (iF iC am) (λ_ _=>rfl)) am (λ_ _=>rfl)) am) (aa (vr 3) ae))) (pF (vr 1) (iF iC am) gR))) (ak (cN (pe_m.append (vr 1) (aa (bI (aa am (aa (vr 3) ae))) ae)))))))) (ak (aw (vr 1))))),eQ ?_⟩;intro a4 a6;have sl:sizeLine=16777216:=sizeLine_eq;refine⟨Nat.zero_le _,λr Y=>?_⟩;refine⟨1000,rfl,by decide,by decide,?_⟩
  let Pw2:PvS:=λi σ Z=>∃(C:List (Int×List Nat)) (g:List V) (x2 x3:Option V),i<=1000/\Same H Z/\Z r=some (.lst g)/\Paired (PartL Z) C g/\Run B i C/\σ=[some (.ref l),some (.ref r),x2,x3]
  refine hJ (lo:=0) (n:=1000) Pw2
   ⟨[],[],none,none,by decide,Same.new Y,ad,.nil,.zero,rfl⟩ ?_ ?_
  .rintro i σ H1 hi ⟨C,g,x2,x3,a5,X,I,W,L,rfl⟩
   refine⟨l,B,_,rfl,ht.same X.t,by lia,by lia,λH2 j s2 hq=>?_⟩;rw[Int.zero_add]at hq;have a1:=s2 _ _ I;have an:=ah (PartL.tk s2.tk) W;have a0:=X.trans s2;have yl:g.length=C.length:=W.length.symm;have rl:=i4 L;refine⟨Nat.zero_le _,λe fe=>?_⟩;have S:=Same.new (o:=.lst []) fe;have he:=ad (H:=H2) (a:=e) (o:=.lst []);generalize upd H2 e (.lst [])=H3 at S he;have d:=S _ _ a1;have G:=ah (PartL.tk S.tk) an;have D:=S _ _ hq;have O:=a0.trans S
   have R:(∀ v z,C=v++[z]->z.2≠plc B (i:Int))->∀ p,H3 p=none->∃(rs':List (Int×List Nat)) (ys':List V) (x2' x3':Option V),i+1<=1000/\Same H (upd (upd H3 p (.tup [.int 1,.ref j])) r (.lst (g++[.ref p])))/\(upd (upd H3 p (.tup [.int 1,.ref j])) r (.lst (g++[.ref p]))) r=some (.lst ys')/\Paired (PartL (upd (upd H3 p (.tup [.int 1,.ref j])) r (.lst (g++[.ref p])))) rs' ys'/\Run B (i+1) rs'/\([some (.ref l),some (.ref r),some (.int (0+(i:Int))),some (.ref j)]:St)=[some (.ref l),some (.ref r),x2',x3']:=λa2 p u=>by
    have x:=Same.new (o:=.tup [.int 1,.ref j]) u;have J:=x _ _ d;have f:TK (upd H3 p (.tup [.int 1,.ref j])) (upd (upd H3 p (.tup [.int 1,.ref j])) r (.lst (g++[.ref p]))):=λb us e=>by rw[ai (bQ e J (λz=>nomatch z))];exact e
    exact⟨C++[(1,plc B (i:Int))],_,_,_,hi,(O.trans x).put Y,ad,cP ⟨p,j,rfl,f _ _ ad,f _ _ (x _ _ D)⟩ (ah (PartL.tk (x.tk.trans f)) G),.new L a2,rfl⟩
   refine yF d G he λb0 M=>ifB (λc=>?_) (λc0=>?_)
   rotate_left
   .refine⟨.inl ⟨rfl,_,SqL.of d⟩,⟨cT _ _,λp u=>⟨r,g,_,rfl,rfl,Same.new u _ _ d,by lia,?_⟩⟩⟩
    refine R (λv z e=>?_) p u;rw[M]at c0;have:=of_decide_eq_false c0;exact absurd (by rw[e];simp) this
   have hy:g≠[]:=λe=>by
    rw[M]at c;have:=of_decide_eq_true c;rw[e]at yl;exact this (List.length_eq_zero_iff.mp yl.symm)
   obtain⟨v,F,k,y,rfl,rfl,al,⟨N,qz,rfl,h1,h2⟩⟩:=eV G hy;refine .inl ⟨r,_,_,.ref N,rfl,rfl,SqL.of d,gY _ _,.inr (.inl ⟨N,_,_,.ref qz,rfl,rfl,SqT.of h1,bT 1 rfl rfl,?_⟩)⟩;refine y8 h2 D λb hb=>ifB (λc=>?_) (λc1=>?_)
   rotate_left
   .refine⟨.inl ⟨rfl,_,SqL.of d⟩,⟨cT _ _,λp u=>⟨r,(k++[V.ref N]),_,rfl,rfl,Same.new u _ _ d,by lia,?_⟩⟩⟩
    refine R (λa3 z e=>?_) p u;have e2:=(append_inj' e rfl).2;cases e2;rw[hb]at c1;exact λw=>of_decide_eq_false c1 (by rw[w])
   have ab:F.2=plc B (i:Int):=zD (of_decide_eq_true (hb ▸ c));refine .inl ⟨r,_,_,.ref N,rfl,rfl,SqL.of d,gY _ _,.inr (.inl ⟨N,_,_,.int F.1,rfl,rfl,SqT.of h1,bT 0 rfl rfl,?_⟩)⟩;refine⟨cT _ _,λp u=>⟨r,_,_,k.length,rfl,rfl,Same.new u _ _ d,?_,?_⟩⟩
   .unfold ixN
    rw[length_append];show(if (0:Int)<=-1 then _ else _)=_;rw[if_neg (by decide),if_pos (by show -(((k.length+1:Nat)):Int)<=-1;lia)]
    congr 1
    show(-1+((k.length+1:Nat):Int)).toNat=_;lia
   .have x:=Same.new (o:=.tup [.int (F.1+1),.ref j]) u
    have J:=x _ _ d;rw[m6];have f:TK (upd H3 p (.tup [.int (F.1+1),.ref j])) (upd (upd H3 p (.tup [.int (F.1+1),.ref j])) r (.lst (k++[.ref p]))):=λb us e=>by rw[ai (bQ e J (λz=>nomatch z))];exact e
    exact⟨v++[(F.1+1,plc B (i:Int))],_,_,_,hi,(O.trans x).put Y,ad,cP ⟨p,j,rfl,f _ _ ad,f _ _ (x _ _ D)⟩ (ah (PartL.tk (x.tk.trans f)) al),.more (m:=F.1) (by rw[<- ab];exact L),rfl⟩
  .rintro σ Z ⟨C,g,x2,x3,_,X,I,W,L,rfl⟩
   exact q _ r C g X Y I W L
end
end My
namespace Tb
open FrM Du LexM Tu
def oM:Iws->List Int->Int
 | [],_=>0
 | x::r,k=>if x.1=k then x.2 else oM r k
theorem iA_nd(rs:List (Int×List Nat)):((iA rs).map (·.1)).Nodup:=by
 have:=gD (rwf nI rs);unfold NdR at this;rwa [<- qI_iA,qI_keys]at this
theorem iA_len(rs:List (Int×List Nat)):(iA rs).length<=rs.length:=by
 have:=vx (rwf nI rs);rw[<- qI_iA]at this;unfold qI rwf at this;rwa [length_map,length_map]at this
def Mt(ts:List (Int×Int))(x y:Int):Rat:=((ov (tk ts x.toNat).1 (tk ts x.toNat).2 (tk ts y.toNat).1 (tk ts y.toNat).2:Int):Rat)/1000
theorem ov_bd{s m s' a:Int}(b:0<=m)(d:m<=1000):0<=ov s m s' a/\ov s m s' a<=5000\/¬(0<=a/\a<=1000):=by
 by_cases c:0<=a/\a<=1000
 .left
  unfold ov mx mn;have:=Int.emod_nonneg (s' - s) (show(1000:Int)≠0 by decide);generalize (s' - s) % 1000=f at *
  (repeat' split) <;> lia
 .exact .inr c
theorem cnt_bd(a:List (Int×Int))(k:Nat):∀ N:Nat,0<=cnt a N k/\cnt a N k<=(N:Int)
 | 0=>⟨Int.le_refl 0,Int.le_refl 0⟩
 | N+1=>by
  have:=cnt_bd a k N;rw[fF]
  split <;> lia
theorem cR_succ(a:List (Int×Int))(i:Nat):cR a (i+1)=cR a i++if 0<cnt a 1000 i then [([50+(i:Int)],(cnt a 1000 i:Rat)/1000)] else []:=by
 unfold cR;rw[range_succ,filter_append,map_append]
 by_cases c:0<cnt a 1000 i
 .rw[if_pos c];simp[c]
 .rw[if_neg c];simp[c]
theorem cR_len(a:List (Int×Int))(i:Nat):(cR a i).length<=i:=by
 unfold cR;rw[length_map];have:=length_filter_le (λk=>decide (0<cnt a 1000 k)) (List.range i);rwa [length_range]at this
def r99(R:Rws):Rws:=R.map λx=>(x.1++[99],x.2)
theorem r99_nd{R:Rws}(h:NdR R):NdR (r99 R):=by
 unfold NdR r99 at *;rw[map_map];have e:R.map ((λx=>x.1) ∘ λx:List Int×Rat=>(x.1++[99],x.2))=(R.map (·.1)).map (· ++ [99]):=by rw[map_map];rfl
 rw[e];exact(pairwise_map.mpr (h.imp λ{x y} n e=>n (List.append_cancel_right e)))
theorem IsTab.nd{W R:Rws}(h:IsTab W R):NdR R:=by
 unfold NdR;have a:((fW W).map λx:List Int×Rat=>x.1).Nodup:=gD W;exact(List.Perm.map (λx:List Int×Rat=>x.1) h.pm).nodup_iff.mpr a
theorem lm_1000:1000<=Lm2:=by
 unfold Lm2;exact Nat.le_trans (show 1000<=2 ^ 10 by decide) (Nat.pow_le_pow_right (by decide) (by decide))
end Tb
namespace L2
open PySem PySem.Spec PyProof.Rows
theorem fm{env:Env}{z:Str}:∀{names:List (Str×NameKind)}{x:Str}{k:NameKind},(∀ y∈names,y.2=.cell->y.1=z)->(k=.cell\/k=.free)->(names.map (rlb env)).lookup x=some k->x=z\/(x,NameKind.free)∈names
 | [],x,k,_,_,e=>by simp at e
 | p::r,x,k,hc,hk,e=>by
  have g:∀ y∈r,y.2=.cell->y.1=z:=λy c=>hc y (mem_cons_of_mem _ c)
  have f:rlb env p=(p.1,(rlb env p).2):=by rw[<- pW env p]
  rw[map_cons,f,lookup_cons]at e
  by_cases hx:x=p.1
  .have a:(x == p.1)=true:=by simpa using hx
   rw[a]at e;have b:(rlb env p).2=k:=Option.some.inj e
   by_cases hp:p.2=.cell
   .exact .inl (hx.trans (hc p mem_cons_self hp))
   .have d:=mZ (env:=env) hp (by rw[b];exact hk)
    have:(x,NameKind.free)=p:=by rw[hx,<- d]
    rw[this];exact .inr mem_cons_self
  .have a:(x == p.1)=false:=by simpa using hx
   rw[a]at e;exact(fm g hk e).imp id (mem_cons_of_mem _)
theorem ee{env:Env}{a:Scope}{x z:Str}{k:NameKind}(b:∀ y∈a.names,y.2=.cell->y.1=z)(c:k=.cell\/k=.free)(e:(relabel a env).names.lookup x=some k):x=z\/(x,NameKind.free)∈a.names :=
 fm (env:=env) b c (by rw[<- gi];exact e)
theorem eU{M:Model}{A:Around}{E:Value->Shared->Prop}{s:Shared}{scope:Scope}{c:Addr}{a:List (Str×Addr)}{f x:Str}{d:Env}{Q:Env->Shared->Prop}
  (k:∀ n acc,cellsFrom n scope.names acc=(x,n)::acc)
  (p:∀ h',h'.Ns s.heap.objs.size (λ_=>none)->h'.IsCell (s.heap.objs.size+1) none->(∀ b o,s.heap.get? b=some o->h'.get? b=some o) ->
   Q (newEnv scope s.heap.objs.size c ((x,s.heap.objs.size+1)::a) f none .none (some d) builtinsNs) { s with heap:=h' }) :
  wpAny M A (newFunctionEnv scope c a [] f none .none (some d)) Q E s:=by
 simp only[newFunctionEnv,Option.isSome_some,if_true];refine wpAny_bind (wpAny_alloc ?_);refine wpAny_bind (wpAny_layCells _ (λi g h=>by cases hkc:g == NameKind.cell <;> simp[hkc]) _ _ _ _ ?_);have j:=cellsFrom_ok scope.names (s.heap.push { cls:=.type "dict",data:=.dict #[] }) (s.heap.objs.size+1) [] ⟨λ_ _ l=>(nomatch l),List.Pairwise.nil⟩ (by rw[Heap.size_push];exact Nat.le_refl _);rw[Heap.size_push,k]at j;rw[show({ s with heap:=s.heap.push { cls:=.type "dict",data:=.dict #[] } }:Shared).heap.objs.size=s.heap.objs.size+1 from Heap.size_push ..,k];rw[List.forIn_nil];refine wpAny_bind (wpAny_pure (wpAny_pure (p _ ((Heap.Ns.new s.heap (.type "dict")).keeps (pushCells_keeps _ _)) (j.empty x _ mem_cons_self).1 λb o e=>pushCells_keeps _ _ b o (Heap.get?_push_of_some _ e))))
def lH(X:Cx)(x:Str)(sc:Scope)(C:Addr)(N:List Str)(s₀:Shared)(H₀:Hp)(fp:List Addr):Cx :=
 { X with N:=N,s₀:=s₀,H₀:=H₀,env:=compEnvC sc ((x,C+1)::cQ X.env.cells sc.names []) C X.env,outer:=X.stack,ex:=fp,fn:=λy=>y == x,pn:=[],xe:=λ_ _=>False }
structure CompOk1(X:Cx)(x:Str)(sc:Scope)(N:List Str)(ix:List (Option Nat)):Prop where
 kind:sc.kind=.function
 one:∀ n acc,cellsFrom n sc.names acc=(x,n)::acc
 cell:(sc.names.all λy=>y.2 != .cell || y.1 == x)=true
 own:((N.zip ix).all λy=>y.2.isNone || y.1 != x)=true
 names:(sc.names.all λy=>y.2 != .local || sc.names.lookup y.1 == some .local) = true
 free:(sc.names.all λy=>y.2 != .free || X.env.scope.names.lookup y.1 == some .cell)=true
 fr:FreeOk X.N X.env sc N ix
section
variable {X:Cx}{x:Str}{sc:Scope}{N:List Str}{ix:List (Option Nat)}{pins:List (Addr×Obj)}{σ:St}{H:Hp}{s:Shared}
theorem CompOk1.cells(c:CompOk1 X x sc N ix)(d:X.Ok):∀ y∈sc.names,y.2=.free->∃ c,X.env.cells.lookup y.1=some c:=λy a e=>by
 have h:=all_eq_true.mp c.free y a;rw[e]at h;have b:X.env.scope.names.lookup y.1=some .cell:=by simpa using h
 exact d.has y.1 (.inl b)
theorem CompOk1.nc(c:CompOk1 X x sc N ix):∀ y∈sc.names,y.2=.cell->y.1=x:=λy a e=>by
 have h:=all_eq_true.mp c.cell y a;rw[e]at h;simpa using h
theorem CompOk1.nm(c:CompOk1 X x sc N ix):∀ y ∈ sc.names,y.2 = .local->sc.names.lookup y.1 = some .local:=λy a e=>by
 have h:=all_eq_true.mp c.names y a;rw[e]at h;simpa using h
theorem CompOk1.ne(c:CompOk1 X x sc N ix){j i:Nat}{y:Str}(a:N[j]? = some y)(d:ix[j]? = some (some i)):y≠x:=λe=>by
 have b:(N.zip ix)[j]? = some (y,some i):=by rw[List.getElem?_zip_eq_some];exact⟨a,d⟩
 have:=all_eq_true.mp c.own _ (List.mem_of_getElem? b);rw[e]at this;simp at this
theorem oQ{C:Addr}{S:List Addr}{h₁:Heap}{t':Nat}(c:CompOk1 X x sc N ix)(I:Inv X pins σ H s)(O:∀ b∈S,eB X pins H b)(M:∀ b∈S,b<s.heap.objs.size)(L:s.heap.objs.size<=C)
  (hn:h₁.Ns C (λ_=>none)) (R:h₁.IsCell (C+1) none) (D:∀ b o,s.heap.get? b=some o->h₁.get? b=some o):Inv (lH X x sc C N s H S) [] (jB ix σ) H { s with heap:=h₁,toks:=t' }:=by
 have F:=c.cells I.ok;have G:∀ n c,(cQ X.env.cells sc.names []).lookup n=some c->X.env.cells.lookup n=some c:=λn c e=>dB F (λn c z=>by simp at z) e
 have f:∀ n d,((x,C+1)::cQ X.env.cells sc.names []).lookup n=some d->(n=x/\d=C+1)\/(n≠x/\X.env.cells.lookup n=some d):=λn d e=>by
  rw[lookup_cons]at e
  by_cases hx:(n == x)=true
  .rw[hx]at e
   exact .inl ⟨by simpa using hx,(Option.some.inj e).symm⟩
  .have g:(n == x)=false:=by simpa using hx
   rw[g]at e;exact .inr ⟨by simpa using g,G n d e⟩
 have A:∀ n d,X.env.cells.lookup n=some d->d<s.heap.objs.size:=λn d e=>by
  obtain⟨v,o,ho,_⟩:=I.cell n d e;exact Heap.lt_size ho
 have Q:∀ b:Addr,b<s.heap.objs.size->b=C+1->False:=λb h e=>by
  have P:b<C:=Nat.lt_of_lt_of_le h L;rw[e]at P;exact absurd P (Nat.not_lt.mpr (Nat.le_succ C))
 refine⟨⟨I.ok.mod,c.kind,I.ok.glob,I.ok.blt,L,λy z d P h2=>?_,λy hy=>?_,λy d z e=>?_,I.ok.hd,I.ok.frames,.inl rfl,λb hb=>⟨?_,λy d e=>?_⟩,I.bs,Nat.le_trans I.ok.bsz I.sz,λb o e hb=>?_,λb hb hs=>?_,I.stack,I.stkFree⟩,
  rfl,I.bare,Un.kept D,⟨_,hn,λj y v Y J e3=>?_⟩,λy d e=>?_,I.hok.fresh L,λy d e=>?_,λp hp=>absurd (show p∈([]:List (Addr×Obj)) from hp) (by simp),I.hok.kept D,?_⟩
 .rcases f y d P with⟨B,a⟩ | ⟨B,a⟩ <;> rcases f z d h2 with⟨b1,b2⟩ | ⟨b1,b2⟩
  .rw[B,b1]
  .have w:=A _ _ b2
   rw[a]at w;exact(Q _ w rfl).elim
  .have w:=A _ _ a
   rw[b2]at w;exact(Q _ w rfl).elim
  .exact I.ok.inj y z d a b2
 .have k:y=x\/(y,NameKind.free)∈sc.names:=by
   rcases hy with hy | hy
   .exact ee c.nc (.inl rfl) (show(relabel sc X.env).names.lookup y=some .cell from hy)
   .exact ee c.nc (.inr rfl) (show(relabel sc X.env).names.lookup y=some .free from hy)
  show ∃ d,((x,C+1)::cQ X.env.cells sc.names []).lookup y=some d;rw[lookup_cons]
  by_cases hx:(y == x)=true
  .rw[hx];exact⟨_,rfl⟩
  .have g:(y == x)=false:=by simpa using hx
   rw[g];exact dP (.inl (k.resolve_left (by simpa using g)))
 .have z:(y == x)=true:=z
  rcases f y d e with⟨B,a⟩ | ⟨B,_⟩
  .rw[a];exact Nat.le_succ_of_le L
  .exact absurd (by simpa using z) B
 .exact Nat.ne_of_lt (Nat.lt_of_lt_of_le (M b hb) L)
 .rcases f y d e with⟨B,a⟩ | ⟨B,a⟩
  .rw[a];exact λz=>Q b (M b hb) z.symm
  .exact(O b hb).2.2.2.2.1 y d a
 .rcases(O b hb).2.2.2.1 with z | z
  .exact I.ok.noex b o e z
  .exact absurd (Nat.lt_of_lt_of_le (Heap.lt_size e) (Nat.le_trans I.ok.bsz z)) (Nat.lt_irrefl _)
 .rcases mem_cons.mp (I.stkSub b hs) with z | z
  .exact(O b hb).2.1 z
  .exact(O b hb).2.2.1 z
 .have hj:∃ i,ix[j]? = some (some i)/\σ[i]? = some (some v):=by
   unfold jB at J;rw[List.getElem?_map]at J;cases q:ix[j]? with
   | none=>rw[q]at J;cases J
   | some o =>
    rw[q]at J;cases o with
    | none=>cases J
    | some i =>
     refine⟨i,rfl,?_⟩;have E:(σ[i]?).join=some v:=Option.some.inj J;cases q2:σ[i]? with
     | none=>rw[q2]at E;cases E
     | some w=>rw[q2]at E;exact congrArg some E
  obtain⟨i,Z,hv⟩:=hj;have yx:=c.ne Y Z;obtain⟨k1,T,W⟩:=c.fr.get j y i Y Z;obtain⟨m,hm,hl⟩:=I.loc;obtain⟨u,r,l⟩:=hl i y v k1 hv (.inr (.inl T));refine⟨u,r,?_⟩
  rcases l with⟨z,_⟩ | ⟨_,d,hd,K⟩
  .rw[T]at z;cases z
  .obtain⟨d',hd'⟩:∃ d',(cQ X.env.cells sc.names []).lookup y=some d':=dP (.inl ((ee c.nc (.inl rfl) W).resolve_left yx))
   have:=G y d' hd';rw[hd]at this;cases this;refine .inr ⟨.inl W,d,?_,K.keeps D⟩;show((x,C+1)::cQ X.env.cells sc.names []).lookup y=some d;rw[lookup_cons,show(y == x)=false by simpa using yx];exact hd'
 .rcases f y d e with⟨B,a⟩ | ⟨B,a⟩
  .exact⟨none,a ▸ R⟩
  .obtain⟨v,z⟩:=I.cell y d a
   exact⟨v,z.keeps D⟩
 .rcases f y d e with⟨B,a⟩ | ⟨B,a⟩
  .exact I.hok.fresh (by rw[a];exact Nat.le_succ_of_le L)
  .exact I.freeC y d a
 .show(jB ix σ).length=N.length
  unfold jB;rw[length_map,c.fr.len]
theorem lu{C:Addr}{c:List Addr}{a:List (Addr×Obj)}{σ':St}{H':Hp}{s':Shared}(I:Inv X pins σ H s)(g:∀ b∈c,eB X pins H b)(J:Inv (lH X x sc C N s H c) a σ' H' s'):Inv X pins σ H' s':=by
 refine I.call' (ch:=c) J.os J.base J.hok J.bare λb f=>?_
 obtain⟨k,i,l,j,h,d⟩:=g b f;exact⟨j,i,h,d⟩
end
section
variable {X:Cx}{x:Str}{sc:Scope}{N:List Str}{ix:List (Option Nat)}{elt tg iter:Expr}{ifs:List Expr}{pos:Pos}{wi:TI}{g:TG}{tt:TT}{te:TE}
structure Blk1(X:Cx)(x:Str)(sc:Scope)(N:List Str)(tg elt:Expr)(ifs:List Expr)(g:TG)(tt:TT)(te:TE):Prop where
 tg:∀ C s H fp,PG (lH X x sc C N s H fp) tg g
 tests:∀ C s H fp,PTs (lH X x sc C N s H fp) ifs tt
 elt:∀ C s H fp,PE (lH X x sc C N s H fp) elt te
theorem oC{a:List (Addr×Obj)}{K:St}{H:Hp}{s:Shared}{E:Value->Shared->Prop}{RR:Value->Addr->Result->Shared->Prop}{R:Addr}{f:List Addr}{w:Nat->Heap->Prop}{J:It}{Q:Addr->Hp->List V->Prop}
  (hc:X.calm=true) (c:CompOk1 X x sc N ix) (B:Blk1 X x sc N tg elt ifs g tt te) (I:Inv X a K H s) (T:Turn X.prog X.w X.K tg J f R w) (Y:w 0 s.heap) (Z:∀ b∈f,eB X a H b)
  (h:∀ D,H D=none->∃ W,(∃ m,W 0 m [] (upd H D (.lst [])))/\iJ J D (jB ix K) g tt te (Q D) W)
  (hR:∀ D C H' s' ys,Inv X a K H' s'->eB X a H' C->(∃ m,s'.heap.Ns C m)->Q D H' ys->RR (.ref D) C (.ok .next) s') :
  wpAny (model X.prog X.w) X.A (newList []) (λacc s₃=>wpAny (model X.prog X.w) X.A (newFunctionEnv sc X.env.globals (cQ X.env.cells sc.names []) [] X.env.qual none .none (some X.env)) (λcenv s₄ =>
   codeAny (model X.prog X.w) X.A (.compStart (.ListComp elt [⟨tg,iter,ifs,0⟩] sc pos) 0 (.ref R) acc { cenv with scope:=relabel sc X.env }) (RR acc cenv.locals) s₄) E s₃) E s:=by
 have S:∀ b∈f,b<s.heap.objs.size:=λb d=>let ⟨o,e,_⟩:=T.obj _ _ Y b d;Heap.lt_size e
 refine wpAny_newObj_type ?_ (by show 0<=sizeLine;exact Nat.zero_le _);have hD:H s.heap.objs.size=none:=I.hok.fresh (Nat.le_refl _);obtain⟨W,⟨m0,w0⟩,v⟩:=h s.heap.objs.size hD;have A:Inv X a K (upd H s.heap.objs.size (.lst [])) { s with heap:=s.heap.push { cls:=.type "list",data:=.seq ([]:List Value).toArray } }:=I.lnew (t':=s.toks) (its:=[]) .nil (Nat.zero_le _);have k1:∀ b o,s.heap.get? b=some o->(s.heap.push { cls:=.type "list",data:=.seq ([]:List Value).toArray }).get? b=some o:=λb o e=>Heap.get?_push_of_some _ e
 have P:∀ b∈f,b≠s.heap.objs.size:=λb d=>Nat.ne_of_lt (S b d)
 have i:∀ b∈f,eB X a (upd H s.heap.objs.size (.lst [])) b:=λb d=>⟨by rw[ai (P b d)];exact(Z b d).1,(Z b d).2⟩
 have F:w 0 (s.heap.push { cls:=.type "list",data:=.seq ([]:List Value).toArray }):=T.keep _ _ _ Y λb _ o e=>k1 b o e
 generalize hs1:({ s with heap:=s.heap.push { cls:=.type "list",data:=.seq ([]:List Value).toArray } }:Shared)=s1 at A;have l:s1.heap=s.heap.push { cls:=.type "list",data:=.seq ([]:List Value).toArray }:=by rw[<- hs1]
 generalize hDe:s.heap.objs.size=D at *;show wpAny _ _ _ _ _ s1;refine eU c.one λh₁ j k y=>?_
 have n:∀ b∈f,b<s1.heap.objs.size:=λb d=>by
  obtain⟨o,e,_⟩:=T.obj _ _ F b d;rw[l];exact Heap.lt_size e
 have J0:=oQ (h₁:=h₁) (t':=s1.toks) c A i n (Nat.le_refl _) j k y;have G:w 0 h₁:=T.keep _ _ _ (by rw[l];exact F:w 0 s1.heap) λb _ o e=>y b o e
 have O:∀{H':Hp},(∀ b∈f,H' b=none)->∀ b∈f,eB (lH X x sc s1.heap.objs.size N s1 (upd H D (.lst [])) f) [] H' b:=λ{H'} L b d=>by
  obtain⟨f0,f1,f2,f3,f4,f5⟩:=i b d;refine⟨L b d,Nat.ne_of_lt (n b d),?_,.inl d,J0.ok.exf b d |>.2,λp hp=>absurd (show p∈([]:List (Addr×Obj)) from hp) (by simp)⟩;intro z
  rcases mem_cons.mp (A.stkSub b z) with q | q
  .exact f1 q
  .exact f2 q
 have M:∀{u:St}{H':Hp}{s':Shared}{ys:List V},Inv (lH X x sc s1.heap.objs.size N s1 (upd H D (.lst [])) f) [] u H' s'->Q D H' ys->RR (.ref D) s1.heap.objs.size (.ok .next) s':=λ{u H' s' ys} J q =>
  hR D _ H' s' ys (lu A i J) (A.fpOk (Nat.le_refl _) J.free) (let ⟨m,L,_⟩:=J.loc;⟨m,L⟩) q
 have r:codeAny (model X.prog X.w) X.A (.compLoop (.ListComp elt [⟨tg,iter,ifs,0⟩] sc pos) 0 (.ref R) (.ref D) (lH X x sc s1.heap.objs.size N s1 (upd H D (.lst [])) f).env) (RR (.ref D) s1.heap.objs.size) { s1 with heap:=h₁ } :=
  kF (X:=lH X x sc s1.heap.objs.size N s1 (upd H D (.lst [])) f) hc rfl T (B.tg _ _ _ _) (B.tests _ _ _ _) (B.elt _ _ _ _) v O M J0 G (λb d=>(i b d).1) w0
 exact codeAny_compStart_list r (T.self _ 0 _ _ _ G r)
theorem uU(p:X.calm=true)(c:CompOk1 X x sc N ix)(z:PI X tg iter wi)(B:Blk1 X x sc N tg elt ifs g tt te)(r:∀ x,foldedSetIterable iter X.env x=pure x:=by intro _;rfl):PE X (.ListComp elt [⟨tg,iter,ifs,0⟩] sc pos) (va ix wi g tt te):=by
 intro a s k H Q I h;rw[eval_ListComp];refine wpAny_comprehension_free (use:=none) rfl r (dG (c.cells I.ok)) c.kind c.nm (thn (z a s k H _ I h) λY j d=>thn d λitv s₂ h₂=>?_);obtain⟨it,fp,R,J,Z,e,G,T,f,l,O⟩:=h₂;subst e;refine oC (RR:=λi C=>compPost (model X.prog X.w) X.A X.xe none (EP X a k Q) i C) (Q:=λD H _=>Q (.ref D) H) p c B G T f l O ?_;intro D C M L S w n K q;refine⟨_,K.choose_spec,λW y=>⟨.ref D,M,?_,rfl,q⟩⟩;obtain⟨v,F,l,u,E,P⟩:=n;exact w.turned (t':=L.toks) (λb o A e=>(y.2 b A).trans e) v F u E P
end
theorem xP{X:Cx}{K:Frag}{tg l:Expr}{tl:TE}(e:X.K=K)(a:PE X l tl):PI X tg l (Ar K tl):=by subst e;exact aY a
end L2
namespace My
open PySem L2 FrM Du LexM Tu
open Tb (Tr Rws Lm2 Iws mq oM iA)
theorem wQ{p:List Key×V}{r:List (List Key×V)}{k:List Key}{v:V}(h:¬p.1=k):ez (p::r) k v=p::ez r k v:=by
 unfold ez;rw[any_cons,decide_eq_false h,Bool.false_or]
 split
 .rw[map_cons,if_neg h]
 .rfl
theorem wL{p:List Key×V}{r:List (List Key×V)}{k:List Key}{v:V}(h:p.1=k)(n:∀ q∈r,¬q.1=k):ez (p::r) k v=(p.1,v)::r:=by
 unfold ez;rw[any_cons,decide_eq_true h,Bool.true_or,if_pos rfl,map_cons,if_pos h]
 congr 1
 have:∀ q∈r,(if q.1=k then (q.1,v) else q)=q:=λq a=>if_neg (n q a)
 rw[map_congr_left this,List.map_id']
def mrD(M:Int->Int->Rat)(ps:List Int)(i:Int):PyData:=.list (ps.map λj=>frD (M i j))
def mtD(M:Int->Int->Rat)(ps:List Int):PyData:=.list (ps.map (mrD M ps))
theorem Ao(M:Int->Int->Rat)(ps:List Int)(i:Int):Ly 3 (mrD M ps i):=i6 λd a=>by
 obtain⟨x,_,rfl⟩:=mem_map.mp a;exact yv _
theorem Ax(M:Int->Int->Rat)(ps:List Int):Ly 4 (mtD M ps):=i6 λd a=>by
 obtain⟨x,_,rfl⟩:=mem_map.mp a;exact Ao M ps x
theorem xL{K:Frag}{H H':Hp}{M:Int->Int->Rat}{ps:List Int}{i:Int}{y:V}(h:rF K H H' M ps i y):DV K H' (mrD M ps i) y:=by
 obtain⟨D,d,rfl,_,b,a⟩:=h;exact cL b (dR (λj z c=>yo c) a)
theorem vc{K:Frag}{H H':Hp}{M:Int->Int->Rat}{ps:List Int}{l:Addr}{ys:List V}(h:H' l=some (.lst ys))(p:Paired (rF K H H' M ps) ps ys):DV K H' (mtD M ps) (.ref l):=cL h (dR (λi y a=>xL a) p)
def IR(x:List Int×Int)(kv:List Key×V):Prop:=kv.1=x.1.map Sum.inl/\kv.2=.int x.2
theorem zq{k:List Int}{g:Iws}{a:List (List Key×V)}(h:Paired IR g a):(cH a (k.map Sum.inl)).getD (.int 0)=.int (oM g k):=by
 induction h with
 | nil=>rfl
 | @cons x kv st a r t ih =>
  rw[oM]
  by_cases c:x.1=k
  .rw[if_pos c,bu (by rw[r.1,c])]
   exact r.2
  .rw[if_neg c,bv (λz=>c (cZ (r.1.symm.trans z)))]
   exact ih
theorem qg{g:Iws}{a:List (List Key×V)}(h:Paired IR g a):a.map (·.1)=(g.map (·.1)).map λx=>x.map Sum.inl:=by
 induction h with
 | nil=>rfl
 | cons r _ ih=>rw[map_cons,map_cons,map_cons,ih,r.1]
theorem yT{k:List Int}{m:Int}{g:Iws}{a:List (List Key×V)}(h:Paired IR g a)(b:(g.map (·.1)).Nodup):Paired IR (mq k m g) (ez a (k.map Sum.inl) (.int (oM g k+m))):=by
 induction h with
 | nil =>
  rw[oM,Int.zero_add];exact .cons ⟨rfl,rfl⟩ .nil
 | @cons x kv st a r t ih =>
  rw[mq,oM];rw[map_cons,nodup_cons]at b
  by_cases c:x.1=k
  .rw[if_pos c,if_pos c]
   rw[wL (by rw[r.1,c]) (λq f e=>by
    have d:q.1∈a.map (·.1):=mem_map.mpr ⟨q,f,rfl⟩;rw[qg t]at d;obtain⟨y,i,j⟩:=mem_map.mp d;have:=cZ (j.trans e)
    exact b.1 (by rw[c,<- this];exact i))]
   exact .cons ⟨by show kv.1=k.map Sum.inl;rw[r.1,c],rfl⟩ t
  .rw[if_neg c,if_neg c]
   rw[wQ (λe=>c (cZ (r.1.symm.trans e)))];exact .cons r (ih b.2)
theorem As{g:Iws}{a:List (List Key×V)}(h:Paired IR g a)(c:(g.map (·.1)).Nodup){i:Nat}{x:List Int×Int}(b:g[i]? = some x):cH a (x.1.map Sum.inl)=some (.int x.2):=by
 induction h generalizing i with
 | nil=>cases b
 | @cons x' kv g a r t ih =>
  rw[map_cons,nodup_cons]at c;cases i with
  | zero=>cases b;rw[bu r.1,r.2]
  | succ i =>
   rw[bv,ih c.2 (i:=i) b];intro y;have:=cZ (r.1.symm.trans y);exact c.1 (by rw[this];exact mem_map.mpr ⟨x,List.mem_of_getElem? b,rfl⟩)
inductive spLT(K:Frag)(vs:List V)(H:Hp)(Q:VK)(_E:XK):Prop
 | mk(l:Addr)(rs:List (Int×List Nat))(ys:List V)(ts:List (Int×Int))(h0:vs=[.ref l])(h1:H l=some (.lst ys))(h2:Paired (PartL H) rs ys)(h3:Run ts 1000 rs)(h4:rs.length<64)(h5:∀ H' q R zs,Same H H'->H' q=some (.lst zs)->Paired (RowR K H') R zs->Tb.IsTab (Tb.rwf nI rs) R->zs.length<=rs.length->Q (.ref q) H'):spLT K vs H Q _E
inductive spLMt(a:Ad)(K:Frag)(vs:List V)(H:Hp)(Q:VK)(_E:XK):Prop
 | mk(l:Addr)(xs:List V)(ts:List (Int×Int))(h0:vs=[.ref l])(h1:Ts a H l xs ts)(h2:∀ H' D ws,Same H H'->H' D=some (.lst ws)->Paired (rF K H H' (Tb.Mt ts) (nI (List.range ts.length))) (nI (List.range ts.length)) ws->Q (.ref D) H'):spLMt a K vs H Q _E
inductive spTurns(a:Ad)(K:Frag)(vs:List V)(H:Hp)(Q:VK)(_E:XK):Prop
 | mk(p:Addr)(ns:List Int)(d:Bool)(h0:vs=[.ref p,.bl d])(h1:SqL K H p (ns.map V.int))(h2:ns.length<=63)(h3:∀ H' l xs ts,Same H H'->Ts a H' l xs ts->ts.length<=12->Q (.ref l) H'):spTurns a K vs H Q _E
theorem vA{n i:Nat}(h:i<n):(nI (List.range n))[i]? = some (i:Int):=by unfold nI;rw[List.getElem?_map,List.getElem?_range h];rfl
section
variable {P:Program}{w:World}{K:Frag}{mg:Str->Option Value}{base:Heap}{a:Ad}
theorem tI(T:Txt K mg a):FnOk P w K mg base CX0 3 a.f_J a.d_J ["_law_parts_here"] (spLT K):=by
 have a':FnOk P w K mg base CX0 2 _ _ _ spLow:=fJ T;refine T.F_J.ok sc_J (λvs H Q E h=>?_) (λcdv A outer s H vs Q E hr h=>?_)
 .obtain⟨l,D,X,ts,rfl,_⟩:=h;rfl
 .obtain⟨l,D,X,ts,rfl,hl,hP,hR,bn,q⟩:=h
  have a9:sizeLine=16777216:=sizeLine_eq;have rl:=i4 hR;have yl:X.length=D.length:=hP.length.symm;refine⟨_,(aj (aD (i:=1) sc_J.nd rfl (Or.inr rfl) jY) (aj (cV PassesOwn.never rfl (aY (vr 0)) (eh rfl (au (ap (i:=2) sc_J.nd rfl (Or.inl rfl)) (au (ap (i:=3) sc_J.nd rfl (Or.inl rfl)) aZ))) (ak (rq (iH hr) (vr 1) (vr 3) (ay dq (jv (iH hr) (vr 1) (vr 3) am ⟨rfl,rfl,rfl,rfl⟩) (vr 2)) rfl))) (ak (aw (ba rfl (N:=["_law_here","_law_found"]) (ix:=[none,some 1]) ⟨rfl,rfl,rfl,rfl,⟨rfl,rfl,rfl,trivial⟩⟩ (aY (aL (gh rfl hr.units) rfl T.z_sorted fP (aa (vr 1) ae))) ⟨λC s H fp=>ap (i:=0) (show List.Nodup (["_law_here","_law_found"]:List Str) by decide +kernel) rfl (Or.inl rfl),λC s H fp=>bb,λC s H fp=>(bI (aa (vr 0) (aa (aq a' hr rfl T.m_G T.F_G.kp T.B_G .nil ar (aa (qm (iH hr) (vr 1) (vr 0) (λ_ _=>rfl)) (aa am ae))) ae)))⟩))))),eQ ?_⟩;intro bm bg;intro B as;have u1:=Same.new (o:=.dT []) as;have d:=ad (H:=H) (a:=B) (o:=.dT []);generalize upd H B (.dT [])=Ha at u1 d;have L:=u1 _ _ hl;have nl:l≠B:=bQ L d (λz=>nomatch z);have a6:=ah (PartL.tk u1.tk) hP
  let Pw1:PvS:=λi σ v=>∃(c:List (List Key×V)) (x2 x3:Option V),(∀ b o,b≠B->Ha b=some o->v b=some o)/\v B=some (.dT c)/\Paired IR (iA (D.take i)) c/\i<=D.length/\σ=[some (.ref l),some (.ref B),x2,x3]
  refine .inl ⟨⟨_,SqL.of L⟩,dC (K:=K) (a:=l) (xs:=X) Pw1 ⟨[],none,none,(λb o _ e=>e),d,.nil,Nat.zero_le _,rfl⟩ (λi σ v _ h=>by
   obtain⟨c,x2,x3,k,_⟩:=h
   exact SqL.of (k _ _ nl L)) ?_ ?_⟩
  .rintro i y σ v S ⟨c,x2,x3,kp,r,G,hi,rfl⟩
   obtain⟨z,hz,p,t,rfl,hp,ht⟩:=aG a6 S;have M:i<D.length:=(List.getElem?_eq_some_iff.mp hz).1;have a7:=kp _ _ (bQ hp d (λz=>nomatch z)) hp;have al:v t=some (.tup (((nI z.2).map Sum.inl).map kV)):=by rw[gB];exact kp _ _ (bQ ht d (λz=>nomatch z)) ht
   have gl:c.length<=i:=by
    rw[<- G.length];have:=Tb.iA_len (D.take i);rw[length_take]at this;lia
   refine⟨p,_,rfl,SqT.of a7,rfl,_,_,rfl,_,_,rfl,rfl,?_⟩;refine⟨B,rfl,.inr ⟨c,.inl r⟩,⟨_,.inr ⟨c,(nI z.2).map Sum.inl,t,.inl r,rfl,al,rfl⟩,?_⟩⟩;rw[zq G];refine⟨B,_,rfl,.inr ⟨c,(nI z.2).map Sum.inl,t,r,rfl,al,by lia,rfl⟩,?_⟩;refine⟨_,_,_,λb o n e=>by rw[ai n];exact kp _ _ n e,ad,?_,M,rfl⟩;rw[Tb.iA_snoc hz];exact yT G (Tb.iA_nd _)
  rintro σ H2 ⟨c,x2,x3,kp,r,G,hi,rfl⟩;rw[yl,take_length]at G;have nd:=Tb.iA_nd D;have bd:=λx=>Tb.iA_bd (x:=x) hR
  have I:=Tb.qI_iA D;have gl:=Tb.iA_len D;generalize iA D=g at G nd bd I gl;have kl:c.length=g.length:=G.length.symm
  have t2:Same H H2:=λb o e=>by
   have nb:b≠B:=λz=>by rw[z,as]at e;cases e
   exact kp _ _ nb (u1 _ _ e)
  refine⟨B,c,g.map (·.1),rfl,r,by lia,qg G,nd,λq9 o f fq op a5 a1=>?_⟩;rw[length_map]at op a1;have u3:=Same.new (o:=.lst (o.map f)) fq;have J:=ad (H:=H2) (a:=q9) (o:=.lst (o.map f));generalize upd H2 q9 (.lst (o.map f))=H3 at u3 J;have s3:=t2.trans u3;have a3:(Tb.qI g).length=g.length:=by unfold Tb.qI;rw[length_map]
  obtain⟨rp,ab⟩:=Tb.tab_of (g:=Tb.qI g) (o:=o) (by unfold Tb.NdR;rw[Tb.qI_keys];exact nd) (by rw[a3];exact op) (by rw[Tb.qI_keys];exact a5);have ol:o.length=g.length:=by rw[op.length_eq,length_range]
  generalize hRR:(o.map λi=>(Tb.qI g).getD i ([],0))=R at rp ab;have Rl:R.length=o.length:=by rw[<- hRR,length_map]
  refine .inl ⟨⟨_,SqL.of J⟩,λD3 Y=>?_⟩
  let Pw2:PvL:=λi O v=>i<=o.length/\Same H3 v/\v D3=some (.lst O)/\Paired (RowR K v) (R.take i) O
  refine aJ (K:=K) (a:=q9) (xs:=o.map f) Pw2 ⟨Nat.zero_le _,Same.new Y,ad,.nil⟩ (λi X v h=>SqL.of (h.2.1 _ _ J)) (λi X v h=>h.2.2.1) ?_ ?_
  .rintro i y O v P' S ⟨bo,n5,W,u⟩ a4
   rw[List.getElem?_map]at S
   obtain⟨j,hj,rfl⟩:∃ j,o[i]? = some j/\f j=y:=by
    cases e:o[i]? with
    | none=>rw[e]at S;cases S
    | some j=>rw[e]at S;cases S;exact⟨j,rfl,rfl⟩
   have M:i<o.length:=(List.getElem?_eq_some_iff.mp hj).1;have an:j<g.length:=mem_range.mp (op.mem_iff.mp (List.mem_of_getElem? hj));obtain⟨b,eb,hb⟩:=a1 j an
   obtain⟨x,hx⟩:∃ x,g[j]? = some x:=⟨_,List.getElem?_eq_getElem an⟩
   have Z:(g.map (·.1)).getD j []=x.1:=by rw[List.getD,List.getElem?_map,hx];rfl
   rw[Z]at hb;have hb:H2 b=some (.tup (x.1.map V.int)):=hb;have a0:=(u3.trans n5) _ _ hb;have hv:=As G nd hx;obtain⟨x0,x1⟩:=bd x (List.mem_of_getElem? hx);have bl:O.length<=1000:=by rw[<- u.length,length_take];lia
   rw[eb];refine⟨⟨rfl,trivial⟩,?_⟩;refine⟨B,_,rfl,.inr ⟨c,x.1.map Sum.inl,b,.inl ((u3.trans n5) _ _ r),rfl,by rw[gB];exact a0,hv.symm⟩,?_⟩;refine⟨x.2,1000,rfl,by decide,(show Bt 20 x.2 by unfold Bt;lia).mono (by decide),(show Bt 20 1000 by unfold Bt;decide).mono (by decide),λH6 z s6 hz=>?_⟩;refine⟨by show 2<=sizeLine;decide,λp fp=>?_⟩;have s7:=Same.new (o:=.tup [.ref b,.ref z]) fp;have a2:=(s6.trans s7) _ _ W;have a8:=(n5.trans s6).trans s7;refine⟨a2,by lia,a4 _ _ ⟨M,a8.put Y,ad,?_⟩⟩
   have eR:R[i]? = some (x.1,(x.2:Rat)/1000):=by
    rw[<- hRR,List.getElem?_map,hj];show some ((Tb.qI g).getD j ([],0))=_;unfold Tb.qI;rw[List.getD,List.getElem?_map,hx];rfl
   rw[Tb.low_1000]at hz;have F:TK (upd H6 p (.tup [.ref b,.ref z])) (upd (upd H6 p (.tup [.ref b,.ref z])) D3 (.lst (O++[.ref p]))):=λb us e=>by rw[ai (bQ e a2 (λz=>nomatch z))];exact e
   refine aU (ah (RowR.tk ((s6.trans s7).tk.trans F)) u) eR ⟨p,b,.ref z,rfl,F _ _ ad,F _ _ ((s6.trans s7) _ _ a0),⟨z,rfl,.inl (F _ _ (s7 _ _ hz))⟩⟩
  .rintro O H5 ⟨_,n5,W,u⟩
   rw[length_map,<- Rl,take_length]at u;refine q _ D3 R O (s3.trans n5) W u ⟨?_,ab⟩ (by rw[<- u.length];lia);rw[<- I];exact rp
theorem oZ(T:Txt K mg a):FnOk P w K mg base CX0 3 a.f_W a.d_W ["_law_turns_here"] (spLMt a K):=by
 have Z:FnOk P w K mg base CX0 2 _ _ _ spLow:=fJ T;have ab:FnOk P w K mg base CX0 2 _ _ _ _:=(pP T).mono (by decide);refine T.F_W.ok m9 (λvs H Q E h=>?_) (λcdv A outer s H vs Q E hr h=>?_)
 .obtain⟨l,xs,d,rfl,_⟩:=h;rfl
 .obtain⟨l,xs,d,rfl,o,q⟩:=h
  have X:sizeLine=16777216:=sizeLine_eq;have tl:=o.all.len;have a1:=o.len;have pl:(nI (List.range d.length)).length=d.length:=by unfold nI;rw[length_map,length_range]
  generalize hps:nI (List.range d.length)=ps at pl q;refine⟨_,(ak (aw (uU rfl (x := "_law_one") (N:=["_law_one","_law_turns_here"]) (ix:=[none,some 0]) ⟨rfl,λ_ _=>rfl,rfl,rfl,rfl,rfl,⟨rfl,rfl,rfl,trivial⟩⟩ (aY (vr 0)) ⟨λC s H fp=>ap (i:=0) (show List.Nodup (["_law_one","_law_turns_here"]:List Str) by decide +kernel) rfl (Or.inr rfl),λC s H fp=>bb,λC s H fp=>(ba rfl (N:=["_law_other","_law_one"]) (ix:=[none,some 0]) ⟨rfl,rfl,rfl,rfl,⟨rfl,rfl,rfl,trivial⟩⟩ (xP (K:=K) rfl (vr 1)) ⟨λC s H fp=>ap (i:=0) (show List.Nodup (["_law_other","_law_one"]:List Str) by decide +kernel) rfl (Or.inl rfl),λC s H fp=>bb,λC s H fp=>(aq Z hr rfl T.m_G T.F_G.kp T.B_G .nil ar (aa (aq ab hr rfl T.m_U T.F_U.kp T.B_U .nil ar (aa (vr 1) (aa (vr 0) ae))) (aa am ae)))⟩)⟩))),?_⟩;refine .inl ⟨⟨_,SqL.of o.h⟩,λD hD=>?_⟩
  let Pw3:PvL:=λi v k=>i<=d.length/\Same H k/\k D=some (.lst v)/\Paired (rF K H (untr k D) (Tb.Mt d) ps) (ps.take i) v
  refine aJ (K:=K) (a:=l) (xs:=xs) Pw3 ⟨Nat.zero_le _,Same.new hD,ad,.nil⟩ (λi ys k h=>SqL.of (h.2.1 _ _ o.h)) (λi ys k h=>h.2.2.1) ?_ ?_
  .rintro i x v H1 P' hx ⟨hi,u,n,G⟩ as
   obtain⟨⟨S,px,rfl,a0⟩,R⟩:=o.all.get hx;have Y:ps[i]? = some (i:Int):=by rw[<- hps];exact vA R
   refine⟨⟨rfl,trivial⟩,?_⟩;refine .inl ⟨⟨_,SqL.of (u _ _ o.h)⟩,λL f=>?_⟩;have nD:L≠D:=λz=>by rw[z,n]at f;cases f
   let Pw4:PvL:=λj B k=>j<=d.length/\Same H1 k/\k L=some (.lst B)/\Paired (λj z=>IsQ K k (Tb.Mt d (i:Int) j) z) (ps.take j) B
   refine aJ (K:=K) (a:=l) (xs:=xs) Pw4 ⟨Nat.zero_le _,Same.new f,ad,.nil⟩ (λj ys k h=>SqL.of (h.2.1 _ _ (u _ _ o.h))) (λj ys k h=>h.2.2.1) ?_ ?_
   .rintro j y B H2 P2 hy ⟨hj,F,p,g⟩ an
    obtain⟨⟨O,py,rfl,al⟩,M⟩:=o.all.get hy;have W:ps[j]? = some (j:Int):=by rw[<- hps];exact vA M
    have J:=u.trans F;refine⟨⟨rfl,trivial⟩,?_⟩;refine⟨px,py,_,_,_,_,rfl,a0.same J,al.same J,?_⟩;have ob:=(Tb.ov_bd (s:=(tk d i).1) (s':=(tk d j).1) S.2.2.1 S.2.2.2).resolve_right (λz=>z ⟨O.2.2.1,O.2.2.2⟩);refine⟨_,1000,rfl,by decide,(show Bt 20 _ by unfold Bt;lia).mono (by decide),(show Bt 20 1000 by unfold Bt;decide).mono (by decide),λH3 z s3 hz=>?_⟩;rw[Tb.low_1000]at hz;have c:=s3 _ _ p;have I:TK H3 (upd H3 L (.lst (B++[.ref z]))):=λb us e=>by rw[ai (bQ e c (λz=>nomatch z))];exact e
    refine⟨c,by rw[<- g.length,length_take];lia,an _ _ ⟨M,(F.trans s3).put f,ad,?_⟩⟩;exact aU (ah (λj z (h:IsQ K H2 (Tb.Mt d (i:Int) j) z)=>(h.same s3).tk I) g) W ⟨z,rfl,.inl (I _ _ hz)⟩
   .rintro B H2 ⟨_,F,p,g⟩
    rw[<- tl,<- pl,take_length]at g;have c:=F _ _ n;have wl:v.length<=i:=by rw[<- G.length,length_take];lia
    refine⟨c,by lia,as _ _ ⟨R,(u.trans F).put hD,ad,?_⟩⟩;have c1:SameT (untr H1 D) (untr (upd H2 D (.lst (v++[.ref L]))) D):=(fk F.t).trans eI;refine aU (ah (λi y ⟨D9,r,e9,f9,h9,p9⟩=>⟨D9,r,e9,f9,c1.at h9,ah (λj z h=>h.tk (λb us e=>c1.at e)) p9⟩) G) Y ⟨L,B,rfl,u.free f,?_,?_⟩
    .rw[aI nD,ai nD];exact p
    .exact ah (λj z h=>h.tk (λb us e=>by rw[aI (bQ e c (λz=>nomatch z)),ai (bQ e c (λz=>nomatch z))];exact e)) g
  .rintro v H1 ⟨_,u,n,G⟩
   rw[<- tl,<- pl,take_length]at G;exact q _ D v u n (ah (λi y ⟨D9,r,e9,f9,h9,p9⟩=>⟨D9,r,e9,f9,cut_sub.at h9,ah (λj z h=>h.tk (λb us e=>cut_sub.at e)) p9⟩) G)
theorem um(T:Txt K mg a):FnOk P w K mg base CX0 7 a.f_Q a.d_Q ["_law_script","_law_digits"] (spTurns a K):=by
 have a7:FnOk P w K mg base CX0 6 _ _ _ _:=(uX T).mono (by decide);have Z:FnOk P w K mg base CX0 6 _ _ _ _:=(qT T).mono (by decide);have a3:FnOk P w K mg base CX0 6 _ _ _ _:=(gA T).mono (by decide);have a0:FnOk P w K mg base CX0 6 _ _ _ _:=(wz T).mono (by decide);have al:FnOk P w K mg base CX0 6 _ _ _ (qt a):=vQ T;have a2:FnOk P w K mg base CX0 5 _ _ _ _:=(lN T).mono (by decide);refine T.F_Q.ok sc_Q (λvs H Q E h=>?_) (λcdv A outer s H vs Q E hr h=>?_)
 .obtain⟨p,B,d,rfl,_⟩:=h;rfl
 .obtain⟨p,B,d,rfl,hS,F,q⟩:=h
  have an:sizeLine=16777216:=sizeLine_eq;refine⟨_,(aj (cK (cE pB (ay dY (aq a7 hr rfl T.m_Y T.F_Y.kp T.B_Y .nil ar (aa (aq Z hr rfl T.m_D T.F_D.kp T.B_D .nil ar (aa (vr 0) (aa am ae))) (aa am ae))) am) am (bw _)) (aj (gx (aq a3 hr rfl T.m_u T.F_u.kp T.B_u .nil ar (aa (aq Z hr rfl T.m_D T.F_D.kp T.B_D .nil ar (aa (vr 0) (aa am ae))) (aa (vr 1) (aa (cq (aa am (aa am (aa am ae)))) ae)))) (uc rfl (au (ap (i:=2) sc_Q.nd rfl (Or.inl rfl)) (au (ap (i:=3) sc_Q.nd rfl (Or.inl rfl)) (au (ap (i:=4) sc_Q.nd rfl (Or.inl rfl)) aZ))))) (ak (aw (aq al hr rfl T.m_ae T.F_ae.kp T.B_ae .nil ar (aa (vr 2) (aa (vr 3) (aa (vr 4) ae))))))) bK) (ak (aw (ba rfl (N:=["_law_start","_law_many"]) (ix:=[none,none]) ⟨rfl,rfl,rfl,rfl,trivial⟩ (aY (ba rfl (N:=["_law_cell","_law_digits"]) (ix:=[none,some 1]) ⟨rfl,rfl,rfl,rfl,⟨rfl,rfl,rfl,trivial⟩⟩ (aY (nQ rk (vr 0) (iZ am) (iZ am))) ⟨λC s H fp=>ap (i:=0) (show List.Nodup (["_law_cell","_law_digits"]:List Str) by decide +kernel) rfl (Or.inl rfl),λC s H fp=>bb,λC s H fp=>(aq a0 hr rfl T.m_X T.F_X.kp T.B_X .nil ar (aa (vr 0) (aa (vr 1) ae)))⟩)) ⟨λC s H fp=>(cO (K:=K) (n:=2) rfl rfl (au (ap (i:=0) (show List.Nodup (["_law_start","_law_many"]:List Str) by decide +kernel) rfl (Or.inl rfl)) (au (ap (i:=1) (show List.Nodup (["_law_start","_law_many"]:List Str) by decide +kernel) rfl (Or.inl rfl)) aZ))),λC s H fp=>bb,λC s H fp=>(dI T.mk_g a2 hr rfl T.mc_g T.Bi_g .nil ar (aa (vr 0) (aa (vr 1) ae)))⟩)))),jK ?_⟩;intro a9;refine⟨p,B,1,rfl,hS,F,by decide,by decide,⟨_,77,rfl,by decide,by decide,λr r0=>⟨cp,?_⟩⟩⟩;refine ifC (λc=>?_) (λc=>?_)
  .refine⟨p,B,1,rfl,hS,F,by decide,by decide,?_⟩
   refine⟨(by decide:3<=sizeLine),λpb a1=>⟨_,d,pb,[1001,1000,13],rfl,ad,by decide,by decide,λH1 l ns1 s1 nl hl hB=>?_⟩⟩;have a5:=(Same.new (o:=.lst [.int 1001,.int 1000,.int 13]) a1).trans s1
   rcases hB with _ | ⟨hm,_ | ⟨hb,_ | ⟨hc,hn⟩⟩⟩
   cases hn;rename_i m b c9;refine⟨l,_,rfl,SqL.of hl,rfl,_,_,rfl,_,_,rfl,_,_,rfl,rfl,?_⟩;refine⟨m,b,c9,rfl,hm.1,by lia,hb.1,hb.2,hc.1,by lia,λH2 l2 xs s2 h2 W=>?_⟩;have pl:(pan m b c9.toNat).length<=12:=by unfold pan;rw[length_map,length_range];lia
   exact q _ l2 xs _ (a5.trans s2) ⟨h2,W,by lia⟩ pl
  .refine⟨2,rfl,14,rfl,p,_,rfl,hS,λp2 as=>?_⟩
   have s1:=Same.new (o:=.lst (eO (B.map V.int) (some 2) (some 14))) as;have k:=ad (H:=H) (a:=p2) (o:=.lst (eO (B.map V.int) (some 2) (some 14)))
   have G:∀ x∈eO (B.map V.int) (some 2) (some 14),∃ i:Int,x=.int i:=λx M=>by
    obtain⟨i,_,e⟩:=mem_map.mp (List.mem_of_mem_drop (List.mem_of_mem_take M));exact⟨i,e.symm⟩
   have a6:(eO (B.map V.int) (some 2) (some 14)).length<=12:=by
    unfold eO;rw[show(some (2:Int))=some ((2:Nat):Int) from rfl,show(some (14:Int))=some ((14:Nat):Int) from rfl,HT.sIx_nat,HT.sIx_nat,length_take,List.length_drop];lia
   generalize eO (B.map V.int) (some 2) (some 14)=cs at s1 k G a6;generalize upd H p2 (.lst cs)=H1 at s1 k;refine .inl ⟨⟨_,SqL.of k⟩,λD hD=>?_⟩
   let Pw5:PvL:=λi f j=>i<=cs.length/\Same H1 j/\j D=some (.lst f)/\f.length=i/\∀ y∈f,∃(q:Addr) (s m:Int),y=.ref q/\j q=some (.tup [.int s,.int m])/\OkT s m
   refine aJ (K:=K) (a:=p2) (xs:=cs) Pw5 ⟨Nat.zero_le _,Same.new hD,ad,rfl,λy hy=>by cases hy⟩ (λi f j h=>SqL.of (h.2.1 _ _ k)) (λi f j h=>h.2.2.1) ?_ ?_
   .rintro i x f H2 P' M ⟨hi,s2,u,yl,R⟩ S
    have O:=(List.getElem?_eq_some_iff.mp M).1;obtain⟨c9,rfl⟩:=G x (List.mem_of_getElem? M);refine⟨⟨rfl,trivial⟩,?_⟩;refine⟨c9,d,rfl,λH3 q3 s m v I ok=>?_⟩;have g:=v _ _ u;have ab:TK H3 (upd H3 D (.lst (f++[.ref q3]))):=λb us e=>by rw[ai (bQ e g (λz=>nomatch z))];exact e
    refine⟨g,by lia,S _ _ ⟨O,(s2.trans v).put hD,ad,by rw[length_append,yl];rfl,λy hy=>?_⟩⟩
    rcases mem_append.mp hy with hy | hy
    .obtain⟨q,s,m,e,h1,h2⟩:=R y hy
     exact⟨q,s,m,e,ab _ _ (v _ _ h1),h2⟩
    .rw[mem_singleton.mp hy]
     exact⟨q3,s,m,rfl,ab _ _ I,ok⟩
   rintro f H2 ⟨_,s2,u,yl,R⟩;refine .inl ⟨⟨_,SqL.of u⟩,λD3 g=>?_⟩
   let Pw6:PvL:=λi Y j=>i<=f.length/\Same H2 j/\j D3=some (.lst Y)/\∃ X,AllT a j X Y/\X.length=i
   refine aJ (K:=K) (a:=D) (xs:=f) Pw6 ⟨Nat.zero_le _,Same.new g,ad,[],.nil,rfl⟩ (λi f j h=>SqL.of (h.2.1 _ _ u)) (λi f j h=>h.2.2.1) ?_ ?_
   .rintro i x Y H3 P' M ⟨hi,v,J,X,W,tl⟩ S
    have O:=(List.getElem?_eq_some_iff.mp M).1;obtain⟨q3,s,m,rfl,I,ok⟩:=R x (List.mem_of_getElem? M);refine⟨q3,_,rfl,SqT.of (v _ _ I),rfl,_,_,rfl,_,_,rfl,rfl,trivial,?_⟩;intro y dy hy a4 a8;refine⟨y,dy,s,m,rfl,ad,ok,rfl,?_⟩;have s4:=gy (C:=a.c_g) (fs:=[("start",.int s)]) (gs:=[("start",.int s),("many",.int m)]) hy a4;have L:=s4 _ _ J;have zl:Y.length=i:=by rw[<- W.len,tl]
    refine⟨L,by lia,S _ _ ⟨O,(v.trans s4).put g,ad,X++[(s,m)],?_,by rw[length_append,tl];rfl⟩⟩;exact AllT.snoc ⟨ok,y,rfl,IsT.lst L ⟨dy,ad⟩⟩ ((W.same s4).lst L)
   .rintro Y H3 ⟨_,v,J,X,W,tl⟩
    exact q _ D3 Y X ((s1.trans s2).trans v) ⟨J,W,by lia⟩ (by lia)
end
end My
namespace L2
open PySem PySem.Spec PyProof.Rows
theorem sY{X:Cx}{K:Frag}(h:X.K=K):OpR X (binaryOp .Add) (λx y H Q=>lC K x y H Q\/qG K x y H Q):=h ▸ nG
section
variable {P:Program}{w:World}{K:Frag}{mg:Str->Option Value}{base:Heap}
theorem Fun.okC{x a:Str}{d:Stmt}{f c:Addr}{i:FuncData}{N ps:List Str}{k:Nat}{sp:Sp}(F:Fun K x a d f i)(p:i.code=.ref c)(S:FnScope N ps (ac d))(n:∀ vs H Q E,sp vs H Q E->vs.length=ps.length)
  (b:∀(A:Around) (outer:List Env) (s:Shared) (H:Hp) (vs:List V) (Q:VK) (E:XK),Room k (A.deeper (envOfC a (ac d) s.heap.objs.size f (.ref c)))->sp vs H Q E ->
   ∃ t,PSs (dZ CX0 P w K mg base N a (ac d) f (.ref c) A outer s H E).nox (af d) t/\t { nx:=λ_ H'=>Q .non H',rt:=Q } (start N vs) H):FnOk P w K mg base CX0 (k+1) f i ps sp:=by
 obtain⟨y,C,B,u,z,D,j,G,o,rfl,v,l⟩:=F.ex;obtain rfl:j=.ref c:=p;refine vU v l S n λA outer s H vs Q E r g=>?_
 obtain⟨t,h,q⟩:=b A outer s H vs Q E r g;exact⟨t,h.nox,q⟩
end
end L2
namespace Tu
theorem uW:∀{l m:List Int},l.Nodup->(∀ x∈l,x∈m)->l.length<=m.length
 | [],_,_,_=>Nat.zero_le _
 | x::l,m,nd,h=>by
  obtain⟨f,c⟩:=nodup_cons.mp nd;have b:=h x mem_cons_self
  have:=uW (m:=m.erase x) c λy a=>by
   have d:y≠x:=λe=>f (by rw[<- e];exact a)
   exact(List.mem_erase_of_ne d).mpr (h y (mem_cons_of_mem _ a))
  rw[List.length_erase_of_mem b]at this;have:=List.length_pos_of_mem b;rw[length_cons];lia
def t9(ts:List (Int×Int)):List Int:=(List.range ts.length).flatMap λk=>[(tk ts k).1,((tk ts k).1+(tk ts k).2) % 1000]
theorem uC(a:List (Int×Int)):(t9 a).length=2*a.length:=by
 unfold t9;rw[List.length_flatMap]
 have:((List.range a.length).map λk=>[(tk a k).1,((tk a k).1+(tk a k).2) % 1000].length)=List.replicate a.length 2:=by
  rw[List.eq_replicate_iff];exact⟨by simp,λb c=>by obtain⟨k,_,rfl⟩:=mem_map.mp c;rfl⟩
 rw[this,List.sum_replicate_nat];lia
theorem vO{t:Int×Int}{n:Int}(g:0<=t.1)(f:t.1<1000)(c:0<=t.2)(d:t.2<=1000)(a:0<=n)(b:n+1<1000)(h:inT t n≠inT t (n+1)):n+1=t.1\/n+1=(t.1+t.2) % 1000:=by
 unfold inT at h;have h:¬((n - t.1) % 1000<t.2↔(n+1 - t.1) % 1000<t.2):=λw=>h (decide_eq_decide.mpr w)
 lia
theorem vC{f:List (Int×Int)}(x:∀ k,k<f.length->0<=(tk f k).1/\(tk f k).1<1000/\0<=(tk f k).2/\(tk f k).2<=1000){i:Nat}{rs:List (Int×List Nat)}(h:Run f i rs):i<=1000->(∀ rs0 z,rs=rs0++[z]->z.2=plc f ((i:Int) - 1))/\∃ bs:List Int,bs.Nodup/\bs.length=rs.length/\∀ b∈bs,b<(i:Int)/\(b=0\/b∈t9 f):=by
 induction h with
 | zero=>exact λ_=>⟨λrs0 z e=>by simp at e,[],nodup_nil,rfl,λb hb=>by cases hb⟩
 | @new i rs h hne ih =>
  intro r;obtain⟨y,bs,p,o,g⟩:=ih (by lia);refine⟨λrs0 z e=>?_,bs++[(i:Int)],nodup_append.mpr ⟨p,by simp,λa ha b hb e=>?_⟩,by rw[length_append,length_append,o];rfl,λb hb=>?_⟩
  .have:=(append_inj' e rfl).2
   cases this;show plc f _=_
   congr 1
   push_cast
   lia
  .have:=(g a ha).1
   rw[e,mem_singleton.mp hb]at this;lia
  .rcases mem_append.mp hb with hb | hb
   .have:=g b hb
    exact⟨by push_cast;lia,this.2⟩
   .rw[mem_singleton.mp hb]
    refine⟨by push_cast;lia,?_⟩;cases i with
    | zero=>exact .inl rfl
    | succ i =>
     refine .inr ?_;have q:=kX h
     obtain⟨rs0,z,e⟩:∃ rs0 z,rs=rs0++[z]:=⟨rs.dropLast,rs.getLast (λe=>by rw[e]at q;exact absurd q (by decide)),(List.dropLast_concat_getLast _).symm⟩
     have A:=y rs0 z e;have l:=hne rs0 z e;rw[A]at l;have s:((i+1:Nat):Int) - 1=(i:Int):=by push_cast;lia
     rw[s]at l
     obtain⟨k,j,hkn⟩:∃ k,k<f.length/\inT (tk f k) (i:Int)≠inT (tk f k) ((i+1:Nat):Int):=by
      apply Classical.byContradiction;intro v;refine l (List.filter_congr λk j=>?_);apply Classical.byContradiction;exact λw=>v ⟨k,mem_range.mp j,w⟩
     obtain⟨a,b,c,d⟩:=x k j;have:=vO a b c d (n:=(i:Int)) (by lia) (by lia) (by push_cast at hkn;exact hkn);unfold t9;rw[List.mem_flatMap];refine⟨k,mem_range.mpr j,?_⟩
     rcases this with w | w
     .rw[show((i+1:Nat):Int)=(tk f k).1 by push_cast;exact w];simp
     .rw[show((i+1:Nat):Int)=((tk f k).1+(tk f k).2) % 1000 by push_cast;exact w];simp
 | @more i rs0 m h ih =>
  intro r;obtain⟨_,bs,p,o,g⟩:=ih (by lia);refine⟨λu z e=>?_,bs,p,by rw[o,length_append,length_append];rfl,λb hb=>?_⟩
  .have:=(append_inj' e rfl).2
   cases this;show plc f _=_
   congr 1
   push_cast
   lia
  .have:=g b hb
   exact⟨by push_cast;lia,this.2⟩
theorem xa{a:List (Int×Int)}{rs:List (Int×List Nat)}(c:∀ k,k<a.length->0<=(tk a k).1/\(tk a k).1<1000/\0<=(tk a k).2/\(tk a k).2<=1000)(g:a.length<=12)(h:Run a 1000 rs):rs.length<64:=by
 obtain⟨_,i,b,j,f⟩:=vC c h (Nat.le_refl _)
 have:=uW (m:=0::t9 a) b λx d=>by
  rcases(f x d).2 with w | w
  .rw[w];exact mem_cons_self
  .exact mem_cons_of_mem _ w
 rw[length_cons,uC]at this;lia
end Tu
namespace My
open PySem L2 FrM Du LexM Tu
open Tb (Tr Ent Way Rws Ch Lm2 Grp bnd gw Dk)
theorem uO{a:Ad}{c:List Addr}{H:Hp}(b:∀ q∈tabs a,q.1∈c)(h:∀ P∈c,H P=some (.tbl #[])):TabsOk (tabs a) H:=λq d=>⟨#[],h _ (b q d),trivial,λ_ _=>.inl rfl⟩
theorem BY{K:Frag}{H H':Hp}{p:Addr}{xs:List V}(e:SameT H H')(h:SqL K H p xs):SqL K H' p xs:=by
 rcases h with(h | ⟨o,h⟩) | h
 .exact .inl (.inl (e.at h))
 .exact .inl (.inr ⟨o,e.at h⟩)
 .exact .inr h
theorem mP{i:Nat}{v:V}{a σ':St}{H:Hp}{Q:St->Hp->Prop}(e:a.set i (some v)=σ')(h:Q σ' H):p7 i v a H Q:=by
 subst e;exact h
theorem wB{xs:List V}{lo a:Option Int}{x:V}(h:x∈eO xs lo a):x∈xs:=List.mem_of_mem_drop (List.mem_of_mem_take h)
abbrev lawK:Nat:=18
theorem Ts.t{a:Ad}{H H':Hp}{l:Addr}{xs:List V}{b:List (Int×Int)}(s:SameT H H')(t:Ts a H l xs b):Ts a H' l xs b:=⟨s.at t.h,ah (λu x ⟨d,p,e,c,h⟩=>⟨d,p,e,c,s.at h⟩) t.all,t.len⟩
theorem mw(rs:List (Int×List Nat)):Tr.die (rtr rs)=Tb.fl (Tb.qr nI rs):=by
 unfold rtr Tb.fl Tb.qr;rw[map_map];rfl
theorem yW{a:List (Int×Int)}{rs:List (Int×List Nat)}(h:Run a 1000 rs)(d:a.length<=12):Tb.Lb (.die (rtr rs)):=by
 rw[Tb.Lb];refine Tb.lbs_of λp b=>?_
 obtain⟨z,c,rfl⟩:=mem_map.mp b;obtain⟨_,_,n,e⟩:=cS h z c;have:=g8 a n;rw[Tb.Lb,e];unfold nI;rw[length_map];lia
theorem SpN.pl{a:Ad}{H:Hp}{v:V}{b:List (Int×Int)}{rs:List (Int×List Nat)}(h:SpN a H v b rs)(c:b.length<=12):IsPl a H v (.die (rtr rs)):=by
 obtain⟨g,i,f,d,j⟩:=h;exact⟨g,1,i,f,j,yW d c,Nat.le_refl 1⟩
theorem By{M a:Int->Int->Rat}{ps:List Int}(h:∀ x∈ps,∀ y∈ps,M x y=a x y):mtD M ps=mtD a ps:=by
 unfold mtD mrD
 congr 1
 refine map_congr_left λx c=>?_
 congr 1
 exact map_congr_left λy b=>by rw[h x c y b]
theorem wR{a:Ad}{H:Hp}{v:V}(h:IsTold a H v [99]):IsPl a H v (.leaf [99]):=by
 have c:SqH (λ_=>none):=λb o e=>by cases e
 have d:SameT (λ_=>none) H:=λb o e=>by cases e
 exact⟨_,0,c,d,h,by rw[Tb.Lb];decide,by decide⟩
theorem tq{K:Frag}{H:Hp}{R:Rws}{c:List V}(h:Paired (RowR K H) R c):Paired (λy x=>∃ a,y=V.ref a/\rQ H x a) c (R.map (·.1)):=by
 induction h with
 | nil=>exact .nil
 | cons r _ ih =>
  obtain⟨p,d,z,e,f,b,_⟩:=r;exact .cons ⟨p,e,d,z,f,b⟩ ih
theorem nL{g c:Type}{r:g->c->Prop}{b:List g}{a:List c}(h:Paired r b a)(d:g)(f:c):∀{o:List Nat},(∀ i∈o,i<b.length)->Paired r (o.map λi=>b.getD i d) (o.map λi=>a.getD i f)
 | [],_=>.nil
 | i::o,ho=>by
  have k:i<a.length:=by rw[<- h.length];exact ho i mem_cons_self
  have e:a[i]? = some a[i]:=List.getElem?_eq_getElem k;obtain⟨x,p,n⟩:=aG h e;refine .cons ?_ (nL h d f λj l=>ho j (mem_cons_of_mem _ l));show r (b.getD i d) (a.getD i f);rw[List.getD,List.getD,p,e];exact n
theorem ye{a:Ad}{H:Hp}{l:Addr}{xs:List V}{b:List (Int×Int)}(t:Ts a H l xs b):∀ k,k<b.length->0<=(tk b k).1/\(tk b k).1<1000/\0<=(tk b k).2/\(tk b k).2<=1000:=λk d=>by
 have c:k<xs.length:=by rw[<- t.all.len];exact d
 exact((t.all.get (List.getElem?_eq_getElem c)).1).1
section
variable {P:Program}{w:World}{K:Frag}{mg:Str->Option Value}{base:Heap}{a:Ad}
theorem qD{k:Nat}{f:Addr}{a:FuncData}{ps:List Str}{sp:Sp}(F:FnOk P w K mg base (CXG P w) k f a ps sp):FnOk P w K mg base CX0 k f a ps (λvs H Q _=>sp vs H Q λ_ _ _=>False) :=
 ⟨λvs H Q E h=>F.len vs H Q _ h,λA outer s H args us vs Q E hr e0 hb hv hs=>codeAny_mono (F.run A outer s H args us vs Q _ hr e0 hb hv hs) λr s' hq=>by
  cases r with
  | error e=>obtain⟨_,_,_,_,_,_,_,z⟩:=hq;exact z
  | ok fl=>cases fl <;> exact hq⟩
theorem ok_law{g:List Addr}(T:Txt K mg a)(hB:Bm mg base)(hY:∀ q∈tabs a,q.1∈g):FnOk P w K mg base CX0 lawK a.f_O a.d_O ["_law_script"] (spLaw K g):=by
 have h3:FnOk P w K mg base CX0 17 _ _ _ _:=(qT T).mono (by decide);have hK:FnOk P w K mg base CX0 17 _ _ _ _:=(um T).mono (by decide);have hU:FnOk P w K mg base CX0 17 _ _ _ _:=(tQ T).mono (by decide);have hQ:FnOk P w K mg base CX0 17 _ _ _ _:=(gA T).mono (by decide);have e7:FnOk P w K mg base CX0 17 _ _ _ _:=(qi T).mono (by decide);have kv:FnOk P w K mg base CX0 17 _ _ _ _:=(vN T).mono (by decide);have fv:FnOk P w K mg base CX0 17 _ _ _ _:=(tI T).mono (by decide);have hW:FnOk P w K mg base CX0 17 _ _ _ _:=(oZ T).mono (by decide);have eS:FnOk P w K mg base CX0 17 _ _ _ _:=(xf T hB).mono (by decide);have g6:FnOk P w K mg base CX0 17 _ _ _ _:=(sv T).mono (by decide);have k1:FnOk P w K mg base CX0 17 _ _ _ _:=(fJ T).mono (by decide);have hu:FnOk P w K mg base CX0 17 _ _ _ _:=(wE T hB).mono (by decide);have k3:FnOk P w K mg base CX0 17 _ _ _ _:=(pe T hB).mono (by decide);have hv:FnOk P w K mg base CX0 16 _ _ _ _:=(ja T).mono (by decide);have dt:FnOk P w K mg base CX0 17 _ _ _ _:=(qD (oo T hB)).mono (by decide);have h1:FnOk P w K mg base CX0 17 _ _ _ _:=(qD (sk T hB)).mono (by decide);have fx:FnOk P w K mg base CX0 17 _ _ _ _:=(qD (ve T hB)).mono (by decide);have ew:FnOk P w K mg base CX0 17 _ _ _ _:=(qD (yg T hB)).mono (by decide);have i':FnOk P w K mg base CX0 17 _ _ _ _:=(qS T).mono (by decide);have h2:FnOk P w K mg base CX0 17 _ _ _ _:=(qw T).mono (by decide);have eq:FnOk P w K mg base CX0 17 _ _ _ _:=(ql T).mono (by decide);have fA:FnOk P w K mg base CX0 17 _ _ _ _:=(qa T).mono (by decide);have ld:FnOk P w K mg base CX0 17 _ _ _ _:=(vR T).mono (by decide);have k4:FnOk P w K mg base CX0 17 _ _ _ _:=(uG T).mono (by decide);have lr:FnOk P w K mg base CX0 17 _ _ _ _:=(yD T).mono (by decide);have li:FnOk P w K mg base CX0 17 _ _ _ _:=(yt T hB).mono (by decide);refine T.F_O.okC T.lcd_O sc_O (λvs H Q E h=>?_) (λA outer s H vs Q E hr h=>?_)
 .obtain⟨p,ns,rfl,_⟩:=h;rfl
 .obtain⟨p,ns,rfl,hS,c6,ir,q⟩:=h
  have k0:sizeLine=16777216:=sizeLine_eq;have hT:=uO hY ir
  refine⟨_,(aj (aD (i:=1) sc_O.nd rfl (Or.inl rfl) (kT pB (ay dY (aq h3 hr rfl T.m_D T.F_D.kp T.B_D .nil ar (aa (vr 0) (aa am ae))) am) am (bw _))) (aj (aD (i:=2) sc_O.nd rfl (Or.inl rfl) (aq hK hr rfl T.m_Q T.F_Q.kp T.B_Q .nil ar (aa (vr 0) (aa (vr 1) ae)))) (aj (lJ rfl (i:=3) sc_O.nd rfl rfl (by with_unfolding_all rfl) (N:=["_law_turn_here"]) (ix:=[none]) ⟨rfl,rfl,rfl,rfl,trivial⟩ (aY (vr 2)) ⟨λC s H fp=>ap (i:=0) (show List.Nodup (["_law_turn_here"]:List Str) by decide +kernel) rfl (Or.inl rfl),λC s H fp=>bb,λC s H fp=>(aq hU hr rfl T.m_V T.F_V.kp T.B_V .nil ar (aa (lF (K:=K) rfl (vr 0) rfl) (aa (lF (K:=K) rfl (vr 0) rfl) ae)))⟩) (aj (aD (i:=4) sc_O.nd rfl (Or.inl rfl) (dN gC rfl T.z_list lV (aa (vr 2) ae))) (aj (aD (i:=5) sc_O.nd rfl (Or.inl rfl) (aq eS hr rfl T.m_ag T.F_ag.kp T.B_ag .nil ar (aa (vr 4) ae))) (aj (cN (pe_m.clear (vr 4))) (aj (aD (i:=6) sc_O.nd rfl (Or.inl rfl) (aq kv hr rfl T.m_P T.F_P.kp T.B_P .nil ar (aa (vr 3) ae))) (aj (cK (PW.pt (qR (gN (PE.or (ax (vr 5) T.cl_d T.mt_k i' hr T.B_k .nil ar) (ax (vr 5) T.cl_h T.mt_o h2 hr T.B_o .nil ar))) (qR (cE BF (PE.or (ax (vr 5) T.cl_d T.mt_s ld hr T.B_s .nil ar) (ax (vr 5) T.cl_h T.mt_w k4 hr T.B_w .nil ar)) am (bw _)) (oK (cE (iD hr.units) (ba rfl (N:=["_law_many","_law_there"]) (ix:=[none,none]) ⟨rfl,rfl,rfl,rfl,trivial⟩ (aY (PE.or (ax (vr 5) T.cl_d T.mt_x lr hr T.B_x .nil ar) (ax (vr 5) T.cl_h T.mt_E li hr T.B_E .nil ar))) ⟨λC s H fp=>(cO (K:=K) (n:=2) rfl rfl (au (ap (i:=0) (show List.Nodup (["_law_many","_law_there"]:List Str) by decide +kernel) rfl (Or.inl rfl)) (au (ap (i:=1) (show List.Nodup (["_law_many","_law_there"]:List Str) by decide +kernel) rfl (Or.inl rfl)) aZ))),λC s H fp=>bb,λC s H fp=>(bI (aa (vr 0) (aa (PE.or (ax (vr 1) T.cl_d T.mt_n eq hr T.B_n .nil ar) (ax (vr 1) T.cl_h T.mt_p fA hr T.B_p .nil ar)) ae)))⟩) (vr 6) (bw _)))))) (ak (aw jt)) bK) (aj (cV PassesOwn.never rfl (aY (ay zN (nQ rk (vr 0) (iZ am) (iZ am)) (cq (aa am (aa am ae))))) (ap (i:=7) sc_O.nd rfl (Or.inl rfl)) (aj (aD (i:=8) sc_O.nd rfl (Or.inl rfl) (cF bU (aq hQ hr rfl T.m_u T.F_u.kp T.B_u .nil ar (aa (vr 7) (aa (vr 1) (aa (cq (aa am ae)) ae)))) am (λ_ _=>rfl))) (sx (cK (cE pB (vr 7) am (bw _)) (ak (aD (i:=8) sc_O.nd rfl (Or.inl rfl) am)) bK) (ak (cK (PW.pt (qR (cE (iD hr.units) (PE.or (ax (fU (vr 5) T.cl_h T.mt_q ew hr T.B_q .nil ar (aa (vr 8) ae)) T.cl_d T.mt_n eq hr T.B_n .nil ar) (ax (fU (vr 5) T.cl_h T.mt_q ew hr T.B_q .nil ar (aa (vr 8) ae)) T.cl_h T.mt_p fA hr T.B_p .nil ar)) (aq e7 hr rfl T.m_T T.F_T.kp T.B_T .nil ar (aa (vr 3) (aa (vr 8) ae))) (bw _)) (oK (cE (iD hr.units) (aq fx hr rfl T.m_ab T.F_ab.kp T.B_ab .nil ar (aa (vr 5) (aa (cq (aa (vr 8) ae)) ae))) (aq e7 hr rfl T.m_T T.F_T.kp T.B_T .nil ar (aa (vr 3) (aa (vr 8) ae))) (bw _))))) (ak (aw jt)) bK))))) (aj (cK (PW.pt (qR (cE (iD hr.units) (aq dt hr rfl T.m_M T.F_M.kp T.B_M .nil ar (aa (vr 5) ae)) (aq fv hr rfl T.m_J T.F_J.kp T.B_J .nil ar (aa (vr 6) ae)) (bw _)) (oK (cE (iD hr.units) (aq h1 hr rfl T.m_y T.F_y.kp T.B_y .nil ar (aa (vr 5) (aa (dN (lL rfl) rfl T.z_list lV (aa (dN rK rfl T.z_range uu (aa (aL cD rfl T.z_len eM (aa (vr 2) ae)) ae)) ae)) ae))) (aq hW hr rfl T.m_W T.F_W.kp T.B_W .nil ar (aa (vr 2) ae)) (bw _))))) (ak (aw jt)) bK) (aj (aD (i:=9) sc_O.nd rfl (Or.inl rfl) (aq dt hr rfl T.m_M T.F_M.kp T.B_M .nil ar (aa (aq k3 hr rfl T.m_m T.F_m.kp T.B_m .nil ar (aa (vr 5) (aa (ia (d:=fg) rfl T.lch_O hB rfl (by with_unfolding_all rfl) rfl (zc a) (.head _) T.tnd zK) ae))) ae))) (aj (cK (cE (iD hr.units) (vr 9) (ba rfl (N:=["_law_k","_law_many"]) (ix:=[none,none]) ⟨rfl,rfl,rfl,rfl,trivial⟩ (gO rfl T.z_enumerate (aa (aq g6 hr rfl T.m_S T.F_S.kp T.B_S .nil ar (aa (vr 2) ae)) ae)) ⟨λC s H fp=>(cO (K:=K) (n:=2) rfl rfl (au (ap (i:=0) (show List.Nodup (["_law_k","_law_many"]:List Str) by decide +kernel) rfl (Or.inl rfl)) (au (ap (i:=1) (show List.Nodup (["_law_k","_law_many"]:List Str) by decide +kernel) rfl (Or.inl rfl)) aZ))),λC s H fp=>iY (cE Bz (vr 1) am (bw _)),λC s H fp=>(bI (aa (bI (aa (ay dq am (vr 0)) ae)) (aa (aq k1 hr rfl T.m_G T.F_G.kp T.B_G .nil ar (aa (vr 1) (aa am ae))) ae)))⟩) (bw _)) (ak (aw jt)) bK) (aj (cK (cE (iD hr.units) (aq dt hr rfl T.m_M T.F_M.kp T.B_M .nil ar (aa (aq hu hr rfl T.m_H T.F_H.kp T.B_H .nil ar (aa (vr 5) (aa (dI T.mk_d hv hr rfl T.mc_d T.Bi_d .nil ar (aa (cq (aa am ae)) ae)) ae))) ae)) (aL (j9 hr.units) rfl T.z_sorted fP (aa (ba rfl (N:=["_law_kept_here","_law_much"]) (ix:=[none,none]) ⟨rfl,rfl,rfl,rfl,trivial⟩ (aY (aq fv hr rfl T.m_J T.F_J.kp T.B_J .nil ar (aa (vr 6) ae))) ⟨λC s H fp=>(cO (K:=K) (n:=2) rfl rfl (au (ap (i:=0) (show List.Nodup (["_law_kept_here","_law_much"]:List Str) by decide +kernel) rfl (Or.inl rfl)) (au (ap (i:=1) (show List.Nodup (["_law_kept_here","_law_much"]:List Str) by decide +kernel) rfl (Or.inl rfl)) aZ))),λC s H fp=>bb,λC s H fp=>(bI (aa (ay (sY (K:=K) rfl) (vr 0) (bI (aa am ae))) (aa (vr 1) ae)))⟩) ae)) (bw _)) (ak (aw jt)) bK) (aj (aD (i:=10) sc_O.nd rfl (Or.inl rfl) am) (aj (cV PassesOwn.never rfl (gO rfl T.z_enumerate (aa (aq g6 hr rfl T.m_S T.F_S.kp T.B_S .nil ar (aa (vr 2) ae)) ae)) (eh rfl (au (ap (i:=11) sc_O.nd rfl (Or.inl rfl)) (au (ap (i:=12) sc_O.nd rfl (Or.inl rfl)) aZ))) (ak (aD (i:=10) sc_O.nd rfl (Or.inl rfl) (ay dq (vr 10) (ay dU (vr 11) (vr 12)))))) (ak (aw (kT pB (vr 10) (aL (iu rfl) rfl T.z_sum oE (aa (ba rfl (N:=["_law_turn_here"]) (ix:=[none]) ⟨rfl,rfl,rfl,rfl,trivial⟩ (aY (vr 2)) ⟨λC s H fp=>ap (i:=0) (show List.Nodup (["_law_turn_here"]:List Str) by decide +kernel) rfl (Or.inl rfl),λC s H fp=>bb,λC s H fp=>(lF (K:=K) rfl (vr 0) rfl)⟩) ae)) (bw _))))))))))))))))))),yN ?_⟩
  intro l1 l6 l9 l7 mb lz l' mp m0 mo nf m1 nn mt mu;refine⟨p,ns,0,rfl,hS,c6,by decide,by decide,⟨cp,?_⟩⟩;dsimp only[tC,xQ];generalize (if false=true then !decide (qo ns 0 % 2=1) else decide (qo ns 0 % 2=1))=d;refine mP (σ':=[some (.ref p),some (.bl d),none,none,none,none,none,none,none,none,none,none,none]) rfl ?_;refine⟨p,ns,d,rfl,hS,c6,λH1 lt xs g s1 ht v=>?_⟩;refine mP (σ':=[some (.ref p),some (.bl d),some (.ref lt),none,none,none,none,none,none,none,none,none,none]) rfl ?_;have tl:=ht.all.len;have h5:=ht.len;have h6:=hT.same s1
  refine .inl ⟨⟨_,SqL.of ht.h⟩,λD hD=>?_⟩
  let Pw1:PvL:=λi ms H'=>i<=g.length/\Same H1 H'/\H' D=some (.lst ms)/\Paired (xY (untr H' D)) (g.take i) ms
  refine aJ (K:=K) (a:=lt) (xs:=xs) Pw1 ⟨Nat.zero_le _,Same.new hD,ad,.nil⟩ (λi ys H' h=>SqL.of (h.2.1 _ _ ht.h)) (λi ys H' h=>h.2.2.1) ?_ ?_
  .rintro i x ms H' P' F ⟨hi,s2,bo,r⟩ J
   obtain⟨⟨ge,px,rfl,dx,dr⟩,l⟩:=ht.all.get F;have c0:=s2 _ _ dr;have d0:g[i]? = some (tk g i):=by unfold tk;rw[List.getD,List.getElem?_eq_getElem l];rfl
   refine⟨trivial,px,_,dx,_,_,rfl,c0,T.cl_g,T.na_Turn_start,rfl,px,_,dx,_,_,rfl,c0,T.cl_g,T.na_Turn_many,rfl,?_⟩;refine⟨_,_,rfl,ge,λH3 l3 s3 f3 i0=>?_⟩;have i3:=s3 _ _ bo;have n3:l3≠D:=λz=>by rw[z,bo]at f3;cases f3
   have ml:ms.length<=i:=by rw[<- r.length,length_take];lia
   have c1:SameT (untr H' D) (untr (upd H3 D (.lst (ms++[.ref l3]))) D):=(fk s3.t).trans eI;refine⟨i3,by lia,J _ _ ⟨l,(s2.trans s3).put hD,ad,aU (ah (λt x ⟨p,e,hp⟩=>⟨p,e,c1.at hp⟩) r) d0 ⟨l3,rfl,?_⟩⟩⟩;rw[aI n3,ai n3];exact i0
  rintro ms H2 ⟨_,s2,bo,r⟩;rw[<- tl,take_length]at r
  have f5:Ms H2 D g:=⟨⟨ms,bo,ah (λt x ⟨p,e,hp⟩=>⟨p,e,cut_sub.at hp⟩) r⟩,v⟩
  clear r bo;have b0:=ht.same s2;have hF:=s1.trans s2;have ig:=h6.same s2;refine mP (σ':=[some (.ref p),some (.bl d),some (.ref lt),some (.ref D),none,none,none,none,none,none,none,none,none]) rfl ?_
  refine⟨lt,xs,rfl,.inl (SqL.of b0.h),λO fz=>?_⟩;have s3:=Same.new (o:=.lst xs) fz;have a0:=ad (H:=H2) (a:=O) (o:=.lst xs);generalize upd H2 O (.lst xs)=H3 at s3 a0;refine mP (σ':=[some (.ref p),some (.bl d),some (.ref lt),some (.ref D),some (.ref O),none,none,none,none,none,none,none,none]) rfl ?_;refine⟨O,xs,g,rfl,⟨a0,b0.all.same s3,h5⟩,v,ig.same s3,λH4 u H0 rs t4 em g' s0 f0 L hn nl=>?_⟩;have W:=t4.at a0;refine mP (σ':=[some (.ref p),some (.bl d),some (.ref lt),some (.ref D),some (.ref O),some u,none,none,none,none,none,none,none]) rfl ?_;refine⟨.inl ⟨rfl,_,SqL.of W⟩,⟨O,_,rfl,rfl,W,?_⟩⟩;have t5:SameT H2 (upd H4 O (.lst [])):=(s3.t.trans t4).put fz;have d3:TabsOk (tabs a) (upd H4 O (.lst [])):=em.put (λps z=>by rw[W]at z;cases z) λφ z=>by rw[W]at z;cases z
  have d5:SpN a (upd H4 O (.lst [])) u g rs:=by
   have up:∀ b o,b≠O->H4 b=some o->(upd H4 O (.lst [])) b=some o:=λb o n e=>by rw[ai n];exact e
   refine⟨H0,g',λb o e=>?_,L,(kB (Bd:=[O]) (λb hb=>⟨xs,by rw[mem_singleton.mp hb];exact a0⟩) t4 hn nl).t λb o e=>?_⟩
   .have nb:b≠O:=λz=>by have:=f0 b o e;rw[z,a0]at this;cases this
    obtain⟨e1,o1,e2⟩:=s0 b o e;exact⟨λnp=>up _ _ nb (e1 np),o1,up _ _ nb e2⟩
   .obtain⟨e1,e2⟩:=aC e
    have:=up _ _ (λz=>e1 (by rw[z];simp)) e2;exact⟨λ_=>this,_,this⟩
  generalize upd H4 O (.lst [])=H5 at t5 d3 d5;clear hn nl W s0 f0 em t4 a0 s3;have eu:=hF.t.trans t5;have ei:=b0.t t5;have bt:=f5.same t5
  refine⟨D,g,rfl,bt,λH6 lp mN ys s6 mz ep hP ec=>?_⟩;obtain rfl:=fE L ec;clear ec;refine mP (σ':=[some (.ref p),some (.bl d),some (.ref lt),some (.ref D),some (.ref O),some u,some (.ref lp),none,none,none,none,none,none]) rfl ?_;have b4:=d5.t s6.t;have el:=d3.same s6;have ct:=bt.same s6.t;have e0:=ei.same s6;have kp:=eu.trans s6.t;clear d5 d3 bt ei eu f5 b0;obtain⟨fs,cA,et,_⟩:=lQ b4;obtain⟨x5,bL,l5,y5,rfl,b',_⟩:=id cA;refine .inr ⟨x5,bL,_,rfl,b',rfl,_,rfl,?_⟩;refine .inr ⟨x5,bL,_,rfl,b',rfl,_,fs,rfl,cA,λH7 s7=>?_⟩;have et:xz fs=1000:=et;rw[et];have eg:=b4.t s7.t;have fe:=el.same s7;have gn:=s7 _ _ b';refine .inr ⟨x5,bL,_,rfl,gn,rfl,.ref x5,_,[],rfl,(λb hb=>by cases hb),by rw[cv];exact .inl (eg.pl v),fe,λH8 D8 zs t8 hT8 fD8 al hPt=>?_⟩;rw[cv]at hPt;have a6:=t8.at (s7 _ _ ep);have d6:=ah (PartL.tk (H':=H8) (λb us e=>t8.at (s7 _ _ e))) hP;have hA:=s7.t.trans t8;have zl:zs.length=rs.length:=by rw[<- hPt.length];unfold rtr;rw[length_map]
  have rl:=i4 L;refine .inl ⟨⟨_,SqL.of al⟩,λD9 S=>?_⟩
  let Pw2:PvL:=λi G H'=>i<=rs.length/\Same H8 H'/\H' D9=some (.lst G)/\Paired (PartL H') (rs.take i) G
  refine aJ (K:=K) (a:=D8) (xs:=zs) Pw2 ⟨Nat.zero_le _,Same.new S,ad,.nil⟩ (λi ys H' h=>SqL.of (h.2.1 _ _ al)) (λi ys H' h=>h.2.2.1) ?_ ?_
  .rintro i x G H' P' F ⟨hi,I,as,r⟩ J
   obtain⟨pt,a2,q9,v9,rfl,ib,ls⟩:=aG hPt F
   obtain⟨z,hz,e9⟩:∃ z,rs[i]? = some z/\(z.1,Tr.leaf (nI z.2))=pt:=by
    unfold rtr at a2;rw[List.getElem?_map]at a2;cases e:rs[i]? with
    | none=>rw[e]at a2;cases a2
    | some z=>rw[e]at a2;exact⟨z,rfl,Option.some.inj a2⟩
   subst e9;have l:=(List.getElem?_eq_some_iff.mp hz).1;obtain⟨x9,bm,tt,d2,rfl,cc,he,bl⟩:=pS ls;obtain⟨_,_,n9,i9⟩:=cS L z (List.mem_of_getElem? hz);have ho:d2=nI z.2:=(Tb.so_uniq bl.1 bl.2).trans (by rw[i9];exact Tb.so_up (gz g n9));subst ho;have co:=I _ _ cc;refine⟨q9,_,rfl,SqT.of (I _ _ ib),rfl,_,_,rfl,_,_,rfl,rfl,trivial,?_⟩;refine .inl ⟨x9,bm,_,rfl,co,rfl,x9,bm,tt,rfl,co,?_⟩;refine⟨cT _ _,λp9 hG=>?_⟩;have b6:=Same.new (o:=.tup [.int z.1,.ref tt]) hG;have cx:=b6 _ _ as;have wl:G.length<=i:=by rw[<- r.length,length_take];lia
   have B:TK (upd H' p9 (.tup [.int z.1,.ref tt])) (upd (upd H' p9 (.tup [.int z.1,.ref tt])) D9 (.lst (G++[.ref p9]))):=λb us e=>by rw[ai (bQ e cx (λz=>nomatch z))];exact e
   exact⟨cx,by lia,J _ _ ⟨l,(I.trans b6).put S,ad,aU (ah (PartL.tk (b6.tk.trans B)) r) hz ⟨p9,tt,rfl,B _ _ ad,B _ _ ((I.trans b6) _ _ he)⟩⟩⟩
  rintro G H9 ⟨_,I,as,r⟩;rw[zl,take_length]at r;refine eL (d:=.list (rs.map oq)) (cL as (dR lU r)) (cL (I _ _ a6) (dR lU (ah (PartL.tk I.tk) d6))) (ng rs) (by decide) ?_;have a':=hA.trans I.t;have gP:=hT8.same I;have c4:=I _ _ a6;have g5:=ah (PartL.tk I.tk) d6;have c9:=b4.t a';have c8:=ct.same a';have ex:=e0.t a';have is:=kp.trans a';clear r as d6 a6 hPt al hT8 fe eg gn b4 ct e0 hP ep el
  refine⟨_,rfl,_,rfl,_,_,rfl,BY is hS,λr1 hs=>?_⟩;refine⟨by show 2<=sizeLine;decide,λr2 ie=>?_⟩;have b1:=Same.new (o:=.lst (eO (ns.map V.int) (some 14) (some 63))) hs;have b2:=Same.new (o:=.lst [.int 0,.int 999]) ie;have cl:=iM (ns.map V.int) (some 14) (some 63);rw[length_map]at cl;refine⟨r1,r2,_,_,rfl,rfl,b2 _ _ ad,ad,by show _+2<=sizeLine;lia,λr3 lo=>?_⟩;have b3:=(b1.trans b2).trans (Same.new (o:=.lst (eO (ns.map V.int) (some 14) (some 63)++[.int 0,.int 999])) lo);have bS:(upd (upd (upd H9 r1 (.lst (eO (ns.map V.int) (some 14) (some 63)))) r2 (.lst [.int 0,.int 999])) r3 (.lst (eO (ns.map V.int) (some 14) (some 63)++[.int 0,.int 999]))) r3=some (.lst (eO (ns.map V.int) (some 14) (some 63)++[.int 0,.int 999])):=ad
  have ed:∀ x∈eO (ns.map V.int) (some 14) (some 63)++[.int 0,.int 999],∃ c:Int,x=.int c:=λx F=>by
   rcases mem_append.mp F with h | h
   .obtain⟨c,_,rfl⟩:=mem_map.mp (wB h);exact⟨c,rfl⟩
   .rcases mem_cons.mp h with h | h
    .exact⟨0,h⟩
    .exact⟨999,mem_singleton.mp h⟩
  generalize eO (ns.map V.int) (some 14) (some 63)++[.int 0,.int 999]=cs at b3 bS ed;generalize upd (upd (upd H9 r1 (.lst (eO (ns.map V.int) (some 14) (some 63)))) r2 (.lst [.int 0,.int 999])) r3 (.lst cs)=HA at b3 bS;refine .inl ⟨⟨_,SqL.of bS⟩,?_⟩
  let Pw3:PvS:=λi σ H'=>SameT HA H'/\TabsOk (tabs a) H'/\∃(x7 x8:Option V),σ=[some (.ref p),some (.bl d),some (.ref lt),some (.ref D),some (.ref O),some (.ref x5),some (.ref lp),x7,x8,none,none,none,none]
  refine dC (K:=K) (a:=r3) (xs:=cs) Pw3 ⟨SameT.refl,gP.same b3,none,none,rfl⟩ (λi σ H' _ h=>SqL.of (h.1.at bS)) ?_ ?_
  .rintro i x σ H' F ⟨b5,dT,x7,x8,rfl⟩
   obtain⟨c,rfl⟩:=ed x (List.mem_of_getElem? F);have Y:=b3.t.trans b5;have a1:=c9.t Y;have hg:=c8.same Y;refine⟨(by decide:1<=sizeLine),λpb hq=>⟨c,d,pb,[1000],rfl,ad,by decide,by decide,λHB ln ns1 sB nl hl hB'=>?_⟩⟩;have bq:=(Same.new (o:=.lst [.int 1000]) hq).trans sB
   rcases hB' with _ | ⟨go,h0⟩
   cases h0;rename_i Z;refine .inl ⟨ln,_,_,_,rfl,rfl,SqL.of hl,bT 0 rfl rfl,?_⟩;refine mP (σ':=[some (.ref p),some (.bl d),some (.ref lt),some (.ref D),some (.ref O),some (.ref x5),some (.ref lp),some (.int c),some (.int Z),none,none,none,none]) rfl ?_;refine⟨(λσ' ea=>ea=HB/\∃(Z:Int),0<=Z/\Z<1000/\σ'=[some (.ref p),some (.bl d),some (.ref lt),some (.ref D),some (.ref O),some (.ref x5),some (.ref lp),some (.int c),some (.int Z),none,none,none,none]),?_,?_⟩
   .refine ifC (λ_=>?_) (λ_=>?_)
    .exact⟨rfl,999,by decide,by decide,rfl⟩
    .exact⟨rfl,Z,go.1,go.2,rfl⟩
   rintro σ' ea ⟨rfl,Z,bn,bg,rfl⟩;have gf:=a1.t bq.t;have kg:=dT.same bq;have f7:=hg.same bq.t;obtain⟨ih,dV,hH,fy⟩:=lQ gf;obtain⟨f9,hE,eR⟩:=jX fy (m8 L Z bn bg);have ha:ea x5=some (.ins a.c_h bL [("makes",.ref l5)]):=(a'.trans (Y.trans bq.t)).at b';refine .inl ⟨x5,bL,_,rfl,ha,rfl,_,ih,f9,Z,rfl,dV,bn,by rw[hH];exact bg,hE,λHC sC=>?_⟩;refine ou (eR.t sC.t) (kg.same sC) λHD u9 tD h7 j'=>?_
   obtain⟨x9,bm,hN,d2,rfl,cc,ef,bl⟩:=j';obtain rfl:d2=nI (plc g Z):=(Tb.so_uniq bl.1 bl.2).trans (Tb.so_up (gz g Z));refine⟨x9,bm,_,rfl,cc,rfl,x9,bm,hN,rfl,cc,?_⟩;have e5:=sC.t.trans tD;have k7:=f7.same e5;refine⟨D,g,Z,rfl,k7,bn,bg,λHE kt sE k9=>?_⟩;refine eL (d:=nR (nI (plc g Z))) (eZ (sE _ _ ef)) (eZ k9) (jk _) (by decide) ?_;have h':=h7.same sE;have e4:=e5.trans sE.t;refine⟨(by decide:1<=sizeLine),λr4 kw=>?_⟩;have s4:=Same.new (o:=.lst [.int Z]) kw;refine⟨_,r4,g,rs,Z,rfl,gf.t (e4.trans s4.t),ad,bn,bg,h'.same s4,λHF m' tF k' ej=>?_⟩;have fd:=(e4.trans s4.t).trans tF;refine⟨D,g,Z,rfl,f7.same fd,bn,bg,λHG na sG fI=>?_⟩;refine eL (d:=nR (nI (plc g Z))) (eZ (sG _ _ ej)) (eZ fI) (jk _) (by decide) ?_;exact⟨((b5.trans bq.t).trans fd).trans sG.t,k'.same sG,_,_,rfl⟩
  rintro σ HL ⟨b5,dT,x7,x8,rfl⟩;have Y:=b3.t.trans b5;have a1:=c9.t Y;have br:=ex.t Y;have c3:=Y.at c4;have fD:=ah (PartL.tk (H':=HL) (λb us e=>Y.at e)) g5;clear c9 ex c4 g5 c8 gP
  have eb:=xa (ye br) v L;have ca:∀ n,(nI (plc g n)).Nodup/\(nI (plc g n)).length<=24:=Tb.plc_ok v;have d1:=Tb.fl_run L ca;have ch:=Tb.fl_ok d1;have a5:∀{f:List Nat->List Int},Tb.lv (Tb.fl (Tb.qr f rs))<64:=λ{f}=>by rw[Tb.fl_lv];unfold Tb.qr;rw[length_map];exact eb
  have fC:IsNd a HL (.ref x5) (Tb.fl (Tb.qr nI rs)):=by rw[<- mw];exact .inl (a1.pl v)
  refine⟨_,1,_,1000,rfl,fC,Tb.dk_run L ca,by decide,ch,a5,by decide,Tb.lm_1000,Tb.fl_ch d1,dT,λ_ HM lm R ym tM ll mc iv k5 g4 _=>?_,λh=>absurd h (by have:=a5 (f:=nI);lia)⟩;refine⟨lp,rs,ys,g,rfl,tM.at c3,ah (PartL.tk (H':=HM) (λb us e=>tM.at e)) fD,L,eb,λHN ln R' yn sN hln hRn htab' _=>?_⟩;obtain rfl:=Tb.tab_same ch (Tb.kt_one L v) g4 htab';refine eL (d:=qh R) (cL (sN _ _ iv) (dR (λx y h=>g7 h) (ah (RowR.tk sN.tk) k5))) (cL hln (dR (λx y h=>g7 h) hRn)) (lO R) (by decide) ?_;have dd:=tM.trans sN.t;have lj:=ll.same sN;have ft:=br.t dd;have k6:=a1.t dd
  have f2:=ye ft;refine⟨_,.inl (SqL.of ft.h),?_⟩;rw[<- tl];refine⟨_,rfl,λpr k8=>?_⟩;have sr:=Same.new (o:=.rng 0 (g.length:Int)) k8;refine⟨pr,g.length,rfl,by lia,ad,λlq hO=>?_⟩;have sq:=sr.trans (Same.new (o:=.lst ((List.range g.length).map λ(i:Nat)=>V.int (i:Int))) hO);have f8:(upd (upd HN pr (.rng 0 (g.length:Int))) lq (.lst ((List.range g.length).map λ(i:Nat)=>V.int (i:Int)))) lq=some (.lst ((nI (List.range g.length)).map V.int)):=by rw[ad];unfold nI;rw[map_map];rfl
  generalize upd (upd HN pr (.rng 0 (g.length:Int))) lq (.lst ((List.range g.length).map λ(i:Nat)=>V.int (i:Int)))=HO' at sq f8;have gc:IsNd a HO' (.ref x5) (Tb.fl (Tb.qr nI rs)):=by rw[<- mw];exact .inl ((k6.t sq.t).pl v)
  refine⟨_,1,_,lq,nI (List.range g.length),rfl,gc,Tb.dk_run L ca,by decide,ch,a5,by rw[Tb.fl_dn d1];exact Tb.lm_1000,lj.same sq,f8,by unfold nI;rw[length_map,length_range];lia,λ_ HP mA R2 nq tP lw l8 ff _ dK f' _=>?_,λh=>absurd h (by have:=a5 (f:=nI);lia)⟩;have fq:=dd.trans (sq.t.trans tP);refine⟨lt,xs,g,rfl,br.t fq,λHQ lD nh sQ hM cy=>?_⟩
  have gr:mtD (Tb.mm R2) (nI (List.range g.length))=mtD (Tb.Mt g) (nI (List.range g.length)):=By λx F y hy=>by
   obtain⟨k,hk,rfl⟩:=mem_map.mp F;obtain⟨j,hj,rfl⟩:=mem_map.mp hy;exact Tb.tab_mm ch (Tb.kt_one L v) dK L f2 (mem_range.mp hk) (mem_range.mp hj)
  have dm:=vc (K:=K) (M:=Tb.mm R2) (sQ _ _ ff) (ah (λi y ⟨D9,k2,e9,f9,h9,p9⟩=>⟨D9,k2,e9,f9,sQ _ _ h9,ah (λj z h=>h.same sQ) p9⟩) f');rw[gr]at dm;refine eL (d:=mtD (Tb.Mt g) (nI (List.range g.length))) dm (vc hM cy) (Ax _ _) (by decide) ?_;clear dm gr cy f' gc fC;have ev:=fq.trans sQ.t;have hC:=lw.same sQ;have ks:=a1.t ev
  have e3:∀{f:List Nat->List Int},(∀ n,(f (plc g n)).Nodup/\(f (plc g n)).length<=24)->∀{HS:Hp}{u8:V}{Q':VK},IsNd a HS u8 (Tb.fl (Tb.qr f rs))->TabsOk (tabs a) HS->(∀ HT l2 R3 y3,SameT HS HT->TabsOk (tabs a) HT->HT l2=some (.lst y3)->Paired (RowR K HT) R3 y3->Tb.IsTab (Tb.toR (Tb.kW (Tb.wl (Tb.fl (Tb.qr f rs)) 1 1))) R3->Q' (.ref l2) HT)->jg a K [u8] HS Q' λ_ _ _=>False:=λ{f} hf {HS u8 Q'} hn hT k=>⟨u8,1,_,1000,rfl,hn,Tb.dk_run L hf,by decide,Tb.fl_ok (Tb.fl_run L hf),a5,by decide,Tb.lm_1000,Tb.fl_ch (Tb.fl_run L hf),hT,λ_ HT l2 R3 y3 tT hTT fl2 hl2 hR3 htab3 _=>k HT l2 R3 y3 tT hTT hl2 hR3 htab3,λh=>absurd h (by have:=a5 (f:=f);lia)⟩
  refine⟨hC,λf1 c1 HR tR hL n1 lk hw=>?_⟩;refine⟨_,.ref f1,(λns=>.leaf [50+(ns.length:Int)]),false,_,[],rfl,(λb hb=>by cases hb),by rw[cv];exact(ks.t tR).pl v,by rw[cv];exact .inr (.inr ⟨⟨f1,c1,[],rfl,lk,hw,rfl,nodup_nil,.nil⟩,rfl,rfl⟩),(λz=>by cases z),hL,λHS u8 tS hTS hN8=>?_⟩;rw[cv,mw,Tb.two_eq]at hN8;dsimp only[vy];refine e3 (λn=>Tb.two_ok _) hN8 hTS λHT l2 R3 y3 tT hTT hl2 hR3 htab3=>?_
  have eH:=ev.trans ((tR.trans tS).trans tT);refine mP (σ':=[some (.ref p),some (.bl d),some (.ref lt),some (.ref D),some (.ref O),some (.ref x5),some (.ref lp),x7,x8,some (.ref l2),none,none,none]) rfl ?_;refine⟨lt,xs,g,rfl,br.t eH,λHU r5 sU ki a3=>?_⟩;have gT:=hTT.same sU;have cg:(j8 g 1000).length=g.length+1:=vH g 1000;have c5:=sU _ _ hl2;have cB:=ah (RowR.tk sU.tk) hR3;refine⟨r5,_,rfl,a3,λD6 e'=>?_⟩;refine kd (a:=r5) (xs:=(j8 g 1000).map V.int) (λi G H'=>i<=g.length+1/\Same HU H'/\H' D6=some (.lst G)/\Paired (RowR K H') (Tb.cR g i) G) ⟨Nat.zero_le _,Same.new e',ad,.nil⟩ (λi ys H' h=>h.2.1 _ _ a3) (λi ys H' h=>h.2.2.1) ?_ ?_
  .rintro i x G H' p9 P' F ⟨hi,I,ab,r⟩ bF J
   rw[List.getElem?_map]at F
   have l:i<g.length+1:=by
    rcases Nat.lt_or_ge i (g.length+1) with h | h
    .exact h
    .rw[List.getElem?_eq_none (by rw[cg];exact h)]at F;cases F
   rw[om l]at F;cases F;have a9:=Same.new (o:=.tup [.int (i:Nat),.int (cnt g 1000 i)]) bF;have cb:=Tb.cnt_bd g i 1000;have wl:G.length<=i:=by rw[<- r.length];exact Tb.cR_len g i
   have es:=Tb.cR_succ g i;refine⟨p9,_,rfl,SqT.of ad,rfl,_,_,rfl,_,_,rfl,rfl,trivial,?_⟩;have al:=a9 _ _ ab;have dg:=ah (RowR.tk a9.tk) r;generalize upd H' p9 (.tup [.int (i:Nat),.int (cnt g 1000 i)])=HV at a9 al dg;refine ifC (λc=>?_) (λc=>?_)
   .have c:0<cnt g 1000 i:=c
    rw[if_pos c]at es;refine⟨(by decide:1<=sizeLine),λp1 il=>?_⟩;have fB:=Same.new (o:=.tup [.int (50+(i:Int))]) il;have ga:=ad (H:=HV) (a:=p1) (o:=.tup [.int (50+(i:Int))]);generalize upd HV p1 (.tup [.int (50+(i:Int))])=HW at fB ga;refine⟨_,1000,rfl,by decide,(show Bt 20 (cnt g 1000 i) by unfold Bt;lia).mono (by decide),(show Bt 20 1000 by unfold Bt;decide).mono (by decide),λHX z sX hz=>?_⟩;rw[Tb.low_1000]at hz;refine⟨cT _ _,λp2 df=>?_⟩;have a4:=Same.new (o:=.tup [.ref p1,.ref z]) df;have X:=(fB.trans sX).trans a4;have S:=X _ _ al;have B:TK (upd HX p2 (.tup [.ref p1,.ref z])) (upd (upd HX p2 (.tup [.ref p1,.ref z])) D6 (.lst (G++[.ref p2]))):=λb us e=>by rw[ai (bQ e S (λz=>nomatch z))];exact e
    refine⟨S,by lia,J _ _ ⟨l,((I.trans a9).trans X).put e',ad,?_⟩⟩;rw[es];exact cP ⟨p2,p1,.ref z,rfl,B _ _ ad,B _ _ ((sX.trans a4) _ _ ga),⟨z,rfl,.inl (B _ _ (a4 _ _ hz))⟩⟩ (ah (RowR.tk (X.tk.trans B)) dg)
   .have c:¬0<cnt g 1000 i:=c
    rw[if_neg c,append_nil]at es;exact J _ _ ⟨l,I.trans a9,al,by rw[es];exact dg⟩
  rintro G HV ⟨_,sV,ab,r⟩;rw[length_map,cg,Tb.tab_two L htab3]at r;refine eL (d:=qh R3) (cL (sV _ _ c5) (dR (λx y h=>g7 h) (ah (RowR.tk sV.tk) cB))) (cL ab (dR (λx y h=>g7 h) r)) (lO R3) (by decide) ?_;have h4:=(eH.trans sU.t).trans sV.t;have lg:=gT.same sV;clear r ab cB c5 a3 hR3 hl2 hN8 htab3 gT hTT
  refine⟨(by decide:1<=sizeLine),λd4 f4=>?_⟩;have gV:=Same.new (o:=.lst [.int 99]) f4;have c2:=ad (H:=HV) (a:=d4) (o:=.lst [.int 99]);generalize upd HV d4 (.lst [.int 99])=HW at gV c2;intro y9 cj e6 c7 l0;have ka:Same HW (upd (upd HW cj (.own y9)) y9 (.ins a.c_d cj [])):=λb o e=>by rw[ai (av e e6),ai (av e c7)];exact e
  refine⟨y9,cj,d4,[99],rfl,ad,.inl (ka _ _ c2),by decide,λHX t' jb kk g1 g2 g3=>⟨rfl,?_⟩⟩;have sX:=gV.trans (made e6 c7 kk);have gb:=h4.trans sX.t;refine⟨_,_,_,_,rfl,(a1.t gb).pl v,wR ⟨y9,cj,t',jb,rfl,g1,g2,g3⟩,lg.same sX,λHY u9 tY gs a8=>?_⟩;rw[mw,Tb.three_eq]at a8;dsimp only[vy];refine e3 (Tb.three_ok v) a8 gs λHZ l4 R4 y4 tZ lb ek g0 dv=>?_
  have dy:=gb.trans (tY.trans tZ);refine⟨lp,rs,ys,g,rfl,dy.at c3,ah (PartL.tk (H':=HZ) (λb us e=>dy.at e)) fD,L,eb,λHa la R1 ya sa hla hRa htaba yal=>?_⟩;have Rl:R1.length=ya.length:=hRa.length;refine .inl ⟨⟨_,SqL.of hla⟩,λDb eo=>?_⟩
  let Pw4:PvL:=λi G H'=>i<=R1.length/\Same Ha H'/\H' Db=some (.lst G)/\Paired (RowR K H') ((Tb.r99 R1).take i) G
  refine aJ (K:=K) (a:=la) (xs:=ya) Pw4 ⟨Nat.zero_le _,Same.new eo,ad,.nil⟩ (λi ys H' h=>SqL.of (h.2.1 _ _ hla)) (λi ys H' h=>h.2.2.1) ?_ ?_
  .rintro i x G H' P' F ⟨hi,I,ab,r⟩ J
   obtain⟨an,a7,j1⟩:=aG hRa F;obtain⟨p9,m2,z9,rfl,bF,ey,hI⟩:=RowR.tk I.tk an _ j1;have l:i<R1.length:=(List.getElem?_eq_some_iff.mp a7).1;have i1:(Tb.r99 R1)[i]? = some (an.1++[99],an.2):=by unfold Tb.r99;rw[List.getElem?_map,a7];rfl
   have kl:an.1.length<=24:=by
    have hm:=(htaba.keys an.1).mp (mem_map.mpr ⟨an,List.mem_of_getElem? a7,rfl⟩);obtain⟨y,hy,e⟩:=mem_map.mp hm;obtain⟨z,hz,rfl⟩:=mem_map.mp hy;obtain⟨_,_,n,en⟩:=cS L z hz;have e:nI z.2=an.1:=e;rw[<- e,en];exact(ca n).2
   have wl:G.length<=i:=by rw[<- r.length,length_take];lia
   refine⟨p9,_,rfl,SqT.of bF,rfl,_,_,rfl,_,_,rfl,rfl,trivial,?_⟩;refine⟨(by decide:1<=sizeLine),λpn it=>?_⟩;have sn:=Same.new (o:=.tup [.int 99]) it;refine Bs (sn _ _ ey) ad (by rw[length_map];show _+1<=_;lia) λHc pc sc lx=>?_
   have hh:=sn.trans sc;refine⟨cT _ _,λp2 df=>?_⟩;have a4:=Same.new (o:=.tup [.ref pc,z9]) df;have X:=hh.trans a4;have S:=X _ _ ab;have B:TK (upd Hc p2 (.tup [.ref pc,z9])) (upd (upd Hc p2 (.tup [.ref pc,z9])) Db (.lst (G++[.ref p2]))):=λb us e=>by rw[ai (bQ e S (λz=>nomatch z))];exact e
   refine⟨S,by lia,J _ _ ⟨l,(I.trans X).put eo,ad,?_⟩⟩;refine aU (ah (RowR.tk (X.tk.trans B)) r) i1 ⟨p2,pc,z9,rfl,B _ _ ad,B _ _ (a4 _ _ ?_),(hI.same X).tk B⟩;rw[lx,map_append];rfl
  rintro G Hd ⟨_,sd,gk,r⟩;have kb:(Tb.r99 R1).length=R1.length:=by unfold Tb.r99;rw[length_map]
  rw[<- Rl,<- kb,take_length]at r;have fL:=Tb.r99_nd htaba.nd;have h8:G.length=(Tb.r99 R1).length:=r.length.symm;have fa:((Tb.r99 R1).map λ(x:List Int×Rat)=>x.1).Nodup:=fL;refine⟨Db,G,(Tb.r99 R1).map λ(x:List Int×Rat)=>x.1,rfl,SqL.of gk,by lia,tq r,fa,λqs o op os fqs=>?_⟩;rw[h8]at op;obtain⟨rp,up⟩:=Tb.tab_of fL op os;have de:=nL r ([],0) V.non (o:=o) λi hi=>mem_range.mp (op.mem_iff.mp hi)
  generalize ec:(o.map λi=>(Tb.r99 R1).getD i ([],0))=R' at rp up de;obtain rfl:=Tb.tab_three L v htaba dv rp up;have ss:=Same.new (o:=.lst (o.map λi=>G.getD i .non)) fqs;have ds:=(sa.trans sd).trans ss;refine eL (d:=qh R') (cL (ds _ _ ek) (dR (λx y h=>g7 h) (ah (RowR.tk ds.tk) g0))) (cL ad (dR (λx y h=>g7 h) (ah (RowR.tk ss.tk) de))) (lO R') (by decide) ?_;have f6:=dy.trans ds.t;have d':=br.t f6;generalize upd Hd qs (.lst (o.map λi=>G.getD i .non))=He at f6 d';clear de r g0 ek rp up op os gk a8 lb gs hRa hla
  refine⟨lt,xs,g,rfl,d',λHf r5 sf ki a3=>?_⟩
  let Pw5:PvS:=λi σ H'=>∃(dL dp:Option V),Same Hf H'/\i<=g.length+1/\σ=[some (.ref p),some (.bl d),some (.ref lt),some (.ref D),some (.ref O),some (.ref x5),some (.ref lp),x7,x8,some (.ref l2),some (.int (Tu.sm (λk=>(k:Int)*cnt g 1000 k) i)),dL,dp]
  refine⟨r5,_,rfl,a3,jU (a:=r5) (xs:=(j8 g 1000).map V.int) Pw5 ⟨none,none,Same.refl _,Nat.zero_le _,rfl⟩ (λi σ H' h=>by obtain⟨_,_,s,_⟩:=h;exact s _ _ a3) ?_ ?_⟩
  .rintro i x σ H' p9 F ⟨dL,dp,I,hi,rfl⟩ bF
   rw[List.getElem?_map]at F
   have l:i<g.length+1:=by
    rcases Nat.lt_or_ge i (g.length+1) with h | h
    .exact h
    .rw[List.getElem?_eq_none (by rw[cg];exact h)]at F;cases F
   rw[om l]at F;cases F;have cb:=Tb.cnt_bd g i 1000;refine⟨p9,_,rfl,SqT.of ad,rfl,_,_,rfl,_,_,rfl,rfl,?_⟩;refine⟨cmB (show Bt 20 ((i:Nat):Int) by unfold Bt;lia) (show Bt 20 (cnt g 1000 i) by unfold Bt;lia),?_⟩;exact⟨some (.int (i:Nat)),some (.int (cnt g 1000 i)),I.trans (Same.new bF),l,by rw[Tu.sm_succ];rfl⟩
  rintro σ Hg ⟨dL,dp,sg,_,rfl⟩;rw[length_map,cg,vd f2];have c':=(d'.same sf).same sg;refine .inl ⟨⟨_,SqL.of c'.h⟩,λDh fn=>?_⟩
  let Pw6:PvL:=λi zs H'=>i<=g.length/\Same Hg H'/\H' Dh=some (.lst zs)/\zs=((g.take i).map (·.2)).map V.int
  refine aJ (K:=K) (a:=lt) (xs:=xs) Pw6 ⟨Nat.zero_le _,Same.new fn,ad,rfl⟩ (λi ys H' h=>SqL.of (h.2.1 _ _ c'.h)) (λi ys H' h=>h.2.2.1) ?_ ?_
  .rintro i x zs H' P' F ⟨hi,I,ab,rfl⟩ J
   obtain⟨⟨ge,px,rfl,dx,dr⟩,l⟩:=c'.all.get F;have d0:g[i]? = some (tk g i):=by unfold tk;rw[List.getD,List.getElem?_eq_getElem l];rfl
   refine⟨trivial,px,_,dx,_,_,rfl,I _ _ dr,T.cl_g,T.na_Turn_many,rfl,ab,by rw[length_map,length_map,length_take];lia,J _ _ ⟨l,I.put fn,ad,?_⟩⟩;rw[take_add_one,d0];simp
  rintro zs Hi ⟨_,si,gl,rfl⟩;rw[<- tl,take_length]at gl;refine⟨Dh,_,rfl,SqL.of gl,?_⟩;dsimp only[xQ];rw[if_neg (by decide),decide_eq_true rfl];exact q _
end
end My
namespace My
open PySem L2
theorem us0{a:Type}:∀{us:List a},us.length=0->us=[]
 | [],_=>rfl
theorem us1{a:Type}{us:List a}(h:us.length=1):∃ a0,us=[a0]:=by
 cases us with
 | nil=>cases h
 | cons a0 t=>obtain rfl:=us0 (Nat.succ.inj h);exact⟨a0,rfl⟩
theorem us2{a:Type}{us:List a}(h:us.length=2):∃ a0 a1,us=[a0,a1]:=by
 cases us with
 | nil=>cases h
 | cons a0 t=>obtain⟨a1,rfl⟩:=us1 (Nat.succ.inj h);exact⟨a0,a1,rfl⟩
theorem us3{a:Type}{us:List a}(h:us.length=3):∃ a0 a1 a2,us=[a0,a1,a2]:=by
 cases us with
 | nil=>cases h
 | cons a0 t=>obtain⟨a1,a2,rfl⟩:=us2 (Nat.succ.inj h);exact⟨a0,a1,a2,rfl⟩
theorem us4{a:Type}{us:List a}(h:us.length=4):∃ a0 a1 a2 a3,us=[a0,a1,a2,a3]:=by
 cases us with
 | nil=>cases h
 | cons a0 t=>obtain⟨a1,a2,a3,rfl⟩:=us3 (Nat.succ.inj h);exact⟨a0,a1,a2,a3,rfl⟩
theorem txt_mk{K:Frag}{h:Heap}{mg:Str->Option Value}{f0 f1 f2 f3 f4 f5 f6 f7 f8 f9 f10 f11 f12 f13 f14 f15 f16 f17 f18 f19 f20 f21 f22 f23 f24 f25 f26 f27 f28 f29 f30 f31 f32 f33 f34 f35 c_N c_a i_a c_C c_ad c_Z c_d i_d c_h i_h c_g i_g x_k x_o x_n x_p x_s x_w x_x x_E x_q x_z x_F x_K lc_i lp_i lc_e lp_e lc_t lp_t lc_H lp_H lc_m lp_m lc_O lp_O:Addr}{od0 an0 od1 an1 od2 an2 od3 an3 od4 an4 od5 an5 od6 an6 od7 an7 od8 an8 od9 an9 od10 an10 od11 an11 od12 an12 od13 an13 od14 an14 od15 an15 od16 an16 od17 an17 od18 an18 od19 an19 od20 an20 od21 an21 od22 an22 od23 an23 od24 an24 od25 an25 od26 an26 od27 an27 od28 an28 od29 an29 od30 an30 od31 an31 od32 an32 od33 an33 od34 an34 od35 an35 od_7 an_7 od_8 an_8 od_0 an_0 od_d an_d od_9 an_9 od_3 an_3 od_a an_a od_4 an_4 od_c an_c od_6 an_6 od_b an_b od_5 an_5 od_1 an_1 od_2 an_2 od_f an_f od_e an_e lod_15 lod_12 lod_13 lod_11 lod_10 lod_14:Option Addr}{sl0 sl1 sl2 sl3 sl4 sl5 sl6 sl7 sl8 sl9 sl10 sl11 sl12 sl13 sl14 sl15 sl16 sl17 sl18 sl19 sl20 sl21 sl22 sl23 sl24 sl25 sl26 sl27 sl28 sl29 sl30 sl31 sl32 sl33 sl34 sl35 sl_7 sl_8 sl_0 sl_d sl_9 sl_3 sl_a sl_4 sl_c sl_6 sl_b sl_5 sl_1 sl_2 sl_f sl_e lsl_15 lsl_12 lsl_13 lsl_11 lsl_10 lsl_14:Array (Option Value)}{oc0 kV0 dc0 pm0 cd0 ct0 oc1 kV1 dc1 pm1 cd1 ct1 oc2 kV2 dc2 pm2 cd2 ct2 oc3 kV3 dc3 pm3 cd3 ct3 oc4 kV4 dc4 pm4 cd4 ct4 oc5 kV5 dc5 pm5 cd5 ct5 oc6 kV6 dc6 pm6 cd6 ct6 oc7 kV7 dc7 pm7 cd7 ct7 oc8 kV8 dc8 pm8 cd8 ct8 oc9 kV9 dc9 pm9 cd9 ct9 oc10 kV10 dc10 pm10 cd10 ct10 oc11 kV11 dc11 pm11 cd11 ct11 oc12 kV12 dc12 pm12 cd12 ct12 oc13 kV13 dc13 pm13 cd13 ct13 oc14 kV14 dc14 pm14 cd14 ct14 oc15 kV15 dc15 pm15 cd15 ct15 oc16 kV16 dc16 pm16 cd16 ct16 oc17 kV17 dc17 pm17 cd17 ct17 oc18 kV18 dc18 pm18 cd18 ct18 oc19 kV19 dc19 pm19 cd19 ct19 oc20 kV20 dc20 pm20 cd20 ct20 oc21 kV21 dc21 pm21 cd21 ct21 oc22 kV22 dc22 pm22 cd22 ct22 oc23 kV23 dc23 pm23 cd23 ct23 oc24 kV24 dc24 pm24 cd24 ct24 oc25 kV25 dc25 pm25 cd25 ct25 oc26 kV26 dc26 pm26 cd26 ct26 oc27 kV27 dc27 pm27 cd27 ct27 oc28 kV28 dc28 pm28 cd28 ct28 oc29 kV29 dc29 pm29 cd29 ct29 oc30 kV30 dc30 pm30 cd30 ct30 oc31 kV31 dc31 pm31 cd31 ct31 oc32 kV32 dc32 pm32 cd32 ct32 oc33 kV33 dc33 pm33 cd33 ct33 oc34 kV34 dc34 pm34 cd34 ct34 oc35 kV35 dc35 pm35 cd35 ct35 u0 u1 u2 oc_7 kV_7 dc_7 pm_7 cd_7 ct_7 oc_8 kV_8 dc_8 pm_8 cd_8 ct_8 oc_0 kV_0 dc_0 pm_0 cd_0 ct_0 oc_d kV_d dc_d pm_d cd_d ct_d oc_9 kV_9 dc_9 pm_9 cd_9 ct_9 oc_3 kV_3 dc_3 pm_3 cd_3 ct_3 oc_a kV_a dc_a pm_a cd_a ct_a oc_4 kV_4 dc_4 pm_4 cd_4 ct_4 oc_c kV_c dc_c pm_c cd_c ct_c oc_6 kV_6 dc_6 pm_6 cd_6 ct_6 oc_b kV_b dc_b pm_b cd_b ct_b oc_5 kV_5 dc_5 pm_5 cd_5 ct_5 oc_1 kV_1 dc_1 pm_1 cd_1 ct_1 oc_2 kV_2 dc_2 pm_2 cd_2 ct_2 oc_f kV_f dc_f pm_f cd_f ct_f oc_e kV_e dc_e pm_e cd_e ct_e lo_15 lo_12 lo_13 lo_11 lo_10 lo_14:Value}{lvs_15 lvs_12 lvs_13 lvs_11 lvs_10 lvs_14:Array Value}(X:K.In h) (G:h.Ns mainGlobals mg)
  (a0:nsIn K mainGlobals "greatest_divisor" = some (some (.ref f0))) (l0:K.lookup f0=some ⟨oc0,od0,.func (fnOf "greatest_divisor" "greatest_divisor" (ag aA) (af aA) (ac aA) .none kV0 dc0 pm0 an0 cd0 ct0),sl0⟩) (c0:codeIn K cd0 "greatest_divisor" = true) (k0:keepIn K (.ref f0)=true)
  (a1:nsIn K mainGlobals "least_multiple" = some (some (.ref f1))) (l1:K.lookup f1=some ⟨oc1,od1,.func (fnOf "least_multiple" "least_multiple" (ag aF) (af aF) (ac aF) .none kV1 dc1 pm1 an1 cd1 ct1),sl1⟩) (c1:codeIn K cd1 "least_multiple" = true) (k1:keepIn K (.ref f1)=true)
  (a2:nsIn K mainGlobals "share" = some (some (.ref f2))) (l2:K.lookup f2=some ⟨oc2,od2,.func (fnOf "share" "share" (ag da) (af da) (ac da) .none kV2 dc2 pm2 an2 cd2 ct2),sl2⟩) (c2:codeIn K cd2 "share" = true) (k2:keepIn K (.ref f2)=true)
  (a3:nsIn K mainGlobals "total" = some (some (.ref f3))) (l3:K.lookup f3=some ⟨oc3,od3,.func (fnOf "total" "total" (ag dc) (af dc) (ac dc) .none kV3 dc3 pm3 an3 cd3 ct3),sl3⟩) (c3:codeIn K cd3 "total" = true) (k3:keepIn K (.ref f3)=true)
  (a4:nsIn K mainGlobals "is_whole" = some (some (.ref f4))) (l4:K.lookup f4=some ⟨oc4,od4,.func (fnOf "is_whole" "is_whole" (ag bN) (af bN) (ac bN) .none kV4 dc4 pm4 an4 cd4 ct4),sl4⟩) (c4:codeIn K cd4 "is_whole" = true) (k4:keepIn K (.ref f4)=true)
  (a5:nsIn K mainGlobals "carried_make" = some (some (.ref f5))) (l5:K.lookup f5=some ⟨oc5,od5,.func (fnOf "carried_make" "carried_make" (ag aM) (af aM) (ac aM) .none kV5 dc5 pm5 an5 cd5 ct5),sl5⟩) (c5:codeIn K cd5 "carried_make" = true) (k5:keepIn K (.ref f5)=true)
  (a6:nsIn K mainGlobals "can_be_thrown" = some (some (.ref f6))) (l6:K.lookup f6=some ⟨oc6,od6,.func (fnOf "can_be_thrown" "can_be_thrown" (ag aP) (af aP) (ac aP) .none kV6 dc6 pm6 an6 cd6 ct6),sl6⟩) (c6:codeIn K cd6 "can_be_thrown" = true) (k6:keepIn K (.ref f6)=true)
  (a7:nsIn K mainGlobals "drawn" = some (some (.ref f7))) (l7:K.lookup f7=some ⟨oc7,od7,.func (fnOf "drawn" "drawn" (ag dl) (af dl) (ac dl) .none kV7 dc7 pm7 an7 cd7 ct7),sl7⟩) (c7:codeIn K cd7 "drawn" = true) (k7:keepIn K (.ref f7)=true)
  (a8:nsIn K mainGlobals "behind" = some (some (.ref f8))) (l8:K.lookup f8=some ⟨oc8,od8,.func (fnOf "behind" "behind" (ag ck) (af ck) (ac ck) .none kV8 dc8 pm8 an8 cd8 ct8),sl8⟩) (c8:codeIn K cd8 "behind" = true) (k8:keepIn K (.ref f8)=true)
  (a9:nsIn K mainGlobals "both" = some (some (.ref f9))) (l9:K.lookup f9=some ⟨oc9,od9,.func (fnOf "both" "both" (ag dW) (af dW) (ac dW) .none kV9 dc9 pm9 an9 cd9 ct9),sl9⟩) (c9:codeIn K cd9 "both" = true) (k9:keepIn K (.ref f9)=true)
  (a10:nsIn K mainGlobals "joined" = some (some (.ref f10))) (l10:K.lookup f10=some ⟨oc10,od10,.func (fnOf "joined" "joined" (ag cf) (af cf) (ac cf) .none kV10 dc10 pm10 an10 cd10 ct10),sl10⟩) (c10:codeIn K cd10 "joined" = true) (k10:keepIn K (.ref f10)=true)
  (a11:nsIn K mainGlobals "ways_of" = some (some (.ref f11))) (l11:K.lookup f11=some ⟨oc11,od11,.func (fnOf "ways_of" "ways_of" (ag b7) (af b7) (ac b7) .none kV11 dc11 pm11 an11 cd11 ct11),sl11⟩) (c11:codeIn K cd11 "ways_of" = true) (k11:keepIn K (.ref f11)=true)
  (a12:nsIn K mainGlobals "table" = some (some (.ref f12))) (l12:K.lookup f12=some ⟨oc12,od12,.func (fnOf "table" "table" (ag dh) (af dh) (ac dh) .none kV12 dc12 pm12 an12 cd12 ct12),sl12⟩) (c12:codeIn K cd12 "table" = true) (k12:keepIn K (.ref f12)=true)
  (a13:nsIn K mainGlobals "matrix_of" = some (some (.ref f13))) (l13:K.lookup f13=some ⟨oc13,od13,.func (fnOf "matrix_of" "matrix_of" (ag bz) (af bz) (ac bz) .none kV13 dc13 pm13 an13 cd13 ct13),sl13⟩) (c13:codeIn K cd13 "matrix_of" = true) (k13:keepIn K (.ref f13)=true)
  (a14:nsIn K mainGlobals "matrix_row" = some (some (.ref f14))) (l14:K.lookup f14=some ⟨oc14,od14,.func (fnOf "matrix_row" "matrix_row" (ag bf) (af bf) (ac bf) .none kV14 dc14 pm14 an14 cd14 ct14),sl14⟩) (c14:codeIn K cd14 "matrix_row" = true) (k14:keepIn K (.ref f14)=true)
  (a15:nsIn K mainGlobals "is_number" = some (some (.ref f15))) (l15:K.lookup f15=some ⟨oc15,od15,.func (fnOf "is_number" "is_number" (ag bA) (af bA) (ac bA) .none kV15 dc15 pm15 an15 cd15 ct15),sl15⟩) (c15:codeIn K cd15 "is_number" = true) (k15:keepIn K (.ref f15)=true)
  (a16:nsIn K mainGlobals "is_many" = some (some (.ref f16))) (l16:K.lookup f16=some ⟨oc16,od16,.func (fnOf "is_many" "is_many" (ag bY) (af bY) (ac bY) .none kV16 dc16 pm16 an16 cd16 ct16),sl16⟩) (c16:codeIn K cd16 "is_many" = true) (k16:keepIn K (.ref f16)=true)
  (a17:nsIn K mainGlobals "need" = some (some (.ref f17))) (l17:K.lookup f17=some ⟨oc17,od17,.func (fnOf "need" "need" (ag eA) (af eA) (ac eA) .none kV17 dc17 pm17 an17 cd17 ct17),sl17⟩) (c17:codeIn K cd17 "need" = true) (k17:keepIn K (.ref f17)=true)
  (a18:nsIn K mainGlobals "overlap" = some (some (.ref f18))) (l18:K.lookup f18=some ⟨oc18,od18,.func (fnOf "overlap" "overlap" (ag bW) (af bW) (ac bW) .none kV18 dc18 pm18 an18 cd18 ct18),sl18⟩) (c18:codeIn K cd18 "overlap" = true) (k18:keepIn K (.ref f18)=true)
  (a19:nsIn K mainGlobals "panel" = some (some (.ref f19))) (l19:K.lookup f19=some ⟨oc19,od19,.func (fnOf "panel" "panel" (ag dj) (af dj) (ac dj) .none kV19 dc19 pm19 an19 cd19 ct19),sl19⟩) (c19:codeIn K cd19 "panel" = true) (k19:keepIn K (.ref f19)=true)
  (a20:nsIn K mainGlobals "stays" = some (some (.ref f20))) (l20:K.lookup f20=some ⟨oc20,od20,.func (fnOf "stays" "stays" (ag cY) (af cY) (ac cY) .none kV20 dc20 pm20 an20 cd20 ct20),sl20⟩) (c20:codeIn K cd20 "stays" = true) (k20:keepIn K (.ref f20)=true)
  (a21:nsIn K mainGlobals "counts" = some (some (.ref f21))) (l21:K.lookup f21=some ⟨oc21,od21,.func (fnOf "counts" "counts" (ag cJ) (af cJ) (ac cJ) .none kV21 dc21 pm21 an21 cd21 ct21),sl21⟩) (c21:codeIn K cd21 "counts" = true) (k21:keepIn K (.ref f21)=true)
  (a22:nsIn K mainGlobals "spun" = some (some (.ref f22))) (l22:K.lookup f22=some ⟨oc22,od22,.func (fnOf "spun" "spun" (ag er) (af er) (ac er) .none kV22 dc22 pm22 an22 cd22 ct22),sl22⟩) (c22:codeIn K cd22 "spun" = true) (k22:keepIn K (.ref f22)=true)
  (a23:nsIn K mainGlobals "told_make" = some (some (.ref f23))) (l23:K.lookup f23=some ⟨oc23,od23,.func (fnOf "told_make" "told_make" (ag bj) (af bj) (ac bj) .none kV23 dc23 pm23 an23 cd23 ct23),sl23⟩) (c23:codeIn K cd23 "told_make" = true) (k23:keepIn K (.ref f23)=true)
  (a24:nsIn K mainGlobals "stretches" = some (some (.ref f24))) (l24:K.lookup f24=some ⟨oc24,od24,.func (fnOf "stretches" "stretches" (ag bx) (af bx) (ac bx) .none kV24 dc24 pm24 an24 cd24 ct24),sl24⟩) (c24:codeIn K cd24 "stretches" = true) (k24:keepIn K (.ref f24)=true)
  (a25:nsIn K mainGlobals "_law_cell_at" = some (some (.ref f25))) (l25:K.lookup f25=some ⟨oc25,od25,.func (fnOf "_law_cell_at" "_law_cell_at" (ag bC) (af bC) (ac bC) .none kV25 dc25 pm25 an25 cd25 ct25),sl25⟩) (c25:codeIn K cd25 "_law_cell_at" = true) (k25:keepIn K (.ref f25)=true)
  (a26:nsIn K mainGlobals "_law_mix" = some (some (.ref f26))) (l26:K.lookup f26=some ⟨oc26,od26,.func (fnOf "_law_mix" "_law_mix" (ag di) (af di) (ac di) .none kV26 dc26 pm26 an26 cd26 ct26),sl26⟩) (c26:codeIn K cd26 "_law_mix" = true) (k26:keepIn K (.ref f26)=true)
  (a27:nsIn K mainGlobals "_law_numbers" = some (some (.ref f27))) (l27:K.lookup f27=some ⟨oc27,od27,.func (fnOf "_law_numbers" "_law_numbers" (ag bD) (af bD) (ac bD) .none kV27 dc27 pm27 an27 cd27 ct27),sl27⟩) (c27:codeIn K cd27 "_law_numbers" = true) (k27:keepIn K (.ref f27)=true)
  (a28:nsIn K mainGlobals "_law_marks" = some (some (.ref f28))) (l28:K.lookup f28=some ⟨oc28,od28,.func (fnOf "_law_marks" "_law_marks" (ag bV) (af bV) (ac bV) .none kV28 dc28 pm28 an28 cd28 ct28),sl28⟩) (c28:codeIn K cd28 "_law_marks" = true) (k28:keepIn K (.ref f28)=true)
  (a29:nsIn K mainGlobals "_law_turn" = some (some (.ref f29))) (l29:K.lookup f29=some ⟨oc29,od29,.func (fnOf "_law_turn" "_law_turn" (ag cG) (af cG) (ac cG) .none kV29 dc29 pm29 an29 cd29 ct29),sl29⟩) (c29:codeIn K cd29 "_law_turn" = true) (k29:keepIn K (.ref f29)=true)
  (a30:nsIn K mainGlobals "_law_kept" = some (some (.ref f30))) (l30:K.lookup f30=some ⟨oc30,od30,.func (fnOf "_law_kept" "_law_kept" (ag cI) (af cI) (ac cI) .none kV30 dc30 pm30 an30 cd30 ct30),sl30⟩) (c30:codeIn K cd30 "_law_kept" = true) (k30:keepIn K (.ref f30)=true)
  (a31:nsIn K mainGlobals "_law_parts" = some (some (.ref f31))) (l31:K.lookup f31=some ⟨oc31,od31,.func (fnOf "_law_parts" "_law_parts" (ag b9) (af b9) (ac b9) .none kV31 dc31 pm31 an31 cd31 ct31),sl31⟩) (c31:codeIn K cd31 "_law_parts" = true) (k31:keepIn K (.ref f31)=true)
  (a32:nsIn K mainGlobals "_law_table" = some (some (.ref f32))) (l32:K.lookup f32=some ⟨oc32,od32,.func (fnOf "_law_table" "_law_table" (ag b8) (af b8) (ac b8) .none kV32 dc32 pm32 an32 cd32 ct32),sl32⟩) (c32:codeIn K cd32 "_law_table" = true) (k32:keepIn K (.ref f32)=true)
  (a33:nsIn K mainGlobals "_law_matrix" = some (some (.ref f33))) (l33:K.lookup f33=some ⟨oc33,od33,.func (fnOf "_law_matrix" "_law_matrix" (ag bM) (af bM) (ac bM) .none kV33 dc33 pm33 an33 cd33 ct33),sl33⟩) (c33:codeIn K cd33 "_law_matrix" = true) (k33:keepIn K (.ref f33)=true)
  (a34:nsIn K mainGlobals "_law_turns" = some (some (.ref f34))) (l34:K.lookup f34=some ⟨oc34,od34,.func (fnOf "_law_turns" "_law_turns" (ag bZ) (af bZ) (ac bZ) .none kV34 dc34 pm34 an34 cd34 ct34),sl34⟩) (c34:codeIn K cd34 "_law_turns" = true) (k34:keepIn K (.ref f34)=true)
  (a35:nsIn K mainGlobals "law" = some (some (.ref f35))) (l35:K.lookup f35=some ⟨oc35,od35,.func (fnOf "law" "law" (ag gq) (af gq) (ac gq) .none kV35 dc35 pm35 an35 cd35 ct35),sl35⟩) (c35:codeIn K cd35 "law" = true) (k35:keepIn K (.ref f35)=true)
  (b0:nsIn K mainGlobals "MOST_WAYS" = some (some u0))
  (b1:nsIn K mainGlobals "CIRCLE" = some (some u1))
  (b2:nsIn K mainGlobals "MOST_LISTED" = some (some u2))
  (ca_N:nsIn K mainGlobals "SpeakError" = some (some (.ref c_N))) (cb_N:keepIn K (.ref c_N)=true) (cc_N:m7 K c_N=true)
  (cx_N:xIn K c_N none=true)
  (ca_a:nsIn K mainGlobals "NoThrow" = some (some (.ref c_a))) (cb_a:keepIn K (.ref c_a)=true) (cc_a:m7 K c_a=true)
  (cf_a:findIn K (.ref c_a) "__init__" = some (some (.ref i_a))) (cx_a:xIn K c_a (some (.ref i_a))=true) (cg_a:isFn K (.ref i_a)=true)
  (cl_a:K.lookup i_a=some ⟨oc_7,od_7,.func (fnOf "__init__" "NoThrow.__init__" (ag az) (af az) (ac az) .none kV_7 dc_7 pm_7 an_7 cd_7 ct_7),sl_7⟩) (co_a:codeIn K cd_7 "NoThrow.__init__" = true) (ck_a:keepIn K (.ref i_a)=true)
  (cs_NoThrow_place:zP K c_a "place" = true)
  (ca_C:nsIn K mainGlobals "TooMany" = some (some (.ref c_C))) (cb_C:keepIn K (.ref c_C)=true) (cc_C:m7 K c_C=true)
  (cx_C:xIn K c_C none=true)
  (ca_ad:nsIn K mainGlobals "NoTurn" = some (some (.ref c_ad))) (cb_ad:keepIn K (.ref c_ad)=true) (cc_ad:m7 K c_ad=true)
  (cx_ad:xIn K c_ad none=true)
  (ca_Z:nsIn K mainGlobals "Node" = some (some (.ref c_Z))) (pa_Z:plainGet K c_Z Str.empty=true) (pb_Z:hasDictIn K c_Z=true) (pc_Z:plainOver K c_Z=true)
  (pd_Z:findIn K (.ref c_Z) "__setattr__" = some (some (.builtin "object.__setattr__"))) (pe_Z:findIn K (.ref c_Z) "__class__" = some (some (.builtin "object.__class__"))) (pf_Z:specialIn K (.builtin "object.__class__") "__get__" = some (some (.builtin "getset_descriptor.__get__"))) (pg_Z:takesIn K (.builtin "object.__class__")=some true) (ph_Z:mroIn K c_Z (.type "object")=some true)
  (ca_d:nsIn K mainGlobals "Told" = some (some (.ref c_d))) (pa_d:plainGet K c_d Str.empty=true) (pb_d:hasDictIn K c_d=true) (pc_d:plainOver K c_d=true)
  (pd_d:findIn K (.ref c_d) "__setattr__" = some (some (.builtin "object.__setattr__"))) (pe_d:findIn K (.ref c_d) "__class__" = some (some (.builtin "object.__class__"))) (pf_d:specialIn K (.builtin "object.__class__") "__get__" = some (some (.builtin "getset_descriptor.__get__"))) (pg_d:takesIn K (.builtin "object.__class__")=some true) (ph_d:mroIn K c_d (.type "object")=some true)
  (qa_d:makesIn K c_d=true) (qb_d:findIn K (.ref c_d) "__init__" = some (some (.ref i_d))) (qc_d:isFn K (.ref i_d)=true) (qd_d:keepIn K (.ref c_d)=true)
  (qn_Told_rising:findIn K (.ref c_d) "rising" = some none)
  (cl_d:K.lookup i_d=some ⟨oc_8,od_8,.func (fnOf "__init__" "Told.__init__" (ag aO) (af aO) (ac aO) .none kV_8 dc_8 pm_8 an_8 cd_8 ct_8),sl_8⟩) (co_d:codeIn K cd_8 "Told.__init__" = true) (ck_d:keepIn K (.ref i_d)=true)
  (ca_h:nsIn K mainGlobals "Die" = some (some (.ref c_h))) (pa_h:plainGet K c_h Str.empty=true) (pb_h:hasDictIn K c_h=true) (pc_h:plainOver K c_h=true)
  (pd_h:findIn K (.ref c_h) "__setattr__" = some (some (.builtin "object.__setattr__"))) (pe_h:findIn K (.ref c_h) "__class__" = some (some (.builtin "object.__class__"))) (pf_h:specialIn K (.builtin "object.__class__") "__get__" = some (some (.builtin "getset_descriptor.__get__"))) (pg_h:takesIn K (.builtin "object.__class__")=some true) (ph_h:mroIn K c_h (.type "object")=some true)
  (qa_h:makesIn K c_h=true) (qb_h:findIn K (.ref c_h) "__init__" = some (some (.ref i_h))) (qc_h:isFn K (.ref i_h)=true) (qd_h:keepIn K (.ref c_h)=true)
  (qn_Die_makes:findIn K (.ref c_h) "makes" = some none)
  (cl_h:K.lookup i_h=some ⟨oc_0,od_0,.func (fnOf "__init__" "Die.__init__" (ag aS) (af aS) (ac aS) .none kV_0 dc_0 pm_0 an_0 cd_0 ct_0),sl_0⟩) (co_h:codeIn K cd_0 "Die.__init__" = true) (ck_h:keepIn K (.ref i_h)=true)
  (ca_g:nsIn K mainGlobals "Turn" = some (some (.ref c_g))) (pa_g:plainGet K c_g Str.empty=true) (pb_g:hasDictIn K c_g=true) (pc_g:plainOver K c_g=true)
  (pd_g:findIn K (.ref c_g) "__setattr__" = some (some (.builtin "object.__setattr__"))) (pe_g:findIn K (.ref c_g) "__class__" = some (some (.builtin "object.__class__"))) (pf_g:specialIn K (.builtin "object.__class__") "__get__" = some (some (.builtin "getset_descriptor.__get__"))) (pg_g:takesIn K (.builtin "object.__class__")=some true) (ph_g:mroIn K c_g (.type "object")=some true)
  (qa_g:makesIn K c_g=true) (qb_g:findIn K (.ref c_g) "__init__" = some (some (.ref i_g))) (qc_g:isFn K (.ref i_g)=true) (qd_g:keepIn K (.ref c_g)=true)
  (qn_Turn_start:findIn K (.ref c_g) "start" = some none)
  (qn_Turn_many:findIn K (.ref c_g) "many" = some none)
  (cl_g:K.lookup i_g=some ⟨oc_d,od_d,.func (fnOf "__init__" "Turn.__init__" (ag aN) (af aN) (ac aN) .none kV_d dc_d pm_d an_d cd_d ct_d),sl_d⟩) (co_g:codeIn K cd_d "Turn.__init__" = true) (ck_g:keepIn K (.ref i_g)=true)
  (mf_9:findIn K (.ref c_d) "is_told" = some (some (.ref x_k)))
  (ml_9:K.lookup x_k=some ⟨oc_9,od_9,.func (fnOf "is_told" "Told.is_told" (ag aR) (af aR) (ac aR) .none kV_9 dc_9 pm_9 an_9 cd_9 ct_9),sl_9⟩) (mo_9:codeIn K cd_9 "Told.is_told" = true) (mk_9:keepIn K (.ref x_k)=true) (mi_9:isFn K (.ref x_k)=true)
  (mf_3:findIn K (.ref c_h) "is_told" = some (some (.ref x_o)))
  (ml_3:K.lookup x_o=some ⟨oc_3,od_3,.func (fnOf "is_told" "Die.is_told" (ag aX) (af aX) (ac aX) .none kV_3 dc_3 pm_3 an_3 cd_3 ct_3),sl_3⟩) (mo_3:codeIn K cd_3 "Die.is_told" = true) (mk_3:keepIn K (.ref x_o)=true) (mi_3:isFn K (.ref x_o)=true)
  (mf_a:findIn K (.ref c_d) "kept" = some (some (.ref x_n)))
  (ml_a:K.lookup x_n=some ⟨oc_a,od_a,.func (fnOf "kept" "Told.kept" (ag bE) (af bE) (ac bE) .none kV_a dc_a pm_a an_a cd_a ct_a),sl_a⟩) (mo_a:codeIn K cd_a "Told.kept" = true) (mk_a:keepIn K (.ref x_n)=true) (mi_a:isFn K (.ref x_n)=true)
  (mf_4:findIn K (.ref c_h) "kept" = some (some (.ref x_p)))
  (ml_4:K.lookup x_p=some ⟨oc_4,od_4,.func (fnOf "kept" "Die.kept" (ag bP) (af bP) (ac bP) .none kV_4 dc_4 pm_4 an_4 cd_4 ct_4),sl_4⟩) (mo_4:codeIn K cd_4 "Die.kept" = true) (mk_4:keepIn K (.ref x_p)=true) (mi_4:isFn K (.ref x_p)=true)
  (mf_c:findIn K (.ref c_d) "sides" = some (some (.ref x_s)))
  (ml_c:K.lookup x_s=some ⟨oc_c,od_c,.func (fnOf "sides" "Told.sides" (ag be) (af be) (ac be) .none kV_c dc_c pm_c an_c cd_c ct_c),sl_c⟩) (mo_c:codeIn K cd_c "Told.sides" = true) (mk_c:keepIn K (.ref x_s)=true) (mi_c:isFn K (.ref x_s)=true)
  (mf_6:findIn K (.ref c_h) "sides" = some (some (.ref x_w)))
  (ml_6:K.lookup x_w=some ⟨oc_6,od_6,.func (fnOf "sides" "Die.sides" (ag bG) (af bG) (ac bG) .none kV_6 dc_6 pm_6 an_6 cd_6 ct_6),sl_6⟩) (mo_6:codeIn K cd_6 "Die.sides" = true) (mk_6:keepIn K (.ref x_w)=true) (mi_6:isFn K (.ref x_w)=true)
  (mf_b:findIn K (.ref c_d) "parts" = some (some (.ref x_x)))
  (ml_b:K.lookup x_x=some ⟨oc_b,od_b,.func (fnOf "parts" "Told.parts" (ag bi) (af bi) (ac bi) .none kV_b dc_b pm_b an_b cd_b ct_b),sl_b⟩) (mo_b:codeIn K cd_b "Told.parts" = true) (mk_b:keepIn K (.ref x_x)=true) (mi_b:isFn K (.ref x_x)=true)
  (mf_5:findIn K (.ref c_h) "parts" = some (some (.ref x_E)))
  (ml_5:K.lookup x_E=some ⟨oc_5,od_5,.func (fnOf "parts" "Die.parts" (ag bH) (af bH) (ac bH) .none kV_5 dc_5 pm_5 an_5 cd_5 ct_5),sl_5⟩) (mo_5:codeIn K cd_5 "Die.parts" = true) (mk_5:keepIn K (.ref x_E)=true) (mi_5:isFn K (.ref x_E)=true)
  (mf_1:findIn K (.ref c_h) "after" = some (some (.ref x_q)))
  (ml_1:K.lookup x_q=some ⟨oc_1,od_1,.func (fnOf "after" "Die.after" (ag bB) (af bB) (ac bB) .none kV_1 dc_1 pm_1 an_1 cd_1 ct_1),sl_1⟩) (mo_1:codeIn K cd_1 "Die.after" = true) (mk_1:keepIn K (.ref x_q)=true) (mi_1:isFn K (.ref x_q)=true)
  (mf_2:findIn K (.ref c_h) "carried" = some (some (.ref x_z)))
  (ml_2:K.lookup x_z=some ⟨oc_2,od_2,.func (fnOf "carried" "Die.carried" (ag aW) (af aW) (ac aW) .none kV_2 dc_2 pm_2 an_2 cd_2 ct_2),sl_2⟩) (mo_2:codeIn K cd_2 "Die.carried" = true) (mk_2:keepIn K (.ref x_z)=true) (mi_2:isFn K (.ref x_z)=true)
  (mf_f:findIn K (.ref c_g) "moved" = some (some (.ref x_F)))
  (ml_f:K.lookup x_F=some ⟨oc_f,od_f,.func (fnOf "moved" "Turn.moved" (ag bh) (af bh) (ac bh) .none kV_f dc_f pm_f an_f cd_f ct_f),sl_f⟩) (mo_f:codeIn K cd_f "Turn.moved" = true) (mk_f:keepIn K (.ref x_F)=true) (mi_f:isFn K (.ref x_F)=true)
  (mf_e:findIn K (.ref c_g) "has" = some (some (.ref x_K)))
  (ml_e:K.lookup x_K=some ⟨oc_e,od_e,.func (fnOf "has" "Turn.has" (ag bO) (af bO) (ac bO) .none kV_e dc_e pm_e an_e cd_e ct_e),sl_e⟩) (mo_e:codeIn K cd_e "Turn.has" = true) (mk_e:keepIn K (.ref x_K)=true) (mi_e:isFn K (.ref x_K)=true)
  (lca_15:cd23=.ref lc_i) (lct_15:K.lookup lc_i=some ⟨lo_15,lod_15,.fields lvs_15,lsl_15⟩) (lcq_15:lvs_15[11]? = some (.ref lp_i)) (lch_i:codeHdIn K lc_i lp_i=true)
  (lca_12:cd5=.ref lc_e) (lct_12:K.lookup lc_e=some ⟨lo_12,lod_12,.fields lvs_12,lsl_12⟩) (lcq_12:lvs_12[11]? = some (.ref lp_e)) (lch_e:codeHdIn K lc_e lp_e=true)
  (lca_13:cd10=.ref lc_t) (lct_13:K.lookup lc_t=some ⟨lo_13,lod_13,.fields lvs_13,lsl_13⟩) (lcq_13:lvs_13[11]? = some (.ref lp_t)) (lch_t:codeHdIn K lc_t lp_t=true)
  (lca_11:cd9=.ref lc_H) (lct_11:K.lookup lc_H=some ⟨lo_11,lod_11,.fields lvs_11,lsl_11⟩) (lcq_11:lvs_11[11]? = some (.ref lp_H)) (lch_H:codeHdIn K lc_H lp_H=true)
  (lca_10:cd8=.ref lc_m) (lct_10:K.lookup lc_m=some ⟨lo_10,lod_10,.fields lvs_10,lsl_10⟩) (lcq_10:lvs_10[11]? = some (.ref lp_m)) (lch_m:codeHdIn K lc_m lp_m=true)
  (lca_14:cd35=.ref lc_O) (lct_14:K.lookup lc_O=some ⟨lo_14,lod_14,.fields lvs_14,lsl_14⟩) (lcq_14:lvs_14[11]? = some (.ref lp_O)) (lch_O:codeHdIn K lc_O lp_O=true)
  (ltnd:([lp_i,lp_e,lp_t,lp_H,lp_m,lp_O]:List Addr).Nodup)
  (z0:nsIn K mainGlobals "abs" = some none)
  (z1:nsIn K mainGlobals "bool" = some none)
  (z2:nsIn K mainGlobals "enumerate" = some none)
  (z3:nsIn K mainGlobals "int" = some none)
  (z4:nsIn K mainGlobals "isinstance" = some none)
  (z5:nsIn K mainGlobals "len" = some none)
  (z6:nsIn K mainGlobals "list" = some none)
  (z7:nsIn K mainGlobals "max" = some none)
  (z8:nsIn K mainGlobals "min" = some none)
  (z9:nsIn K mainGlobals "range" = some none)
  (z10:nsIn K mainGlobals "sorted" = some none)
  (z11:nsIn K mainGlobals "sum" = some none)
  (z12:nsIn K mainGlobals "tuple" = some none) (r0:RelV (.int 4096) u0) (r1:RelV (.int 1000) u1) (r2:RelV (.int 24) u2):∃ a:Ad,Txt K mg a/\(tabs a).map (·.1)=[lp_i,lp_e,lp_t,lp_H,lp_m,lp_O]:=by
 refine⟨{ f_j:=f0,d_j:=fnOf "greatest_divisor" "greatest_divisor" (ag aA) (af aA) (ac aA) .none kV0 dc0 pm0 an0 cd0 ct0,f_l:=f1,d_l:=fnOf "least_multiple" "least_multiple" (ag aF) (af aF) (ac aF) .none kV1 dc1 pm1 an1 cd1 ct1,f_G:=f2,d_G:=fnOf "share" "share" (ag da) (af da) (ac da) .none kV2 dc2 pm2 an2 cd2 ct2,f_ac:=f3,d_ac:=fnOf "total" "total" (ag dc) (af dc) (ac dc) .none kV3 dc3 pm3 an3 cd3 ct3,f_A:=f4,d_A:=fnOf "is_whole" "is_whole" (ag bN) (af bN) (ac bN) .none kV4 dc4 pm4 an4 cd4 ct4,f_e:=f5,d_e:=fnOf "carried_make" "carried_make" (ag aM) (af aM) (ac aM) .none kV5 dc5 pm5 an5 cd5 ct5,f_r:=f6,d_r:=fnOf "can_be_thrown" "can_be_thrown" (ag aP) (af aP) (ac aP) .none kV6 dc6 pm6 an6 cd6 ct6,f_ab:=f7,d_ab:=fnOf "drawn" "drawn" (ag dl) (af dl) (ac dl) .none kV7 dc7 pm7 an7 cd7 ct7,f_m:=f8,d_m:=fnOf "behind" "behind" (ag ck) (af ck) (ac ck) .none kV8 dc8 pm8 an8 cd8 ct8,f_H:=f9,d_H:=fnOf "both" "both" (ag dW) (af dW) (ac dW) .none kV9 dc9 pm9 an9 cd9 ct9,f_t:=f10,d_t:=fnOf "joined" "joined" (ag cf) (af cf) (ac cf) .none kV10 dc10 pm10 an10 cd10 ct10,f_L:=f11,d_L:=fnOf "ways_of" "ways_of" (ag b7) (af b7) (ac b7) .none kV11 dc11 pm11 an11 cd11 ct11,f_M:=f12,d_M:=fnOf "table" "table" (ag dh) (af dh) (ac dh) .none kV12 dc12 pm12 an12 cd12 ct12,f_y:=f13,d_y:=fnOf "matrix_of" "matrix_of" (ag bz) (af bz) (ac bz) .none kV13 dc13 pm13 an13 cd13 ct13,f_I:=f14,d_I:=fnOf "matrix_row" "matrix_row" (ag bf) (af bf) (ac bf) .none kV14 dc14 pm14 an14 cd14 ct14,f_v:=f15,d_v:=fnOf "is_number" "is_number" (ag bA) (af bA) (ac bA) .none kV15 dc15 pm15 an15 cd15 ct15,f_R:=f16,d_R:=fnOf "is_many" "is_many" (ag bY) (af bY) (ac bY) .none kV16 dc16 pm16 an16 cd16 ct16,f_aa:=f17,d_aa:=fnOf "need" "need" (ag eA) (af eA) (ac eA) .none kV17 dc17 pm17 an17 cd17 ct17,f_U:=f18,d_U:=fnOf "overlap" "overlap" (ag bW) (af bW) (ac bW) .none kV18 dc18 pm18 an18 cd18 ct18,f_ae:=f19,d_ae:=fnOf "panel" "panel" (ag dj) (af dj) (ac dj) .none kV19 dc19 pm19 an19 cd19 ct19,f_af:=f20,d_af:=fnOf "stays" "stays" (ag cY) (af cY) (ac cY) .none kV20 dc20 pm20 an20 cd20 ct20,f_S:=f21,d_S:=fnOf "counts" "counts" (ag cJ) (af cJ) (ac cJ) .none kV21 dc21 pm21 an21 cd21 ct21,f_ag:=f22,d_ag:=fnOf "spun" "spun" (ag er) (af er) (ac er) .none kV22 dc22 pm22 an22 cd22 ct22,f_i:=f23,d_i:=fnOf "told_make" "told_make" (ag bj) (af bj) (ac bj) .none kV23 dc23 pm23 an23 cd23 ct23,f_B:=f24,d_B:=fnOf "stretches" "stretches" (ag bx) (af bx) (ac bx) .none kV24 dc24 pm24 an24 cd24 ct24,f_D:=f25,d_D:=fnOf "_law_cell_at" "_law_cell_at" (ag bC) (af bC) (ac bC) .none kV25 dc25 pm25 an25 cd25 ct25,f_Y:=f26,d_Y:=fnOf "_law_mix" "_law_mix" (ag di) (af di) (ac di) .none kV26 dc26 pm26 an26 cd26 ct26,f_u:=f27,d_u:=fnOf "_law_numbers" "_law_numbers" (ag bD) (af bD) (ac bD) .none kV27 dc27 pm27 an27 cd27 ct27,f_V:=f28,d_V:=fnOf "_law_marks" "_law_marks" (ag bV) (af bV) (ac bV) .none kV28 dc28 pm28 an28 cd28 ct28,f_X:=f29,d_X:=fnOf "_law_turn" "_law_turn" (ag cG) (af cG) (ac cG) .none kV29 dc29 pm29 an29 cd29 ct29,f_T:=f30,d_T:=fnOf "_law_kept" "_law_kept" (ag cI) (af cI) (ac cI) .none kV30 dc30 pm30 an30 cd30 ct30,f_P:=f31,d_P:=fnOf "_law_parts" "_law_parts" (ag b9) (af b9) (ac b9) .none kV31 dc31 pm31 an31 cd31 ct31,f_J:=f32,d_J:=fnOf "_law_table" "_law_table" (ag b8) (af b8) (ac b8) .none kV32 dc32 pm32 an32 cd32 ct32,f_W:=f33,d_W:=fnOf "_law_matrix" "_law_matrix" (ag bM) (af bM) (ac bM) .none kV33 dc33 pm33 an33 cd33 ct33,f_Q:=f34,d_Q:=fnOf "_law_turns" "_law_turns" (ag bZ) (af bZ) (ac bZ) .none kV34 dc34 pm34 an34 cd34 ct34,f_O:=f35,d_O:=fnOf "law" "law" (ag gq) (af gq) (ac gq) .none kV35 dc35 pm35 an35 cd35 ct35,c_N:=c_N,c_a:=c_a,i_a:=i_a,e_a:=fnOf "__init__" "NoThrow.__init__" (ag az) (af az) (ac az) .none kV_7 dc_7 pm_7 an_7 cd_7 ct_7,c_C:=c_C,c_ad:=c_ad,c_Z:=c_Z,c_d:=c_d,i_d:=i_d,e_d:=fnOf "__init__" "Told.__init__" (ag aO) (af aO) (ac aO) .none kV_8 dc_8 pm_8 an_8 cd_8 ct_8,c_h:=c_h,i_h:=i_h,e_h:=fnOf "__init__" "Die.__init__" (ag aS) (af aS) (ac aS) .none kV_0 dc_0 pm_0 an_0 cd_0 ct_0,c_g:=c_g,i_g:=i_g,e_g:=fnOf "__init__" "Turn.__init__" (ag aN) (af aN) (ac aN) .none kV_d dc_d pm_d an_d cd_d ct_d,x_k:=x_k,y_k:=fnOf "is_told" "Told.is_told" (ag aR) (af aR) (ac aR) .none kV_9 dc_9 pm_9 an_9 cd_9 ct_9,x_o:=x_o,y_o:=fnOf "is_told" "Die.is_told" (ag aX) (af aX) (ac aX) .none kV_3 dc_3 pm_3 an_3 cd_3 ct_3,x_n:=x_n,y_n:=fnOf "kept" "Told.kept" (ag bE) (af bE) (ac bE) .none kV_a dc_a pm_a an_a cd_a ct_a,x_p:=x_p,y_p:=fnOf "kept" "Die.kept" (ag bP) (af bP) (ac bP) .none kV_4 dc_4 pm_4 an_4 cd_4 ct_4,x_s:=x_s,y_s:=fnOf "sides" "Told.sides" (ag be) (af be) (ac be) .none kV_c dc_c pm_c an_c cd_c ct_c,x_w:=x_w,y_w:=fnOf "sides" "Die.sides" (ag bG) (af bG) (ac bG) .none kV_6 dc_6 pm_6 an_6 cd_6 ct_6,x_x:=x_x,y_x:=fnOf "parts" "Told.parts" (ag bi) (af bi) (ac bi) .none kV_b dc_b pm_b an_b cd_b ct_b,x_E:=x_E,y_E:=fnOf "parts" "Die.parts" (ag bH) (af bH) (ac bH) .none kV_5 dc_5 pm_5 an_5 cd_5 ct_5,x_q:=x_q,y_q:=fnOf "after" "Die.after" (ag bB) (af bB) (ac bB) .none kV_1 dc_1 pm_1 an_1 cd_1 ct_1,x_z:=x_z,y_z:=fnOf "carried" "Die.carried" (ag aW) (af aW) (ac aW) .none kV_2 dc_2 pm_2 an_2 cd_2 ct_2,x_F:=x_F,y_F:=fnOf "moved" "Turn.moved" (ag bh) (af bh) (ac bh) .none kV_f dc_f pm_f an_f cd_f ct_f,x_K:=x_K,y_K:=fnOf "has" "Turn.has" (ag bO) (af bO) (ac bO) .none kV_e dc_e pm_e an_e cd_e ct_e,lc_i:=lc_i,lp_i:=lp_i,lc_e:=lc_e,lp_e:=lp_e,lc_t:=lc_t,lp_t:=lp_t,lc_H:=lc_H,lp_H:=lp_H,lc_m:=lc_m,lp_m:=lp_m,lc_O:=lc_O,lp_O:=lp_O },?_,rfl⟩
 exact {
  lcd_i:=lca_15
  lch_i:=lch_i
  lcd_e:=lca_12
  lch_e:=lch_e
  lcd_t:=lca_13
  lch_t:=lch_t
  lcd_H:=lca_11
  lch_H:=lch_H
  lcd_m:=lca_10
  lch_m:=lch_m
  lcd_O:=lca_14
  lch_O:=lch_O
  tnd:=ltnd
  F_j:=ao l0 c0 k0
  B_j:=(ao l0 c0 k0).binds (ps:=["one","other"]) λ_ _ _ _ _ _ us hl=>(by obtain⟨_,_,rfl⟩:=us2 hl;rfl)
  m_j:=mg_of X G a0
  F_l:=ao l1 c1 k1
  B_l:=(ao l1 c1 k1).binds (ps:=["numbers"]) λ_ _ _ _ _ _ us hl=>(by obtain⟨_,rfl⟩:=us1 hl;rfl)
  m_l:=mg_of X G a1
  F_G:=ao l2 c2 k2
  B_G:=(ao l2 c2 k2).binds (ps:=["top","bottom"]) λ_ _ _ _ _ _ us hl=>(by obtain⟨_,_,rfl⟩:=us2 hl;rfl)
  m_G:=mg_of X G a2
  F_ac:=ao l3 c3 k3
  B_ac:=(ao l3 c3 k3).binds (ps:=["fractions"]) λ_ _ _ _ _ _ us hl=>(by obtain⟨_,rfl⟩:=us1 hl;rfl)
  m_ac:=mg_of X G a3
  F_A:=ao l4 c4 k4
  B_A:=(ao l4 c4 k4).binds (ps:=["thing","low","high"]) λ_ _ _ _ _ _ us hl=>(by obtain⟨_,_,_,rfl⟩:=us3 hl;rfl)
  m_A:=mg_of X G a4
  F_e:=ao l5 c5 k5
  B_e:=(ao l5 c5 k5).binds (ps:=["make","carry"]) λ_ _ _ _ _ _ us hl=>(by obtain⟨_,_,rfl⟩:=us2 hl;rfl)
  m_e:=mg_of X G a5
  F_r:=ao l6 c6 k6
  B_r:=(ao l6 c6 k6).binds (ps:=["node","throw"]) λ_ _ _ _ _ _ us hl=>(by obtain⟨_,_,rfl⟩:=us2 hl;rfl)
  m_r:=mg_of X G a6
  F_ab:=ao l7 c7 k7
  B_ab:=(ao l7 c7 k7).binds (ps:=["node","throws"]) λ_ _ _ _ _ _ us hl=>(by obtain⟨_,_,rfl⟩:=us2 hl;rfl)
  m_ab:=mg_of X G a7
  F_m:=ao l8 c8 k8
  B_m:=(ao l8 c8 k8).binds (ps:=["node","go"]) λ_ _ _ _ _ _ us hl=>(by obtain⟨_,_,rfl⟩:=us2 hl;rfl)
  m_m:=mg_of X G a8
  F_H:=ao l9 c9 k9
  B_H:=(ao l9 c9 k9).binds (ps:=["one","other"]) λ_ _ _ _ _ _ us hl=>(by obtain⟨_,_,rfl⟩:=us2 hl;rfl)
  m_H:=mg_of X G a9
  F_t:=ao l10 c10 k10
  B_t:=(ao l10 c10 k10).binds (ps:=["kept","node"]) λ_ _ _ _ _ _ us hl=>(by obtain⟨_,_,rfl⟩:=us2 hl;rfl)
  m_t:=mg_of X G a10
  F_L:=ao l11 c11 k11
  B_L:=(ao l11 c11 k11).binds (ps:=["node"]) λ_ _ _ _ _ _ us hl=>(by obtain⟨_,rfl⟩:=us1 hl;rfl)
  m_L:=mg_of X G a11
  F_M:=ao l12 c12 k12
  B_M:=(ao l12 c12 k12).binds (ps:=["node"]) λ_ _ _ _ _ _ us hl=>(by obtain⟨_,rfl⟩:=us1 hl;rfl)
  m_M:=mg_of X G a12
  F_y:=ao l13 c13 k13
  B_y:=(ao l13 c13 k13).binds (ps:=["node","places"]) λ_ _ _ _ _ _ us hl=>(by obtain⟨_,_,rfl⟩:=us2 hl;rfl)
  m_y:=mg_of X G a13
  F_I:=ao l14 c14 k14
  B_I:=(ao l14 c14 k14).binds (ps:=["one","places","tops","bottom"]) λ_ _ _ _ _ _ us hl=>(by obtain⟨_,_,_,_,rfl⟩:=us4 hl;rfl)
  m_I:=mg_of X G a14
  F_v:=ao l15 c15 k15
  B_v:=(ao l15 c15 k15).binds (ps:=["thing"]) λ_ _ _ _ _ _ us hl=>(by obtain⟨_,rfl⟩:=us1 hl;rfl)
  m_v:=mg_of X G a15
  F_R:=ao l16 c16 k16
  B_R:=(ao l16 c16 k16).binds (ps:=["thing"]) λ_ _ _ _ _ _ us hl=>(by obtain⟨_,rfl⟩:=us1 hl;rfl)
  m_R:=mg_of X G a16
  F_aa:=ao l17 c17 k17
  B_aa:=(ao l17 c17 k17).binds (ps:=["holds"]) λ_ _ _ _ _ _ us hl=>(by obtain⟨_,rfl⟩:=us1 hl;rfl)
  m_aa:=mg_of X G a17
  F_U:=ao l18 c18 k18
  B_U:=(ao l18 c18 k18).binds (ps:=["one","other"]) λ_ _ _ _ _ _ us hl=>(by obtain⟨_,_,rfl⟩:=us2 hl;rfl)
  m_U:=mg_of X G a18
  F_ae:=ao l19 c19 k19
  B_ae:=(ao l19 c19 k19).binds (ps:=["many","by","count"]) λ_ _ _ _ _ _ us hl=>(by obtain⟨_,_,_,rfl⟩:=us3 hl;rfl)
  m_ae:=mg_of X G a19
  F_af:=ao l20 c20 k20
  B_af:=(ao l20 c20 k20).binds (ps:=["turns","number"]) λ_ _ _ _ _ _ us hl=>(by obtain⟨_,_,rfl⟩:=us2 hl;rfl)
  m_af:=mg_of X G a20
  F_S:=ao l21 c21 k21
  B_S:=(ao l21 c21 k21).binds (ps:=["turns"]) λ_ _ _ _ _ _ us hl=>(by obtain⟨_,rfl⟩:=us1 hl;rfl)
  m_S:=mg_of X G a21
  F_ag:=ao l22 c22 k22
  B_ag:=(ao l22 c22 k22).binds (ps:=["turns"]) λ_ _ _ _ _ _ us hl=>(by obtain⟨_,rfl⟩:=us1 hl;rfl)
  m_ag:=mg_of X G a22
  F_i:=ao l23 c23 k23
  B_i:=(ao l23 c23 k23).binds (ps:=["places"]) λ_ _ _ _ _ _ us hl=>(by obtain⟨_,rfl⟩:=us1 hl;rfl)
  m_i:=mg_of X G a23
  F_B:=ao l24 c24 k24
  B_B:=(ao l24 c24 k24).binds (ps:=["turns"]) λ_ _ _ _ _ _ us hl=>(by obtain⟨_,rfl⟩:=us1 hl;rfl)
  m_B:=mg_of X G a24
  F_D:=ao l25 c25 k25
  B_D:=(ao l25 c25 k25).binds (ps:=["_law_script","_law_k"]) λ_ _ _ _ _ _ us hl=>(by obtain⟨_,_,rfl⟩:=us2 hl;rfl)
  m_D:=mg_of X G a25
  F_Y:=ao l26 c26 k26
  B_Y:=(ao l26 c26 k26).binds (ps:=["_law_cell","_law_k"]) λ_ _ _ _ _ _ us hl=>(by obtain⟨_,_,rfl⟩:=us2 hl;rfl)
  m_Y:=mg_of X G a26
  F_u:=ao l27 c27 k27
  B_u:=(ao l27 c27 k27).binds (ps:=["_law_cell","_law_digits","_law_bases"]) λ_ _ _ _ _ _ us hl=>(by obtain⟨_,_,_,rfl⟩:=us3 hl;rfl)
  m_u:=mg_of X G a27
  F_V:=ao l28 c28 k28
  B_V:=(ao l28 c28 k28).binds (ps:=["_law_start","_law_many"]) λ_ _ _ _ _ _ us hl=>(by obtain⟨_,_,rfl⟩:=us2 hl;rfl)
  m_V:=mg_of X G a28
  F_X:=ao l29 c29 k29
  B_X:=(ao l29 c29 k29).binds (ps:=["_law_cell","_law_digits"]) λ_ _ _ _ _ _ us hl=>(by obtain⟨_,_,rfl⟩:=us2 hl;rfl)
  m_X:=mg_of X G a29
  F_T:=ao l30 c30 k30
  B_T:=(ao l30 c30 k30).binds (ps:=["_law_marks_here","_law_number"]) λ_ _ _ _ _ _ us hl=>(by obtain⟨_,_,rfl⟩:=us2 hl;rfl)
  m_T:=mg_of X G a30
  F_P:=ao l31 c31 k31
  B_P:=(ao l31 c31 k31).binds (ps:=["_law_marks_here"]) λ_ _ _ _ _ _ us hl=>(by obtain⟨_,rfl⟩:=us1 hl;rfl)
  m_P:=mg_of X G a31
  F_J:=ao l32 c32 k32
  B_J:=(ao l32 c32 k32).binds (ps:=["_law_parts_here"]) λ_ _ _ _ _ _ us hl=>(by obtain⟨_,rfl⟩:=us1 hl;rfl)
  m_J:=mg_of X G a32
  F_W:=ao l33 c33 k33
  B_W:=(ao l33 c33 k33).binds (ps:=["_law_turns_here"]) λ_ _ _ _ _ _ us hl=>(by obtain⟨_,rfl⟩:=us1 hl;rfl)
  m_W:=mg_of X G a33
  F_Q:=ao l34 c34 k34
  B_Q:=(ao l34 c34 k34).binds (ps:=["_law_script","_law_digits"]) λ_ _ _ _ _ _ us hl=>(by obtain⟨_,_,rfl⟩:=us2 hl;rfl)
  m_Q:=mg_of X G a34
  F_O:=ao l35 c35 k35
  m_O:=mg_of X G a35
  F_k:=ao ml_9 mo_9 mk_9
  B_k:=(ao ml_9 mo_9 mk_9).binds (ps:=["self"]) λ_ _ _ _ _ _ us hl=>(by obtain⟨_,rfl⟩:=us1 hl;rfl)
  F_o:=ao ml_3 mo_3 mk_3
  B_o:=(ao ml_3 mo_3 mk_3).binds (ps:=["self"]) λ_ _ _ _ _ _ us hl=>(by obtain⟨_,rfl⟩:=us1 hl;rfl)
  F_n:=ao ml_a mo_a mk_a
  B_n:=(ao ml_a mo_a mk_a).binds (ps:=["self"]) λ_ _ _ _ _ _ us hl=>(by obtain⟨_,rfl⟩:=us1 hl;rfl)
  F_p:=ao ml_4 mo_4 mk_4
  B_p:=(ao ml_4 mo_4 mk_4).binds (ps:=["self"]) λ_ _ _ _ _ _ us hl=>(by obtain⟨_,rfl⟩:=us1 hl;rfl)
  F_s:=ao ml_c mo_c mk_c
  B_s:=(ao ml_c mo_c mk_c).binds (ps:=["self"]) λ_ _ _ _ _ _ us hl=>(by obtain⟨_,rfl⟩:=us1 hl;rfl)
  F_w:=ao ml_6 mo_6 mk_6
  B_w:=(ao ml_6 mo_6 mk_6).binds (ps:=["self"]) λ_ _ _ _ _ _ us hl=>(by obtain⟨_,rfl⟩:=us1 hl;rfl)
  F_x:=ao ml_b mo_b mk_b
  B_x:=(ao ml_b mo_b mk_b).binds (ps:=["self"]) λ_ _ _ _ _ _ us hl=>(by obtain⟨_,rfl⟩:=us1 hl;rfl)
  F_E:=ao ml_5 mo_5 mk_5
  B_E:=(ao ml_5 mo_5 mk_5).binds (ps:=["self"]) λ_ _ _ _ _ _ us hl=>(by obtain⟨_,rfl⟩:=us1 hl;rfl)
  F_q:=ao ml_1 mo_1 mk_1
  B_q:=(ao ml_1 mo_1 mk_1).binds (ps:=["self","throw"]) λ_ _ _ _ _ _ us hl=>(by obtain⟨_,_,rfl⟩:=us2 hl;rfl)
  F_z:=ao ml_2 mo_2 mk_2
  B_z:=(ao ml_2 mo_2 mk_2).binds (ps:=["self","carry"]) λ_ _ _ _ _ _ us hl=>(by obtain⟨_,_,rfl⟩:=us2 hl;rfl)
  F_F:=ao ml_f mo_f mk_f
  B_F:=(ao ml_f mo_f mk_f).binds (ps:=["self","by"]) λ_ _ _ _ _ _ us hl=>(by obtain⟨_,_,rfl⟩:=us2 hl;rfl)
  F_K:=ao ml_e mo_e mk_e
  B_K:=(ao ml_e mo_e mk_e).binds (ps:=["self","number"]) λ_ _ _ _ _ _ us hl=>(by obtain⟨_,_,rfl⟩:=us2 hl;rfl)
  mt_k:=⟨mf_9,mi_9,mk_9⟩
  mt_o:=⟨mf_3,mi_3,mk_3⟩
  mt_n:=⟨mf_a,mi_a,mk_a⟩
  mt_p:=⟨mf_4,mi_4,mk_4⟩
  mt_s:=⟨mf_c,mi_c,mk_c⟩
  mt_w:=⟨mf_6,mi_6,mk_6⟩
  mt_x:=⟨mf_b,mi_b,mk_b⟩
  mt_E:=⟨mf_5,mi_5,mk_5⟩
  mt_q:=⟨mf_1,mi_1,mk_1⟩
  mt_z:=⟨mf_2,mi_2,mk_2⟩
  mt_F:=⟨mf_f,mi_f,mk_f⟩
  mt_K:=⟨mf_e,mi_e,mk_e⟩
  mc_d:=mg_of X G ca_d
  cl_d:=⟨pa_d,pb_d,pc_d,pd_d⟩
  mk_d:=⟨qa_d,qb_d,qc_d,qd_d⟩
  na_Told_rising:=qn_Told_rising
  Fi_d:=ao cl_d co_d ck_d
  Bi_d:=(ao cl_d co_d ck_d).binds (ps:=["self","kept"]) λ_ _ _ _ _ _ us hl=>(by obtain⟨_,_,rfl⟩:=us2 hl;rfl)
  mc_h:=mg_of X G ca_h
  cl_h:=⟨pa_h,pb_h,pc_h,pd_h⟩
  mk_h:=⟨qa_h,qb_h,qc_h,qd_h⟩
  na_Die_makes:=qn_Die_makes
  Fi_h:=ao cl_h co_h ck_h
  Bi_h:=(ao cl_h co_h ck_h).binds (ps:=["self","parts"]) λ_ _ _ _ _ _ us hl=>(by obtain⟨_,_,rfl⟩:=us2 hl;rfl)
  mc_g:=mg_of X G ca_g
  cl_g:=⟨pa_g,pb_g,pc_g,pd_g⟩
  mk_g:=⟨qa_g,qb_g,qc_g,qd_g⟩
  na_Turn_start:=qn_Turn_start
  na_Turn_many:=qn_Turn_many
  Fi_g:=ao cl_g co_g ck_g
  Bi_g:=(ao cl_g co_g ck_g).binds (ps:=["self","start","many"]) λ_ _ _ _ _ _ us hl=>(by obtain⟨_,_,_,rfl⟩:=us3 hl;rfl)
  g_MOST_WAYS:=⟨u0,mg_of X G b0,r0⟩
  g_CIRCLE:=⟨u1,mg_of X G b1,r1⟩
  g_MOST_LISTED:=⟨u2,mg_of X G b2,r2⟩
  mc_a:=mg_of X G ca_a
  kc_NoThrow:=cb_a
  xc_a:=yy cc_a
  xh_a:=yi cc_a
  xi_NoThrow:=cx_a
  fn_NoThrow:=cg_a
  Fi_a:=ao cl_a co_a ck_a
  Bi_a:=(ao cl_a co_a ck_a).binds (ps:=["self","place"]) λ_ _ _ _ _ _ us hl=>(by obtain⟨_,_,rfl⟩:=us2 hl;rfl)
  sx_NoThrow_place:=Bb cs_NoThrow_place
  mc_C:=mg_of X G ca_C
  kc_TooMany:=cb_C
  xc_C:=yy cc_C
  xh_C:=yi cc_C
  xi_TooMany:=cx_C
  z_abs:=mg_none_of X G z0
  z_bool:=mg_none_of X G z1
  z_enumerate:=mg_none_of X G z2
  z_int:=mg_none_of X G z3
  z_isinstance:=mg_none_of X G z4
  z_len:=mg_none_of X G z5
  z_list:=mg_none_of X G z6
  z_max:=mg_none_of X G z7
  z_min:=mg_none_of X G z8
  z_range:=mg_none_of X G z9
  z_sorted:=mg_none_of X G z10
  z_sum:=mg_none_of X G z11
  z_tuple:=mg_none_of X G z12
  bl:=λs u=>.of_eq rfl }
end My
open PySem PySem.W PyProof.Rows
namespace PySem.W.Fast
def tw13801529537269855722:=0
def tw56077074427575659:=0
def tw5285997891724069259:=0
def tw12697386931622405613:=0
def tw15184419486481661454:=0
def tw3488370786902816464:=0
def tw15685152487081677682:=0
def tw194333347654705589:=0
def tw13013744853503122070:=0
def tw10680500385154301878:=0
def tw2437433905435150616:=0
def tw1610087561202081272:=0
def tw8022566965912941402:=0
def tw18412014852013278236:=0
def tw5074028232334889469:=0
def tw10037225133297011862:=0
def tw10072233225841400785:=0
def tw10090289390500233474:=0
def tw10101109210608558698:=0
def tw10174099857291015962:=0
def tw10357915833882455910:=0
def tw10384726273360574792:=0
def tw10390751248131369831:=0
def tw10402640188820997966:=0
def tw10461766710886978813:=0
def tw10476614925225240020:=0
def tw10533585189912848074:=0
def tw10557859455148923018:=0
def tw10626703970473397644:=0
def tw10675542179825988362:=0
def tw10683523820863756442:=0
def tw1069205767264388474:=0
def tw10780306003016151015:=0
def tw10796537770209311491:=0
def tw1083173403572525890:=0
def tw10896151797666799804:=0
def tw10968839155365858382:=0
def tw10998378655062593648:=0
def tw11006488485446705289:=0
def tw11008246865302694275:=0
def tw1106459806984250755:=0
def tw11189215641497967599:=0
def tw11244631510930163524:=0
def tw11329724636537910891:=0
def tw11335336008474783303:=0
def tw11342225761472826557:=0
def tw11383091817664762086:=0
def tw11463996628266620266:=0
def tw11482522938561436410:=0
def tw11523332813355994842:=0
def tw11612989710405748973:=0
def tw11713260473324031675:=0
def tw11732623488861084823:=0
def tw11748315754279468009:=0
def tw11755295293315902788:=0
def tw11829408420441742009:=0
def tw11900628165591136102:=0
def tw11900925599743563134:=0
def tw11952319946525823966:=0
def tw11977098103103321466:=0
def tw11982079816843693584:=0
def tw11998141805442207533:=0
def tw12018773285939936664:=0
def tw12018805625807827680:=0
def tw12066172769723375860:=0
def tw12122215280173329745:=0
def tw12135253140158598837:=0
def tw12147504733698743607:=0
def tw12183755062811341727:=0
def tw12302685522159849958:=0
def tw12421513865892826330:=0
def tw12469286344403923737:=0
def tw1247970664980178653:=0
def tw12484445428345436558:=0
def tw12490635894518127159:=0
def tw12600941561849895116:=0
def tw12650899522645956367:=0
def tw12677439988512549306:=0
def tw12687641364457125990:=0
def tw1274301046641768827:=0
def tw12814975896571738358:=0
def tw12819387939826417558:=0
def tw12841110398716506514:=0
def tw12854668611716386193:=0
def tw12939464509729319623:=0
def tw12986121299797593473:=0
def tw13019631759376973061:=0
def tw13026738657189289850:=0
def tw1306230472422242484:=0
def tw13089429364518916480:=0
def tw13175516027582334874:=0
def tw13224686823959283232:=0
def tw13282758721430480526:=0
def tw1330461571653395078:=0
def tw13365635831234797529:=0
def tw13415562313202796507:=0
def tw13440322950663173124:=0
def tw13482339366257156481:=0
def tw13572875927691852871:=0
def tw1362575528849674503:=0
def tw13755725269700541937:=0
def tw13829169153640464266:=0
def tw13846891449147474841:=0
def tw13851157644485729012:=0
def tw13889940659605785610:=0
def tw13909820687928486816:=0
def tw13958992869909343255:=0
def tw14015113531115381450:=0
def tw14032933231623120106:=0
def tw14082021579086653809:=0
def tw14134931047136444889:=0
def tw14168464773775046934:=0
def tw1418482069595386351:=0
def tw14284014856330794864:=0
def tw14360873834750473152:=0
def tw14406777777374771832:=0
def tw14407230234768172484:=0
def tw14425516235044913102:=0
def tw14436198229888181577:=0
def tw14619275306888537842:=0
def tw14683446953871143791:=0
def tw14693852294068284780:=0
def tw14700745079931750400:=0
def tw14752716043346552831:=0
def tw14815395483836307915:=0
def tw14872352326558749146:=0
def tw14918072419174709061:=0
def tw14968209866184054541:=0
def tw14973050611634158935:=0
def tw1499734444738271300:=0
def tw15007842693671599881:=0
def tw15055077055300227337:=0
def tw15080490794360315183:=0
def tw15144236658600900444:=0
def tw15145706079220784454:=0
def tw15215518291276508078:=0
def tw15274773537311567843:=0
def tw15401412140153745484:=0
def tw1552775317110308810:=0
def tw15570414492595115830:=0
def tw15619415403728570527:=0
def tw15763188394906033648:=0
def tw1584778805719074258:=0
def tw15848859064715960175:=0
def tw15880976114485772192:=0
def tw15948294403331159886:=0
def tw15958615488367295475:=0
def tw15976805244980918998:=0
def tw16018035815844923748:=0
def tw16098727198306243492:=0
def tw1617134319178317023:=0
def tw1619799652581035966:=0
def tw16204454329866289231:=0
def tw16228080312906823217:=0
def tw16287848720970480463:=0
def tw16299646026097584897:=0
def tw16304560782854624061:=0
def tw16311385709570398025:=0
def tw16356949782122041080:=0
def tw16534449060631932765:=0
def tw16586010126142864950:=0
def tw16597977690574904713:=0
def tw16610132730265212152:=0
def tw16630943849020547491:=0
def tw16683361527041603847:=0
def tw16683414755962718248:=0
def tw16690826852290469147:=0
def tw16715646352875028152:=0
def tw16754656475641648111:=0
def tw16810194621042330989:=0
def tw1691926411615547273:=0
def tw16938621961096389978:=0
def tw16941973672645520322:=0
def tw16977894063516125663:=0
def tw17011998567220327404:=0
def tw17061776169953642849:=0
def tw17118919061225735638:=0
def tw17180286384252395599:=0
def tw17212917332756667659:=0
def tw17229570138435693001:=0
def tw17240465023069158671:=0
def tw17287509372273840120:=0
def tw17441924600435118933:=0
def tw17553913125015745762:=0
def tw17556681379855830466:=0
def tw17631463354015884188:=0
def tw1764803596832481859:=0
def tw17754172272370489988:=0
def tw17815580577946164073:=0
def tw17830826547132351721:=0
def tw17865049655106792629:=0
def tw17931727396622474550:=0
def tw17956339905441686263:=0
def tw17995982198608589095:=0
def tw18029076657009817374:=0
def tw18049501189805066336:=0
def tw18056897938168194420:=0
def tw18104912298647593294:=0
def tw18185694607075096598:=0
def tw18199115134462854737:=0
def tw18202909994167243369:=0
def tw1823837600806613001:=0
def tw18253216582422474360:=0
def tw18365394645406232878:=0
def tw18385781315811652326:=0
def tw18424436197728120929:=0
def tw1928340861204929852:=0
def tw1968654186386779105:=0
def tw1992781879961400618:=0
def tw2088639241800011503:=0
def tw2117777873095625488:=0
def tw212900144567653396:=0
def tw2167076387280129009:=0
def tw2225056613920025483:=0
def tw2235090361831055323:=0
def tw2235770981258240133:=0
def tw2261830901408108847:=0
def tw2265374418303320444:=0
def tw2280811543455266982:=0
def tw2315653608665272525:=0
def tw2329900552553005362:=0
def tw2384507151276350704:=0
def tw2388737108130437379:=0
def tw2438713419917446908:=0
def tw2440040949002748994:=0
def tw2475767977393558248:=0
def tw2476855718450579502:=0
def tw2535116728229286234:=0
def tw2551103036218033870:=0
def tw2571026673522446421:=0
def tw2600529402938458310:=0
def tw2612814885026888270:=0
def tw2625224402493526863:=0
def tw2718096103210239447:=0
def tw2724368210501895050:=0
def tw2765916865992997284:=0
def tw2792131266300962656:=0
def tw2878064230493921713:=0
def tw2893017586678060025:=0
def tw2915915327233644630:=0
def tw2918820613257803107:=0
def tw2972633282828891993:=0
def tw3092763564243409025:=0
def tw3173266396073829750:=0
def tw3457472361861688301:=0
def tw3549896363779925138:=0
def tw3573877425940032230:=0
def tw3581985686191129950:=0
def tw3595666360859376094:=0
def tw361118880149386613:=0
def tw3646187662142272528:=0
def tw3654656356947443936:=0
def tw3674587777559771319:=0
def tw3734494860783082223:=0
def tw3736354830635463175:=0
def tw3738014596560980949:=0
def tw3753250817980101084:=0
def tw3816152360013412839:=0
def tw3886682047950420959:=0
def tw388912952007618804:=0
def tw3994609620671102371:=0
def tw4043782974534019861:=0
def tw4051621126086183340:=0
def tw4080805722583566742:=0
def tw4130455810621540182:=0
def tw4173654835980037855:=0
def tw4252063297644254234:=0
def tw4300139855187363737:=0
def tw4315944703834843311:=0
def tw4406469966775048914:=0
def tw4421012022655170024:=0
def tw4425688917196230023:=0
def tw44302403187963207:=0
def tw4435784295431644971:=0
def tw4466982934709155751:=0
def tw4469083263789904778:=0
def tw4481928046836993934:=0
def tw4542828970534637411:=0
def tw4574945955244740433:=0
def tw4620396136709883197:=0
def tw4642873741727641797:=0
def tw4667346674688851247:=0
def tw4687056416931398299:=0
def tw4700898440551805164:=0
def tw4730260375482027300:=0
def tw4816358896958503399:=0
def tw4861212506328011165:=0
def tw4917680545876291942:=0
def tw4950920072611664094:=0
def tw5015622128634498246:=0
def tw5061642430023753583:=0
def tw5064419071231318572:=0
def tw5077150533019080776:=0
def tw5156437713061457156:=0
def tw5168446548407034627:=0
def tw5188778040265679090:=0
def tw5209446779584031074:=0
def tw5400069477115722691:=0
def tw5431617009183543534:=0
def tw5443595305784740069:=0
def tw5456010046086612386:=0
def tw5472067603851297813:=0
def tw5508153556621680766:=0
def tw5565168726551763010:=0
def tw5587587517355714141:=0
def tw559395575233978879:=0
def tw5606398761858879049:=0
def tw5666291098548965143:=0
def tw5711606742046407228:=0
def tw5741931164922489956:=0
def tw5833280545398898179:=0
def tw5877238637047679689:=0
def tw5882765392955759091:=0
def tw588683634949206585:=0
def tw5938666406082687458:=0
def tw5980284219635382760:=0
def tw6015959420492184757:=0
def tw6027679272266482054:=0
def tw609094923595971484:=0
def tw6105744384537374148:=0
def tw6138364634553212116:=0
def tw6139207405653476642:=0
def tw6174419533996366051:=0
def tw6424268470838465179:=0
def tw6425726309752257396:=0
def tw6445818215486016193:=0
def tw6536547759755941597:=0
def tw6603106322747317662:=0
def tw6624374695101023281:=0
def tw6625357512285715370:=0
def tw6633653585027492751:=0
def tw6665792767608093527:=0
def tw6729547786715837183:=0
def tw6734531391856791805:=0
def tw6795839143132608771:=0
def tw6836838657969157785:=0
def tw6840542040243285144:=0
def tw6922339621641389577:=0
def tw6943100647081857236:=0
def tw7006160115878914432:=0
def tw702812706325680310:=0
def tw7034127298553593971:=0
def tw7060427423297950562:=0
def tw7095817400466412123:=0
def tw7223924561209885446:=0
def tw723760184254318888:=0
def tw7263446173522787287:=0
def tw7311824819525867640:=0
def tw732167977876226092:=0
def tw7371156832109117022:=0
def tw7371334832152669099:=0
def tw7444468319605517271:=0
def tw7456319945885872118:=0
def tw7522527523277372813:=0
def tw7556955434607758560:=0
def tw7560611993607145219:=0
def tw7604463746222923923:=0
def tw7633018373359515964:=0
def tw7697980834869888713:=0
def tw7871728074109138069:=0
def tw7979757784121480484:=0
def tw8030557225359636120:=0
def tw8077007245952655871:=0
def tw813764447948343796:=0
def tw8183258267324056516:=0
def tw8207241756343319835:=0
def tw8239129221139573990:=0
def tw8288549712407233295:=0
def tw8302338327540221178:=0
def tw8325639215078425466:=0
def tw8328405261742440329:=0
def tw8446679537184356047:=0
def tw8452435313000214782:=0
def tw8453353590658838639:=0
def tw8462454526901804921:=0
def tw8536050727136376285:=0
def tw85766372594264830:=0
def tw8606350123328074744:=0
def tw8619075410976750638:=0
def tw8732606219934574654:=0
def tw8734711405101370942:=0
def tw887256997833481743:=0
def tw8875618414776840893:=0
def tw8886552817204023912:=0
def tw8898791917264923026:=0
def tw8902761903904474425:=0
def tw8912538494886681965:=0
def tw8914103635663780504:=0
def tw9004217813712580465:=0
def tw9103018875771899635:=0
def tw9121958239542995762:=0
def tw9145771827247500723:=0
def tw9157950143215922751:=0
def tw9183225713558152615:=0
def tw9206054723775971576:=0
def tw9209466097075019643:=0
def tw921041452680308681:=0
def tw9221268500071306714:=0
def tw9231504826652562070:=0
def tw9243938185306177015:=0
def tw9278752323396158878:=0
def tw9280186703102126799:=0
def tw9281050781346634276:=0
def tw9303172972678230558:=0
def tw9314401280029051378:=0
def tw9391824659809829349:=0
def tw9402350412186283447:=0
def tw9405138037480162248:=0
def tw9444567976940976256:=0
def tw9445509485434713719:=0
def tw9459618576989115968:=0
def tw9463495121505260026:=0
def tw9497715189895563499:=0
def tw9501473835732053994:=0
def tw9547769944245428756:=0
def tw967299195300091247:=0
def tw973506501588804595:=0
def tw9741100777004654266:=0
def tw9801686689492411112:=0
def tw983352538674095542:=0
def tw9844117584357400009:=0
def tw9908351761585226974:=0
def tw9994706712590780168:=0
end PySem.W.Fast
set_option maxRecDepth 100000 in
set_option maxHeartbeats 0 in
theorem PySem.Challenge.cw_fewspeak_k65_whole_spun_holds : PySem.Challenge.rw_fewspeak_k65_whole_spun.Holds := by
 w_on;o_law;k_head;(case hw=>w_witness2)
 k_fill
 refine L2.walk_ofT (l:=PySem.Challenge.rw_fewspeak_k65_whole_spun) (n:=63) (k:=My.lawK) (x := "_law_script") (CX:=L2.CX0) (sp:=My.spLaw) rfl (by decide) rfl ⟨rfl,by decide,by decide⟩ (λw h Y=>⟨PySem.W.km_in_of Y,PySem.W.km_tabs_of Y⟩) ?F ?S ?C
 case F =>
  intro ts' hts w mg fa h KX G hmg
  have T:∃ a,My.Txt (L2.KOf KX) mg a/\(My.tabs a).map (·.1)=ts':=by
   rw[hts];dsimp only[L2.KOf];refine' My.txt_mk KX G ?a0 ?l0 ?c0 ?k0 ?a1 ?l1 ?c1 ?k1 ?a2 ?l2 ?c2 ?k2 ?a3 ?l3 ?c3 ?k3 ?a4 ?l4 ?c4 ?k4 ?a5 ?l5 ?c5 ?k5 ?a6 ?l6 ?c6 ?k6 ?a7 ?l7 ?c7 ?k7 ?a8 ?l8 ?c8 ?k8 ?a9 ?l9 ?c9 ?k9 ?a10 ?l10 ?c10 ?k10 ?a11 ?l11 ?c11 ?k11 ?a12 ?l12 ?c12 ?k12 ?a13 ?l13 ?c13 ?k13 ?a14 ?l14 ?c14 ?k14 ?a15 ?l15 ?c15 ?k15 ?a16 ?l16 ?c16 ?k16 ?a17 ?l17 ?c17 ?k17 ?a18 ?l18 ?c18 ?k18 ?a19 ?l19 ?c19 ?k19 ?a20 ?l20 ?c20 ?k20 ?a21 ?l21 ?c21 ?k21 ?a22 ?l22 ?c22 ?k22 ?a23 ?l23 ?c23 ?k23 ?a24 ?l24 ?c24 ?k24 ?a25 ?l25 ?c25 ?k25 ?a26 ?l26 ?c26 ?k26 ?a27 ?l27 ?c27 ?k27 ?a28 ?l28 ?c28 ?k28 ?a29 ?l29 ?c29 ?k29 ?a30 ?l30 ?c30 ?k30 ?a31 ?l31 ?c31 ?k31 ?a32 ?l32 ?c32 ?k32 ?a33 ?l33 ?c33 ?k33 ?a34 ?l34 ?c34 ?k34 ?a35 ?l35 ?c35 ?k35 ?b0 ?b1 ?b2 ?ca_N ?cb_N ?cc_N ?cx_N ?ca_a ?cb_a ?cc_a ?cf_a ?cx_a ?cg_a ?cl_a ?co_a ?ck_a ?cs_NoThrow_place ?ca_C ?cb_C ?cc_C ?cx_C ?ca_ad ?cb_ad ?cc_ad ?cx_ad ?ca_Z ?pa_Z ?pb_Z ?pc_Z ?pd_Z ?pe_Z ?pf_Z ?pg_Z ?ph_Z ?ca_d ?pa_d ?pb_d ?pc_d ?pd_d ?pe_d ?pf_d ?pg_d ?ph_d ?qa_d ?qb_d ?qc_d ?qd_d ?qn_Told_rising ?cl_d ?co_d ?ck_d ?ca_h ?pa_h ?pb_h ?pc_h ?pd_h ?pe_h ?pf_h ?pg_h ?ph_h ?qa_h ?qb_h ?qc_h ?qd_h ?qn_Die_makes ?cl_h ?co_h ?ck_h ?ca_g ?pa_g ?pb_g ?pc_g ?pd_g ?pe_g ?pf_g ?pg_g ?ph_g ?qa_g ?qb_g ?qc_g ?qd_g ?qn_Turn_start ?qn_Turn_many ?cl_g ?co_g ?ck_g ?mf_9 ?ml_9 ?mo_9 ?mk_9 ?mi_9 ?mf_3 ?ml_3 ?mo_3 ?mk_3 ?mi_3 ?mf_a ?ml_a ?mo_a ?mk_a ?mi_a ?mf_4 ?ml_4 ?mo_4 ?mk_4 ?mi_4 ?mf_c ?ml_c ?mo_c ?mk_c ?mi_c ?mf_6 ?ml_6 ?mo_6 ?mk_6 ?mi_6 ?mf_b ?ml_b ?mo_b ?mk_b ?mi_b ?mf_5 ?ml_5 ?mo_5 ?mk_5 ?mi_5 ?mf_1 ?ml_1 ?mo_1 ?mk_1 ?mi_1 ?mf_2 ?ml_2 ?mo_2 ?mk_2 ?mi_2 ?mf_f ?ml_f ?mo_f ?mk_f ?mi_f ?mf_e ?ml_e ?mo_e ?mk_e ?mi_e ?lca_15 ?lct_15 ?lcq_15 ?lch_i ?lca_12 ?lct_12 ?lcq_12 ?lch_e ?lca_13 ?lct_13 ?lcq_13 ?lch_t ?lca_11 ?lct_11 ?lcq_11 ?lch_H ?lca_10 ?lct_10 ?lcq_10 ?lch_m ?lca_14 ?lct_14 ?lcq_14 ?lch_O ?ltnd ?z0 ?z1 ?z2 ?z3 ?z4 ?z5 ?z6 ?z7 ?z8 ?z9 ?z10 ?z11 ?z12 ?r0 ?r1 ?r2
   case a0|l0|c0|k0|a1|l1|c1|k1|a2|l2|c2|k2|a3|l3|c3|k3|a4|l4|c4|k4|a5|l5|c5|k5|a6|l6|c6|k6|a7|l7|c7|k7|a8|l8|c8|k8|a9|l9|c9|k9|a10|l10|c10|k10|a11|l11|c11|k11|a12|l12|c12|k12|a13|l13|c13|k13|a14|l14|c14|k14|a15|l15|c15|k15|a16|l16|c16|k16|a17|l17|c17|k17|a18|l18|c18|k18|a19|l19|c19|k19|a20|l20|c20|k20|a21|l21|c21|k21|a22|l22|c22|k22|a23|l23|c23|k23|a24|l24|c24|k24|a25|l25|c25|k25|a26|l26|c26|k26|a27|l27|c27|k27|a28|l28|c28|k28|a29|l29|c29|k29|a30|l30|c30|k30|a31|l31|c31|k31|a32|l32|c32|k32|a33|l33|c33|k33|a34|l34|c34|k34|a35|l35|c35|k35|b0|b1|b2|ca_N|cb_N =>k_is
   case cc_N|cx_N =>kernel_rfl
   case ca_a|cb_a =>k_is
   case cc_a =>kernel_rfl
   case cf_a =>k_is
   case cx_a =>kernel_rfl
   case cg_a|cl_a|co_a|ck_a =>k_is
   case cs_NoThrow_place =>kernel_rfl
   case ca_C|cb_C =>k_is
   case cc_C|cx_C =>kernel_rfl
   case ca_ad|cb_ad =>k_is
   case cc_ad|cx_ad =>kernel_rfl
   case ca_Z =>k_is
   case pa_Z|pb_Z|pc_Z|pd_Z|pe_Z|pf_Z|pg_Z|ph_Z =>(first | k_is | kernel_rfl)
   case ca_d =>k_is
   case pa_d|pb_d|pc_d|pd_d|pe_d|pf_d|pg_d|ph_d|qa_d|qb_d|qc_d|qd_d|qn_Told_rising =>(first | k_is | kernel_rfl)
   case cl_d|co_d|ck_d|ca_h =>k_is
   case pa_h|pb_h|pc_h|pd_h|pe_h|pf_h|pg_h|ph_h|qa_h|qb_h|qc_h|qd_h|qn_Die_makes =>(first | k_is | kernel_rfl)
   case cl_h|co_h|ck_h|ca_g =>k_is
   case pa_g|pb_g|pc_g|pd_g|pe_g|pf_g|pg_g|ph_g|qa_g|qb_g|qc_g|qd_g|qn_Turn_start|qn_Turn_many =>(first | k_is | kernel_rfl)
   case cl_g|co_g|ck_g =>k_is
   case mf_9 =>(first | k_is | kernel_rfl)
   case ml_9|mo_9|mk_9 =>k_is
   case mi_9|mf_3 =>(first | k_is | kernel_rfl)
   case ml_3|mo_3|mk_3 =>k_is
   case mi_3|mf_a =>(first | k_is | kernel_rfl)
   case ml_a|mo_a|mk_a =>k_is
   case mi_a|mf_4 =>(first | k_is | kernel_rfl)
   case ml_4|mo_4|mk_4 =>k_is
   case mi_4|mf_c =>(first | k_is | kernel_rfl)
   case ml_c|mo_c|mk_c =>k_is
   case mi_c|mf_6 =>(first | k_is | kernel_rfl)
   case ml_6|mo_6|mk_6 =>k_is
   case mi_6|mf_b =>(first | k_is | kernel_rfl)
   case ml_b|mo_b|mk_b =>k_is
   case mi_b|mf_5 =>(first | k_is | kernel_rfl)
   case ml_5|mo_5|mk_5 =>k_is
   case mi_5|mf_1 =>(first | k_is | kernel_rfl)
   case ml_1|mo_1|mk_1 =>k_is
   case mi_1|mf_2 =>(first | k_is | kernel_rfl)
   case ml_2|mo_2|mk_2 =>k_is
   case mi_2|mf_f =>(first | k_is | kernel_rfl)
   case ml_f|mo_f|mk_f =>k_is
   case mi_f|mf_e =>(first | k_is | kernel_rfl)
   case ml_e|mo_e|mk_e =>k_is
   case mi_e =>(first | k_is | kernel_rfl)
   case lca_15 =>exact rfl
   case lct_15 =>k_is
   case lcq_15 =>exact rfl
   case lch_i =>kernel_rfl
   case lca_12 =>exact rfl
   case lct_12 =>k_is
   case lcq_12 =>exact rfl
   case lch_e =>kernel_rfl
   case lca_13 =>exact rfl
   case lct_13 =>k_is
   case lcq_13 =>exact rfl
   case lch_t =>kernel_rfl
   case lca_11 =>exact rfl
   case lct_11 =>k_is
   case lcq_11 =>exact rfl
   case lch_H =>kernel_rfl
   case lca_10 =>exact rfl
   case lct_10 =>k_is
   case lcq_10 =>exact rfl
   case lch_m =>kernel_rfl
   case lca_14 =>exact rfl
   case lct_14 =>k_is
   case lcq_14 =>exact rfl
   case lch_O =>kernel_rfl
   case ltnd =>decide
   case z0|z1|z2|z3|z4|z5|z6|z7|z8|z9|z10|z11|z12 =>k_is
   case r0|r1|r2 =>first | exact rfl | exact⟨_,rfl⟩
  obtain⟨a,T,e1⟩:=T;have e1:=e1.trans hts;have e0:=hmg.symm.trans T.m_O;cases e0;refine' ⟨a.d_O,?b,?t,?u,λbase kb nb hB=>My.ok_law T hB ?v⟩
  case b=>exact T.bl
  case t =>
   intro P hP;have hP:=e1.symm ▸ hP;simp only[My.tabs,map_cons,map_nil,mem_cons,List.not_mem_nil,or_false]at hP
   rcases hP with rfl | rfl | rfl | rfl | rfl | rfl
   .exact⟨_,T.lch_i⟩
   .exact⟨_,T.lch_e⟩
   .exact⟨_,T.lch_t⟩
   .exact⟨_,T.lch_H⟩
   .exact⟨_,T.lch_m⟩
   .exact⟨_,T.lch_O⟩
  case u =>
   intro P hP;simp only[mem_cons,List.not_mem_nil,or_false]at hP
   rcases hP with rfl | rfl | rfl | rfl | rfl | rfl <;> kernel_rfl
  case v =>
   intro q hq;rw[<- e1];exact List.mem_map_of_mem hq
 case S=>exact λK H a ns hl hO hS=>My.law_start hl hO hS
 case C=>exact λH s e s' z=>z
