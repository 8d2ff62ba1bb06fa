import PyProof.Rows.All
import Wide.All
import OpenK.AllK
import Wide.FinOn
import Lean
import PyProof.EqAt
import PyProof.EqKinds
import PyProof.TupleCall
import PySem.Challenge.RW_fewspeak_k43_whole_nested_throws
open PySem.W(CodeHd FnAt Frag InstAt Looks any_some callWith_K cellsFrom_some clsIn codeHdIn codeHd_of_K codeIn codeRec_of emptyDict findIn fnOf handedIn hasDictIn instObj isFn keepIn kitOne kitx_dict kitx_list kitx_tuple kla_fn kla_obj lookIn makesIn methodCall_KW methodObj mg_none_of mg_of mroIn nsIn nsOkIn plainGet plainGet_of plainOver specialIn tabObj tailIn takerIn takesIn typeIn)
open List(all_cons all_eq_true any_cons append_assoc append_nil cons_append countP_map drop_eq_getElem_cons drop_of_length_le drop_zero filterMap_cons filter_append filter_cons_of_neg filter_cons_of_pos flatten_cons foldl_cons forIn_cons length_append length_cons length_drop length_eq_zero_iff length_filter_le length_map length_nil length_range length_singleton length_take lookup_cons map_append map_cons map_map map_nil map_take mem_append mem_append_left mem_append_right mem_cons mem_cons_of_mem mem_cons_self mem_filter mem_map mem_of_mem_take mem_range mem_singleton nil_append nil_sublist nodup_append nodup_cons nodup_nil not_mem_nil of_mem_zip pairwise_cons range_succ replicate_succ size_toArray sum_cons sum_nil take_add_one take_length take_of_length_le take_zero)
noncomputable section
set_option Elab.async false
set_option linter.all false
set_option maxRecDepth 100000
namespace L2
open PySem PySem.Spec PyProof.Rows
abbrev Key:=Sum Int Str
def gQ:Key->Value->Bool
 | .inl k,v=>Value.isInt k v
 | .inr x,v=>Value.isStrOf x v
def yh(w:World):Key->Int
 | .inl k=>hashInt k
 | .inr x=>hashStr w x
theorem cq:∀{k:Key}{v:Value},gQ k v=true->(∃ i t,k=Sum.inl i/\v=Value.int i t)\/(∃ x t,k=Sum.inr x/\v=Value.str x t)
 | .inl i,v,h=>by
  obtain⟨t,e⟩:=Value.isInt_shape (k:=i) (v:=v) h;exact .inl ⟨i,t,rfl,e⟩
 | .inr x,v,h=>by
  obtain⟨t,e⟩:=Value.isStrOf_shape (x:=x) (v:=v) h;exact .inr ⟨x,t,rfl,e⟩
theorem qw(i:Int)(t:Tok):gQ (.inl i) (.int i t)=true:=by simp[gQ,Value.isInt]
theorem qE(x:Str)(t:Tok):gQ (.inr x) (.str x t)=true:=by simp[gQ,Value.isStrOf]
theorem vX(a b:Int):decide ((Sum.inl a:Key)=Sum.inl b)=(a == b):=by
 by_cases e:a=b
 .subst e;simp
 .have h:¬(Sum.inl a:Key)=Sum.inl b:=λq=>e (Sum.inl.inj q)
  rw[decide_eq_false h];exact(beq_eq_false_iff_ne.mpr e).symm
theorem vZ(a b:Str):decide ((Sum.inr a:Key)=Sum.inr b)=decide (a=b):=by
 by_cases e:a=b
 .subst e;simp
 .have h:¬(Sum.inr a:Key)=Sum.inr b:=λq=>e (Sum.inr.inj q)
  rw[decide_eq_false h,decide_eq_false e]
theorem vI(a:Int)(b:Str):decide ((Sum.inl a:Key)=Sum.inr b)=false:=decide_eq_false (λq=>nomatch q)
theorem vO(a:Str)(b:Int):decide ((Sum.inr a:Key)=Sum.inl b)=false:=decide_eq_false (λq=>nomatch q)
def bO(prog:Program)(w:World):PySem.KeyKind prog w Key where
 is:=gQ
 hash:=yh w
 inj:=λv a b ha hb=>by
  rcases cq ha with⟨i,t,rfl,rfl⟩ | ⟨x,t,rfl,rfl⟩
  .rcases cq hb with⟨j,u,rfl,e⟩ | ⟨y,u,rfl,e⟩
   .injection e with e1 _;rw[e1]
   .exact nomatch e
  .rcases cq hb with⟨j,u,rfl,e⟩ | ⟨y,u,rfl,e⟩
   .exact nomatch e
   .injection e with e1 _;rw[e1]
 byValue:=λk v h=>by
  rcases cq h with⟨i,t,rfl,rfl⟩ | ⟨x,t,rfl,rfl⟩ <;> rfl
 pyHash:=λhv h=>by
  rcases cq hv with⟨i,t,rfl,rfl⟩ | ⟨x,t,rfl,rfl⟩
  .exact wpAny_pyHash_int h
  .exact wpAny_pyHash_str h
 eqBool:=λhu hv h=>by
  rcases cq hu with⟨i,t,rfl,rfl⟩ | ⟨x,t,rfl,rfl⟩
  .rcases cq hv with⟨j,u,rfl,rfl⟩ | ⟨y,u,rfl,rfl⟩
   .rw[vX]at h;exact wpAny_eqBool_int h
   .rw[vI]at h;exact SeqAt.EqAt.int_str i t y u _ _ _ _ h
  .rcases cq hv with⟨j,u,rfl,rfl⟩ | ⟨y,u,rfl,rfl⟩
   .rw[vO]at h;exact SeqAt.EqAt.str_int x t j u _ _ _ _ h
   .rw[vZ]at h;exact wpAny_eqBool_str h
 «strs»:=λk x t v h=>by
  rcases cq h with⟨i,u,rfl,e⟩ | ⟨y,u,rfl,e⟩
  .exact nomatch e
  .injection e with e1 _
   subst e1
   cases v <;> rfl
theorem nU(prog:Program)(w:World)(i:Int)(t:Tok):(bO prog w).is (.inl i) (.int i t)=true:=qw i t
theorem nz(prog:Program)(w:World)(x:Str)(t:Tok):(bO prog w).is (.inr x) (.str x t)=true:=qE x t
inductive V where
 | non | bl (b:Bool) | int (i:Int) | str (x:Str) | byt (b:Array UInt8) | flt (b:UInt64) | ref (a:Addr) | ty (n:String)
 deriving DecidableEq
def RelV:V->Value->Prop
 | .non,u=>u=Value.none
 | .bl b,u=>u=Value.bool b
 | .int i,u=>∃ t,u=Value.int i t
 | .str x,u=>∃ t,u=Value.str x t
 | .byt b,u=>∃ t,u=Value.bytes b t
 | .flt b,u=>∃ t,u=Value.float b t
 | .ref a,u=>u=Value.ref a
 | .ty n,u=>u=Value.type n
abbrev Vals:List V->List Value->Prop:=Paired RelV
theorem Vals.length{xs:List V}{us:List Value}(r:Vals xs us):xs.length=us.length:=Paired.length r
theorem Vals.get:∀{xs:List V}{us:List Value}{i:Nat}{x:V},Vals xs us->xs[i]? = some x->∃ u,us[i]? = some u/\RelV x u
 | _,_,_,_,.nil,e=>by simp at e
 | _,_,0,_,.cons r _,e=>by simp at e;subst e;exact⟨_,rfl,r⟩
 | _,_,i+1,x,.cons _ t,e=>by
  obtain⟨u,a,b⟩:=Vals.get (i:=i) (x:=x) t (by simpa using e);exact⟨u,by simpa using a,b⟩
theorem Vals.append:∀{xs ys:List V}{us ws:List Value},Vals xs us->Vals ys ws->Vals (xs++ys) (us++ws)
 | _,_,_,_,.nil,s=>s
 | _,_,_,_,.cons r t,s=>.cons r (Vals.append t s)
theorem Vals.take:∀{xs:List V}{us:List Value}(n:Nat),Vals xs us->Vals (xs.take n) (us.take n)
 | _,_,0,_=>.nil
 | _,_,_+1,.nil=>.nil
 | _,_,n+1,.cons r t=>.cons r (Vals.take n t)
theorem Vals.drop:∀{xs:List V}{us:List Value}(n:Nat),Vals xs us->Vals (xs.drop n) (us.drop n)
 | _,_,0,r=>r
 | _,_,_+1,.nil=>.nil
 | _,_,n+1,.cons _ t=>Vals.drop n t
def RelO:Option V->Option Value->Prop
 | some v,some u=>RelV v u
 | none,none=>True
 | _,_=>False
def KV{κ:Type}:List (κ×V)->List (κ×Value)->Prop:=Paired λ(p:κ×V) (q:κ×Value)=>p.1=q.1/\RelV p.2 q.2
def kV:Key->V
 | .inl i=>.int i
 | .inr x=>.str x
inductive HO where
 | lst (xs:List V)
 | tup (xs:List V)
 | dK (kvs:List (Key×V)) | dT (kvs:List (List Key×V))
 | set (S:Int->Bool) (n:Nat)
 | ins (C dx:Addr) (fs:List (Str×V))
 | own (x:Addr)
 | xd (fs:List (Str×V))
 | met (f x:Addr)
 | rng (lo hi:Int)
 | frz (o:Obj) (u:HO)
 | tbl (ps:Array Value)
 | ext (φ:Heap->Prop)
abbrev Hp:=Addr->Option HO
def upd(H:Hp)(a:Addr)(o:HO):Hp:=λb=>if b=a then some o else H b
theorem ac{H:Hp}{a:Addr}{o:HO}:upd H a o a=some o:=by unfold upd;rw[if_pos rfl]
theorem au{H:Hp}{a b:Addr}{o:HO}(h:b≠a):upd H a o b=H b:=by unfold upd;rw[if_neg h]
theorem eP{H:Hp}{a:Addr}{o u:HO}:upd (upd H a o) a u=upd H a u:=by
 funext b;unfold upd;split <;> rfl
theorem pq{H:Hp}{a b:Addr}{o u:HO}(h:H a=some o)(h':H b=some u)(d:o≠u):a≠b:=by
 intro e;subst e;rw[h]at h';exact d (Option.some.inj h')
theorem ar{H:Hp}{a b:Addr}{o:HO}(h:H a=some o)(h':H b=none):a≠b:=by
 intro e;subst e;rw[h]at h';cases h'
section
variable (P:Program) (w:World)
def ObjOk(H:Hp)(h:Heap)(a:Addr):HO->Prop
 | .lst xs=>xs.length<=sizeLine/\∃(its:List Value) (n:Nat),Vals xs its/\h.get? a=some { cls:=.type "list",data:=.seq its.toArray n }
 | .tup xs=>xs.length<=sizeLine/\∃ its:List Value,Vals xs its/\IsTup h a its.toArray
 | .dK kvs=>kvs.length<=sizeLine/\(a == sysModules)=false/\∃ vs,KV kvs vs/\h.DictOf (bO P w) a vs
 | .dT kvs=>kvs.length<=sizeLine/\(a == sysModules)=false/\∃ xs:List (List Key×Addr×Value),
   Paired (λ(p:List Key×V) (q:List Key×Addr×Value)=>p.1=q.1/\H q.2.1=some (.tup (p.1.map kV))/\RelV p.2 q.2.2) kvs xs /\
   ∃ o es ep,h.get? a=some o/\o.ExactDict/\o.data=.dict es ep/\es.toList=xs.map (entryOfKey (tupleKind (bO P w)))/\(xs.map (·.1)).Nodup
 | .set S n=>h.SetOf (intKind P w) a S n
 | .ins C dx fs=>H dx=some (.own a)/\fs.length<=1000/\dx≠a/\h.get? a=some (instObj C dx) /\
   ∃ mA,h.Ns1 dx mA/\(∀ f,RelO (fs.lookup f) (mA f))/\PySem.Within mA (fs.map (·.1))
 | .own _=>∃ o,h.get? a=some o
 | .xd fs=>∃ mA,h.Ns1 a mA/\∀ f,RelO (fs.lookup f) (mA f)
 | .rng lo hi=>∃ t u v,h.get? a=some { cls:=.type "range",data:=.fields #[.int lo t,.int hi u,.int 1 v] }
 | .frz o u=>h.get? a=some o/\ObjOk H h a u
 | .tbl ps=>h.get? a=some { cls:=.none,data:=.fields ps }
 | .met f x=>h.get? a=some (methodObj (.ref f) (.ref x))
 | .ext φ=>φ h/\(∃ o,h.get? a=some o)/\∀ h1 h2:Heap,φ h1->(∀ o,h1.get? a=some o->h2.get? a=some o)->φ h2
def HOk(H:Hp)(h:Heap):Prop:=∀ a o,H a=some o->ObjOk P w H h a o
end
section
variable {P:Program}{w:World}{H H':Hp}{h h':Heap}{a:Addr}{o:HO}
theorem ObjOk.lt(x:ObjOk P w H h a o):a<h.objs.size:=by
 cases o with
 | lst xs=>obtain⟨_,_,_,_,e⟩:=x;exact Heap.lt_size e
 | tup xs=>obtain⟨_,_,_,p⟩:=x;exact p.lt
 | dK kvs=>obtain⟨_,_,_,_,o,_,_,e,_⟩:=x;exact Heap.lt_size e
 | dT kvs=>obtain⟨_,_,_,_,o,_,_,e,_⟩:=x;exact Heap.lt_size e
 | set S n=>obtain⟨o,_,_,_,e,_⟩:=x;exact Heap.lt_size e
 | ins C dx fs=>obtain⟨_,_,_,e,_⟩:=x;exact Heap.lt_size e
 | own y=>obtain⟨_,e⟩:=x;exact Heap.lt_size e
 | xd fs=>obtain⟨_,⟨_,_,_,e,_⟩,_⟩:=x;exact Heap.lt_size e
 | rng lo hi=>obtain⟨_,_,_,e⟩:=x;exact Heap.lt_size e
 | frz ob u=>obtain⟨e,_⟩:=x;exact Heap.lt_size e
 | tbl ps=>exact Heap.lt_size (show h.get? a=some _ from x)
 | met f y=>exact Heap.lt_size (show h.get? a=some _ from x)
 | ext φ=>obtain⟨_,⟨_,e⟩,_⟩:=x;exact Heap.lt_size e
theorem Paired.mapP{c d:Type}{F G:c->d->Prop}:∀{l₁:List c}{l₂:List d},Paired F l₁ l₂->(∀ a b,F a b->G a b)->Paired G l₁ l₂
 | _,_,.nil,_=>.nil
 | _,_,.cons r t,f=>.cons (f _ _ r) (Paired.mapP t f)
theorem ObjOk.stay(x:ObjOk P w H h a o)(k:∀ b u,(b=a\/H b=some (.own a))->h.get? b=some u->h'.get? b=some u)
  (D:∀ b,H b=some (.own a)->H' b=some (.own a)) (B:∀ b xs,H b=some (.tup xs)->H' b=some (.tup xs)):ObjOk P w H' h' a o:=by
 induction o with
 | lst xs=>obtain⟨z,l,n,r,e⟩:=x;exact⟨z,l,n,r,k _ _ (.inl rfl) e⟩
 | tup xs=>obtain⟨z,l,r,g,e,c⟩:=x;exact⟨z,l,r,g,k _ _ (.inl rfl) e,c⟩
 | dK kvs=>obtain⟨z,y,E,r,g,j,i,e,c⟩:=x;exact⟨z,y,E,r,g,j,i,k _ _ (.inl rfl) e,c⟩
 | dT kvs =>
  obtain⟨z,y,xs,r,g,j,i,e,c⟩:=x;exact⟨z,y,xs,Paired.mapP r λp q z=>⟨z.1,B _ _ z.2.1,z.2.2⟩,g,j,i,k _ _ (.inl rfl) e,c⟩
 | set S n=>obtain⟨g,j,i,t,e,c⟩:=x;exact⟨g,j,i,t,k _ _ (.inl rfl) e,c⟩
 | ins C dx fs =>
  obtain⟨d,z,G,e,m,⟨s,j,i,F,c⟩,r⟩:=x;exact⟨D _ d,z,G,k _ _ (.inl rfl) e,m,⟨s,j,i,k _ _ (.inr d) F,c⟩,r⟩
 | own y=>obtain⟨g,e⟩:=x;exact⟨g,k _ _ (.inl rfl) e⟩
 | xd fs=>obtain⟨m,⟨s,j,i,e,c⟩,r⟩:=x;exact⟨m,⟨s,j,i,k _ _ (.inl rfl) e,c⟩,r⟩
 | rng lo hi=>obtain⟨t,u,v,e⟩:=x;exact⟨t,u,v,k _ _ (.inl rfl) e⟩
 | frz g u ih=>obtain⟨e,q⟩:=x;exact⟨k _ _ (.inl rfl) e,ih q⟩
 | tbl ps =>
  have e:h.get? a=some { cls:=.none,data:=.fields ps }:=x;show h'.get? a=some { cls:=.none,data:=.fields ps };exact k a _ (.inl rfl) e
 | met f y =>
  have e:h.get? a=some (methodObj (.ref f) (.ref y)):=x;show h'.get? a=some (methodObj (.ref f) (.ref y));exact k a _ (.inl rfl) e
 | ext φ=>obtain⟨p,⟨o,e⟩,A⟩:=x;exact⟨A _ _ p λo q=>k _ _ (.inl rfl) q,⟨o,k _ _ (.inl rfl) e⟩,A⟩
theorem HOk.lt(x:HOk P w H h)(e:H a=some o):a<h.objs.size:=(x a o e).lt
theorem HOk.fresh(x:HOk P w H h)(e:h.objs.size<=a):H a=none:=by
 cases q:H a with
 | none=>rfl
 | some u=>exact absurd (Nat.lt_of_lt_of_le (x.lt q) e) (Nat.lt_irrefl _)
theorem HOk.kept(x:HOk P w H h)(k:∀ b u,h.get? b=some u->h'.get? b=some u):HOk P w H h':=λa o e =>
 (x a o e).stay (λb u _ q=>k b u q) (λ_ q=>q) λ_ _ q=>q
theorem HOk.laid(x:HOk P w H h)(k:∀ b u,h.get? b=some u->h'.get? b=some u)(g:h.objs.size<=a)(d:ObjOk P w (upd H a o) h' a o):HOk P w (upd H a o) h':=λb u e=>by
 have f:=x.fresh g
 by_cases hb:b=a
 .subst hb;rw[ac]at e;cases e;exact d
 .rw[au hb]at e
  exact(x b u e).stay (λc v _ q=>k c v q) (λc q=>by rw[au (ar q f)];exact q) λc xs q=>by rw[au (ar q f)];exact q
end
def Rd(H:Hp)(a:Addr)(u:HO):Prop:=H a=some u\/∃ o,H a=some (.frz o u)
theorem Rd.ok{P:Program}{w:World}{H:Hp}{h:Heap}{a:Addr}{u:HO}(r:Rd H a u)(x:HOk P w H h):ObjOk P w H h a u:=by
 rcases r with r | ⟨o,r⟩
 .exact x a u r
 .obtain⟨_,q⟩:=x a _ r
  exact q
def Mut:Option HO->Prop
 | some (.lst _)=>True
 | some (.dK _)=>True
 | some (.dT _)=>True
 | some (.set _ _)=>True
 | some (.ins _ _ _)=>True
 | some (.ext _)=>True
 | _=>False
section
variable {P:Program}{w:World}{H:Hp}{h h':Heap}{x e:Addr}{o':HO}
theorem HOk.write(o:HOk P w H h)(f:Mut (H x))(l:e=x\/H e=some (.own x))(k:∀ b u,b≠e->h.get? b=some u->h'.get? b=some u)(j:∃ u,h'.get? e=some u)
  (i:ObjOk P w (upd H x o') h' x o'):HOk P w (upd H x o') h':=λb u q=>by
 have a:∀ c y,H c=some (.own y)->c≠x:=λc y r z=>by subst z;rw[r]at f;exact f
 have d:∀ c g,H c=some (.tup g)->c≠x:=λc g r z=>by subst z;rw[r]at f;exact f
 by_cases hb:b=x
 .subst hb;rw[ac]at q;cases q;exact i
 .rw[au hb]at q
  by_cases hbe:b=e
  .have m:H b=some (.own x):=by
    rcases l with z | z
    .exact absurd (hbe.trans z) hb
    .rw[hbe];exact z
   rw[q]at m;cases m;obtain⟨v,p⟩:=j;exact⟨v,by rw[hbe];exact p⟩
  .refine(o b u q).stay (λc v hc r=>k c v ?_ r) (λc r=>by rw[au (a c b r)];exact r) λc g r=>by rw[au (d c g r)];exact r
   rcases hc with rfl | hc
   .exact hbe
   .rintro rfl
    rcases l with z | z
    .exact a c b hc z
    .rw[hc]at z;cases z;exact hb rfl
end
structure Un(fs ex:List Addr)(H H':Hp)(h h':Heap):Prop where
 keep:∀ b o,h.get? b=some o->H b=none->b ∉ fs->b ∉ ex->h'.get? b=some o
 slot:∀ b o,h.get? b=some o->H b=none->b∈fs->b ∉ ex->∃ sl,h'.get? b=some { o with slots:=sl }
 free:∀ b o,h.get? b=some o->H b=none->b ∉ ex->H' b=none
 there:∀ b o,h.get? b=some o->b ∉ ex->∃ o',h'.get? b=some o'
 tups:∀ b xs,H b=some (.tup xs)->H' b=some (.tup xs)
 frzs:∀ b o u,H b=some (.frz o u)->H' b=some (.frz o u)
 tbls:∀ b ps,H b=some (.tbl ps)->∃ more,H' b=some (.tbl (ps++more))
section
variable {fs fs' ex ex':List Addr}{H H1 H2:Hp}{h h1 h2 h':Heap}{a x e:Addr}{o:HO}
theorem Un.any(u:Un fs ex H H1 h h1){b:Addr}{a:Obj}(q:h.get? b=some a)(n:H b=none)(c:b ∉ ex):∃ sl,h1.get? b=some { a with slots:=sl }:=by
 by_cases hb:b∈fs
 .exact u.slot b a q n hb c
 .exact⟨a.slots,u.keep b a q n hb c⟩
theorem Un.kept(k:∀ b u,h.get? b=some u->h'.get? b=some u):Un fs ex H H h h' :=
 ⟨λb a q _ _ _=>k b a q,λb a q _ _ _=>⟨a.slots,k b a q⟩,λ_ _ _ n _=>n,λb a q _=>⟨a,k b a q⟩,λ_ _ q=>q,λ_ _ _ q=>q,λ_ ps q=>⟨#[],by rw[q];simp⟩⟩
theorem Un.refl:Un fs ex H H h h:=Un.kept λ_ _ q=>q
theorem Un.laid(k:∀ b u,h.get? b=some u->h'.get? b=some u)(e:h.objs.size<=a)(c:H a=none):Un fs ex H (upd H a o) h h' where
 keep:=λb u q _ _ _=>k b u q
 slot:=λb u q _ _ _=>⟨u.slots,k b u q⟩
 free:=λb u q n _=>by rw[au (Nat.ne_of_lt (Nat.lt_of_lt_of_le (Heap.lt_size q) e))];exact n
 there:=λb u q _=>⟨u,k b u q⟩
 tups:=λb d q=>by rw[au (ar q c)];exact q
 frzs:=λb u d q=>by rw[au (ar q c)];exact q
 tbls:=λb f q=>⟨#[],by rw[au (ar q c),q];simp⟩
theorem Un.write(a:Mut (H x))(i:e=x\/H e=some (.own x))(k:∀ b u,b≠e->h.get? b=some u->h'.get? b=some u)(d:∃ u,h'.get? e=some u):Un fs ex H (upd H x o) h h':=by
 have f:∀ b,H b=none->b≠x:=λb n z=>by subst z;rw[n]at a;exact a
 have g:∀ b,H b=none->b≠e:=λb n z=>by
  subst z
  rcases i with r | r
  .exact f b n r
  .rw[n]at r;cases r
 have c:∀ b u,H b=some u->¬Mut (some u)->b≠x:=λb u q l z=>by subst z;rw[q]at a;exact l a
 refine⟨λb u q n _ _=>k b u (g b n) q,λb u q n _ _=>⟨u.slots,k b u (g b n) q⟩,λb u q n _=>by rw[au (f b n)];exact n,λb u q _=>?_,
  λb j q=>by rw[au (c b _ q λz=>z)];exact q,λb u j q=>by rw[au (c b _ q λz=>z)];exact q,λb ps q=>⟨#[],by rw[au (c b _ q λz=>z),q];simp⟩⟩
 by_cases hbe:b=e
 .subst hbe;exact d
 .exact⟨u,k b u hbe q⟩
end
def trk(h:Heap)(H:Hp):List Addr:=(List.range h.objs.size).filter λa=>(H a).isSome
def km(h:Heap)(H:Hp):Heap:=PySem.W.hideAll h (trk h H)
theorem qc(h:Heap)(H:Hp):(km h H).objs.size=h.objs.size:=PySem.W.hideAll_size _ _
theorem rY{h:Heap}{H:Hp}{b:Addr}{o:Obj}(e:h.get? b=some o)(n:H b=none):(km h H).get? b=some o :=
 PySem.W.hideAll_get _ e λa=>by
  have q:(H b).isSome=true:=(mem_filter.mp a).2;rw[n]at q;simp at q
theorem t8{h:Heap}{H:Hp}{b:Addr}{o:Obj}(e:(km h H).get? b=some o):h.get? b=some o/\H b=none:=by
 have a:h.get? b=some o:=PySem.W.of_hideAll (trk h H) e;refine⟨a,?_⟩;cases q:H b with
 | none=>rfl
 | some x =>
  have c:b∈trk h H:=mem_filter.mpr ⟨mem_range.mpr (Heap.lt_size a),by simp[q]⟩;have z:(km h H).get? b=none:=PySem.W.hideAll_none (trk h H) c;rw[z]at e;cases e
def uw(g h:Heap)(L:Addr):List (Addr×Obj):=(List.range h.objs.size).filterMap λa=>if a=L\/(g.get? a).isSome=true then none else (h.get? a).map λo=>(a,o)
def rest(g h:Heap)(L d:Addr):List (Addr×Obj):=(uw g h L).filter λp=>decide (p.1≠d)
structure Mod(K:Frag)(mg:Str->Option Value)(base:Heap):Prop where
 kin:K.In base
 glob:base.Ns mainGlobals mg
 blt:∃ mb,base.Ns builtinsNs mb/\∀ x:Str,x ≠ "__name__" -> mb x=bootBuiltins x
 nolimit:base.NoLimit
structure Cx where
 prog:Program
 w:World
 K:Frag
 mg:Str->Option Value
 base:Heap
 A:Around
 N:List Str
 s₀:Shared
 H₀:Hp
 env:Env
 outer:List Env
 stack:List Env
 ex:List Addr
 fn:Str->Bool
 calm:Bool
 pn:List (Addr×Obj)
 xe:Value->Shared->Prop
def frs(l:List Env):List Addr:=l.filterMap (·.frame)
abbrev Cx.fs(X:Cx):List Addr:=frs X.outer
def Vis(sc:Scope)(x:Str):Prop:=sc.names.lookup x = some .local\/sc.names.lookup x = some .cell\/sc.names.lookup x = some .free
def Loc(sc:Scope)(x:Str):Prop:=sc.names.lookup x = some .local\/sc.names.lookup x = some .cell
def xQ(env:Env)(h:Heap)(m:Str->Option Value)(x:Str)(u:Value):Prop :=
 (env.kindOf x = some .local/\m x = some u)\/((env.kindOf x = some .cell\/env.kindOf x = some .free)/\∃ c,env.cells.lookup x = some c/\h.IsCell c (some u))
structure Cx.Ok(X:Cx):Prop where
 mod:Mod X.K X.mg X.base
 kind:X.env.scope.kind=.function
 glob:X.env.globals=mainGlobals
 blt:X.env.builtins=builtinsNs
 above:X.s₀.heap.objs.size<=X.env.locals
 inj:∀ x y c,X.env.cells.lookup x=some c->X.env.cells.lookup y=some c->x=y
 has:∀ x,(X.env.kindOf x=some .cell\/X.env.kindOf x=some .free)->∃ c,X.env.cells.lookup x=some c
 cab:∀ x c,X.fn x=true->X.env.cells.lookup x=some c->X.s₀.heap.objs.size<=c
 hd:X.calm=true->X.A.handled=none
 frames:X.A.frames=some X.stack
 stk:X.stack = X.outer\/(X.stack = X.env :: X.outer/\X.env.frame = some X.env.locals)
 exf:∀ b ∈ X.ex,b≠X.env.locals/\∀ x c,X.env.cells.lookup x = some c->c≠b
 bs:∀ b o,X.base.get? b=some o->X.s₀.heap.get? b=some o/\X.H₀ b=none
 bsz:X.base.objs.size<=X.s₀.heap.objs.size
 noex:∀ b o,X.base.get? b=some o->b ∉ X.ex
 exfs:∀ b∈X.ex,b ∉ X.fs
 funs:X.s₀.heap.FunFrames X.base X.outer
 frf:∀ b∈X.fs,X.H₀ b=none
structure Inv(X:Cx)(pins:List (Addr×Obj))(σ:List (Option V))(H:Hp)(s:Shared):Prop where
 ok:X.Ok
 os:s.os=X.s₀.os
 bare:AllBare s.gens
 base:Un X.fs X.ex X.H₀ H X.s₀.heap s.heap
 loc:∃ m,s.heap.Ns X.env.locals m/\∀(i:Nat) (x:Str) (v:V),X.N[i]? = some x->σ[i]? = some (some v)->Vis X.env.scope x->∃ u,RelV v u/\xQ X.env s.heap m x u
 cell:∀ x c,X.env.cells.lookup x=some c->∃ v,s.heap.IsCell c v
 free:H X.env.locals = none
 freeC:∀ x c,X.env.cells.lookup x=some c->H c=none
 pin:∀ p ∈ X.pn ++ pins,s.heap.get? p.1 = some p.2/\H p.1 = none/\p.1≠X.env.locals/\p.1 ∉ X.fs/\∀ v,p.2.data≠.cell v
 hok:HOk X.prog X.w H s.heap
 len:σ.length=X.N.length
section
variable {X:Cx}{pins:List (Addr×Obj)}{σ:List (Option V)}{H H':Hp}{s:Shared}{h':Heap}
theorem Cx.Ok.nofr(a:X.Ok){b:Addr}{o:Obj}(e:X.base.get? b=some o):b ∉ X.fs:=λc=>by
 have:=(a.funs.mem c).1;rw[e]at this;cases this
theorem Inv.bs(I:Inv X pins σ H s):∀ b o,X.base.get? b=some o->s.heap.get? b=some o/\H b=none:=λb o e =>
 ⟨I.base.keep b o (I.ok.bs b o e).1 (I.ok.bs b o e).2 (I.ok.nofr e) (I.ok.noex b o e),I.base.free b o (I.ok.bs b o e).1 (I.ok.bs b o e).2 (I.ok.noex b o e)⟩
theorem Inv.bk(I:Inv X pins σ H s):∀ b o,X.base.get? b=some o->s.heap.get? b=some o:=λb o e=>(I.bs b o e).1
theorem Inv.mod(I:Inv X pins σ H s):Mod X.K X.mg X.base:=I.ok.mod
theorem Inv.kIn(I:Inv X pins σ H s):X.K.In s.heap:=I.ok.mod.kin.keeps I.bk
theorem Inv.lt(I:Inv X pins σ H s):X.env.locals < s.heap.objs.size:=let ⟨_,hn,_⟩:=I.loc;hn.lt
theorem Inv.sz(I:Inv X pins σ H s):X.s₀.heap.objs.size<=s.heap.objs.size:=Nat.le_trans I.ok.above (Nat.le_of_lt I.lt)
theorem Inv.nofs(I:Inv X pins σ H s){a:Addr}(h:s.heap.objs.size<=a):a ∉ X.fs:=λc=>by
 obtain⟨_,o,b,_⟩:=I.ok.funs.mem c;exact absurd (Nat.lt_of_lt_of_le (Heap.lt_size b) (Nat.le_trans I.sz h)) (Nat.lt_irrefl _)
theorem Inv.cne(I:Inv X pins σ H s):∀ x c,X.env.cells.lookup x = some c->c≠X.env.locals:=λx c e z=>by
 obtain⟨v,o,d,f⟩:=I.cell x c e;obtain⟨m,⟨i,h,g,a,b,_⟩,_⟩:=I.loc;rw[z,a]at d;cases d;rw[b]at f;cases f
theorem Inv.funs(I:Inv X pins σ H s):s.heap.FunFrames X.base X.outer:=by
 have c:∀(l:List Env),(∀ b∈frs l,b∈X.fs)->X.s₀.heap.FunFrames X.base l->s.heap.FunFrames X.base l:=by
  intro l
  induction l with
  | nil=>intro _ _;trivial
  | cons env r ih =>
   intro g k;obtain⟨h,⟨L,o,a,p,j,m⟩,i⟩:=k;have f:L∈X.fs:=g L (by unfold frs;rw[filterMap_cons,a];exact mem_cons_self);obtain⟨q,e⟩:=I.base.slot L o j (I.ok.frf L f) f λz=>I.ok.exfs L z f
   exact⟨h,⟨L,_,a,p,e,m⟩,ih (λb d=>g b (by unfold frs;rw[filterMap_cons,a];exact mem_cons_of_mem _ d)) i⟩
 exact c X.outer (λ_ d=>d) I.ok.funs
theorem Inv.stack(I:Inv X pins σ H s):s.heap.FunFrames X.base X.stack:=by
 rcases I.ok.stk with e | ⟨e,a⟩
 .rw[e];exact I.funs
 .rw[e]
  obtain⟨m,b,_⟩:=I.loc;refine .cons (by rw[I.ok.kind];decide) a b ?_ I.funs;exact Heap.get?_none_of_le (Nat.le_trans I.ok.bsz I.ok.above)
theorem Inv.stkSub(I:Inv X pins σ H s):∀ b ∈ frs X.stack,b ∈ X.env.locals :: X.fs:=λb a=>by
 rcases I.ok.stk with e | ⟨e,c⟩
 .rw[e]at a;exact mem_cons_of_mem _ a
 .rw[e]at a
  unfold frs at a;rw[filterMap_cons,c]at a;exact a
theorem Inv.stkFree(I:Inv X pins σ H s):∀ b∈frs X.stack,H b=none:=λb hb=>by
 rcases mem_cons.mp (I.stkSub b hb) with e | hb
 .rw[e];exact I.free
 .obtain⟨_,o,a,_⟩:=I.ok.funs.mem hb
  exact I.base.free b o a (I.ok.frf b hb) λz=>I.ok.exfs b z hb
theorem Inv.step{g':Array GenState}{t':Nat}{d':Drawn}{ch:List Addr}(I:Inv X pins σ H s)
  (j:∀ b ∈ ch,(b ∈ X.ex\/X.s₀.heap.objs.size<=b)/\b≠X.env.locals/\(∀ x c,X.env.cells.lookup x = some c->c≠b)/\∀ p ∈ X.pn ++ pins,p.1≠b)
  (h:∀ b o,b≠X.env.locals->b ∉ X.fs->b ∉ ch->s.heap.get? b = some o->H b = none->h'.get? b = some o)
  (B:∀ b o,b≠X.env.locals->b ∈ X.fs->b ∉ ch->s.heap.get? b = some o->H b = none->∃ sl,h'.get? b = some { o with slots:=sl }) (f:∀ b o,b ∉ ch->s.heap.get? b = some o->H b = none->H' b = none)
  (C:∀ b o,b ∉ ch->s.heap.get? b=some o->∃ o',h'.get? b=some o')
  (F:∀ b xs,H b=some (.tup xs)->H' b=some (.tup xs)) (K:∀ b o u,H b=some (.frz o u)->H' b=some (.frz o u)) (L:∀ b ps,H b=some (.tbl ps)->∃ more,H' b=some (.tbl (ps++more)))
  (ns:∀ m,s.heap.Ns X.env.locals m->h'.Ns X.env.locals m) (N:HOk X.prog X.w H' h') (W:AllBare g') :
  Inv X pins σ H' { s with heap:=h',gens:=g',drawn:=d',toks:=t' }:=by
 have J:∀ b o,X.s₀.heap.get? b = some o->b≠X.env.locals:=λb o e=>Nat.ne_of_lt (Nat.lt_of_lt_of_le (Heap.lt_size e) I.ok.above)
 have A:∀ b o,X.s₀.heap.get? b=some o->b ∉ X.ex->b ∉ ch:=λb o e a D=>by
  rcases(j b D).1 with z | z
  .exact a z
  .exact absurd (Nat.lt_of_lt_of_le (Heap.lt_size e) z) (Nat.lt_irrefl _)
 have w:∀ x c,X.env.cells.lookup x=some c->∀ v,s.heap.IsCell c v->h'.IsCell c v:=λx c e v ⟨o,E,O⟩=>by
  have g:c ∉ ch:=λz=>(j c z).2.2.1 x c e rfl
  by_cases hc:c∈X.fs
  .obtain⟨sl,q⟩:=B c o (I.cne x c e) hc g E (I.freeC x c e)
   exact⟨_,q,O⟩
  .exact⟨o,h c o (I.cne x c e) hc g E (I.freeC x c e),O⟩
 refine⟨I.ok,I.os,W,⟨λb o e n D a=>?_,λb o e n D a=>?_,λb o e n a=>?_,λb o e a=>?_,λb xs e=>F b xs (I.base.tups b xs e),λb o xs e=>K b o xs (I.base.frzs b o xs e),λb ps e=>?_⟩,?_,λx c e=>?_,?_,λx c e=>?_,λp hp=>?_,N,I.len⟩
 .exact h b o (J b o e) D (A b o e a) (I.base.keep b o e n D a) (I.base.free b o e n a)
 .obtain⟨sl,y⟩:=I.base.slot b o e n D a
  obtain⟨M,G⟩:=B b _ (J b o e) D (A b o e a) y (I.base.free b o e n a);exact⟨M,G⟩
 .obtain⟨o',y⟩:=I.base.there b o e a
  exact f b o' (A b o e a) y (I.base.free b o e n a)
 .obtain⟨o',y⟩:=I.base.there b o e a
  exact C b o' (A b o e a) y
 .obtain⟨R,y⟩:=I.base.tbls b ps e
  obtain⟨S,G⟩:=L b _ y;exact⟨R++S,by rw[G,Array.append_assoc]⟩
 .obtain⟨m,Z,Y⟩:=I.loc
  refine⟨m,ns m Z,λi x v y G T=>?_⟩;obtain⟨u,r,l⟩:=Y i x v y G T;refine⟨u,r,?_⟩
  rcases l with l | ⟨k,c,e,z⟩
  .exact .inl l
  .exact .inr ⟨k,c,e,w x c e _ z⟩
 .obtain⟨v,z⟩:=I.cell x c e
  exact⟨v,w x c e v z⟩
 .obtain⟨m,⟨o,_,_,E,_⟩,_⟩:=I.loc
  exact f _ o (λz=>(j _ z).2.1 rfl) E I.free
 .obtain⟨v,o,E,O⟩:=I.cell x c e
  exact f c o (λz=>(j c z).2.2.1 x c e rfl) E (I.freeC x c e)
 .obtain⟨e,n,Q,P,d⟩:=I.pin p hp
  have g:p.1 ∉ ch:=λz=>(j p.1 z).2.2.2 p hp rfl
  exact⟨h p.1 p.2 Q P g e n,f p.1 p.2 g e n,Q,P,d⟩
theorem Inv.un{t':Nat}(I:Inv X pins σ H s)(u:Un X.fs [] H H' s.heap h')(f:HOk X.prog X.w H' h'):Inv X pins σ H' { s with heap:=h',toks:=t' }:=by
 obtain⟨m,⟨o,l,j,g,r⟩,_⟩:=id I.loc;obtain⟨k,i⟩:=u.any g I.free (by simp)
 exact I.step (g':=s.gens) (d':=s.drawn) (ch:=[]) (λ_ z=>nomatch z) (λb o _ hb _ e n=>u.keep b o e n hb (by simp)) (λb o _ hb _ e n=>u.slot b o e n hb (by simp)) (λb o _ e n=>u.free b o e n (by simp)) (λb o _ e=>u.there b o e (by simp)) u.tups u.frzs u.tbls (λm' hm=>by
  obtain⟨p,c,d,a,h⟩:=hm;rw[g]at a;cases a
  exact⟨_,c,d,i,h⟩) f I.bare
theorem Inv.call{g':Array GenState}{t':Nat}{d':Drawn}{ch:List Addr}(I:Inv X pins σ H s)(u:Un (frs X.stack) ch H H' s.heap h')(i:HOk X.prog X.w H' h')(l:AllBare g')
  (d:∀ b ∈ ch,(b ∈ X.ex\/X.s₀.heap.objs.size<=b)/\b≠X.env.locals/\(∀ x c,X.env.cells.lookup x = some c->c≠b)/\∀ p ∈ X.pn ++ pins,p.1≠b) :
  Inv X pins σ H' { s with heap:=h',gens:=g',drawn:=d',toks:=t' }:=by
 obtain⟨m,⟨o,A,w,k,r⟩,_⟩:=id I.loc;obtain⟨y,j⟩:=u.any k I.free λz=>(d _ z).2.1 rfl
 exact I.step (ch:=ch) d (λb o j v a e n=>u.keep b o e n (λz=>(mem_cons.mp (I.stkSub b z)).elim j v) a) (λb o _ _ a e n=>u.any e n a) (λb o a e n=>u.free b o e n a) (λb o a e=>u.there b o e a) u.tups u.frzs u.tbls (λm' hm=>by
  obtain⟨B,g,h,f,q⟩:=hm;rw[k]at f;cases f
  exact⟨_,g,h,j,q⟩) i l
theorem Inv.turned{t':Nat}{a:Addr}(I:Inv X pins σ H s)(k:∀ b o,b≠a->s.heap.get? b = some o->h'.get? b = some o)(A:H a = none)(g:a≠X.env.locals)
  (i:a∈X.ex\/X.s₀.heap.objs.size<=a) (y:∀ x c,X.env.cells.lookup x=some c->c≠a) (w:∀ p∈X.pn++pins,p.1≠a):Inv X pins σ H { s with heap:=h',toks:=t' }:=by
 have f:∀ b u,H b=some u->b≠a:=λb u e z=>by rw[z,A]at e;cases e
 refine I.step (g':=s.gens) (d':=s.drawn) (ch:=[a]) (λb B=>?_) (λb o _ _ d e _=>k b o (λz=>d (by simp[z])) e) (λb o _ _ d e _=>⟨o.slots,k b o (λz=>d (by simp[z])) e⟩) (λ_ _ _ _ n=>n)
  (λb o d e=>⟨o,k b o (λz=>d (by simp[z])) e⟩) (λ_ _ e=>e) (λ_ _ _ e=>e) (λb ps e=>⟨#[],by rw[e];simp⟩) (λm hm=>?_) (λb u e=>?_) I.bare
 .have e:b=a:=by simpa using B
  subst e;exact⟨i,g,y,w⟩
 .obtain⟨o,l,h,j,r⟩:=hm
  exact⟨o,l,h,k _ o (Ne.symm g) j,r⟩
 .refine(I.hok b u e).stay (λc v d q=>k c v ?_ q) (λ_ q=>q) λ_ _ q=>q
  rcases d with z | z
  .rw[z];exact f b u e
  .exact f c _ z
theorem Inv.tok(I:Inv X pins σ H s)(t:Nat):Inv X pins σ H { s with toks:=t }:=I.un (h':=s.heap) (t':=t) Un.refl I.hok
theorem Inv.kept{t':Nat}(I:Inv X pins σ H s)(k:∀ b u,s.heap.get? b=some u->h'.get? b=some u):Inv X pins σ H { s with heap:=h',toks:=t' }:=I.un (Un.kept k) (I.hok.kept k)
theorem Inv.laid{a:Addr}{o:HO}{t':Nat}(I:Inv X pins σ H s)(k:∀ b u,s.heap.get? b=some u->h'.get? b=some u)(d:s.heap.objs.size<=a)(c:ObjOk X.prog X.w (upd H a o) h' a o) :
  Inv X pins σ (upd H a o) { s with heap:=h',toks:=t' }:=I.un (Un.laid k d (I.hok.fresh d)) (I.hok.laid k d c)
theorem Inv.write{x e:Addr}{o:HO}{t':Nat}(I:Inv X pins σ H s)(f:Mut (H x))(d:e=x\/H e=some (.own x))(k:∀ b u,b≠e->s.heap.get? b=some u->h'.get? b=some u)(a:∃ u,h'.get? e=some u)
  (c:ObjOk X.prog X.w (upd H x o) h' x o):Inv X pins σ (upd H x o) { s with heap:=h',toks:=t' }:=I.un (Un.write f d k a) (I.hok.write f d k a c)
theorem Inv.weak{a:List (Option V)}(I:Inv X pins σ H s)(d:a.length=σ.length)(w:∀(i:Nat) v,a[i]? = some (some v)->σ[i]? = some (some v)):Inv X pins a H s :=
 ⟨I.ok,I.os,I.bare,I.base,let ⟨m,hn,hl'⟩:=I.loc;⟨m,hn,λi x v c e b=>hl' i x v c (w i v e) b⟩,I.cell,I.free,I.freeC,I.pin,I.hok,d.trans I.len⟩
theorem Inv.pins_of{a:List (Addr×Obj)}(I:Inv X pins σ H s)(h:∀ p ∈ a,s.heap.get? p.1 = some p.2/\H p.1 = none/\p.1≠X.env.locals/\p.1 ∉ X.fs/\∀ v,p.2.data≠.cell v):Inv X a σ H s :=
 ⟨I.ok,I.os,I.bare,I.base,I.loc,I.cell,I.free,I.freeC,λp b=>(mem_append.mp b).elim (λz=>I.pin p (mem_append_left _ z)) (h p),I.hok,I.len⟩
theorem jA{N:List Str}(d:N.Nodup){i j:Nat}{x:Str}(a:N[i]? = some x)(b:N[j]? = some x):i=j:=by
 obtain⟨f,c⟩:=List.getElem?_eq_some_iff.mp a;obtain⟨g,e⟩:=List.getElem?_eq_some_iff.mp b;exact(List.getElem_inj d).mp (c.trans e.symm)
theorem ky{M:Model}{A:Around}{E:Value->Shared->Prop}{i:Nat}{x:Str}{v:V}{u:Value}{Q:Unit->Shared->Prop}(I:Inv X pins σ H s)(hN:X.N.Nodup)(L:X.N[i]? = some x)(w:Loc X.env.scope x)(r:RelV v u)
  (h:∀ s',Inv X pins (σ.set i (some v)) H s'->(∃ a,Heap.SameBut a s.heap s'.heap/\(a = X.env.locals\/X.env.cells.lookup x = some a))->Q () s') (hf:X.fn x = true\/X.env.scope.names.lookup x = some .local:=by first | exact .inl rfl | exact .inr rfl | assumption):wpAny M A (storeName X.env x u) Q E s:=by
 obtain⟨m,hn,hl⟩:=id I.loc;have O:(X.env.scope.kind == .class || (X.env.scope.kind == .module && X.env.locals != X.env.globals)) = false:=by rw[I.ok.kind];rfl
 have C:i<σ.length:=by rw[I.len];exact(List.getElem?_eq_some_iff.mp L).1
 have D:=I.cne
 have l:∀{a:Addr}{J:Heap},(∃ o,s.heap.get? a=some o/\H a=none)->Heap.SameBut a s.heap J->HOk X.prog X.w H J:=λ{a J} ha f b ob e=>by
  obtain⟨_,_,B⟩:=ha;refine(I.hok b ob e).stay (λc T hc q=>(f.2 c ?_).trans q) (λ_ q=>q) λ_ _ q=>q
  rintro rfl
  rcases hc with rfl | hc
  .rw[B]at e;cases e
  .rw[B]at hc;cases hc
 rcases w with hk | hk
 .refine wpAny_storeName_local hk hn (λJ ab f=>?_) O
  obtain⟨oL,_,_,ad,_⟩:=id hn;refine h _ ⟨I.ok,I.os,I.bare,⟨λb o e n G w=>?_,λb o e n G w=>?_,I.base.free,λb o e w=>?_,I.base.tups,I.base.frzs,I.base.tbls⟩,⟨_,ab,λj y v' g e2 e3=>?_⟩,λy c e=>?_,I.free,I.freeC,λp hp=>?_,l ⟨oL,ad,I.free⟩ f,by simpa using I.len⟩ ⟨_,f,.inl rfl⟩
  .exact(f.2 b (Nat.ne_of_lt (Nat.lt_of_lt_of_le (Heap.lt_size e) I.ok.above))).trans (I.base.keep b o e n G w)
  .obtain⟨sl,g⟩:=I.base.slot b o e n G w
   exact⟨sl,(f.2 b (Nat.ne_of_lt (Nat.lt_of_lt_of_le (Heap.lt_size e) I.ok.above))).trans g⟩
  .obtain⟨Z,g⟩:=I.base.there b o e w
   exact⟨Z,(f.2 b (Nat.ne_of_lt (Nat.lt_of_lt_of_le (Heap.lt_size e) I.ok.above))).trans g⟩
  .by_cases hj:j=i
   .subst hj
    rw[L]at g;cases g;rw[List.getElem?_set_self C]at e2;cases e2;exact⟨u,r,.inl ⟨hk,by simp⟩⟩
   .rw[List.getElem?_set_ne (Ne.symm hj)]at e2
    obtain⟨u',Y,q⟩:=hl j y v' g e2 e3;refine⟨u',Y,?_⟩
    rcases q with⟨k,e⟩ | ⟨k,c,e,z⟩
    .refine .inl ⟨k,?_⟩
     have:y≠x:=λe=>hj (jA hN g (e ▸ L))
     simp[this,e]
    .exact .inr ⟨k,c,e,z.sameBut f (D y c e)⟩
  .obtain⟨T,z⟩:=I.cell y c e
   exact⟨T,z.sameBut f (D y c e)⟩
  .obtain⟨e,n,R,W,d⟩:=I.pin p hp
   exact⟨(f.2 p.1 R).trans e,n,R,W,d⟩
 .have F:X.fn x=true:=by
   rcases hf with z | z
   .exact z
   .rw[z]at hk;cases hk
  obtain⟨c,hc⟩:=I.ok.has x (.inl hk);obtain⟨T,z⟩:=I.cell x c hc;refine wpAny_storeName_cell I.ok.kind hk hc z (λJ N f=>?_);obtain⟨oc,K,P⟩:=id z;refine h { s with heap:=J } ⟨I.ok,I.os,I.bare,⟨λb o e n G w=>?_,λb o e n G w=>?_,I.base.free,λb o e w=>?_,I.base.tups,I.base.frzs,I.base.tbls⟩,⟨m,hn.sameBut f (Ne.symm (D x c hc)),λj y v' g e2 e3=>?_⟩,λy S e=>?_,I.free,I.freeC,λp hp=>?_,l ⟨oc,K,I.freeC x c hc⟩ f,by simpa using I.len⟩ ⟨c,f,.inr hc⟩
  .exact(f.2 b (Nat.ne_of_lt (Nat.lt_of_lt_of_le (Heap.lt_size e) (I.ok.cab x c F hc)))).trans (I.base.keep b o e n G w)
  .obtain⟨sl,g⟩:=I.base.slot b o e n G w
   exact⟨sl,(f.2 b (Nat.ne_of_lt (Nat.lt_of_lt_of_le (Heap.lt_size e) (I.ok.cab x c F hc)))).trans g⟩
  .obtain⟨Z,g⟩:=I.base.there b o e w
   exact⟨Z,(f.2 b (Nat.ne_of_lt (Nat.lt_of_lt_of_le (Heap.lt_size e) (I.ok.cab x c F hc)))).trans g⟩
  .by_cases hj:j=i
   .subst hj
    rw[L]at g;cases g;rw[List.getElem?_set_self C]at e2;cases e2;exact⟨u,r,.inr ⟨.inl hk,c,hc,N⟩⟩
   .rw[List.getElem?_set_ne (Ne.symm hj)]at e2
    obtain⟨u',Y,q⟩:=hl j y v' g e2 e3;refine⟨u',Y,?_⟩
    rcases q with q | ⟨k,S,e,z'⟩
    .exact .inl q
    .refine .inr ⟨k,S,e,z'.sameBut f ?_⟩
     rintro rfl;exact hj (jA hN g (I.ok.inj _ _ _ e hc ▸ L))
  .by_cases hcc:S=c
   .subst hcc;exact⟨_,N⟩
   .obtain⟨w2,z2⟩:=I.cell y S e
    exact⟨w2,z2.sameBut f hcc⟩
  .obtain⟨e,n,R,W,d⟩:=I.pin p hp
   refine⟨(f.2 p.1 ?_).trans e,n,R,W,d⟩;intro q;rw[q,K]at e;have q':oc=p.2:=Option.some.inj e;exact d T (by rw[<- q'];exact P)
theorem gu{M:Model}{A:Around}{E:Value->Shared->Prop}{i:Nat}{x:Str}{v:V}{u:Value}{Q:Unit->Shared->Prop}(I:Inv X pins σ H s)(c:X.N.Nodup)(e:X.N[i]? = some x)(a:Loc X.env.scope x)(r:RelV v u)
  (h:∀ s',Inv X pins (σ.set i (some v)) H s'->Q () s') (d:X.fn x = true\/X.env.scope.names.lookup x = some .local:=by first | exact .inl rfl | exact .inr rfl | assumption):wpAny M A (storeName X.env x u) Q E s :=
 ky I c e a r (λs' b _=>h s' b) d
theorem Inv.call'{a:Shared}{ch:List Addr}(I:Inv X pins σ H s)(g:a.os=s.os)(u:Un (frs X.stack) ch H H' s.heap a.heap)(d:HOk X.prog X.w H' a.heap)(h:AllBare a.gens)
  (f:∀ b ∈ ch,(b ∈ X.ex\/X.s₀.heap.objs.size<=b)/\b≠X.env.locals/\(∀ x c,X.env.cells.lookup x = some c->c≠b)/\∀ p ∈ X.pn ++ pins,p.1≠b):Inv X pins σ H' a:=by
 obtain⟨j,g',d',t',i⟩:=a;have e:i=s.os:=g;subst e;exact I.call (g':=g') (t':=t') (d':=d') u d h f
end
abbrev XK:=Value->Option Addr->Hp->Prop
abbrev St:=List (Option V)
abbrev VK:=V->Hp->Prop
abbrev TE:=St->Hp->VK->Prop
abbrev TT:=St->Hp->(Bool->Hp->Prop)->Prop
abbrev TA:=St->Hp->(List V->Hp->Prop)->Prop
structure Ends where
 nx:St->Hp->Prop
 rt:VK
 bk:St->Hp->Prop:=λ_ _=>False
 ct:St->Hp->Prop:=λ_ _=>False
abbrev TS:=Ends->St->Hp->Prop
def EP(X:Cx)(pins:List (Addr×Obj))(σ:St)(Q:VK)(u:Value)(s':Shared):Prop:=∃ v H',Inv X pins σ H' s'/\RelV v u/\Q v H'
def TP(X:Cx)(pins:List (Addr×Obj))(σ:St)(Q:Bool->Hp->Prop)(b:Bool)(s':Shared):Prop:=∃ H',Inv X pins σ H' s'/\Q b H'
def AP(X:Cx)(pins:List (Addr×Obj))(σ:St)(Q:List V->Hp->Prop)(us:List Value)(s':Shared):Prop:=∃ vs H',Inv X pins σ H' s'/\Vals vs us/\Q vs H'
def SP(X:Cx)(pins:List (Addr×Obj))(D:Ends)(f:Flow)(s':Shared):Prop :=
 match f with
 | .next=>∃ σ' H',Inv X pins σ' H' s'/\D.nx σ' H'
 | .brk=>∃ σ' H',Inv X pins σ' H' s'/\D.bk σ' H'
 | .cont=>∃ σ' H',Inv X pins σ' H' s'/\D.ct σ' H'
 | .ret u=>∃ v σ' H',Inv X pins σ' H' s'/\RelV v u/\D.rt v H'
def PE(X:Cx)(e:Expr)(t:TE):Prop :=
 ∀(pins:List (Addr×Obj)) (s:Shared) (σ:St) (H:Hp) (Q:VK),Inv X pins σ H s->t σ H Q->wpAny (model X.prog X.w) X.A (eval e X.env) (EP X pins σ Q) X.xe s
def PT(X:Cx)(e:Expr)(t:TT):Prop :=
 ∀(pins:List (Addr×Obj)) (s:Shared) (σ:St) (H:Hp) (Q:Bool->Hp->Prop),Inv X pins σ H s->t σ H Q->wpAny (model X.prog X.w) X.A (isTrue e X.env (eval e X.env)) (TP X pins σ Q) X.xe s
def PW(X:Cx)(e:Expr)(t:TT):Prop :=
 ∀(whole:Sem Value) (pins:List (Addr×Obj)) (s:Shared) (σ:St) (H:Hp) (Q:Bool->Hp->Prop),Inv X pins σ H s->t σ H Q->wpAny (model X.prog X.w) X.A (isTrue e X.env whole) (TP X pins σ Q) X.xe s
theorem PW.pt{X:Cx}{e:Expr}{t:TT}(h:PW X e t):PT X e t:=h _
def PA(X:Cx)(es:List Expr)(t:TA):Prop :=
 ∀(pos:Pos) (pins:List (Addr×Obj)) (s:Shared) (σ:St) (H:Hp) (Q:List V->Hp->Prop),Inv X pins σ H s->t σ H Q->wpAny (model X.prog X.w) X.A (spliced (backTo pos (starEach es X.env))) (AP X pins σ Q) X.xe s
def PS(X:Cx)(st:Stmt)(t:TS):Prop :=
 ∀(pins:List (Addr×Obj)) (s:Shared) (σ:St) (H:Hp) (D:Ends),Inv X pins σ H s->t D σ H->wpAny (model X.prog X.w) X.A (exec st X.env) (SP X pins D) X.xe s
def PSs(X:Cx)(st:List Stmt)(t:TS):Prop :=
 ∀(pins:List (Addr×Obj)) (s:Shared) (σ:St) (H:Hp) (D:Ends),Inv X pins σ H s->t D σ H->wpAny (model X.prog X.w) X.A (execs st X.env) (SP X pins D) X.xe s
theorem thn{b:Type}{t:Sem b}{Q c:b->Shared->Prop}{M:Model}{A:Around}{E:Value->Shared->Prop}{s:Shared}(h:wpAny M A t Q E s)(d:∀ a s,Q a s->c a s):wpAny M A t c E s:=wpAny_mono h d λ_ _ x=>x
section
variable {X:Cx}
def xD(i:Nat):TE:=λσ H Q=>∃ v,σ[i]? = some (some v)/\Q v H
def tC(v:V):TE:=λ_ H Q=>Q v H
theorem vK{i:Nat}{x:Str}{g:Pos}(w:X.N[i]? = some x)(y:Vis X.env.scope x)(j:(x == ("__debug__" : Str))=false:=by decide)(f:(x == ("__classdict__" : Str))=false:=by decide):PE X (.Name x g) (xD i):=by
 intro d s p H Q I h;obtain⟨v,e,h⟩:=h;obtain⟨m,z,q⟩:=I.loc;obtain⟨u,r,l⟩:=q i x v w e y
 have b:EP X d p Q u s:=⟨v,H,I,r,h⟩
 rcases l with⟨hk,o⟩ | ⟨hk,c,k,a⟩
 .exact wpAny_Name (wpAny_loadName_local I.ok.kind hk z o b) j
 .rcases hk with hk | hk
  .exact wpAny_Name (wpAny_loadName_cell I.ok.kind hk k a b) j
  .exact wpAny_Name (wpAny_loadName_free I.ok.kind hk k a b f) j
theorem ag{i j pos}:PE X (.Constant (.int i) j pos) (tC (.int i)):=λ_ _ _ H _ I h=>wpAny_Constant_int ⟨.int i,H,I.tok _,⟨_,rfl⟩,h⟩
theorem fW{b j pos}:PE X (.Constant (.bool b) j pos) (tC (.bl b)):=λ_ _ _ H _ I h=>Constant_bool ⟨.bl b,H,I,rfl,h⟩
theorem vR{j pos}:PE X (.Constant .none j pos) (tC .non):=λ_ _ _ H _ I h=>Constant_none ⟨.non,H,I,rfl,h⟩
theorem aM{x j pos}:PE X (.Constant (.str x) j pos) (tC (.str x)):=λ_ _ _ H _ I h=>Calls.Constant_str ⟨.str x,H,I.tok _,⟨_,rfl⟩,h⟩
def Gl(X:Cx)(x:Str):Prop:=X.env.kindOf x=some .globalImplicit
theorem jq{E:Value->Shared->Prop}{a:List (Addr×Obj)}{s:Shared}{d:St}{H:Hp}{x:Str}{u:Value}{b:Pos}{Q:Value->Shared->Prop}(I:Inv X a d H s)(e:Gl X x)(c:X.mg x=some u)(h:Q u s)
  (f:(x == ("__debug__" : Str))=false:=by decide):wpAny (model X.prog X.w) X.A (eval (.Name x b) X.env) Q E s :=
 Calls.Name_function_global I.ok.kind e (Calls.loadGlobal_global (by rw[I.ok.glob];exact I.mod.glob.keeps I.bk) c h) f
theorem fO{E:Value->Shared->Prop}{a:List (Addr×Obj)}{s:Shared}{e:St}{H:Hp}{x:Str}{u:Value}{b:Pos}{Q:Value->Shared->Prop}(I:Inv X a e H s)(f:Gl X x)(c:X.mg x=none)(g:bootBuiltins x=some u)(h:Q u s)
  (j:x ≠ "__name__" := by decide) (k:(x == ("__debug__" : Str))=false:=by decide):wpAny (model X.prog X.w) X.A (eval (.Name x b) X.env) Q E s:=by
 obtain⟨l,d,i⟩:=I.mod.blt;exact Calls.Name_function_global I.ok.kind f (Calls.loadGlobal_builtin (by rw[I.ok.glob];exact I.mod.glob.keeps I.bk) c (by rw[I.ok.blt];exact d.keeps I.bk) ((i x j).trans g) h) k
theorem uq{x:Str}{v:V}{u:Value}{a:Pos}(c:Gl X x)(b:X.mg x=some u)(r:RelV v u)(d:(x == ("__debug__" : Str))=false:=by decide):PE X (.Name x a) (tC v) :=
 λ_ _ _ H _ I h=>jq I c b ⟨v,H,I,r,h⟩ d
theorem pF{x:Str}{v:V}{u:Value}{a:Pos}(c:Gl X x)(b:X.mg x=none)(d:bootBuiltins x=some u)(r:RelV v u)(e:x ≠ "__name__" := by decide)(f:(x == ("__debug__" : Str))=false:=by decide):PE X (.Name x a) (tC v) :=
 λ_ _ _ H _ I h=>fO I c b d ⟨v,H,I,r,h⟩ e f
variable {a b:Expr}{ta tb:TE}{pos:Pos}
variable {tA tB':TT}{rest:List Expr}
def xP(t u:TT):TT:=λσ H Q=>t σ H λc H1=>if c=true then u σ H1 Q else Q false H1
def tOr(t u:TT):TT:=λσ H Q=>t σ H λc H1=>if c=true then Q true H1 else u σ H1 Q
def xH(t:TT):TT:=λσ H Q=>t σ H λc H1=>Q (!c) H1
theorem iz(f:PT X a tA):PW X (.BoolOp .And [a] pos) tA:=by
 intro g b s d H Q I h;refine isTrue_and (thn (f b s d H Q I h) λc i e=>?_);cases c with
 | true=>exact isTrue_and_nil e
 | false=>exact e
theorem lL(f:PT X a tA):PW X (.BoolOp .Or [a] pos) tA:=by
 intro g b s d H Q I h;refine isTrue_or (thn (f b s d H Q I h) λc i e=>?_);cases c with
 | false=>exact isTrue_or_nil e
 | true=>exact e
theorem jN(j:PT X a tA)(m:PW X (.BoolOp .And (b::rest) pos) tB'):PW X (.BoolOp .And (a::b::rest) pos) (xP tA tB'):=by
 intro k d s g H Q I h;refine isTrue_and (thn (j d s g H _ I h) λc l ⟨e,f,i⟩=>?_);cases c with
 | true=>exact m k d l g e Q f i
 | false=>exact⟨e,f,i⟩
theorem nQ(j:PT X a tA)(m:PW X (.BoolOp .Or (b::rest) pos) tB'):PW X (.BoolOp .Or (a::b::rest) pos) (tOr tA tB'):=by
 intro k d s g H Q I h;refine isTrue_or (thn (j d s g H _ I h) λc l ⟨e,f,i⟩=>?_);cases c with
 | true=>exact⟨e,f,i⟩
 | false=>exact m k d l g e Q f i
theorem d9(d:PT X a tA):PT X (.UnaryOp .Not a pos) (xH tA):=by
 intro b s e H Q I h;exact isTrue_not (d b s e H (λc f=>Q (!c) f) I h)
theorem vN{op}{t:TE}(h:PE X a t):PE X (.BoolOp op [a] pos) t:=λb s c H Q I d=>BoolOp_one (h b s c H Q I d)
def tIf(t:TT)(ta tb:TE):TE:=λσ H Q=>t σ H λc H1=>if c=true then ta σ H1 Q else tb σ H1 Q
theorem rM{c:Expr}(m:PT X c tA)(l:PE X a ta)(o:PE X b tb):PE X (.IfExp c a b pos) (tIf tA ta tb):=by
 intro e s f H Q I h;refine wpAny_IfExp (thn (m e s f H _ I h) λd k ⟨g,i,j⟩=>?_);cases d with
 | true=>exact l e k f g Q i j
 | false=>exact o e k f g Q i j
end
def SqL(K:Frag)(H:Hp)(a:Addr)(xs:List V):Prop :=
 Rd H a (.lst xs) \/
  ∃(o:Obj) (its:Array Value) (n:Nat),K.lookup a=some o/\o.cls=.type "list" /\ o.dict=none/\o.data=.seq its n/\its.size<=sizeLine/\Vals xs its.toList
def SqT(K:Frag)(H:Hp)(a:Addr)(xs:List V):Prop :=
 Rd H a (.tup xs) \/
  ∃(o:Obj) (its:Array Value) (n:Nat),K.lookup a=some o/\o.cls=.type "tuple" /\ o.data=.seq its n/\its.size<=sizeLine/\Vals xs its.toList
def yd:Value->Option V
 | .none=>some .non
 | .bool b=>some (.bl b)
 | .int i _=>some (.int i)
 | .str x _=>some (.str x)
 | .bytes b _=>some (.byt b)
 | .float b _=>some (.flt b)
 | .ref a=>some (.ref a)
 | .type n=>some (.ty n)
 | _=>none
theorem RelV.abs{x:V}{u:Value}(r:RelV x u):yd u=some x:=by
 cases x with
 | non=>cases r;rfl
 | bl _=>cases r;rfl
 | int _=>obtain⟨t,rfl⟩:=r;rfl
 | str _=>obtain⟨t,rfl⟩:=r;rfl
 | byt _=>obtain⟨t,rfl⟩:=r;rfl
 | flt _=>obtain⟨t,rfl⟩:=r;rfl
 | ref _=>cases r;rfl
 | ty _=>cases r;rfl
theorem RelV.inj{x y:V}{u:Value}(r:RelV x u)(q:RelV y u):x=y:=Option.some.inj (r.abs.symm.trans q.abs)
theorem Vals.inj:∀{xs ys:List V}{us:List Value},Vals xs us->Vals ys us->xs=ys
 | _,_,_,.nil,.nil=>rfl
 | _,_,_,.cons r t,.cons r' t'=>by rw[r.inj r',Vals.inj t t']
section
variable {X:Cx}{pins:List (Addr×Obj)}{σ:St}{H:Hp}{s:Shared}{a:Addr}{xs ys:List V}
theorem SqL.of{K:Frag}(h:H a=some (.lst xs)):SqL K H a xs:=.inl (.inl h)
theorem SqT.of{K:Frag}(h:H a=some (.tup xs)):SqT K H a xs:=.inl (.inl h)
theorem Inv.list(I:Inv X pins σ H s)(h:SqL X.K H a xs):∃ its:List Value,Vals xs its/\PlainL s.heap a its.toArray/\xs.length<=sizeLine:=by
 rcases h with h | ⟨o,its,n,b,d,f,c,g,r⟩
 .obtain⟨z,its,n,r,e⟩:=h.ok I.hok
  exact⟨its,r,⟨_,n,e,rfl,rfl,rfl⟩,z⟩
 .refine⟨its.toList,r,⟨o,n,I.kIn a o b,d,f,by simpa using c⟩,?_⟩
  have e:=r.length;simp only[Array.length_toList]at e;lia
theorem Inv.tuple(I:Inv X pins σ H s)(h:SqT X.K H a xs):∃ its:List Value,Vals xs its/\IsTup s.heap a its.toArray/\xs.length<=sizeLine:=by
 rcases h with h | ⟨o,its,n,b,c,d,f,r⟩
 .obtain⟨z,its,r,p⟩:=h.ok I.hok
  exact⟨its,r,p,z⟩
 .refine⟨its.toList,r,⟨o,I.kIn a o b,c,n,by simpa using d⟩,?_⟩
  have e:=r.length;simp only[Array.length_toList]at e;lia
theorem Inv.list_inj(I:Inv X pins σ H s)(h:SqL X.K H a xs)(h':SqL X.K H a ys):xs=ys:=by
 obtain⟨c,r,⟨o,n,e,_,_,d⟩,_⟩:=I.list h;obtain⟨b,i,⟨k,j,g,_,_,f⟩,_⟩:=I.list h';rw[e]at g;cases g;rw[d]at f;injection f with d1 _
 have:c=b:=by simpa using congrArg Array.toList d1
 subst this;exact r.inj i
theorem Inv.tuple_inj(I:Inv X pins σ H s)(h:SqT X.K H a xs)(h':SqT X.K H a ys):xs=ys:=by
 obtain⟨c,r,⟨o,e,_,n,d⟩,_⟩:=I.tuple h;obtain⟨b,i,⟨k,g,_,j,f⟩,_⟩:=I.tuple h';rw[e]at g;cases g;rw[d]at f;injection f with d1 _
 have:c=b:=by simpa using congrArg Array.toList d1
 subst this;exact r.inj i
end
abbrev Cx.wish(X:Cx)(E:Value->Shared->Prop):Cx:={ X with xe:=E }
abbrev Cx.nox(X:Cx):Cx:=X.wish λ_ _=>False
theorem Cx.Ok.wish{X:Cx}(a:X.Ok)(E:Value->Shared->Prop):(X.wish E).Ok :=
 ⟨a.mod,a.kind,a.glob,a.blt,a.above,a.inj,a.has,a.cab,a.hd,a.frames,a.stk,a.exf,a.bs,a.bsz,a.noex,a.exfs,a.funs,a.frf⟩
theorem Cx.Ok.unwish{X:Cx}{E:Value->Shared->Prop}(a:(X.wish E).Ok):X.Ok :=
 ⟨a.mod,a.kind,a.glob,a.blt,a.above,a.inj,a.has,a.cab,a.hd,a.frames,a.stk,a.exf,a.bs,a.bsz,a.noex,a.exfs,a.funs,a.frf⟩
section
variable {X:Cx}{pins:List (Addr×Obj)}{σ:St}{H:Hp}{s:Shared}{E:Value->Shared->Prop}
theorem Inv.wish(I:Inv X pins σ H s)(E:Value->Shared->Prop):Inv (X.wish E) pins σ H s:=⟨I.ok.wish E,I.os,I.bare,I.base,I.loc,I.cell,I.free,I.freeC,I.pin,I.hok,I.len⟩
theorem Inv.unwish(I:Inv (X.wish E) pins σ H s):Inv X pins σ H s:=⟨I.ok.unwish,I.os,I.bare,I.base,I.loc,I.cell,I.free,I.freeC,I.pin,I.hok,I.len⟩
theorem SP.unwish{D:Ends}{f:Flow}{c:Shared}(h:SP (X.wish E) pins D f c):SP X pins D f c:=by
 cases f with
 | next=>obtain⟨a,b,I,q⟩:=h;exact⟨a,b,I.unwish,q⟩
 | brk=>obtain⟨a,b,I,q⟩:=h;exact⟨a,b,I.unwish,q⟩
 | cont=>obtain⟨a,b,I,q⟩:=h;exact⟨a,b,I.unwish,q⟩
 | ret u=>obtain⟨v,a,b,I,r,q⟩:=h;exact⟨v,a,b,I.unwish,r,q⟩
theorem PSs.nox{st:List Stmt}{t:TS}(h:PSs X.nox st t):PSs X st t:=λa s b H D I c =>
 wpAny_mono (h a s b H D (I.wish _) c) (λ_ _ q=>q.unwish) λ_ _ z=>False.elim z
end
section
variable {X:Cx}{st:Stmt}{rest:List Stmt}{t u:TS}{e:Expr}{te:TE}{pos:Pos}
def xb:TS:=λD σ H=>D.nx σ H
def bA(t u:TS):TS:=λD σ H=>t { D with nx:=u D } σ H
theorem aH:PSs X [] xb:=λ_ _ a H _ I h=>wpAny_execs_nil ⟨a,H,I,h⟩
theorem ai(e:PS X st t)(i:PSs X rest u):PSs X (st::rest) (bA t u):=by
 intro a s g H D I h;refine wpAny_execs_cons (thn (e a s g H { D with nx:=u D } I h) λf j q=>?_);cases f with
 | next =>
  obtain⟨b,c,d,q⟩:=q;exact i a j b c D d q
 | ret v=>exact q
 | brk=>exact q
 | cont=>exact q
theorem aj(b:PS X st t):PSs X [st] t:=by
 intro a s c H D I h;refine wpAny_execs_cons (thn (b a s c H D I h) λf d q=>?_);cases f with
 | next=>exact wpAny_execs_nil q
 | ret v=>exact q
 | brk=>exact q
 | cont=>exact q
def vJ:TS:=λD σ H=>D.bk σ H
theorem ri:PS X (.Break pos) vJ:=λ_ _ a H _ I h=>wpAny_Break ⟨a,H,I,h⟩
theorem Inv.quiet{a:List (Addr×Obj)}{b:St}{H:Hp}{s:Shared}(I:Inv X a b H s):interactive X.env=false:=by simp[interactive,I.ok.kind]
def wZ(te:TE):TS:=λD σ H=>te σ H λ_ H1=>D.nx σ H1
theorem db(c:PE X e te)(g:swapsWith e none pos.line X.env=pure false:=by rfl):PS X (.Expr e pos) (wZ te):=by
 intro a s b H D I h;exact wpAny_Expr_any (thn (c a s b H _ I h) λv k ⟨x,d,f,j,i⟩=>⟨b,d,f,i⟩) I.quiet g
def yf(te:TE):TS:=λD σ H=>te σ H D.rt
theorem ay(c:PE X e te):PS X (.Return (some e) pos) (yf te):=by
 intro a s b H D I h;exact wpAny_Return_some (thn (c a s b H _ I h) λv j ⟨x,d,f,i,g⟩=>⟨x,b,d,f,i,g⟩)
def xU(c:TT)(t u:TS):TS:=λD σ H=>c σ H λb H1=>if b=true then t D σ H1 else u D σ H1
theorem aR{c:Expr}{a b:List Stmt}{k:TT}(o:PT X c k)(m:PSs X a t)(p:PSs X b u):PS X (.If c a b pos) (xU k t u):=by
 intro e s f H D I h;refine wpAny_If (thn (o e s f H _ I h) λd l ⟨g,i,j⟩=>?_);cases d with
 | true=>exact m e l f g D i j
 | false=>exact p e l f g D i j
def wD:TS:=λ_ _ _=>False
theorem gx:PS X st wD:=λ_ _ _ _ _ _ h=>h.elim
end
abbrev TG:=V->St->Hp->(St->Hp->Prop)->Prop
abbrev TGs:=List V->St->Hp->(St->Hp->Prop)->Prop
def PG(X:Cx)(target:Expr)(t:TG):Prop :=
 ∀(pins:List (Addr×Obj)) (s:Shared) (σ:St) (H:Hp) (v:V) (u:Value) (Q:St->Hp->Prop),Inv X pins σ H s->RelV v u->t v σ H Q ->
  wpAny (model X.prog X.w) X.A (assign target X.env u) (λ_ s'=>∃ σ' H',Inv X pins σ' H' s'/\Q σ' H') X.xe s
def PGs(X:Cx)(ts:List Expr)(t:TGs):Prop :=
 ∀(pins:List (Addr×Obj)) (s:Shared) (σ:St) (H:Hp) (vs:List V) (us:List Value) (Q:St->Hp->Prop),Inv X pins σ H s->Vals vs us->t vs σ H Q ->
  wpAny (model X.prog X.w) X.A (assignInOrder ((assignEach ts X.env).map (·.2)) us) (λ_ s'=>∃ σ' H',Inv X pins σ' H' s'/\Q σ' H') X.xe s
abbrev TIp:=V->V->Hp->VK->Prop
def PIp(X:Cx)(op:Operator)(t:TIp):Prop :=
 ∀(pins:List (Addr×Obj)) (s:Shared) (σ:St) (H:Hp) (x y:V) (v u:Value) (Q:VK),Inv X pins σ H s->RelV x v->RelV y u->t x y H Q ->
  wpAny (model X.prog X.w) X.A (inplaceOp op v u) (EP X pins σ Q) X.xe s
section
variable {X:Cx}{pos:Pos}
def rq(i:Nat):TG:=λv σ H Q=>Q (σ.set i (some v)) H
theorem aw{i:Nat}{x:Str}(d:X.N.Nodup)(f:X.N[i]? = some x)(b:Loc X.env.scope x)(e:X.fn x = true\/X.env.scope.names.lookup x = some .local:=by first | exact .inl rfl | exact .inr rfl | assumption):PG X (.Name x pos) (rq i):=by
 intro a s g H v u Q I r h;exact wpAny_assign_Name (gu I d f b r (λj c=>⟨_,H,c,h⟩) e)
def xJ:TGs:=λvs σ H Q=>vs=[]/\Q σ H
inductive gCons(t:TG)(u:TGs)(vs:List V)(σ:St)(H:Hp)(Q:St->Hp->Prop):Prop
 | mk(v:V)(r:List V)(h0:vs=v::r)(h1:t v σ H λσ' H'=>u r σ' H' Q):gCons t u vs σ H Q
theorem bi:PGs X [] xJ:=by
 intro a s b H c d Q I r h;obtain⟨e,h⟩:=h;subst e;cases r;exact assignInOrder_nil ⟨b,H,I,h⟩
theorem az{e:Expr}{es:List Expr}{t:TG}{u:TGs}(g:PG X e t)(l:PGs X es u)
  (f:(assignEach (e::es) X.env).map (·.2)=assign e X.env::(assignEach es X.env).map (·.2):=by rfl):PGs X (e::es) (gCons t u):=by
 intro a s j H o q Q I r h;obtain⟨v,p,i,h⟩:=h;subst i;cases r with
 | cons r rr =>
  rw[f];refine assignInOrder_cons (thn (g a s j H _ _ _ I r h) λ_ m ⟨b,c,d,k⟩=>?_);exact l a m b c _ _ Q d rr k
inductive gTup(K:Frag)(n:Nat)(t:TGs)(v:V)(σ:St)(H:Hp)(Q:St->Hp->Prop):Prop
 | mk(a:Addr)(xs:List V)(h0:v=.ref a)(h1:SqT K H a xs)(h2:xs.length=n)(h3:t xs σ H Q):gTup K n t v σ H Q
theorem dN{es:List Expr}{k:Nat}{t:TGs}{n:Nat}(A:X.calm=true)(h:PGs X es t)
  (B:(assignEach es X.env).length=n:=by rfl) (d:(assignEach es X.env).findIdx? (·.1)=none:=by rfl):PG X (.Tuple es k pos) (gTup X.K n t):=by
 intro c s g H v u Q I r f;obtain⟨a,z,w,x,y,f⟩:=f;subst w;cases r;obtain⟨q,i,l,C⟩:=I.tuple x;refine assign_Tuple_tuple (I.ok.hd A) l (by simp[B,<- y,i.length]) d λm j=>?_
 have p:Inv X c g H { s with heap:=m }:=I.kept (t':=s.toks) λb o e=>j b o (Nat.ne_of_lt (Heap.lt_size e)) e
 exact h c _ g H z _ Q p (by simpa using i) f
def wr(te:TE)(g:TG):TS:=λD σ H=>te σ H λx H1=>g x σ H1 D.nx
theorem i6{tg e:Expr}{c:TE}{g:TG}(d:PE X e c)(o:PG X tg g)(j:swapsWithSole [tg] e pos.line X.env=pure false:=by rfl)(r:swappedStores [tg] e X.env=pure none:=by rfl)
  (k:(assignEach [tg] X.env).map (·.2)=[assign tg X.env]:=by rfl):PS X (.Assign [tg] e pos) (wr c g):=by
 intro a s b H D I h;refine wpAny_Assign_stores (thn (d a s b H _ I h) λv p ⟨x,f,i,m,l⟩=>?_) j r;rw[k];exact thn (o a p b f x v _ i m l) λ_ u q=>q
theorem aF{i:Nat}{x:Str}{e:Expr}{c:TE}{a:Pos}(p:X.N.Nodup)(u:X.N[i]? = some x)(d:Loc X.env.scope x)(f:PE X e c)(l:swapsWith e (some (.Name x a)) pos.line X.env = pure false:=by rfl)(r:X.fn x = true\/X.env.scope.names.lookup x = some .local:=by first | exact .inl rfl | exact .inr rfl | assumption) :
  PS X (.Assign [.Name x a] e pos) (wr c (rq i)):=by
 intro b s m H D I h;refine wpAny_Assign_Name (thn (f b s m H _ I h) λv z ⟨y,j,k,q,o⟩=>?_) l;exact gu k p u d q (λw g=>⟨_,j,g,o⟩) r
def xW(i j:Nat)(ta:TA):TS:=λD σ H=>ta σ H λvs H1=>∃ v w,vs=[v,w]/\D.nx ((σ.set i (some v)).set j (some w)) H1
theorem oe{i j:Nat}{x y:Str}{a b:Expr}{F:TA}{f m g:Pos}{kt k2 pt2}(O:X.calm=true)(z:X.N.Nodup)(P:X.N[i]? = some x)(T:X.N[j]? = some y)(r:i≠j)
  (u:X.env.scope.names.lookup x = some .local) (B:X.env.scope.names.lookup y = some .local) (S:PA X [a,b] F)
  (Q:swappedStores [.Tuple [.Name x f,.Name y m] kt g] (.Tuple [a,b] k2 pt2) X.env=pure (some [x,y]))
  (K:swapsWithSole [.Tuple [.Name x f,.Name y m] kt g] (.Tuple [a,b] k2 pt2) pos.line X.env=pure false:=by rfl) :
  PS X (.Assign [.Tuple [.Name x f,.Name y m] kt g] (.Tuple [a,b] k2 pt2) pos) (xW i j F):=by
 intro c s E H D I h;rw[exec_Assign_arm];refine wpAny_bind (wpAny_standAt ?_);rw[K];refine wpAny_bind (wpAny_pure ?_);rw[if_neg (by decide)];refine wpAny_bind (Tuple_ (thn (S _ c s E H _ I h) λW d ⟨vs,C,J,R,l⟩=>?_));obtain⟨v,w,L,l⟩:=l;subst L
 obtain⟨u1,u2,rfl,rv,rw'⟩:∃ u1 u2,W=[u1,u2]/\RelV v u1/\RelV w u2:=by
  cases R with
  | cons p q =>
   cases q with
   | cons p' q' =>
    cases q';exact⟨_,_,rfl,p,p'⟩
 refine wpAny_newObj_type ?_ (by show 2<=sizeLine;decide);have G:Inv X c E C { d with heap:=d.heap.push { cls:=.type "tuple",data:=.seq [u1,u2].toArray } }:=J.kept (t':=d.toks) λb o e=>Heap.get?_push_of_some _ e
 rw[Q];refine wpAny_bind (wpAny_pure ?_);show wpAny (model X.prog X.w) X.A (do rule "assign.swapped-stores";let items <- unpackItems (.ref d.heap.objs.size) 2 none;assignInOrder [λv=>bindName X.env y v,λv=>bindName X.env x v] items.reverse;pure Flow.next) _ _ _;refine wpAny_bind (wpAny_rule (wpAny_bind (unpackItems_tuple (items:=#[u1,u2]) (I.ok.hd O) (IsTup.new d.heap _) λh' k=>?_)));have N:=G.kept (h':=h') (t':=d.toks) λb o e=>k b o (Nat.ne_of_lt (Heap.lt_size e)) e
 show wpAny _ _ (assignInOrder [λv=>bindName X.env y v,λv=>bindName X.env x v] [u2,u1] >>= λ_=>pure Flow.next) _ _ _;refine wpAny_bind (assignInOrder_cons (wpAny_bindName (gu N z T (.inl B) rw' (λZ M=>?_) (.inr B))));refine assignInOrder_cons (wpAny_bindName (gu M z P (.inl u) rv (λY A=>assignInOrder_nil (wpAny_pure ?_)) (.inr u)));rw[List.set_comm _ _ (Ne.symm r)]at A;exact⟨_,C,A,l⟩
def xI(i:Nat)(te:TE)(ti:TIp):TS:=λD σ H=>∃ x,σ[i]? = some (some x)/\te σ H λy H1=>ti x y H1 λz H2=>D.nx (σ.set i (some z)) H2
theorem nZ{i:Nat}{x:Str}{e:Expr}{C:TE}{o:Operator}{p:TIp}{d:Pos}(K:X.N.Nodup)(q:X.N[i]? = some x)(g:Loc X.env.scope x)(E:PE X e C)(J:PIp X o p)(hf:X.fn x = true\/X.env.scope.names.lookup x = some .local:=by first | exact .inl rfl | exact .inr rfl | assumption) :
  PS X (.AugAssign (.Name x d) o e pos) (xI i C p):=by
 intro a s B H D I h;obtain⟨v,M,h⟩:=h;obtain⟨m,hn,Z⟩:=I.loc;have j:Vis X.env.scope x:=by rcases g with k | k;exact .inl k;exact .inr (.inl k)
 obtain⟨u,r,l⟩:=Z i x v q M j;refine wpAny_AugAssign_Name ?_
 have A:wpAny (model X.prog X.w) X.A (eval e X.env) (λw f=>wpAny (model X.prog X.w) X.A (inplaceOp o u w) (λr s₃=>wpAny (model X.prog X.w) X.A (storeName X.env x r) (λ_=>SP X a D .next) X.xe s₃) X.xe f) X.xe s:=by
  refine thn (E a s B H _ I h) λw T ⟨y,Q,G,S,R⟩=>?_
  refine thn (J a T B Q v y u w _ G r S R) λz s2 ⟨zv,P,F,L,Y⟩=>?_
  exact gu F K q g L (λs3 N=>⟨_,P,N,Y⟩) hf
 rcases l with⟨hk,W⟩ | ⟨hk,c,O,b⟩
 .exact wpAny_loadName_local I.ok.kind hk hn W A
 .rcases hk with hk | hk
  .exact wpAny_loadName_cell I.ok.kind hk O b A
  .rcases g with k | k
   .have:X.env.scope.names.lookup x=some .free:=hk
    rw[k]at this;cases this
   .have:X.env.scope.names.lookup x=some .free:=hk
    rw[k]at this;cases this
def ipI(f:Int->Int->Int):TIp:=λx y H Q=>∃ i j,x=.int i/\y=.int j/\Q (.int (f i j)) H
theorem tq:PIp X .Add (ipI λi j=>i+j):=by
 intro a s g H x y v u Q I c d h;obtain⟨i,j,b,e,q⟩:=h;subst b;subst e;obtain⟨t,rfl⟩:=c;obtain⟨f,rfl⟩:=d;exact iadd_int ⟨.int _,H,I.tok _,⟨_,rfl⟩,q⟩
theorem wG:PIp X .Sub (ipI λi j=>i - j):=by
 intro a s g H x y v u Q I c d h;obtain⟨i,j,b,e,q⟩:=h;subst b;subst e;obtain⟨t,rfl⟩:=c;obtain⟨f,rfl⟩:=d;exact isub_int ⟨.int _,H,I.tok _,⟨_,rfl⟩,q⟩
end
section
variable {X:Cx}{pos:Pos}
def vM(c:TT)(tb:TS):TS:=λD σ H=>∃ W:Nat->St->Hp->Prop,(∃ m,W m σ H)/\∀ m σ H,W m σ H ->
 c σ H λb H1=>if b=true then ∃ N:St->Hp->Prop,(∀ σ' H',N σ' H'->∃ m',m'<m/\W m' σ' H')/\tb { D with nx:=N,ct:=N,bk:=D.nx } σ H1 else D.nx σ H1
theorem eF{c:Expr}{body:List Stmt}{A:TT}{w:TS}(x:PassesOwn (model X.prog X.w) X.A X.env X.xe)(F:PT X c A)(O:PSs X body w):PS X (.While c body [] pos) (vM A w):=by
 intro a s G H D I h;obtain⟨W,⟨C,J⟩,i⟩:=h;refine wpAny_While (codeAny_whileLoop (λn M=>∃ σ' H',Inv X a σ' H' M/\W n σ' H') ?_ C ⟨G,H,I,J⟩);rintro n K ⟨e,z,B,L⟩;refine wpAny_passesOwn x (thn (F a K e z _ B (i n e z L)) λb E ⟨y,r,k⟩=>?_);cases b with
 | true =>
  obtain⟨N,u,k⟩:=k;rw[if_pos rfl];refine wpAny_passesOwn x (thn (O a E e y _ r k) λf P j=>?_);cases f with
  | next =>
   obtain⟨d,g,o,l⟩:=j;obtain⟨m,q,p⟩:=u d g l;exact⟨m,q,d,g,o,p⟩
  | cont =>
   obtain⟨d,g,o,l⟩:=j;obtain⟨m,q,p⟩:=u d g l;exact⟨m,q,d,g,o,p⟩
  | brk=>exact j
  | ret v=>exact j
 | false =>
  rw[if_neg Bool.false_ne_true];exact wpAny_execs_nil ⟨e,y,r,k⟩
end
structure It where
 go:Nat->Hp->Prop
 yld:Nat->Hp->V->Hp->Prop
 stop:Nat->Hp->Prop
def FpOk(X:Cx)(pins:List (Addr×Obj))(H:Hp)(b:Addr):Prop :=
 H b = none/\b≠X.env.locals/\b ∉ X.fs/\(b ∈ X.ex\/X.s₀.heap.objs.size<=b)/\(∀ x c,X.env.cells.lookup x = some c->c≠b)/\∀ p ∈ X.pn ++ pins,p.1≠b
theorem Inv.fpOk{X:Cx}{a:List (Addr×Obj)}{g:St}{H f:Hp}{s:Shared}{b:Addr}(I:Inv X a g H s)(d:s.heap.objs.size<=b)(h:f b=none):FpOk X a f b:=by
 refine⟨h,Nat.ne_of_gt (Nat.lt_of_lt_of_le I.lt d),I.nofs d,.inr (Nat.le_trans I.sz d),λx c e z=>?_,λp hp z=>?_⟩
 .obtain⟨v,q⟩:=I.cell x c e
  exact absurd (Nat.lt_of_lt_of_le q.lt (by rw[z];exact d)) (Nat.lt_irrefl _)
 .exact absurd (Nat.lt_of_lt_of_le (Heap.lt_size (I.pin p hp).1) (by rw[z];exact d)) (Nat.lt_irrefl _)
structure Turn(P:Program)(w:World)(K:Frag)(tg:Expr)(J:It)(fp:List Addr)(it:Addr)(tn:Nat->Heap->Prop):Prop where
 mem:it∈fp
 obj:∀ i h,tn i h->∀ b∈fp,∃ o,h.get? b=some o/\∀ v,o.data≠.cell v
 keep:∀ i h h',tn i h->(∀ b∈fp,∀ o,h.get? b=some o->h'.get? b=some o)->tn i h'
 item:∀(X:Cx),X.prog=P->X.w=w->X.K=K->X.calm=true->∀(i:Nat) (pins:List (Addr×Obj)) (s:Shared) (σ:St) (H:Hp) (E:Value->Shared->Prop),Inv X pins σ H s->(∀ b∈fp,FpOk X pins H b)->tn i s.heap->J.go i H ->
  wpAny (model P w) X.A (pyNext (.ref it)) (λr s1=>∃ u,r=some u /\
   wpAny (model P w) X.A (letOwnedTupleGo tg (.ref it) u) (λ_ s2=>∃ x H',Inv X pins σ H' s2/\RelV x u/\J.yld i H x H'/\tn (i+1) s2.heap/\∀ b∈fp,H' b=none) E s1) E s
 done:∀(X:Cx),X.prog=P->X.w=w->X.K=K->X.calm=true->∀(i:Nat) (pins:List (Addr×Obj)) (s:Shared) (σ:St) (H:Hp) (E:Value->Shared->Prop),Inv X pins σ H s->(∀ b∈fp,FpOk X pins H b)->tn i s.heap->J.stop i H ->
  wpAny (model P w) X.A (pyNext (.ref it)) (λr s1=>r=none/\Inv X pins σ H s1) E s
 self:∀(A:Around) (i:Nat) (s:Shared) (Q:Value->Shared->Prop) (E:Value->Shared->Prop),tn i s.heap->Q (.ref it) s->wpAny (model P w) A (pyIter (.ref it)) Q E s
abbrev TI:=St->Hp->(It->Hp->Prop)->Prop
def PIE(X:Cx)(pins:List (Addr×Obj))(σ:St)(tg:Expr)(R:It->Hp->Prop)(itv:Value)(s2:Shared):Prop :=
 ∃(it:Addr) (fp:List Addr) (tn:Nat->Heap->Prop) (J:It) (H':Hp),itv=.ref it/\Inv X pins σ H' s2/\Turn X.prog X.w X.K tg J fp it tn/\tn 0 s2.heap/\(∀ b∈fp,FpOk X pins H' b)/\R J H'
def PI(X:Cx)(tg iter:Expr)(wi:TI):Prop :=
 ∀(pins:List (Addr×Obj)) (s:Shared) (σ:St) (H:Hp) (R:It->Hp->Prop),Inv X pins σ H s->wi σ H R ->
  wpAny (model X.prog X.w) X.A (eval iter X.env) (λv s1=>wpAny (model X.prog X.w) X.A (pyIter v) (PIE X pins σ tg R) X.xe s1) X.xe s
theorem nH{M:Model}{A:Around}{E:Value->Shared->Prop}{s:Shared}{tg:Expr}{b:Addr}{u:Value}{o:Obj}{n:String}{vs:Array Value}{Q:Unit->Shared->Prop}(c:s.heap.get? b=some o)(d:o.cls=.type n)(f:o.data=.fields vs)
  (e:["enumerate","zip","dict_itemiterator","dict_reverseitemiterator","odict_iterator","itertools.zip_longest","itertools.pairwise"].contains n=false) (a:Q () s):wpAny M A (letOwnedTupleGo tg (.ref b) u) Q E s:=by
 unfold letOwnedTupleGo
 cases tg <;> first
  | exact wpAny_pure a
  | (cases u <;> first
    | exact wpAny_pure a
    | (refine wpAny_bind (wpAny_load c ?_)
       rw[d,f];show wpAny M A (if (["enumerate","zip","dict_itemiterator","dict_reverseitemiterator","odict_iterator","itertools.zip_longest","itertools.pairwise"].contains n && vs[0]? == some (rawInt _))=true then _ else _) Q E s;rw[if_neg (by intro h;rw[e,Bool.false_and]at h;cases h)]
       exact wpAny_pure a))
def Itl(K:Frag)(a:Addr):It :=
 ⟨λi H=>∃ xs x,SqL K H a xs/\xs[i]? = some x,λi H x H'=>H'=H/\∀ xs,SqL K H a xs->xs[i]? = some x,λi H=>∃ xs,SqL K H a xs/\xs.length<=i⟩
def Itt(K:Frag)(a:Addr):It :=
 ⟨λi H=>∃ xs x,SqT K H a xs/\xs[i]? = some x,λi H x H'=>H'=H/\∀ xs,SqT K H a xs->xs[i]? = some x,λi H=>∃ xs,SqT K H a xs/\xs.length<=i⟩
def Itr(lo:Int)(n:Nat):It:=⟨λi _=>i<n,λi H x H'=>H'=H/\x=.int (lo+i),λi _=>n<=i⟩
theorem qI{P:Program}{w:World}{K:Frag}{tg:Expr}(a j:Addr):Turn P w K tg (Itl K a) [j] j (λi h=>h.IsListIter j a i) where
 mem:=by simp
 obj:=λi h f b l=>by
  have e:b=j:=by simpa using l
  subst e;obtain⟨o,e,c,d⟩:=f;exact⟨o,e,λv z=>by rw[d]at z;cases z⟩
 keep:=λi h q f k=>f.at λo e=>k j (by simp) o e
 item:=by
  intro X L G Q R i g s S H E I y f J;subst L G Q;obtain⟨xs,x,r,A⟩:=J;obtain⟨N,C,p,hz⟩:=I.list r;obtain⟨u,W,Y⟩:=C.get A;obtain⟨F,M,f2,B,O,D⟩:=y j (by simp);refine wpAny_pyNext_list_item f p.isList (x:=u) (by simpa using W) λq m sb=>?_
  have T:Inv X g S H { s with heap:=q }:=I.turned (t':=s.toks) (λb o l e=>(sb.2 b l).trans e) F M B O D;obtain⟨o,e,c,d⟩:=id m;exact⟨u,rfl,nH (s:={ s with heap:=q }) e c d (by decide) ⟨x,H,T,Y,⟨rfl,λys Z=>by rw[I.list_inj Z r];exact A⟩,m,λb l=>(y b l).1⟩⟩
 done:=by
  intro X L G Q R i g s S H E I y f J;subst L G Q;obtain⟨xs,r,A⟩:=J;obtain⟨N,C,p,hz⟩:=I.list r;obtain⟨F,M,f2,B,O,D⟩:=y j (by simp);have hl:=C.length
  exact wpAny_pyNext_list_end (I.ok.hd R) f p.isList (by simp;lia) λq eb=>⟨rfl,I.turned (t':=s.toks) (λb o l e=>eb b o l e) F M B O D⟩
 self:=λ_ _ _ _ _ f h=>wpAny_pyIter_listiter f h
theorem oQ{P:Program}{w:World}{K:Frag}{tg:Expr}(a j:Addr):Turn P w K tg (Itt K a) [j] j (λi h=>h.IsTupleIter j a i) where
 mem:=by simp
 obj:=λi h f b m=>by
  have e:b=j:=by simpa using m
  subst e;obtain⟨o,e,c,d⟩:=f;exact⟨o,e,λv z=>by rw[d]at z;cases z⟩
 keep:=λi h r f k=>f.at λo e=>k j (by simp) o e
 item:=by
  intro X M J Q R i g s S H E I A f L;subst M J Q;obtain⟨xs,x,y,B⟩:=L;obtain⟨l,D,p,hz⟩:=I.tuple y;obtain⟨u,W,Y⟩:=D.get B;obtain⟨G,N,f2,C,O,F⟩:=A j (by simp);refine wpAny_pyNext_tuple_item f (show s.heap.IsTuple a l.toArray from p) (x:=u) (by simpa using W) λr q sb=>?_
  have T:Inv X g S H { s with heap:=r }:=I.turned (t':=s.toks) (λb o m e=>(sb.2 b m).trans e) G N C O F;obtain⟨o,e,c,d⟩:=id q;exact⟨u,rfl,nH (s:={ s with heap:=r }) e c d (by decide) ⟨x,H,T,Y,⟨rfl,λys Z=>by rw[I.tuple_inj Z y];exact B⟩,q,λb m=>(A b m).1⟩⟩
 done:=by
  intro X M J Q R i g s S H E I A f L;subst M J Q;obtain⟨xs,y,B⟩:=L;obtain⟨l,D,p,hz⟩:=I.tuple y;obtain⟨G,N,f2,C,O,F⟩:=A j (by simp);have hl:=D.length
  exact wpAny_pyNext_tuple_end (I.ok.hd R) f (show s.heap.IsTuple a l.toArray from p) (by simp;lia) λr eb=>⟨rfl,I.turned (t':=s.toks) (λb o m e=>eb b o m e) G N C O F⟩
 self:=λ_ _ _ _ _ f h=>wpAny_pyIter_tupleiter f h
theorem ot{P:Program}{w:World}{K:Frag}{tg:Expr}(d:Addr)(lo:Int)(n:Nat):Turn P w K tg (Itr lo n) [d] d (λi h=>IsRangeIter h d (lo+(i:Nat)*1) ((n:Int) - (i:Nat)) 1) where
 mem:=by simp
 obj:=λi h a b f=>by
  have e:b=d:=by simpa using f
  subst e
  exact⟨_,a,λv z=>by
   have M:Data.fields _=Data.cell v:=z
   cases M⟩
 keep:=λi h j a k=>k d (by simp) _ a
 item:=by
  intro X y u C r i c s F H E I l a x;subst y u C;obtain⟨q,A,N,m,B,p⟩:=l d (by simp);have W:=Walks.range (prog:=X.prog) (w:=X.w) (I.ok.hd r) d lo 1 n;refine W.item i s _ _ x a λv j D O g J=>?_
  obtain⟨t,rfl⟩:=O;have G:Inv X c F H { s with heap:=j,toks:=D }:=I.turned (λb o f e=>J b o (by simpa using f) e) q A m B p;refine⟨_,rfl,nH (s:={ s with heap:=j,toks:=D }) (n := "range_iterator") g rfl rfl (by decide) ⟨.int (lo+i),H,G,⟨t,?_⟩,⟨rfl,rfl⟩,g,λb f=>(l b f).1⟩⟩;rw[Int.mul_one]
 done:=by
  intro X y u C r i c s F H E I l a x;subst y u C;obtain⟨q,A,N,m,B,p⟩:=l d (by simp)
  exact wpAny_pyNext_range_end (I.ok.hd r) a (by have:n<=i:=x;lia) λj L=>⟨rfl,I.turned (t':=s.toks) (λb o f e=>L b o f e) q A m B p⟩
 self:=λ_ _ _ _ _ a h=>wpAny_pyIter_rangeiter a h
section
variable {X:Cx}{tg:Expr}
theorem rH{c:List (Addr×Obj)}{f:St}{H:Hp}{s:Shared}{R:It->Hp->Prop}{E:Value->Shared->Prop}{lo a:Int}{t u v:Tok}{tk:Nat}(I:Inv X c f H s)(h:-(2 ^ 62)<=lo)(k:lo<2 ^ 62)(g:-(2 ^ 62)<=a)(j:a<2 ^ 62)
  (q:R (Itr lo (a - lo).toNat) H):wpAny (model X.prog X.w) X.A (pyIter (.ref s.heap.objs.size)) (PIE X c f tg R) E { s with heap:=s.heap.push { cls:=.type "range",data:=.fields #[.int lo t,.int a u,.int 1 v] },toks:=tk }:=by
 refine wpAny_pyIter_range (IsRange.new ..) (small_one h k g j) ?_;have d:Inv X c f H { s with heap:=s.heap.push { cls:=.type "range",data:=.fields #[.int lo t,.int a u,.int 1 v] },toks:=tk }:=I.kept λb o e=>Heap.get?_push_of_some _ e
 refine⟨(s.heap.push { cls:=.type "range",data:=.fields #[.int lo t,.int a u,.int 1 v] }).objs.size,[(s.heap.push { cls:=.type "range",data:=.fields #[.int lo t,.int a u,.int 1 v] }).objs.size],_,_,H,rfl,
  d.kept (t':=tk) λb o e=>Heap.get?_push_of_some _ e,ot _ lo (a - lo).toNat,?_,λb hb=>?_,q⟩
 .have i:lo+((0:Nat):Int)*1=lo:=by simp
  have l:(((a - lo).toNat:Nat):Int) - ((0:Nat):Int)=Builtin.Range.rangeSize lo a 1:=by rw[rangeSize_one];split <;> lia
  show IsRangeIter _ _ (lo+((0:Nat):Int)*1) ((((a - lo).toNat:Nat):Int) - ((0:Nat):Int)) 1;rw[i,l];exact Heap.get?_push_size _ rfl
 .have e:b=(s.heap.push { cls:=.type "range",data:=.fields #[.int lo t,.int a u,.int 1 v] }).objs.size:=by simpa using hb
  subst e;exact d.fpOk (Nat.le_refl _) (d.hok.fresh (Nat.le_refl _))
def xy(ta:TA):TI:=λσ H R=>ta σ H λvs H1=>∃ j:Int,vs=[.int j]/\-(2 ^ 62)<=j/\j<2 ^ 62/\R (Itr 0 j.toNat) H1
theorem dP{a:Expr}{f:TA}{p c:Pos}(v:Gl X "range")(i:X.mg "range" = none)(u:PA X [a] f)(l:starEach [a] X.env=[(false,eval a X.env)]:=by rfl):PI X tg (.Call (.Name "range" p) [a] [] c) (xy f):=by
 intro b s m H R I h;refine Call_ (fO I v i boot_range (PyProof.Rows.callWith_type1 (thn (u c b s m H _ I h) λy z ⟨x,w,k,o,d⟩=>?_) l rfl));obtain⟨j,e,d,g,q⟩:=d;subst e;cases o with
 | cons r rr =>
  cases rr;obtain⟨t,rfl⟩:=r;exact call_range_1 (rH k (by lia) (by lia) d g (by simpa using q))
def ya(wi:TI)(g:TG)(tb:TS):TS:=λD σ H=>wi σ H λJ H1=>∃ W:Nat->Nat->St->Hp->Prop,(∃ m,W 0 m σ H1)/\∀ i m σ H,W i m σ H ->
 (J.stop i H/\D.nx σ H)\/(J.go i H/\∃ N:St->Hp->Prop,(∀ σ' H',N σ' H'->∃ m',m'<m/\W (i+1) m' σ' H')/\∀ x H',J.yld i H x H'->g x σ H' λσ2 H2=>tb { D with nx:=N,ct:=N,bk:=D.nx } σ2 H2)
def j3(fp:List Addr)(h:Heap):List (Addr×Obj):=fp.filterMap λb=>(h.get? b).map λo=>(b,o)
theorem fM{a:List Addr}{h:Heap}{b:Addr}{o:Obj}(c:b∈a)(e:h.get? b=some o):(b,o)∈j3 a h:=List.mem_filterMap.mpr ⟨b,c,by rw[e];rfl⟩
theorem qD{a:List Addr}{h:Heap}{p:Addr×Obj}(d:p∈j3 a h):p.1∈a/\h.get? p.1=some p.2:=by
 obtain⟨b,f,e⟩:=List.mem_filterMap.mp d;cases q:h.get? b with
 | none=>rw[q]at e;cases e
 | some o =>
  rw[q]at e;have c:(b,o)=p:=Option.some.inj e;subst c;exact⟨f,q⟩
theorem Inv.pinned{a:List (Addr×Obj)}{g:St}{H:Hp}{s:Shared}{c:List Addr}(I:Inv X a g H s)(l:∀ b∈c,FpOk X a H b)(i:∀ b∈c,∃ o,s.heap.get? b=some o/\∀ v,o.data≠.cell v):Inv X (a++j3 c s.heap) g H s :=
 I.pins_of λp m=>(mem_append.mp m).elim (λz=>I.pin p (mem_append_right _ z)) λz=>by
  obtain⟨f,e⟩:=qD z;obtain⟨k,j,q,_⟩:=l p.1 f;obtain⟨o,h,d⟩:=i p.1 f;rw[e]at h;cases h;exact⟨e,k,j,q,d⟩
theorem Inv.unpinned{a pl:List (Addr×Obj)}{b:St}{H:Hp}{s:Shared}(I:Inv X (a++pl) b H s):Inv X a b H s:=I.pins_of λp c=>I.pin p (mem_append_right _ (mem_append_left _ c))
theorem dU{p:Expr}{body:List Stmt}{wi:TI}{g:TG}{tb:TS}{P:Pos}(G:PassesOwn (model X.prog X.w) X.A X.env X.xe)(hc:X.calm=true)(hi:PI X tg p wi)(hg:PG X tg g)(k:PSs X body tb)
  (hs:∀ x,foldedSetIterable p X.env x=pure x:=by intro _;rfl):PS X (.For tg p body [] P) (ya wi g tb):=by
 intro a s σ H D I h;refine wpAny_For (thn (hi a s σ H _ I h) λv s1 h1=>thn h1 λitv s2 h2=>?_) hs;obtain⟨it,M,tn,J,H2,e,I2,T,R,f2,W,⟨m0,w0⟩,B⟩:=h2;subst e
 have j:∀{H':Hp},(∀ b∈M,H' b=none)->∀ b∈M,FpOk X a H' b:=λhn b k=>⟨hn b k,(f2 b k).2⟩
 refine codeAny_forLoop_any (λn s'=>∃ i σ' H',Inv X a σ' H' s'/\tn i s'.heap/\(∀ b∈M,H' b=none)/\W i n σ' H') ?_ m0 ⟨0,σ,H2,I2,R,λb k=>(f2 b k).1,w0⟩;rintro n s3 ⟨i,y,O,I3,F,L,w3⟩
 rcases B i n y O w3 with⟨E,qn⟩ | ⟨go,N,hN,C⟩
 .refine wpAny_passesOwn G (thn (T.done X rfl rfl rfl hc i a s3 y O X.xe I3 (j L) F E) λr s4 ⟨Y,I4⟩=>?_)
  subst Y;exact wpAny_execs_nil ⟨y,O,I4,qn⟩
 .refine wpAny_passesOwn G (thn (T.item X rfl rfl rfl hc i a s3 y O X.xe I3 (j L) F go) λr s4 ⟨u,Y,h4⟩=>?_)
  subst Y;refine wpAny_passesOwn G (thn h4 λ_ s5 ⟨x,H5,I5,r5,y5,A,ab⟩=>?_);have S:=I5.pinned (j ab) (T.obj _ _ A);refine wpAny_passesOwn G (thn (hg _ s5 y H5 x u _ S r5 (C x H5 y5)) λ_ s6 ⟨Z,H6,I6,q6⟩=>?_);refine wpAny_passesOwn G (thn (k _ s6 Z H6 _ I6 q6) λf Q z=>?_)
  have l:∀{c:St}{w:Hp},Inv X (a++j3 M s5.heap) c w Q->N c w->∃ m,m<n/\∃ i σ' H',Inv X a σ' H' Q/\tn i Q.heap/\(∀ b∈M,H' b=none)/\W i m σ' H':=λ{c w} q K=>by
   obtain⟨m',hm,w7⟩:=hN c w K;refine⟨m',hm,i+1,c,w,q.unpinned,T.keep _ _ _ A λb k o e=>(q.pin (b,o) (mem_append_right _ (mem_append_right _ (fM k e)))).1,λb k=>?_,w7⟩;obtain⟨o,e,d⟩:=T.obj _ _ A b k;exact(q.pin (b,o) (mem_append_right _ (mem_append_right _ (fM k e)))).2.1
  cases f with
  | next=>obtain⟨c,w,q,K⟩:=z;exact l q K
  | cont=>obtain⟨c,w,q,K⟩:=z;exact l q K
  | brk=>obtain⟨c,w,q,z⟩:=z;exact⟨c,w,q.unpinned,z⟩
  | ret v=>obtain⟨x7,c,w,q,r7,z⟩:=z;exact⟨x7,c,w,q.unpinned,r7,z⟩
end
theorem fw{K:Frag}{a:Addr}{xs:List V}{g:TG}{d:TS}{D:Ends}{b:St}{H:Hp}(c:Nat->St->Hp->Prop)(l:c 0 b H)(h:∀ i b H,i<=xs.length->c i b H->SqL K H a xs)
  (f:∀ i x b H,xs[i]? = some x->c i b H->g x b H λσ2 H2=>d { D with nx:=c (i+1),ct:=c (i+1),bk:=D.nx } σ2 H2) (o:∀ b H,c xs.length b H->D.nx b H) :
  ∃ W:Nat->Nat->St->Hp->Prop,(∃ m,W 0 m b H)/\∀ i m b H,W i m b H ->
   ((Itl K a).stop i H/\D.nx b H)\/((Itl K a).go i H/\∃ N:St->Hp->Prop,(∀ σ' H',N σ' H'->∃ m',m'<m/\W (i+1) m' σ' H')/\∀ x H',(Itl K a).yld i H x H'->g x b H' λσ2 H2=>d { D with nx:=N,ct:=N,bk:=D.nx } σ2 H2):=by
 refine⟨λi m b H=>m=xs.length - i/\i<=xs.length/\c i b H,⟨xs.length,by simp,Nat.zero_le _,l⟩,?_⟩;rintro i m b H ⟨rfl,j,p⟩;have q:=h i b H j p
 by_cases hlt:i<xs.length
 .refine .inr ⟨⟨xs,xs[i],q,by simp[hlt]⟩,c (i+1),λσ' H' k=>⟨xs.length - (i+1),by lia,rfl,hlt,k⟩,λx H' y=>?_⟩
  obtain⟨e,y⟩:=y;subst e;exact f i x b _ (y xs q) p
 .have e:i=xs.length:=by lia
  subst e;exact .inl ⟨⟨xs,q,Nat.le_refl _⟩,o b H p⟩
theorem gF{lo:Int}{n:Nat}{g:TG}{c:TS}{D:Ends}{a:St}{H:Hp}(b:Nat->St->Hp->Prop)(h:b 0 a H)
  (d:∀ i a H,i<n->b i a H->g (.int (lo+i)) a H λσ2 H2=>c { D with nx:=b (i+1),ct:=b (i+1),bk:=D.nx } σ2 H2) (j:∀ a H,b n a H->D.nx a H) :
  ∃ W:Nat->Nat->St->Hp->Prop,(∃ m,W 0 m a H)/\∀ i m a H,W i m a H ->
   ((Itr lo n).stop i H/\D.nx a H)\/((Itr lo n).go i H/\∃ N:St->Hp->Prop,(∀ σ' H',N σ' H'->∃ m',m'<m/\W (i+1) m' σ' H')/\∀ x H',(Itr lo n).yld i H x H'->g x a H' λσ2 H2=>c { D with nx:=N,ct:=N,bk:=D.nx } σ2 H2):=by
 refine⟨λi m a H=>m=n - i/\i<=n/\b i a H,⟨n,by simp,Nat.zero_le _,h⟩,?_⟩;rintro i m a H ⟨rfl,k,p⟩
 by_cases hlt:i<n
 .refine .inr ⟨hlt,b (i+1),λσ' H' f=>⟨n - (i+1),by lia,rfl,hlt,f⟩,λx H' y=>?_⟩
  obtain⟨e,y⟩:=y;subst e y;exact d i a _ hlt p
 .have e:i=n:=by lia
  subst e;exact .inl ⟨Nat.le_refl _,j a H p⟩
abbrev R2:=V->V->Hp->VK->Prop
def OpR(X:Cx)(f:Value->Value->Sem Value)(r:R2):Prop :=
 ∀(pins:List (Addr×Obj)) (s:Shared) (σ:St) (H:Hp) (x y:V) (v u:Value) (Q:VK),Inv X pins σ H s->RelV x v->RelV y u->r x y H Q ->
  wpAny (model X.prog X.w) X.A (f v u) (EP X pins σ Q) X.xe s
def UnR(X:Cx)(f:Value->Sem Value)(r:V->Hp->VK->Prop):Prop :=
 ∀(pins:List (Addr×Obj)) (s:Shared) (σ:St) (H:Hp) (x:V) (v:Value) (Q:VK),Inv X pins σ H s->RelV x v->r x H Q ->
  wpAny (model X.prog X.w) X.A (f v) (EP X pins σ Q) X.xe s
def CallR(X:Cx)(f:Value)(r:List V->Hp->VK->Prop):Prop :=
 ∀(pins:List (Addr×Obj)) (s:Shared) (σ:St) (H:Hp) (xs:List V) (us:List Value) (Q:VK),Inv X pins σ H s->Vals xs us->r xs H Q ->
  wpAny (model X.prog X.w) X.A (call f us) (EP X pins σ Q) X.xe s
def xZ(X:Cx)(r:V->Hp->(Bool->Hp->Prop)->Prop):Prop :=
 ∀(pins:List (Addr×Obj)) (s:Shared) (σ:St) (H:Hp) (x:V) (v:Value) (Q:Bool->Hp->Prop),Inv X pins σ H s->RelV x v->r x H Q ->
  wpAny (model X.prog X.w) X.A (truthy v) (TP X pins σ Q) X.xe s
def tOp(r:R2)(ta tb:TE):TE:=λσ H Q=>ta σ H λx H1=>tb σ H1 λy H2=>r x y H2 Q
def tUn(r:V->Hp->VK->Prop)(ta:TE):TE:=λσ H Q=>ta σ H λx H1=>r x H1 Q
def rI(C:Int->Int->Prop)(g:Int->Int->V):R2:=λx y H Q=>∃ i j,x=.int i/\y=.int j/\C i j/\Q (g i j) H
def rI0(g:Int->Int->V):R2:=λx y H Q=>∃ i j,x=.int i/\y=.int j/\Q (g i j) H
def rU(g:Int->V):V->Hp->VK->Prop:=λx H Q=>∃ i,x=.int i/\Q (g i) H
section
variable {X:Cx}{a b c:Expr}{ta tb tc:TE}{pos:Pos}
theorem vU(l:PE X a ta)(q:PE X b tb){c:List (Addr×Obj)}{s:Shared}{d:St}{H:Hp}{R:V->V->Hp->Prop}(I:Inv X c d H s)
  (h:ta d H λx H1=>tb d H1 λy H2=>R x y H2){Q:Value->Shared->Prop}{f:Value->Value->Sem Value}
  (m:∀ v u s2 x y H2,Inv X c d H2 s2->RelV x v->RelV y u->R x y H2->wpAny (model X.prog X.w) X.A (f v u) Q X.xe s2) :
  wpAny (model X.prog X.w) X.A (eval a X.env) (λv s₁=>wpAny (model X.prog X.w) X.A (eval b X.env) (λu s₂=>wpAny (model X.prog X.w) X.A (f v u) Q X.xe s₂) X.xe s₁) X.xe s:=by
 refine thn (l c s d H _ I h) λv p ⟨x,H1,i,k,j⟩=>?_
 refine thn (q c p d H1 _ i j) λu s2 ⟨y,H2,g,o,e⟩=>?_
 exact m v u s2 x y H2 g k o e
theorem aD{d:Operator}{r:R2}(g:OpR X (binaryOp d) r)(j:PE X a ta)(m:PE X b tb):PE X (.BinOp a d b pos) (tOp r ta tb):=by
 intro c s i H Q I h;exact wpAny_BinOp (vU j m I h λv u l x y e f o k q=>g c l i e x y v u Q f o k q)
theorem sk{c:UnaryOp}{r:V->Hp->VK->Prop}(g:UnR X (unaryOp c) r)(k:PE X a ta):PE X (.UnaryOp c a pos) (tUn r ta):=by
 intro b s d H Q I h;exact UnaryOp_ (thn (k b s d H _ I h) λv l ⟨x,e,f,j,i⟩=>g b l d e x v Q f j i)
theorem opI{f:Value->Value->Sem Value}{C:Int->Int->Prop}{g:Int->Int->Int}
  (a:∀(i j:Int) (t u:Tok) (s:Shared) (Q:Value->Shared->Prop) (E:Value->Shared->Prop),C i j->Q (.int (g i j) s.toks) { s with toks:=s.toks+1 }->wpAny (model X.prog X.w) X.A (f (.int i t) (.int j u)) Q E s) :
  OpR X f (rI C λi j=>.int (g i j)):=by
 intro b s l H x y v u Q I k d h;obtain⟨i,j,rfl,rfl,e,q⟩:=h;obtain⟨t,rfl⟩:=k;obtain⟨c,rfl⟩:=d;exact a i j t c s _ _ e ⟨.int (g i j),H,I.tok _,⟨_,rfl⟩,q⟩
theorem xu{f:Value->Value->Sem Value}{g:Int->Int->Int}
  (a:∀(i j:Int) (t u:Tok) (s:Shared) (Q:Value->Shared->Prop) (E:Value->Shared->Prop),Q (.int (g i j) s.toks) { s with toks:=s.toks+1 }->wpAny (model X.prog X.w) X.A (f (.int i t) (.int j u)) Q E s) :
  OpR X f (rI0 λi j=>.int (g i j)):=by
 intro b s k H x y v u Q I e d h;obtain⟨i,j,rfl,rfl,q⟩:=h;obtain⟨t,rfl⟩:=e;obtain⟨c,rfl⟩:=d;exact a i j t c s _ _ ⟨.int (g i j),H,I.tok _,⟨_,rfl⟩,q⟩
theorem uF{f:Value->Value->Sem Value}{g:Int->Int->Bool}
  (a:∀(i j:Int) (t u:Tok) (s:Shared) (Q:Value->Shared->Prop) (E:Value->Shared->Prop),Q (.bool (g i j)) s->wpAny (model X.prog X.w) X.A (f (.int i t) (.int j u)) Q E s) :
  OpR X f (rI0 λi j=>.bl (g i j)):=by
 intro b s k H x y v u Q I e d h;obtain⟨i,j,rfl,rfl,q⟩:=h;obtain⟨t,rfl⟩:=e;obtain⟨c,rfl⟩:=d;exact a i j t c s _ _ ⟨.bl (g i j),H,I,rfl,q⟩
def xY(i j:Int):Prop:=0<j/\j<1073741824
def wB(i j:Int):Prop:=0<=j/\j<=1000000/\i.natAbs<2 ^ 64
def CMul(i j:Int):Prop:=(-(2 ^ 64)<i/\i<2 ^ 64)\/(-(2 ^ 64)<j/\j<2 ^ 64)
theorem CMul.ok{i j:Int}(h:CMul i j):IntMulOk i j:=by
 rcases h with⟨a,b⟩ | ⟨a,b⟩
 .exact .of_left (intBits_le_64 a b)
 .exact .of_right (intBits_le_64 a b)
theorem oz(k:Nat):(0:Int)<=2 ^ k:=by
 rw[two_pow_cast];exact Int.natCast_nonneg _
theorem op_add:OpR X (binaryOp .Add) (rI0 λi j=>.int (i+j)):=xu λ_ _ _ _ _ _ _ q=>add_int q
theorem op_sub:OpR X (binaryOp .Sub) (rI0 λi j=>.int (i - j)):=xu λ_ _ _ _ _ _ _ q=>sub_int q
theorem op_mod:OpR X (binaryOp .Mod) (rI (λ_ j=>0<j) λi j=>.int (i % j)):=opI λi j _ _ _ _ _ a q=>by
 have b:(0:Int)<j:=a;exact mod_int' (by lia) (by rw[Int.fmod_eq_emod_of_nonneg i (by lia)];exact q)
theorem op_pow:OpR X (binaryOp .Pow) (rI wB λi j=>.int (i ^ j.toNat)):=opI λ_ _ _ _ _ _ _ a q=>pow_int_small a.1 a.2.1 a.2.2 q
theorem op_shr:OpR X (binaryOp .RShift) (rI (λ_ j=>0<=j) λi j=>.int (i/2 ^ j.toNat)):=opI λi j _ _ _ _ _ a q =>
 rshift_int a (by rw[Int.fdiv_eq_ediv_of_nonneg i (oz _)];exact q)
theorem unI{f:Value->Sem Value}{g:Int->Int}
  (a:∀(i:Int) (t:Tok) (s:Shared) (Q:Value->Shared->Prop) (E:Value->Shared->Prop),Q (.int (g i) s.toks) { s with toks:=s.toks+1 }->wpAny (model X.prog X.w) X.A (f (.int i t)) Q E s) :
  UnR X f (rU λi=>.int (g i)):=by
 intro b s d H x v Q I c h;obtain⟨i,rfl,q⟩:=h;obtain⟨t,rfl⟩:=c;exact a i t s _ _ ⟨.int (g i),H,I.tok _,⟨_,rfl⟩,q⟩
theorem vT:UnR X (unaryOp .USub) (rU λi=>.int (-i)):=unI λ_ _ _ _ _ q=>neg_int q
end
def xj:V->V->Bool
 | .non,.non=>true | .non,.int _=>true | .int _,.non=>true | .non,.bl _=>true | .bl _,.non=>true | .non,.str _=>true | .str _,.non=>true
 | .int _,.int _=>true | .bl _,.bl _=>true | .str _,.str _=>true | .byt _,.byt _=>true
 | .int _,.str _=>true | .str _,.int _=>true | .bl _,.str _=>true | .str _,.bl _=>true
 | _,_=>false
def rEq:R2:=λx y H Q=>xj x y=true/\Q (.bl (decide (x=y))) H
def rNe:R2:=λx y H Q=>xj x y=true/\Q (.bl (!decide (x=y))) H
theorem jr{i j:Int}:decide (V.int i=V.int j)=(i == j):=by
 rw[Bool.eq_iff_iff];simp
theorem lF{i j:Bool}:decide (V.bl i=V.bl j)=(i == j):=by
 rw[Bool.eq_iff_iff];simp
theorem jv{i j:Str}:decide (V.str i=V.str j)=(i == j):=by
 rw[Bool.eq_iff_iff];simp
theorem pK{i j:Array UInt8}:decide (V.byt i=V.byt j)=(i.toList == j.toList):=by
 rw[Bool.eq_iff_iff];cases i;cases j;simp
section
variable {X:Cx}{a b c:Expr}{ta tb tc:TE}{pos:Pos}
theorem bn{a:List (Addr×Obj)}{b:St}{H:Hp}{s:Shared}{Q:VK}{k c:Bool}(I:Inv X a b H s)(q:Q (.bl k) H)(e:k=c):EP X a b Q (.bool c) s:=by
 subst e;exact⟨.bl k,H,I,rfl,q⟩
theorem op_eq:OpR X (compareOp .Eq) rEq:=by
 intro e s f H x y v u Q I d a h;obtain⟨c,q⟩:=h;cases x with
 | non =>
  cases d;cases y with
  | non=>cases a;exact PySem.EqNone.eq_none_none (bn I q (by simp))
  | bl j=>cases a;exact PySem.EqNone.eq_none_bool (bn I q (by simp))
  | int j=>obtain⟨b,rfl⟩:=a;exact PySem.EqNone.eq_none_int (bn I q (by simp))
  | str j=>obtain⟨b,rfl⟩:=a;exact PySem.EqNone.eq_none_str (bn I q (by simp))
  | _=>exact absurd (show false=true from c) Bool.false_ne_true
 | bl i =>
  cases d;cases y with
  | non=>cases a;exact PySem.EqNone.eq_bool_none (bn I q (by simp))
  | bl j=>cases a;exact eq_bool (bn I q lF)
  | str j=>obtain⟨b,rfl⟩:=a;exact PySem.EqMixed.eq_bool_str (bn I q (by simp))
  | _=>exact absurd (show false=true from c) Bool.false_ne_true
 | int i =>
  obtain⟨t,rfl⟩:=d;cases y with
  | non=>cases a;exact PySem.EqNone.eq_int_none (bn I q (by simp))
  | int j=>obtain⟨b,rfl⟩:=a;exact eq_int (bn I q jr)
  | str j=>obtain⟨b,rfl⟩:=a;exact PySem.EqMixed.eq_int_str (bn I q (by simp))
  | _=>exact absurd (show false=true from c) Bool.false_ne_true
 | str i =>
  obtain⟨t,rfl⟩:=d;cases y with
  | non=>cases a;exact PySem.EqNone.eq_str_none (bn I q (by simp))
  | bl j=>cases a;exact PySem.EqMixed.eq_str_bool (bn I q (by simp))
  | int j=>obtain⟨b,rfl⟩:=a;exact PySem.EqMixed.eq_str_int (bn I q (by simp))
  | str j=>obtain⟨b,rfl⟩:=a;exact eq_str (bn I q jv)
  | _=>exact absurd (show false=true from c) Bool.false_ne_true
 | byt i =>
  obtain⟨t,rfl⟩:=d;cases y with
  | byt j=>obtain⟨b,rfl⟩:=a;exact PySem.W.eq_bytes (bn I q pK)
  | _=>exact absurd (show false=true from c) Bool.false_ne_true
 | _=>cases y <;> exact absurd (show false=true from c) Bool.false_ne_true
theorem op_ne:OpR X (compareOp .NotEq) rNe:=by
 intro e s f H x y v u Q I d a h;obtain⟨c,q⟩:=h;cases x with
 | non =>
  cases d;cases y with
  | non=>cases a;exact PySem.EqNone.ne_none_none (bn I q (by simp))
  | bl j=>cases a;exact PySem.EqNone.ne_none_bool (bn I q (by simp))
  | int j=>obtain⟨b,rfl⟩:=a;exact PySem.EqNone.ne_none_int (bn I q (by simp))
  | str j=>obtain⟨b,rfl⟩:=a;exact PySem.EqNone.ne_none_str (bn I q (by simp))
  | _=>exact absurd (show false=true from c) Bool.false_ne_true
 | bl i =>
  cases d;cases y with
  | non=>cases a;exact PySem.EqNone.ne_bool_none (bn I q (by simp))
  | bl j=>cases a;exact ne_bool (bn I q (congrArg not lF))
  | str j=>obtain⟨b,rfl⟩:=a;exact PySem.EqMixed.ne_bool_str (bn I q (by simp))
  | _=>exact absurd (show false=true from c) Bool.false_ne_true
 | int i =>
  obtain⟨t,rfl⟩:=d;cases y with
  | non=>cases a;exact PySem.EqNone.ne_int_none (bn I q (by simp))
  | int j=>obtain⟨b,rfl⟩:=a;exact ne_int (bn I q (congrArg not jr))
  | str j=>obtain⟨b,rfl⟩:=a;exact PySem.EqMixed.ne_int_str (bn I q (by simp))
  | _=>exact absurd (show false=true from c) Bool.false_ne_true
 | str i =>
  obtain⟨t,rfl⟩:=d;cases y with
  | non=>cases a;exact PySem.EqNone.ne_str_none (bn I q (by simp))
  | bl j=>cases a;exact PySem.EqMixed.ne_str_bool (bn I q (by simp))
  | int j=>obtain⟨b,rfl⟩:=a;exact PySem.EqMixed.ne_str_int (bn I q (by simp))
  | str j=>obtain⟨b,rfl⟩:=a;exact ne_str (bn I q (congrArg not jv))
  | _=>exact absurd (show false=true from c) Bool.false_ne_true
 | byt i =>
  obtain⟨t,rfl⟩:=d;cases y with
  | byt j=>obtain⟨b,rfl⟩:=a;exact PySem.W.ne_bytes (bn I q (congrArg not pK))
  | _=>exact absurd (show false=true from c) Bool.false_ne_true
 | _=>cases y <;> exact absurd (show false=true from c) Bool.false_ne_true
theorem op_lt:OpR X (compareOp .Lt) (rI0 λi j=>.bl (decide (i<j))):=uF λ_ _ _ _ _ _ _ q=>lt_int q
theorem op_le:OpR X (compareOp .LtE) (rI0 λi j=>.bl (decide (i<=j))):=uF λ_ _ _ _ _ _ _ q=>le_int q
theorem op_gt:OpR X (compareOp .Gt) (rI0 λi j=>.bl (decide (j<i))):=uF λ_ _ _ _ _ _ _ q=>gt_int q
theorem op_ge:OpR X (compareOp .GtE) (rI0 λi j=>.bl (decide (j<=i))):=uF λ_ _ _ _ _ _ _ q=>ge_int q
theorem qH:OpR X (compareOp .Lt) (λx y H Q=>∃ i j,x=.str i/\y=.str j/\Q (.bl (decide (i.cps.toList<j.cps.toList))) H):=by
 intro a s e H x y v u Q I c b h;obtain⟨i,j,rfl,rfl,q⟩:=h;obtain⟨t,rfl⟩:=c;obtain⟨d,rfl⟩:=b;exact lt_str (bn I q rfl)
theorem OpR.or{f:Value->Value->Sem Value}{r r':R2}(h:OpR X f r)(h':OpR X f r'):OpR X f (λx y H Q=>r x y H Q\/r' x y H Q):=by
 intro a s b H x y v u Q I d c q
 rcases q with q | q
 .exact h a s b H x y v u Q I d c q
 .exact h' a s b H x y v u Q I d c q
theorem aI(b:Expr){a:CmpOp}(h:a≠.In:=by decide)(d:a≠.NotIn:=by decide):behindInMarks a b=false:=by
 have c:(a == CmpOp.In)=false:=by cases a <;> first | rfl | exact absurd rfl h
 have e:(a == CmpOp.NotIn)=false:=by cases a <;> first | rfl | exact absurd rfl d
 cases b <;> simp[behindInMarks,c,e]
theorem lZ{d:CmpOp}{r:R2}(i:OpR X (compareOp d) r)(k:PE X a ta)(o:PE X b tb)(f:behindInMarks d b=false):PE X (.Compare a [d] [b] pos) (tOp r ta tb):=by
 intro c s j H Q I h;exact wpAny_Compare1 (vU k o I h λv u m x y e g p l q=>i c m j e x y v u Q g p l q) f
def xm(K:Frag)(x:V)(H:Hp)(k:Bool):Prop :=
 match x with
 | .non=>k=false
 | .bl b=>k=b
 | .int i=>k=(i != 0)
 | .str y=>y.length<=sizeLine/\k=((y.length:Int) != 0)
 | .byt y=>y.size<=sizeLine/\k=((y.size:Int) != 0)
 | .ref p=>(∃ xs,SqL K H p xs/\k = !xs.isEmpty)\/(∃ xs,SqT K H p xs/\k = !xs.isEmpty)\/∃ kvs,H p=some (.dK kvs)/\k = !kvs.isEmpty
 | _=>False
theorem oE{b:Type}{a:List (b×V)}{vs:List (b×Value)}(r:KV a vs):(!vs.isEmpty) = !a.isEmpty:=by
 cases r <;> rfl
theorem j7{xs:List V}{its:List Value}(r:Vals xs its):(!its.toArray.isEmpty) = !xs.isEmpty:=by
 cases r <;> simp
theorem iW:(sizeLine:Nat)<2 ^ 63:=by rw[sizeLine_eq];decide
theorem vP:xZ X (λx H Q=>∃ k,xm X.K x H k/\Q k H):=by
 intro u s A H x v Q I g h;obtain⟨k,e,q⟩:=h;have B:=iW;have z:sizeLine=16777216:=sizeLine_eq;cases x with
 | non =>
  cases g;have a:k=false:=e;subst a;exact truthy_none ⟨H,I,q⟩
 | bl b =>
  cases g;have a:k=b:=e;subst a;exact wpAny_truthy_bool ⟨H,I,q⟩
 | int i =>
  obtain⟨t,rfl⟩:=g;have a:k=(i != 0):=e;subst a;exact PySem.P.truthy_int ⟨H,I,q⟩
 | str y =>
  obtain⟨t,rfl⟩:=g;obtain⟨hy,a⟩:y.length<=sizeLine/\k=((y.length:Int) != 0):=e;subst a;exact PySem.P.truthy_str (by lia) ⟨H,I.tok _,q⟩
 | byt y =>
  obtain⟨t,rfl⟩:=g;obtain⟨hy,a⟩:y.size<=sizeLine/\k=((y.size:Int) != 0):=e;subst a;exact PySem.W.truthy_bytes (by lia) ⟨H,I.tok _,q⟩
 | ref p =>
  cases g;have a:(∃ f,SqL X.K H p f/\k = !f.isEmpty)\/(∃ f,SqT X.K H p f/\k = !f.isEmpty)\/∃ c,H p=some (.dK c)/\k = !c.isEmpty:=e
  rcases a with⟨f,j,a⟩ | ⟨f,j,a⟩ | ⟨c,j,a⟩
  .subst a
   obtain⟨l,r,o,w⟩:=I.list j;have d:=r.length;exact wpAny_truthy_list o.isList (by simp only[size_toArray];lia) ⟨H,I.tok _,by rw[j7 r];exact q⟩
  .subst a
   obtain⟨l,r,o,w⟩:=I.tuple j;have d:=r.length;exact truthy_tuple o (by simp only[size_toArray];lia) ⟨H,I.tok _,by rw[j7 r];exact q⟩
  .subst a
   obtain⟨w,hS,vs,r,m⟩:c.length<=sizeLine/\(p == sysModules)=false/\∃ vs,KV c vs/\s.heap.DictOf (bO X.prog X.w) p vs:=I.hok p _ j;have d:c.length=vs.length:=Paired.length r;exact wpAny_truthy_dict hS m (by lia) ⟨H,I.tok _,by rw[oE r];exact q⟩
 | _=>exact(show False from e).elim
theorem fq(i:PE X a ta)(c:∀ whole,isTrue a X.env whole=(do let v <- whole;standAt a.pos;holding [v] (truthy v))) :
  PT X a (λσ H Q=>ta σ H λx H'=>∃ k,xm X.K x H' k/\Q k H'):=by
 intro b s σ H Q I h;exact isTrue_plain (thn (i b s σ H _ I h) λv j ⟨x,d,e,g,f⟩=>vP b j σ d x v Q e g f) (c _)
theorem oh:OpR X (binaryOp .Add) (λx y H Q=>∃ i j,x=.str i/\y=.str j/\i.length+j.length<=sizeLine/\Q (.str (i++j)) H):=by
 intro a s g H x y v u Q I e c h;obtain⟨i,j,rfl,rfl,d,q⟩:=h;obtain⟨t,rfl⟩:=e;obtain⟨b,rfl⟩:=c;exact add_str (λb f=>⟨.str (i++j),H,I.tok _,⟨_,rfl⟩,q⟩) d
theorem fX{x:V}{us:List Value}(r:Vals [x] us):∃ u,us=[u]/\RelV x u:=by
 cases r with
 | cons r1 r2=>cases r2;exact⟨_,rfl,r1⟩
theorem kQ{x y:V}{us:List Value}(r:Vals [x,y] us):∃ u w',us=[u,w']/\RelV x u/\RelV y w':=by
 cases r with
 | cons r1 r2 =>
  cases r2 with
  | cons r3 r4=>cases r4;exact⟨_,_,rfl,r1,r3⟩
theorem sR:CallR X (.builtin "abs") (λxs H Q=>∃ i,xs=[.int i]/\Q (.int (if i<0 then -i else i)) H):=by
 intro a s c H xs b Q I r h;obtain⟨i,rfl,q⟩:=h;obtain⟨u,rfl,t,rfl⟩:=fX r
 exact call_abs_int λu d=>⟨.int (if i<0 then -i else i),H,I.tok _,⟨_,rfl⟩,q⟩
inductive rTwo(f:Int->Int->Int)(xs:List V)(H:Hp)(Q:VK):Prop
 | mk(i j:Int)(h0:xs=[.int i,.int j])(h1:Q (.int (f i j)) H):rTwo f xs H Q
theorem iP(b:X.calm=true):CallR X (.builtin "max") (rTwo λi j=>if j > i then j else i):=by
 intro a s f H m g Q I r h;obtain⟨i,j,rfl,q⟩:=h;obtain⟨u,l,rfl,⟨t,rfl⟩,⟨e,rfl⟩⟩:=kQ r
 refine max_two_ints (I.ok.hd b) λc d k=>⟨_,H,I.kept k,?_,q⟩
 by_cases hj:j > i
 .rw[if_pos hj,if_pos hj];exact⟨_,rfl⟩
 .rw[if_neg hj,if_neg hj];exact⟨_,rfl⟩
theorem kJ(b:X.calm=true):CallR X (.builtin "min") (rTwo λi j=>if j<i then j else i):=by
 intro a s f H m g Q I r h;obtain⟨i,j,rfl,q⟩:=h;obtain⟨u,l,rfl,⟨t,rfl⟩,⟨e,rfl⟩⟩:=kQ r
 refine min_two_ints (I.ok.hd b) λc d k=>⟨_,H,I.kept k,?_,q⟩
 by_cases hj:j<i
 .rw[if_pos hj,if_pos hj];exact⟨_,rfl⟩
 .rw[if_neg hj,if_neg hj];exact⟨_,rfl⟩
end
structure ObjM(h:Heap)(x dx C:Addr)(mA:Str->Option Value):Prop where
 obj:h.get? x=some (instObj C dx)
 ns:h.Ns1 dx mA
 ne:dx≠x
theorem p4{h:Heap}{c:Addr}{d:Str->Option Value}(n:h.Ns1 c d):∃ od,h.get? c=some od/\∀ name,lookIn name od=some (d name):=by
 obtain⟨o,f,p,l,m,i,_,k⟩:=n;refine⟨o,l,λname=>?_⟩;have e:=k name;unfold nsFind findBy at e;rw[<- Array.find?_toList]at e;unfold lookIn;rw[m];dsimp only
 split
 .rename_i y q
  rw[q]at e;exact congrArg some e
 .rename_i q
  rw[q]at e
  have a:f.toList.any (·.refKey)=false:=by
   rw[List.any_eq_false];intro y j;obtain⟨z,t,b⟩:=i y (Array.mem_toList_iff.mp j);simp[DictEntry.refKey,b]
  have g:¬f.toList.any (·.refKey)=true:=by rw[a];exact Bool.false_ne_true
  rw[if_neg g];exact congrArg some e
theorem ObjM.look{h:Heap}{x a C:Addr}{b:Str->Option Value}(I:ObjM h x a C b):∃ od,InstAt h x (instObj C a) C (some od)/\∀ name,lookIn name od=some (b name) :=
 let ⟨od,ho,hl⟩:=p4 I.ns
 ⟨od,⟨I.obj,rfl,rfl,ho⟩,hl⟩
section
variable {prog:Program}{w:World}{A:Around}{E:Value->Shared->Prop}{s:Shared}{K:Frag}{x dx C f:Addr}{mA:Str->Option Value}{name:Str}{v:Value}
theorem tP{a:Bool}{Q:Value->Shared->Prop}(X:K.In s.heap)(I:ObjM s.heap x dx C mA)(e:plainGet K C name=true)(g:hasDictIn K C=true)
  (d:findIn K (.ref C) name=some none) (f:mA name=some v) (b:handedIn v=true) (h:Q v { s with toks:=s.toks+1 }) :
  wpAny (model prog w) A (getAttr (.ref x) name a) Q E s:=by
 obtain⟨i,J,c⟩:=I.look;exact PySem.W.get_value X J (plainGet_of e).1 (PySem.W.findObj_own g d rfl (by rw[c,f])) b h
theorem rZ{pl:Sem Bool}{Q:Value×List Value->Shared->Prop}(X:K.In s.heap)(I:ObjM s.heap x dx C mA)(a:plainGet K C name=true)
  (e:findIn K (.ref C) name=some (some (.ref f))) (b:isFn K (.ref f)=true) (g:mA name=none) (h:Q (.ref f,[.ref x]) s) :
  wpAny (model prog w) A (getMethod (.ref x) name pl) Q E s:=by
 obtain⟨c,J,d⟩:=I.look;exact PySem.W.method_fn X J (plainGet_of a).1 (plainGet_of a).2 e (beq_iff_eq.mp b) (by show(lookIn name c).map (·.isSome)=some false;rw[d,g];rfl) h
theorem uW{ns:List Str}{Q:Unit->Shared->Prop}(X:K.In s.heap)(I:ObjM s.heap x dx C mA)
  (l:findIn K (.ref C) "__setattr__" = some (some (.builtin "object.__setattr__"))) (m:plainOver K C=true) (k:takerIn K C name=some none) (u:hasDictIn K C=true)
  (p:PySem.Within mA ns) (hsz:ns.length<=sizeLine)
  (h:∀ h',ObjM h' x dx C (λy=>if y=name then some v else mA y)->Heap.SameBut dx s.heap h'->Q () { s with heap:=h',toks:=s.toks+2 }) :
  wpAny (model prog w) A (setAttr (.ref x) name v) Q E s:=by
 obtain⟨D,J,G⟩:=I.look;refine PySem.W.set_plain X J l (PySem.W.osa_open (s:={ s with toks:=s.toks+1 }) (r:=none) X J m k λb=>?_);obtain⟨B,o,f⟩:=any_some u;have j:s.heap.get? x=some ⟨.ref C,some dx,.plain,#[]⟩:=I.obj;refine wpAny_bind (wpAny_pure (wpAny_bind (wpAny_bind (wpAny_loadPart j (wpAny_bind (Looks.here (s:={ s with toks:=s.toks+1 }) (PySem.W.looks_clsIn X o) ?_))))));rw[f];refine wpAny_pure (a:=some dx) (wpAny_bind (wpAny_pure (wpAny_bind ?_)));refine wpAny_nsSet1 (s:={ s with toks:=s.toks+1 }) I.ns λh' c d=>?_
 obtain⟨F,z,q,g,e,i⟩:=c.count (PySem.Within.cons name v p);refine wpAny_bind (wpAny_lookBehind g (by rw[e];exact pastItsLine_dict (Nat.le_trans i (by rw[length_cons];lia))) ?_);exact wpAny_pure (h _ ⟨(d.2 _ (Ne.symm I.ne)).trans I.obj,c,I.ne⟩ d)
theorem rO{R:Result->Shared->Prop}{vs:List Value}{b:List (Str×Value)}(X:K.In s.heap)(c:makesIn K C=true)
  (i:findIn K (.ref C) "__init__" = some (some (.ref f))) (e:typeIn K (.ref f)=some (.type "function"))
  (h:codeAny (model prog w) (A.under (.builtin "type.__call__" ⟨.ref C::vs,b⟩)) (.call (.ref f) ⟨.ref (s.heap.objs.size+1)::vs,b⟩) (PySem.W.InitBack (s.heap.objs.size+1) R)
   { s with heap:=(s.heap.push emptyDict).push (instObj C s.heap.objs.size) }) :
  codeAny (model prog w) A (.call (.ref C) ⟨vs,b⟩) R s:=by
 obtain⟨k,g,d,t,j⟩:=s;exact PySem.W.make_core (PySem.W.makes_of X c) (PySem.W.looks_findIn X i) (λa=>PySem.W.bind_fn X a e) (.inl rfl) h
end
def gH(f:Str)(v:V):List (Str×V)->List (Str×V)
 | []=>[(f,v)]
 | (g,x)::r=>if g=f then (g,v)::r else (g,x)::gH f v r
theorem ja(f g:Str)(v:V):∀ fs:List (Str×V),(gH f v fs).lookup g=if g=f then some v else fs.lookup g
 | []=>by
  show List.lookup g [(f,v)]=_
  by_cases h:g=f
  .have a:(g == f)=true:=beq_iff_eq.mpr h
   simp only[List.lookup,a,if_pos h]
  .have a:(g == f)=false:=beq_eq_false_iff_ne.mpr h
   simp only[List.lookup,a,if_neg h]
 | (k,x)::r=>by
  have b:=ja f g v r;rw[show gH f v ((k,x)::r)=(if k=f then (k,v)::r else (k,x)::gH f v r) from rfl]
  by_cases hk:k=f
  .rw[if_pos hk]
   by_cases h:g=k
   .have a:(g == k)=true:=beq_iff_eq.mpr h
    simp only[List.lookup,a,if_pos (h.trans hk)]
   .have a:(g == k)=false:=beq_eq_false_iff_ne.mpr h
    simp only[List.lookup,a,if_neg (λe:g=f=>h (e.trans hk.symm))]
  .rw[if_neg hk]
   by_cases h:g=k
   .have a:(g == k)=true:=beq_iff_eq.mpr h
    simp only[List.lookup,a,if_neg (λe:g=f=>hk (h.symm.trans e))]
   .have a:(g == k)=false:=beq_eq_false_iff_ne.mpr h
    simp only[List.lookup,a];exact b
theorem iX(f:Str)(v:V):∀ fs:List (Str×V),f∈(gH f v fs).map (·.1)/\∀ g,g∈fs.map (·.1)->g∈(gH f v fs).map (·.1)
 | []=>⟨by simp[gH],λg h=>by simp at h⟩
 | (k,x)::r=>by
  obtain⟨a,b⟩:=iX f v r;rw[show gH f v ((k,x)::r)=(if k=f then (k,v)::r else (k,x)::gH f v r) from rfl]
  by_cases hk:k=f
  .rw[if_pos hk]
   subst hk;exact⟨by simp,λg h=>by simpa using h⟩
  .rw[if_neg hk]
   refine⟨?_,λg h=>?_⟩
   .rw[map_cons]
    exact mem_cons_of_mem _ a
   .rw[map_cons]at h ⊢
    rcases mem_cons.mp h with e | e
    .exact mem_cons.mpr (.inl e)
    .exact mem_cons_of_mem _ (b g e)
theorem jc(f:Str)(v:V):∀ fs:List (Str×V),(gH f v fs).length<=fs.length+1
 | []=>by simp[gH]
 | (k,x)::r=>by
  have a:=jc f v r;rw[show gH f v ((k,x)::r)=(if k=f then (k,v)::r else (k,x)::gH f v r) from rfl]
  by_cases hk:k=f
  .rw[if_pos hk,length_cons,length_cons];lia
  .rw[if_neg hk,length_cons,length_cons];lia
theorem RelO.some_of{v:V}{o:Option Value}(r:RelO (some v) o):∃ u,o=some u/\RelV v u:=by
 cases o with
 | none=>exact(show False from r).elim
 | some u=>exact⟨u,rfl,r⟩
theorem RelO.none_of{o:Option Value}(r:RelO none o):o=none:=by
 cases o with
 | none=>rfl
 | some u=>exact(show False from r).elim
theorem qd{v:V}{u:Value}(r:RelV v u):handedIn u=true:=by
 cases v with
 | non=>cases(show u=Value.none from r);rfl
 | bl b=>cases(show u=Value.bool b from r);rfl
 | int i=>obtain⟨t,e⟩:=(show ∃ t,u=Value.int i t from r);cases e;rfl
 | str x=>obtain⟨t,e⟩:=(show ∃ t,u=Value.str x t from r);cases e;rfl
 | byt b=>obtain⟨t,e⟩:=(show ∃ t,u=Value.bytes b t from r);cases e;rfl
 | flt b=>obtain⟨t,e⟩:=(show ∃ t,u=Value.float b t from r);cases e;rfl
 | ref a=>cases(show u=Value.ref a from r);rfl
 | ty n=>cases(show u=Value.type n from r);rfl
section
variable {P:Program}{w:World}{H H':Hp}{h h':Heap}{a C dx:Addr}{fs fs':List (Str×V)}
theorem jt(b:HOk P w H h)(e:H a=some (.ins C dx fs)):∃ mA,ObjM h a dx C mA/\(∀ f,RelO (fs.lookup f) (mA f))/\PySem.Within mA (fs.map (·.1))/\fs.length<=1000/\H dx=some (.own a):=by
 obtain⟨d,z,g,c,mA,n,r,q⟩:=(show ObjOk P w H h a (.ins C dx fs) from b a _ e)
 exact⟨mA,⟨c,n,g⟩,r,q,z,d⟩
end
structure Cls(K:Frag)(C:Addr):Prop where
 pg:plainGet K C Str.empty=true
 hd:hasDictIn K C=true
 po:plainOver K C=true
 sa:findIn K (.ref C) "__setattr__" = some (some (.builtin "object.__setattr__"))
theorem Cls.get{K:Frag}{C:Addr}(c:Cls K C)(f:Str):plainGet K C f=true:=c.pg
def NoAttr(K:Frag)(C:Addr)(f:Str):Prop:=findIn K (.ref C) f=some none
theorem NoAttr.taker{K:Frag}{C:Addr}{f:Str}(n:NoAttr K C f):takerIn K C f=some none:=by
 unfold takerIn;rw[show findIn K (.ref C) f=some none from n];rfl
structure Meth(K:Frag)(C:Addr)(m:Str)(f:Addr):Prop where
 at_:findIn K (.ref C) m=some (some (.ref f))
 fn:isFn K (.ref f)=true
 kp:keepIn K (.ref f)=true
section
variable {X:Cx}{pins:List (Addr×Obj)}{σ:St}{H:Hp}{s:Shared}{a C dx:Addr}{fs:List (Str×V)}{f:Str}{v:V}{A:Around}{E:Value->Shared->Prop}
theorem oK{b:Bool}{Q:Value->Shared->Prop}(I:Inv X pins σ H s)(e:H a=some (.ins C dx fs))(c:Cls X.K C)(n:NoAttr X.K C f)(l:fs.lookup f=some v)
  (h:∀ u s',Inv X pins σ H s'->RelV v u->Q u s'):wpAny (model X.prog X.w) A (getAttr (.ref a) f b) Q E s:=by
 obtain⟨g,O,r,_,_,_⟩:=jt I.hok e;obtain⟨u,i,d⟩:=RelO.some_of (v:=v) (o:=g f) (by rw[<- l];exact r f);exact tP I.kIn O (c.get f) c.hd n i (qd d) (h u _ (I.tok _) d)
theorem jx{m:Str}{g:Addr}{pl:Sem Bool}{Q:Value×List Value->Shared->Prop}(I:Inv X pins σ H s)(e:H a=some (.ins C dx fs))(c:Cls X.K C)(k:Meth X.K C m g)(l:fs.lookup m=none)
  (h:Q (.ref g,[.ref a]) s):wpAny (model X.prog X.w) A (getMethod (.ref a) m pl) Q E s:=by
 obtain⟨b,O,r,_,_,_⟩:=jt I.hok e;have d:b m=none:=RelO.none_of (by rw[<- l];exact r m);exact rZ I.kIn O (c.get m) k.at_ k.fn d h
theorem oS{y:V}{u:Value}{Q:Unit->Shared->Prop}(I:Inv X pins σ H s)(e:H a=some (.ins C dx fs))(c:Cls X.K C)(n:NoAttr X.K C f)(B:fs.length<1000)(p:RelV y u)
  (h:∀ s',Inv X pins σ (upd H a (.ins C dx (gH f y fs))) s'->Q () s'):wpAny (model X.prog X.w) A (setAttr (.ref a) f u) Q E s:=by
 obtain⟨i,O,r,k,_,j⟩:=jt I.hok e;have v:(fs.map (·.1)).length<=sizeLine:=by rw[length_map,sizeLine_eq];lia
 refine uW I.kIn O c.sa c.po n.taker c.hd k v λl d m=>h _ ?_
 have w:∃ o,l.get? dx=some o:=let ⟨o,_,_,e',_⟩:=d.ns;⟨o,e'⟩;refine I.write (x:=a) (e:=dx) (by rw[e];exact True.intro) (.inr j) (λb q hb z=>(m.2 b hb).trans z) w ?_;refine⟨by rw[au O.ne];exact j,?_,O.ne,d.obj,_,d.ns,λg=>?_,λg hg=>?_⟩
 .have:=jc f y fs;lia
 .show RelO ((gH f y fs).lookup g) (if g=f then some u else i g)
  rw[ja]
  by_cases q:g=f
  .rw[if_pos q,if_pos q];exact p
  .rw[if_neg q,if_neg q];exact r g
 .by_cases q:g=f
  .rw[q];exact(iX f y fs).1
  .refine(iX f y fs).2 g (k g λz=>hg ?_)
   show(if g=f then some u else i g)=none;rw[if_neg q];exact z
theorem Inv.made(I:Inv X pins σ H s):Inv X pins σ (upd (upd H s.heap.objs.size (.own (s.heap.objs.size+1))) (s.heap.objs.size+1) (.ins C s.heap.objs.size []))
  { s with heap:=(s.heap.push emptyDict).push (instObj C s.heap.objs.size) }:=by
 have c:(s.heap.push emptyDict).get? s.heap.objs.size=some emptyDict:=Heap.get?_push_size s.heap rfl
 have h:((s.heap.push emptyDict).push (instObj C s.heap.objs.size)).get? (s.heap.objs.size+1)=some (instObj C s.heap.objs.size):=by
  have:=Heap.get?_push_size (s.heap.push emptyDict) (o:=instObj C s.heap.objs.size) rfl;rwa [Heap.size_push]at this
 have f:(s.heap.push emptyDict).Ns s.heap.objs.size (λ_=>none):=⟨emptyDict,#[],_,c,rfl,(λe he=>absurd he (by simp)),λ_=>rfl⟩
 have g:=I.laid (a:=s.heap.objs.size) (o:=.own (s.heap.objs.size+1)) (h':=s.heap.push emptyDict) (t':=s.toks) (λb u q=>Heap.get?_push_of_some _ q) (Nat.le_refl _) ⟨_,c⟩;refine g.laid (a:=s.heap.objs.size+1) (o:=.ins C s.heap.objs.size []) (t':=s.toks) (λb u q=>Heap.get?_push_of_some _ q) (Nat.le_of_eq (Heap.size_push _ _)) ?_;have d:s.heap.objs.size≠s.heap.objs.size+1:=Nat.ne_of_lt (Nat.lt_succ_self _);refine⟨by rw[au d,ac],Nat.zero_le _,d,h,λ_=>none,(Heap.Ns1.of_empty f).at λo q=>Heap.get?_push_of_some _ q,λ_=>True.intro,λy hy=>absurd rfl hy⟩
theorem uJ{prog:Program}{w:World}{env:Env}{e:Expr}{f:Str}{a:Pos}{s:Shared}{Q:Value->Shared->Prop}(b:attributeBase e f env (eval e env)=eval e env)
  (h:wpAny (model prog w) A (eval e env) (λo s₁=>wpAny (model prog w) A (getAttr o f true) Q E s₁) E s):wpAny (model prog w) A (eval (.Attribute e f a) env) Q E s :=
 Attribute_any_ h (by rw[arm_eval_Attribute,b])
end
def wM(K:Frag)(ta:TE)(f:Str):TE:=λσ H Q=>ta σ H λx H1=>∃ a C dx fs v,x=.ref a/\H1 a=some (.ins C dx fs)/\Cls K C/\NoAttr K C f/\fs.lookup f=some v/\Q v H1
def xL(K:Frag)(ta tv:TE)(f:Str):TS:=λD σ H=>tv σ H λy H1=>ta σ H1 λx H2=>∃ a C dx fs,x=.ref a/\H2 a=some (.ins C dx fs)/\Cls K C/\NoAttr K C f/\fs.length<1000 /\
 D.nx σ (upd H2 a (.ins C dx (gH f y fs)))
section
variable {X:Cx}{o e value:Expr}{f:Str}{pos pos' tpos:Pos}{ta tv:TE}
theorem bV(d:PE X e ta)(r:attributeBase e f X.env (eval e X.env)=eval e X.env):PE X (.Attribute e f pos) (wM X.K ta f):=by
 intro b s m H Q I h;refine uJ r (thn (d b s m H _ I h) λu D ⟨x,g,j,w,a,C,z,y,v,p,k,c,n,l,q⟩=>?_);subst p;obtain rfl:u=Value.ref a:=w
 exact oK j k c n l λA B i o=>⟨v,g,i,o,q⟩
theorem gm(k:PE X o ta)(p:PE X value tv)(i:swapsWith value (some (.Attribute o f pos')) pos.line X.env=pure false):PS X (.Assign [.Attribute o f pos'] value pos) (xL X.K ta tv f):=by
 intro b s d H D I h;refine plainObj_wpAny_Assign_Attribute (thn (p b s d H _ I h) λu r ⟨y,e,g,m,q⟩=>thn (k b r d e _ g q) λov s2 ⟨x,H2,I2,rx,a,C,dx,fs,ex,ea,c,n,l,q2⟩=>?_) i;subst ex;obtain rfl:ov=Value.ref a:=rx
 exact oS I2 ea c n l m λv j=>⟨d,_,j,q2⟩
end
section
variable {X:Cx}{pins:List (Addr×Obj)}{σ:St}{H:Hp}{s:Shared}{A:Around}{E:Value->Shared->Prop}{Q:Value->Shared->Prop}{c:Value}{b:Bool}
inductive TyOf(K:Frag)(H:Hp):V->Value->Prop where
 | non:TyOf K H .non (.type "NoneType")
 | bl (x:Bool):TyOf K H (.bl x) (.type "bool")
 | int (i:Int):TyOf K H (.int i) (.type "int")
 | str (x:Str):TyOf K H (.str x) (.type "str")
 | flt (x:UInt64):TyOf K H (.flt x) (.type "float")
 | lst {a:Addr}{xs:List V}(e:H a=some (.lst xs)):TyOf K H (.ref a) (.type "list")
 | frz {a:Addr}{o:Obj}{xs:List V}(e:H a=some (.frz o (.lst xs))):TyOf K H (.ref a) (.type "list")
 | tup {a:Addr}{xs:List V}(e:H a=some (.tup xs)):TyOf K H (.ref a) (.type "tuple")
 | dK {a:Addr}{kvs:List (Key×V)}(e:H a=some (.dK kvs)):TyOf K H (.ref a) (.type "dict")
 | dT {a:Addr}{kvs:List (List Key×V)}(e:H a=some (.dT kvs)):TyOf K H (.ref a) (.type "dict")
 | ins {a C dx:Addr}{fs:List (Str×V)}(e:H a=some (.ins C dx fs)) (cl:Cls K C) (ha:findIn K (.ref C) "__class__" = some (some (.builtin "object.__class__")))
   (hn:specialIn K (.builtin "object.__class__") "__get__" = some (some (.builtin "getset_descriptor.__get__"))) (htk:takesIn K (.builtin "object.__class__")=some true)
   (hm:mroIn K C (.type "object")=some true):TyOf K H (.ref a) (.ref C)
end
structure Room(k:Nat)(A:Around):Prop where
 hd:A.handled=none
 dp:A.depth+3*k+5<recursionLimit
 un:A.units+16*k+200<cLine
theorem Room.mono{j k:Nat}{A:Around}(r:Room k A)(h:j<=k):Room j A:=⟨r.hd,by have:=r.dp;lia,by have:=r.un;lia⟩
theorem Room.deeper{k:Nat}{A:Around}(r:Room (k+1) A)(env:Env):Room k (A.deeper env) :=
 ⟨r.hd,by have:=r.dp;show A.depth+1+3*k+5<_;lia,by have:=r.un;show A.units+3+16*k+200<_;lia⟩
theorem oX{A:Around}{C:Addr}{us:List Value}{a:List (Str×Value)}:(A.under (.builtin "type.__call__" ⟨.ref C::us,a⟩)).depth=A.depth+1:=by
 first | rfl | simp[Around.under,Code.weight,Code.isCreation,Code.isGuard,Code.isCaller,Code.frames,Code.isFrame,guardIds]
theorem o3{A:Around}{C:Addr}{us:List Value}{a:List (Str×Value)}:(A.under (.builtin "type.__call__" ⟨.ref C::us,a⟩)).units=A.units+1:=by
 first | rfl | simp[Around.under,Code.cUnits,Code.frames,Code.isFrame]
theorem Room.make{k:Nat}{A:Around}(r:Room (k+1) A)(C:Addr)(us:List Value)(a:List (Str×Value)):Room k (A.under (.builtin "type.__call__" ⟨.ref C::us,a⟩)) :=
 ⟨r.hd,by have:=r.dp;rw[oX];lia,by have:=r.un;rw[o3];lia⟩
theorem Room.depth{k:Nat}{A:Around}(r:Room k A):A.depth<recursionLimit:=by have:=r.dp;lia
theorem Room.units{k:Nat}{A:Around}(r:Room k A):A.units+64<cLine:=by have:=r.un;lia
def wm:TA:=λ_ H Q=>Q [] H
def vh(ta:TE)(tr:TA):TA:=λσ H Q=>ta σ H λx H1=>tr σ H1 λxs H2=>Q (x::xs) H2
section
variable {X:Cx}{e:Expr}{es:List Expr}{te:TE}{t:TA}{pos:Pos}
theorem ae:PA X [] wm:=λ_ _ _ _ H Q I h=>Calls.spliced_nil ⟨[],H,I,.nil,h⟩
theorem aa(p:PE X e te)(l:PA X es t)(k:starEach (e::es) X.env=(false,eval e X.env)::starEach es X.env:=by rfl):PA X (e::es) (vh te t):=by
 intro b a s c H Q I h;rw[k];show wpAny _ _ (spliced ((false,eval e X.env)::backTo b (starEach es X.env))) _ _ s;refine Calls.spliced_cons (thn (p a s c H _ I h) λu v ⟨x,g,j,o,m⟩=>?_)
 exact thn (l b a v c g _ j m) λw y ⟨q,d,i,r,f⟩=>⟨x::q,d,i,.cons o r,f⟩
def xK(t:TA):TE:=λσ H Q=>t σ H λxs H1=>xs.length<=sizeLine/\∀ p,H1 p=none->Q (.ref p) (upd H1 p (.tup xs))
def xF(t:TA):TE:=λσ H Q=>t σ H λxs H1=>xs.length<=sizeLine/\∀ p,H1 p=none->Q (.ref p) (upd H1 p (.lst xs))
theorem aT{x1}(h:PA X es t):PE X (.Tuple es x1 pos) (xK t):=by
 intro a s g H Q I i;refine wpAny_Tuple_spliced (thn (h pos a s g H _ I i) λj c ⟨l,d,f,r,z,q⟩=>⟨by rw[<- r.length];exact z,?_⟩);have k:d c.heap.objs.size=none:=f.hok.fresh (Nat.le_refl _);refine⟨.ref c.heap.objs.size,upd d c.heap.objs.size (.tup l),f.laid (t':=c.toks) (λb u e=>Heap.get?_push_of_some _ e) (Nat.le_refl _) ?_,rfl,q _ k⟩;exact⟨z,j,r,⟨_,Heap.get?_push_size _ rfl,rfl,_,rfl⟩⟩
theorem cC(h:PA X es t):PE X (.List es pos) (xF t):=by
 intro a s g H Q I i;refine wpAny_List_spliced (thn (h pos a s g H _ I i) λj c ⟨l,d,f,r,z,q⟩=>⟨by rw[<- r.length];exact z,?_⟩);have k:d c.heap.objs.size=none:=f.hok.fresh (Nat.le_refl _);refine⟨.ref c.heap.objs.size,upd d c.heap.objs.size (.lst l),f.laid (t':=c.toks) (λb u e=>Heap.get?_push_of_some _ e) (Nat.le_refl _) ?_,rfl,q _ k⟩;exact⟨z,j,0,r,Heap.get?_push_size _ rfl⟩
end
abbrev Sp:=List V->Hp->VK->XK->Prop
abbrev CXT:=List Env->Hp->Shared->XK->Value->Shared->Prop
structure Env0(P:Program)(w:World)(K:Frag)(mg:Str->Option Value)(base:Heap)(A:Around)(outer:List Env)(s:Shared)(H:Hp):Prop where
 frames:A.frames=some outer
 mod:Mod K mg base
 bs:∀ b o,base.get? b=some o->s.heap.get? b=some o/\H b=none
 bsz:base.objs.size<=s.heap.objs.size
 funs:s.heap.FunFrames base outer
 frf:∀ b∈frs outer,H b=none
 hok:HOk P w H s.heap
 bare:AllBare s.gens
def CE(outer:List Env)(P:Program)(w:World)(H:Hp)(s:Shared)(Q:VK)(u:Value)(s':Shared):Prop :=
 ∃ v H',s'.os=s.os/\AllBare s'.gens/\Un (frs outer) [] H H' s.heap s'.heap/\HOk P w H' s'.heap/\RelV v u/\Q v H'
def CR(CX:CXT)(outer:List Env)(P:Program)(w:World)(H:Hp)(s:Shared)(Q:VK)(E:XK)(r:Result)(s':Shared):Prop :=
 match r with
 | .ok (.ret u)=>CE outer P w H s Q u s'
 | .ok _=>False
 | .error e=>CX outer H s E e s'
structure FnOk(P:Program)(w:World)(K:Frag)(mg:Str->Option Value)(base:Heap)(CX:CXT)(k:Nat)(f:Addr)(fd:FuncData)(ps:List Str)(sp:Sp):Prop where
 len:∀ vs H Q E,sp vs H Q E->vs.length=ps.length
 run:∀(A:Around) (outer:List Env) (s:Shared) (H:Hp) (args:Args) (us:List Value) (vs:List V) (Q:VK) (E:XK),Room k A->Env0 P w K mg base A outer s H->BindsTo s fd args (ps.zip us)->Vals vs us->sp vs H Q E ->
  codeAny (model P w) A (.call (.ref f) args) (CR CX outer P w H s Q E) s
theorem FnOk.mono{P:Program}{w:World}{K:Frag}{mg:Str->Option Value}{a:Heap}{CX:CXT}{j k:Nat}{f:Addr}{d:FuncData}{ps:List Str}{sp:Sp}(F:FnOk P w K mg a CX j f d ps sp)(h:j<=k) :
  FnOk P w K mg a CX k f d ps sp:=⟨F.len,λA b s H c i g Q E e=>F.run A b s H c i g Q E (e.mono h)⟩
theorem Env0.make{P:Program}{w:World}{K:Frag}{mg:Str->Option Value}{b:Heap}{A:Around}{a:List Env}{s:Shared}{H:Hp}(e:Env0 P w K mg b A a s H)(C:Addr)(us:List Value)(c:List (Str×Value)) :
  Env0 P w K mg b (A.under (.builtin "type.__call__" ⟨.ref C::us,c⟩)) a s H:=⟨by first | exact e.frames | (simpa[Around.under,Code.envs,Code.isFrame,pushEnvs] using e.frames),e.mod,e.bs,e.bsz,e.funs,e.frf,e.hok,e.bare⟩
section
variable {X:Cx}{pins:List (Addr×Obj)}{σ:St}{H:Hp}{s s':Shared}
theorem Inv.env0(I:Inv X pins σ H s):Env0 X.prog X.w X.K X.mg X.base X.A X.stack s H :=
 ⟨I.ok.frames,I.ok.mod,I.bs,Nat.le_trans I.ok.bsz I.sz,I.stack,I.stkFree,I.hok,I.bare⟩
theorem Inv.after{Q:VK}{u:Value}(I:Inv X pins σ H s)(h:CE X.stack X.prog X.w H s Q u s'):EP X pins σ Q u s':=by
 obtain⟨v,f,i,a,j,e,r,q⟩:=h;obtain⟨k,g,d,t,c⟩:=s';obtain rfl:c=s.os:=i;exact⟨v,f,I.call (h':=k) (g':=g) (d':=d) (t':=t) (ch:=[]) j e a (λb z=>absurd z (by simp)),r,q⟩
end
def wN(sp:Sp)(dvs:List V)(E:XK)(t:TA):TE:=λσ H Q=>t σ H λvs H1=>sp (vs++dvs) H1 Q E
def vB(C:Addr)(m:Str)(sp:Sp)(dvs:List V)(E:XK)(ta:TE)(t:TA):TE:=λσ H Q=>ta σ H λx H1=>∃ a dx fs,x=.ref a/\H1 a=some (.ins C dx fs)/\fs.lookup m=none /\
 t σ H1 λvs H2=>sp (x::(vs++dvs)) H2 Q E
def xx(C:Addr)(sp:Sp)(dvs:List V)(E:XK)(t:TA):TE:=λσ H Q=>t σ H λvs H1=>∀ x dx,H1 x=none->H1 dx=none->dx≠x ->
 sp (.ref x::(vs++dvs)) (upd (upd H1 dx (.own x)) x (.ins C dx [])) (λv H2=>v=.non/\Q (.ref x) H2) E
def Binds(K:Frag)(fd:FuncData)(ps:List Str)(ds:List Value):Prop :=
 ∀(s:Shared) (us:List Value),K.In s.heap->(us++ds).length=ps.length->BindsTo s fd ⟨us,[]⟩ (ps.zip (us++ds))
theorem Binds.all{K:Frag}{a:FuncData}{ps:List Str}(h:∀ us:List Value,us.length=ps.length->bindArgs a ⟨us,[]⟩=pure (ps.zip us)):Binds K a ps []:=λs us _ b=>by
 rw[append_nil]at b ⊢;exact .of_eq (h us b)
def g6(CX:CXT)(X:Cx)(E:XK):Prop:=∀(pins:List (Addr×Obj)) (σ:St) (H:Hp) (s:Shared) (e:Value) (s':Shared),Inv X pins σ H s->CX X.stack H s E e s'->X.xe e s'
section
variable {X:Cx}{CX:CXT}{k:Nat}{f C:Addr}{fd:FuncData}{ps:List Str}{sp:Sp}{dvs:List V}{ds:List Value}{E:XK}{x m:Str}{p pos apos:Pos}{e o:Expr}{es:List Expr}{ta:TE}{t:TA}
theorem oi{a:List (Addr×Obj)}{c:St}{H:Hp}{s:Shared}{Q:VK}{us:List Value}{vs:List V}(F:FnOk X.prog X.w X.K X.mg X.base CX k f fd ps sp)(i:Room k X.A)(m:Binds X.K fd ps ds)(o:Vals dvs ds)(g:g6 CX X E)
  (I:Inv X a c H s) (r:Vals vs us) (h:sp (vs++dvs) H Q E):wpAny (model X.prog X.w) X.A (call (.ref f) us) (EP X a c Q) X.xe s:=by
 have d:Vals (vs++dvs) (us++ds):=r.append o;have l:(us++ds).length=ps.length:=by rw[<- d.length];exact F.len _ _ _ _ h
 refine wpAny_call (codeAny_mono (F.run X.A X.stack s H ⟨us,[]⟩ (us++ds) (vs++dvs) Q E i I.env0 (m s us I.kIn l) d h) λr j b=>?_);cases r with
 | error e=>exact g a c H s e j I b
 | ok fl =>
  cases fl with
  | ret u=>exact I.after b
  | next=>exact False.elim b
  | brk=>exact False.elim b
  | cont=>exact False.elim b
theorem av(F:FnOk X.prog X.w X.K X.mg X.base CX k f fd ps sp)(m:Room k X.A)(v:Gl X x)(l:X.mg x=some (.ref f))(j:keepIn X.K (.ref f)=true)(w:Binds X.K fd ps ds)(y:Vals dvs ds)(g:g6 CX X E)
  (u:PA X (e::es) t) (c:(x == ("__debug__" : Str))=false:=by decide) (i:starEach (e::es) X.env=(false,eval e X.env)::starEach es X.env:=by rfl) (b:(backTo pos (starEach es X.env)).any (·.1)=false:=by rfl) :
  PE X (.Call (.Name x p) (e::es) [] pos) (wN sp dvs E t):=by
 intro a s o H Q I h;refine wpAny_Call_Name_kw (jq I v l ?_ c);refine callWith_K (h₀:=X.base) I.ok.mod.kin j (thn (u pos a s o H _ I h) λB C ⟨A,z,d,r,q⟩=>⟨d.kIn,?_⟩) i b;exact oi F m w y g d r q
theorem aJ{pl:Sem Bool}(y:PE X o ta)(c:Cls X.K C)(v:Meth X.K C m f)(F:FnOk X.prog X.w X.K X.mg X.base CX k f fd ps sp)(L:Room k X.A)(N:Binds X.K fd ps ds)(G:Vals dvs ds)(w:g6 CX X E)(B:PA X (e::es) t)
  (g:starEach (e::es) X.env=(false,eval e X.env)::starEach es X.env:=by rfl) (d:(backTo pos (starEach es X.env)).any (·.1)=false:=by rfl)
  (z:eval (.Call (.Attribute o m apos) (e::es) [] pos) X.env=(do
   let ov <- eval o X.env
   standAt apos.atName
   let (f,first) <- holding [ov] (getMethod ov m pl)
   callWith pos f first (backTo pos (starEach (e::es) X.env)) (backToKw pos (keywordEach [] X.env))):=by rfl) :
  PE X (.Call (.Attribute o m apos) (e::es) [] pos) (vB C m sp dvs E ta t):=by
 intro b s p H Q I h;refine methodCall_KW (pl:=pl) (thn (y b s p H _ I h) λu D ⟨x,A,j,O,a,S,P,M,K,l,q⟩=>?_) z;subst M;obtain rfl:u=Value.ref a:=O;refine jx j K c v l ?_;refine callWith_K (first:=[.ref a]) (h₀:=X.base) I.ok.mod.kin v.kp (thn (B pos b D p A _ j q) λus R ⟨vs,T,i,r,J⟩=>⟨i.kIn,?_⟩) g d;exact oi (us:=.ref a::us) (vs:=.ref a::vs) F L N G w i (.cons rfl r) J
theorem bB{pl:Sem Bool}(i:PE X o ta)(c:Cls X.K C)(e:Meth X.K C m f)(F:FnOk X.prog X.w X.K X.mg X.base CX k f fd ps sp)(r:Room k X.A)(z:Binds X.K fd ps ds)(A:Vals dvs ds)(g:g6 CX X E)
  (j:eval (.Call (.Attribute o m apos) [] [] pos) X.env=(do
   let ov <- eval o X.env
   standAt apos.atName
   let (f,first) <- holding [ov] (getMethod ov m pl)
   callWith pos f first (backTo pos (starEach [] X.env)) (backToKw pos (keywordEach [] X.env))):=by rfl) :
  PE X (.Call (.Attribute o m apos) [] [] pos) (vB C m sp dvs E ta wm):=by
 intro b s v H Q I h;refine methodCall_KW (pl:=pl) (thn (i b s v H _ I h) λu J ⟨x,G,d,w,a,D,B,y,p,l,q⟩=>?_) j;subst y;obtain rfl:u=Value.ref a:=w;refine jx d p c e l ?_;exact PySem.W.callWith_K0 (first:=[.ref a]) d.kIn e.kp (oi (us:=[.ref a]) (vs:=[.ref a]) F r z A g d (.cons rfl .nil) q)
structure Mk(K:Frag)(C f:Addr):Prop where
 makes:makesIn K C=true
 init:findIn K (.ref C) "__init__" = some (some (.ref f))
 fn:isFn K (.ref f)=true
 kp:keepIn K (.ref C)=true
theorem sQ{a:List (Addr×Obj)}{d:St}{H:Hp}{s:Shared}{Q:VK}{us:List Value}{vs:List V}(M:Mk X.K C f)(F:FnOk X.prog X.w X.K X.mg X.base CX k f fd ps sp)(o:Room (k+1) X.A)(A:Binds X.K fd ps ds)(B:Vals dvs ds)
  (l:g6 CX X E) (I:Inv X a d H s) (r:Vals vs us)
  (h:∀ x dx,H x=none->H dx=none->dx≠x->sp (.ref x::(vs++dvs)) (upd (upd H dx (.own x)) x (.ins C dx [])) (λv H2=>v=.non/\Q (.ref x) H2) E) :
  wpAny (model X.prog X.w) X.A (call (.ref C) us) (EP X a d Q) X.xe s:=by
 have i:=h (s.heap.objs.size+1) s.heap.objs.size (I.hok.fresh (Nat.le_succ _)) (I.hok.fresh (Nat.le_refl _)) (Nat.ne_of_lt (Nat.lt_succ_self _));have c:=Inv.made (C:=C) I;have g:Vals (V.ref (s.heap.objs.size+1)::(vs++dvs)) (Value.ref (s.heap.objs.size+1)::(us++ds)):=.cons rfl (r.append B)
 have q:(Value.ref (s.heap.objs.size+1)::us++ds).length=ps.length:=by
  have e:=g.length;rw[F.len _ _ _ _ i]at e;exact e.symm
 refine wpAny_call (rO (f:=f) I.kIn M.makes M.init (beq_iff_eq.mp M.fn) (codeAny_mono (F.run _ X.stack _ _ ⟨Value.ref (s.heap.objs.size+1)::us,[]⟩ (Value.ref (s.heap.objs.size+1)::(us++ds)) _ _ E (o.make C us [])
  (c.env0.make C us []) (A _ (Value.ref (s.heap.objs.size+1)::us) c.kIn q) g i) λr y b=>?_))
 cases r with
 | error e=>exact l a d _ _ e y c b
 | ok fl =>
  cases fl with
  | ret u =>
   obtain⟨v,m,w,z,p,j⟩:=c.after b;subst p;exact⟨z,⟨V.ref (s.heap.objs.size+1),m,w,rfl,j⟩⟩
  | next=>exact False.elim b
  | brk=>exact False.elim b
  | cont=>exact False.elim b
theorem bP(M:Mk X.K C f)(F:FnOk X.prog X.w X.K X.mg X.base CX k f fd ps sp)(l:Room (k+1) X.A)(u:Gl X x)(j:X.mg x=some (.ref C))(v:Binds X.K fd ps ds)(w:Vals dvs ds)(g:g6 CX X E)
  (o:PA X (e::es) t) (c:(x == ("__debug__" : Str))=false:=by decide) (i:starEach (e::es) X.env=(false,eval e X.env)::starEach es X.env:=by rfl) (b:(backTo pos (starEach es X.env)).any (·.1)=false:=by rfl) :
  PE X (.Call (.Name x p) (e::es) [] pos) (xx C sp dvs E t):=by
 intro a s m H Q I h;refine wpAny_Call_Name_kw (jq I u j ?_ c);refine callWith_K (h₀:=X.base) I.ok.mod.kin M.kp (thn (o pos a s m H _ I h) λA B ⟨z,y,d,r,q⟩=>⟨d.kIn,?_⟩) i b;exact sQ M F l v w g d r q
end
section
variable {X:Cx}{CX:CXT}{k:Nat}{f C:Addr}{fd:FuncData}{ps ks:List Str}{sp:Sp}{E:XK}{x m:Str}{p pos apos kpos:Pos}{e o:Expr}{es:List Expr}{kws:List Keyword}{te ta:TE}{t tk:TA}{nm:Option Str}
variable {g:List Value->List Value->List Value}{gV:List V->List V->List V}
end
structure FnScope(N P:List Str)(sc:Scope):Prop where
 kind:sc.kind=.function
 co:sc.isCoroutine=false
 gen:sc.isGenerator=false
 nd:N.Nodup
 pre:N.take P.length=P
 par:∀ x ∈ P,sc.names.lookup x = some .local\/sc.names.lookup x = some .cell
 nofree:∀ y∈sc.names,y.2≠.free
theorem kK{a:Str->Option NameKind}{x:Str}:∀{binds:List (Str×Value)}{m:Str->Option Value},(∀ v,(x,v) ∉ binds)->bindL a binds m x=m x
 | [],_,_=>rfl
 | (n,v)::r,m,h=>by
  unfold bindL;rw[kK λw b=>h w (mem_cons_of_mem _ b)]
  split
  .have:x≠n:=by rintro rfl;exact h v mem_cons_self
   simp[this]
  .rfl
theorem kF{a:Str->Option NameKind}{x:Str}:∀{binds:List (Str×Value)}{m:Str->Option Value},(∀ v,(x,v) ∉ binds)->bindC a binds m x=m x
 | [],_,_=>rfl
 | (n,v)::r,m,h=>by
  unfold bindC;rw[kF λw b=>h w (mem_cons_of_mem _ b)]
  split
  .rfl
  .have:x≠n:=by rintro rfl;exact h v mem_cons_self
   simp[this]
theorem kW{a:Str->Option NameKind}{x:Str}{v:Value}:∀{P:List Str}{vs:List Value}{i:Nat}{m:Str->Option Value},P.Nodup->P[i]? = some x->vs[i]? = some v->a x = some .local ->
  bindL a (P.zip vs) m x=some v
 | [],_,_,_,_,h,_,_=>by simp at h
 | _::_,[],_,_,_,_,h,_=>by simp at h
 | p::P,w::vs,0,m,nd,h1,h2,hk=>by
  simp at h1 h2;subst h1;subst h2;show bindL a ((p,w)::P.zip vs) m p=_;unfold bindL;rw[kK λv b=>(nodup_cons.mp nd).1 (of_mem_zip b).1,if_pos hk];simp
 | p::P,w::vs,i+1,m,nd,h1,h2,hk=>by
  show bindL a ((p,w)::P.zip vs) m x=_;unfold bindL;exact kW (i:=i) (nodup_cons.mp nd).2 (by simpa using h1) (by simpa using h2) hk
theorem kO{a:Str->Option NameKind}{x:Str}{v:Value}:∀{P:List Str}{vs:List Value}{i:Nat}{m:Str->Option Value},P.Nodup->P[i]? = some x->vs[i]? = some v->a x≠some .local ->
  bindC a (P.zip vs) m x=some v
 | [],_,_,_,_,h,_,_=>by simp at h
 | _::_,[],_,_,_,_,h,_=>by simp at h
 | p::P,w::vs,0,m,nd,h1,h2,hk=>by
  simp at h1 h2;subst h1;subst h2;show bindC a ((p,w)::P.zip vs) m p=_;unfold bindC;rw[kF λv b=>(nodup_cons.mp nd).1 (of_mem_zip b).1,if_neg hk];simp
 | p::P,w::vs,i+1,m,nd,h1,h2,hk=>by
  show bindC a ((p,w)::P.zip vs) m x=_;unfold bindC;exact kO (i:=i) (nodup_cons.mp nd).2 (by simpa using h1) (by simpa using h2) hk
def start(N:List Str)(vs:List V):St:=vs.map some++List.replicate (N.length - vs.length) none
def fu(CX:CXT)(P:Program)(w:World)(K:Frag)(mg:Str->Option Value)(base:Heap)(N:List Str)(qual:Str)(scope:Scope)(f:Addr)(cd:Value)(A:Around)(outer:List Env)(s:Shared)(H:Hp)(E:XK):Cx where
 prog:=P
 w:=w
 K:=K
 mg:=mg
 base:=base
 A:=A.deeper (envOfC qual scope s.heap.objs.size f cd)
 N:=N
 s₀:=s
 H₀:=H
 env:=envOfC qual scope s.heap.objs.size f cd
 outer:=outer
 stack:=envOfC qual scope s.heap.objs.size f cd::outer
 ex:=[]
 calm:=true
 fn:=λ_=>true
 pn:=[]
 xe:=λe s'=>wpAny (model P w) (A.deeper (envOfC qual scope s.heap.objs.size f cd)) (leaving (envOfC qual scope s.heap.objs.size f cd) e) (λ_ s''=>CX outer H s E e s'') (λe' s''=>CX outer H s E e' s'') s'
theorem mF{a:Scope}{n:Nat}{x:Str}(h:a.names.lookup x=some .cell):∃ c,(cellsFrom n a.names []).lookup x=some c:=by
 have q:=cellsFrom_some a.names n [] (.inl h);exact Option.isSome_iff_exists.mp q
theorem kG{CX:CXT}{P:Program}{w:World}{K:Frag}{mg:Str->Option Value}{l:Heap}{N ps:List Str}{g:Str}{scope:Scope}{f:Addr}{F:Value}{A:Around}{d:List Env}{s L:Shared}{H:Hp}{E:XK}{us:List Value}{vs:List V}
  (S:FnScope N ps scope) (R:A.handled=none) (m:Env0 P w K mg l A d s H) (X:vs.length=ps.length) (r:Vals vs us)
  (x:InCallC s s.heap.objs.size (bindL (envOfC g scope s.heap.objs.size f F).kindOf (ps.zip us) λ_=>none) (cellsFrom (s.heap.objs.size+1) scope.names []) (bindC (envOfC g scope s.heap.objs.size f F).kindOf (ps.zip us) λ_=>none) L) :
  Inv (fu CX P w K mg l N g scope f F A d s H E) [] (start N vs) H L:=by
 have O:ps.length<=N.length:=by have:=congrArg List.length S.pre;rw[length_take]at this;lia
 obtain⟨D,W,rfl,J⟩:=x.done;have o:∀ b:Addr,b ∉ (fu CX P w K mg l N g scope f F A d s H E).ex:=λb z=>absurd (show b∈([]:List Addr) from z) (by simp)
 refine⟨⟨m.mod,S.kind,rfl,rfl,Nat.le_refl _,λy z c D j=>?_,λy hy=>?_,λy c _ h=>?_,λ_=>R,Around.frames_deeper m.frames,.inr ⟨rfl,rfl⟩,λb z=>absurd z (o b),m.bs,m.bsz,λb _ _=>o b,λb z=>absurd z (o b),m.funs,m.frf⟩,
  rfl,m.bare,Un.kept J,⟨_,x.toInCall.ns,λi y v D j T=>?_⟩,λy c h=>⟨_,x.cell y c h⟩,m.hok.fresh (Nat.le_refl _),λy c h=>?_,λp C=>absurd (show p∈([]:List (Addr×Obj)) from C) (by simp),m.hok.kept J,?_⟩
 .exact name_of_addr x.apart (PySem.mem_of_lookup D) (PySem.mem_of_lookup j)
 .have hy:scope.names.lookup y=some .cell\/scope.names.lookup y=some .free:=hy
  rcases hy with hy | hy
  .exact mF hy
  .exact absurd rfl (S.nofree _ (PySem.mem_of_lookup hy))
 .exact Nat.le_of_lt (x.above y c (PySem.mem_of_lookup h))
 .have G:i<vs.length:=by
   unfold start at j
   by_cases G:i<vs.length
   .exact G
   .rw[List.getElem?_append_right (by simpa using G)]at j
    rw[List.getElem?_replicate]at j
    split at j <;> cases j
  have Q:vs[i]? = some v:=by
   unfold start at j;rw[List.getElem?_append_left (by simpa using G),List.getElem?_map]at j;cases e:vs[i]? with
   | none=>rw[e]at j;cases j
   | some a=>rw[e]at j;cases j;rfl
  obtain⟨u,I,M⟩:=r.get Q
  have C:ps[i]? = some y:=by
   rw[<- S.pre,List.getElem?_take_of_lt (by lia)];exact D
  have B:ps.Nodup:=by rw[<- S.pre];exact S.nd.sublist (List.take_sublist _ _)
  refine⟨u,M,?_⟩
  rcases S.par y (List.mem_of_getElem? C) with k | k
  .exact .inl ⟨k,kW B C I k⟩
  .obtain⟨c,e⟩:=mF (n:=s.heap.objs.size+1) k
   refine .inr ⟨.inl k,c,e,?_⟩;have q:=x.cell y c e;rw[kO B C I (by show scope.names.lookup y≠_;rw[k];decide)]at q;exact q
 .exact m.hok.fresh (Nat.le_of_lt (x.above y c (PySem.mem_of_lookup h)))
 .unfold start
  show _=N.length;rw[length_append,length_map,List.length_replicate];lia
theorem wQ{CX:CXT}{P:Program}{w:World}{K:Frag}{mg:Str->Option Value}{g:Heap}{k:Nat}{f:Addr}{name a:Str}{d:Arguments}{body:List Stmt}{scope:Scope}{R X z T c Y oc:Value}{W od:Option Addr}
  {D:Array (Option Value)}{N ps:List Str}{sp:Sp}(lk:K.lookup f=some ⟨oc,od,.func (fnOf name a d body scope R X z T W c Y),D⟩) (F:codeIn K c a=true) (S:FnScope N ps scope)
  (p:∀ vs H Q E,sp vs H Q E->vs.length=ps.length)
  (j:∀(A:Around) (outer:List Env) (s:Shared) (H:Hp) (vs:List V) (Q:VK) (E:XK),Room k (A.deeper (envOfC a scope s.heap.objs.size f c))->sp vs H Q E ->
   ∃ t,PSs (fu CX P w K mg g N a scope f c A outer s H E) body t/\t { nx:=λ_ H'=>Q .non H',rt:=Q } (start N vs) H) :
  FnOk P w K mg g CX (k+1) f (fnOf name a d body scope R X z T W c Y) ps sp:=by
 refine⟨p,λA outer s H Z us vs Q E M C hb r B=>?_⟩;have hl:=p _ _ _ _ B;have KX:K.In s.heap:=C.mod.kin.keeps λb o e=>(C.bs b o e).1
 have L:s.heap.NoLimit:=C.mod.nolimit.keeps λb o e=>(C.bs b o e).1
 have i:∀ y ∈ ps.zip us,scope.names.lookup y.1 = some .local\/(scope.names.lookup y.1 = some .cell/\((cellsFrom (s.heap.objs.size + 1) scope.names []).lookup y.1).isSome = true):=λ⟨n,v⟩ hy=>by
  rcases S.par n (of_mem_zip hy).1 with q | q
  .exact .inl q
  .exact .inr ⟨q,cellsFrom_some _ _ _ (.inl q)⟩
 refine codeAny_call_function M.depth (KX _ _ lk) rfl S.co S.gen rfl (codeRec_of KX F) (hb _ _ _ _ ?_);refine wpAny_newFunctionEnv_cells S.kind i λab he s1 x=>?_
 subst he;refine⟨L.keeps x.toInCall.keep,codeAny_func ?_⟩;obtain⟨t,ht,hq⟩:=j A outer s H vs Q E (M.deeper _) B;have I:Inv (fu CX P w K mg g N a scope f c A outer s H E) [] (start N vs) H s1:=kG S M.hd C hl r x;refine wpAny_mono (ht [] s1 (start N vs) H _ I hq) (λfl O l=>?_) λe O l=>l
 have m:∀{h:St}{H':Hp}{v:V}{u:Value},Inv (fu CX P w K mg g N a scope f c A outer s H E) [] h H' O->RelV v u->Q v H'->CE outer P w H s Q u O :=
  λ{h H' v u} J G q=>⟨v,H',J.os,J.bare,J.base,J.hok,G,q⟩
 cases fl with
 | ret u =>
  obtain⟨v,h,H',J,G,q⟩:=l;exact m J G q
 | next =>
  obtain⟨h,H',J,q⟩:=l;exact m (v:=V.non) (u:=Value.none) J rfl q
 | brk =>
  obtain⟨_,_,_,q⟩:=l;exact False.elim q
 | cont =>
  obtain⟨_,_,_,q⟩:=l;exact False.elim q
section
variable {X:Cx}{x:Str}{p pos:Pos}{e:Expr}{es:List Expr}{t:TA}{id T:String}{r:List V->Hp->VK->Prop}
def tCB(r:List V->Hp->VK->Prop)(t:TA):TE:=λσ H Q=>t σ H λvs H1=>r vs H1 Q
theorem aG(y:CallR X (.builtin id) r)(u:Gl X x)(f:X.mg x=none)(w:bootBuiltins x=some (.builtin id))(q:PA X (e::es) t)(l:x ≠ "__name__" := by decide)(c:(x == ("__debug__" : Str))=false:=by decide)
  (g:starEach (e::es) X.env=(false,eval e X.env)::starEach es X.env:=by rfl) (b:(backTo pos (starEach es X.env)).any (·.1)=false:=by rfl):PE X (.Call (.Name x p) (e::es) [] pos) (tCB r t):=by
 intro a s d H Q I h;refine wpAny_Call_Name_kw (fO I u f w ?_ l c);exact PyProof.Rows.callWith_builtin1 (thn (q pos a s d H _ I h) λv z ⟨k,i,j,o,m⟩=>y a z d i k v Q j o m) g b
theorem cY(y:CallR X (.type T) r)(u:Gl X x)(f:X.mg x=none)(w:bootBuiltins x=some (.type T))(q:PA X (e::es) t)(l:x ≠ "__name__" := by decide)(c:(x == ("__debug__" : Str))=false:=by decide)
  (g:starEach (e::es) X.env=(false,eval e X.env)::starEach es X.env:=by rfl) (b:(backTo pos (starEach es X.env)).any (·.1)=false:=by rfl):PE X (.Call (.Name x p) (e::es) [] pos) (tCB r t):=by
 intro a s d H Q I h;refine wpAny_Call_Name_kw (fO I u f w ?_ l c);exact PyProof.Rows.callWith_type1 (thn (q pos a s d H _ I h) λv z ⟨k,i,j,o,m⟩=>y a z d i k v Q j o m) g b
end
end L2
namespace HT
open PySem PyProof.Rows
section
open PySem.SeqAt
open PySem.AutoSeq1 (wpAny_loadPart')
open PySem.MeetsSeq PySem.MeetsSeq2 PySem.MeetsSeq3
end
section
variable {prog:Program}{w:World}{A:Around}{E:Value->Shared->Prop}{s:Shared}
theorem cat_tup{t b:Addr}{vs a:List Value}{Q:Value->Shared->Prop}(x:IsTup s.heap t vs.toArray)(y:IsTup s.heap b a.toArray)(r:vs≠[])
  (u:a=[]->Q (.ref t) s) (v:a≠[]->Q (.ref s.heap.objs.size) { s with heap:=s.heap.push { cls:=.type "tuple",data:=.seq (vs++a).toArray } })
  (hsz:vs.length+a.length<=sizeLine):wpAny (model prog w) A (binaryOp .Add (.ref t) (.ref b)) Q E s:=by
 obtain⟨⟨cls,p,data,m⟩,i,l,n,q⟩:=id x;obtain⟨⟨o,g,j,f⟩,c,d,k,h⟩:=id y;simp only at l q d h;subst l q d h;have e:vs.toArray++a.toArray=(vs++a).toArray:=by simp
 by_cases hw:a=[]
 .exact concat_meets ⟨_,i,rfl⟩ ⟨_,c,rfl⟩ noFill_tuple_add seq_tuple_add PySem.F.slot_tuple_add PySem.F.entry_tuple_add (PySem.F.args_tuple_add_2 _ _)
   (tuple_addW1 t b vs.toArray a.toArray n k p g m f (by simpa using r) (by simp[hw])) ⟨i,c,u hw⟩
 .refine concat_meets ⟨_,i,rfl⟩ ⟨_,c,rfl⟩ noFill_tuple_add seq_tuple_add PySem.F.slot_tuple_add PySem.F.entry_tuple_add (PySem.F.args_tuple_add_2 _ _)
   (tuple_addW2 t b vs.toArray a.toArray n k p g m f (by simpa using r) (by simpa using hw) (by rw[size_toArray,size_toArray];exact hsz)) ⟨i,c,?_⟩
  rw[e];exact v hw
def sIx(n d:Nat):Option Int->Nat
 | none=>d
 | some v=>if v<0 then (v+(n:Int)).toNat else min v.toNat n
theorem sIx_none(n d:Nat):sIx n d none=d:=rfl
theorem sIx_nat(n d k:Nat):sIx n d (some (k:Int))=min k n:=by
 show(if (k:Int)<0 then ((k:Int)+(n:Int)).toNat else min (k:Int).toNat n)=min k n;rw[if_neg (by lia),Int.toNat_natCast]
theorem sIx_le(n d:Nat)(a:d<=n)(o:Option Int):sIx n d o<=n:=by
 cases o with
 | none=>exact a
 | some v =>
  show(if v<0 then (v+(n:Int)).toNat else min v.toNat n)<=n
  by_cases hv:v<0
  .rw[if_pos hv];lia
  .rw[if_neg hv];exact Nat.min_le_right _ _
theorem pN(v:Int)(n d:Nat):(if v<0 then max (v+(n:Int)) 0 else min v (n:Int))=((sIx n d (some v):Nat):Int):=by
 show(if v<0 then max (v+(n:Int)) 0 else min v (n:Int))=(((if v<0 then (v+(n:Int)).toNat else min v.toNat n):Nat):Int)
 by_cases hv:v<0
 .simp only[if_pos hv];lia
 .simp only[if_neg hv];lia
theorem oO(lo a:Option Int)(n:Nat):Builtin.Slice.sliceAdjust lo a 1 (n:Int)=(((sIx n 0 lo:Nat):Int),((sIx n n a:Nat):Int)):=by
 have b:¬((1:Int)<0):=by lia
 unfold Builtin.Slice.sliceAdjust;simp only[b,if_false];refine Prod.ext ?_ ?_
 .cases lo with
  | none=>rfl
  | some v=>exact pN v n 0
 .cases a with
  | none=>rfl
  | some v=>exact pN v n n
theorem oV(i j:Nat):Builtin.Slice.slicePlaces (i:Int) (j:Int) 1=j - i:=by
 unfold Builtin.Slice.slicePlaces;have a:(1:Int) > 0:=by lia
 simp only[a,if_true,Int.ediv_one]
 split <;> lia
theorem jW{v:Value}{o:Option Int}{Q:Option Int->Shared->Prop}(p:IsPart v o)(h:Q o s):wpAny (model prog w) A (Builtin.Slice.slicePartIndex v) Q E s:=by
 cases p with
 | none=>exact slicePart_none h
 | int i t=>exact slicePart_int h
theorem iJ{f:Addr}{d e:Value}{lo c:Option Int}{n:Nat}{Q:Int×Int×Nat->Shared->Prop}(g:s.heap.IsSliceOf f d e .none)(pl:IsPart d lo)(i:IsPart e c)
  (h:Q (((sIx n 0 lo:Nat):Int),1,sIx n n c - sIx n 0 lo) s):wpAny (model prog w) A (Builtin.Slice.sliceApplied (.ref f) (pure (n:Int))) Q E s:=by
 obtain⟨k,b,j,a⟩:=id g;unfold Builtin.Slice.sliceApplied Builtin.Slice.sliceFields;refine wpAny_bind (wpAny_bind (wpAny_field b a (x:=d) rfl (wpAny_bind (wpAny_field b a (x:=e) rfl (wpAny_bind (wpAny_field b a (x:=.none) rfl (wpAny_pure ?_)))))));refine wpAny_bind (slicePart_none ?_);show wpAny _ _ (if ((1:Int) == 0)=true then _ else _) _ _ s;rw[if_neg (by decide)];refine wpAny_bind (jW pl (wpAny_bind (jW i (wpAny_bind (wpAny_pure ?_)))));show wpAny _ _ (match Builtin.Slice.sliceAdjust lo c 1 (n:Int) with | (lo,c)=>pure (lo,(1:Int),Builtin.Slice.slicePlaces lo c 1)) _ _ s;rw[oO lo c n];show wpAny _ _ (pure (((sIx n 0 lo:Nat):Int),(1:Int),Builtin.Slice.slicePlaces ((sIx n 0 lo:Nat):Int) ((sIx n n c:Nat):Int) 1)) _ _ s;rw[oV];exact wpAny_pure h
theorem qV(xs:Array Value)(i k:Nat):((List.range k).filterMap λ(m:Nat)=>xs[((i:Int)+(m:Int)*1).toNat]?).toArray=((xs.toList.drop i).take k).toArray:=by
 have e:(λ(m:Nat)=>xs[((i:Int)+(m:Int)*1).toNat]?)=λm=>xs[i+m]?:=by
  funext m
  have:((i:Int)+(m:Int)*1).toNat=i+m:=by lia
  rw[this]
 rw[e];have:=pick_run xs i k;rw[List.filterMap_map]at this;have a:((λx=>xs[x]?) ∘ λx=>i+x)=λm=>xs[i+m]?:=rfl
 rw[a]at this;rw[this]
theorem getItem_tuple_cut{t d:Addr}{items:Array Value}{k l:Value}{lo b:Option Int}{Q:Value->Shared->Prop}(c:IsTup s.heap t items)(j:s.heap.IsSliceOf d k l .none)(pl:IsPart k lo)(r:IsPart l b)
  (u:¬(sIx items.size 0 lo=0/\sIx items.size items.size b=items.size))
  (h:Q (.ref s.heap.objs.size) { s with heap:=s.heap.push { cls:=.type "tuple",data:=.seq ((items.toList.drop (sIx items.size 0 lo)).take (sIx items.size items.size b - sIx items.size 0 lo)).toArray } })
  (hsz:items.size<=sizeLine):wpAny (model prog w) A (getItem (.ref t) (.ref d)) Q E s:=by
 have a:sizeOk (.seq ((items.toList.drop (sIx items.size 0 lo)).take (sIx items.size items.size b - sIx items.size 0 lo)).toArray):=by
  show((items.toList.drop (sIx items.size 0 lo)).take (sIx items.size items.size b - sIx items.size 0 lo)).toArray.size<=sizeLine;rw[size_toArray,length_take,length_drop,Array.length_toList];lia
 have y:sIx items.size items.size b<=items.size:=sIx_le _ _ (Nat.le_refl _) b;obtain⟨o,g,e,p⟩:=id j;have f:s.TypeIs (.ref d) "slice" := ⟨o,g,e⟩;unfold getItem
 try with_reducible refine wpAny_holding ?_
 first | refine wpAny_bind (wpAny_pure ?_) | skip
 refine wpAny_bind (wpAny_sequenceKey c.typeIs (by decide) ?_)
 refine wpAny_bind (wpAny_callSpecial?_slot (name:=Str.ofString "__getitem__") c.typeIs PyProof.Rows.slot_tuple_getitem
  (wpAny_call_entry PyProof.Rows.slot_tuple_getitem c.typeIs entry_tuple_getitem ?_ (args_tuple_getitem _ _)))
 show wpAny _ _ (Builtin.Tuple.tupleItemsOf (.ref t) >>= _) _ _ s;refine wpAny_bind (tupleItemsOf_ c ?_);refine wpAny_bind (wpAny_typeOf f ?_);rw[if_pos (by decide)];refine wpAny_bind (iJ j pl r ?_)
 have i:¬((((sIx items.size 0 lo:Nat):Int) == 0 && (1:Int) == 1 && (sIx items.size items.size b - sIx items.size 0 lo) == items.size)=true):=by
  intro q;rw[Bool.and_eq_true,Bool.and_eq_true]at q;have x:((sIx items.size 0 lo:Nat):Int)=0:=eq_of_beq q.1.1;have v:sIx items.size items.size b - sIx items.size 0 lo=items.size:=eq_of_beq q.2;exact u ⟨by lia,by lia⟩
 show wpAny _ _ (if (((sIx items.size 0 lo:Nat):Int) == 0 && (1:Int) == 1 && (sIx items.size items.size b - sIx items.size 0 lo) == items.size)=true then _ else _) _ _ s;rw[if_neg i,qV]
 first
  | exact wpAny_bind (m:=Builtin.Tuple.tupleExact _) (wpAny_newObj_type (wpAny_pure ⟨_,rfl,wpAny_pure h⟩) a)
  | exact wpAny_bind (m:=Builtin.Tuple.tupleExact _) (wpAny_newObj_type (wpAny_bind (wpAny_pure (wpAny_pure ⟨_,rfl,wpAny_pure h⟩))) a)
  | exact wpAny_bind (wpAny_bind (m:=Builtin.Tuple.tupleExact _) (wpAny_newObj_type (wpAny_pure (wpAny_pure ⟨_,rfl,wpAny_pure h⟩)) a))
  | exact wpAny_bind (wpAny_bind (m:=Builtin.Tuple.tupleExact _) (wpAny_newObj_type (wpAny_pure ⟨_,rfl,wpAny_pure h⟩) a))
end
end HT
namespace L2
open PySem PySem.Spec PyProof.Rows
abbrev TO:=St->Hp->(Option Int->Hp->Prop)->Prop
def PO(X:Cx)(e:Option Expr)(t:TO):Prop :=
 ∀(pins:List (Addr×Obj)) (s:Shared) (σ:St) (H:Hp) (Q:Option Int->Hp->Prop),Inv X pins σ H s->t σ H Q ->
  wpAny (model X.prog X.w) X.A (evalPart e X.env) (λu s'=>∃ o H',Inv X pins σ H' s'/\IsPart u o/\Q o H') X.xe s
def uN:TO:=λ_ H Q=>Q none H
def wV(t:TE):TO:=λσ H Q=>t σ H λx H1=>∃ i,x=.int i/\Q (some i) H1
section
variable {X:Cx}{e:Expr}{te:TE}{lo hi:Option Expr}{tl th:TO}{pos p2:Pos}
theorem eK:PO X none uN:=by
 intro a s b H Q I h;rw[evalPart_none];exact wpAny_pure ⟨none,H,I,.none,h⟩
theorem d0(h:PE X e te):PO X (some e) (wV te):=by
 intro a s d H Q I j;rw[evalPart_some];refine thn (h a s d H _ I j) λu k ⟨x,b,c,g,f⟩=>?_
 obtain⟨i,rfl,q⟩:=f;obtain⟨t,rfl⟩:=g;exact⟨some i,b,c,.int i t,q⟩
def SlR(X:Cx)(r:V->Option Int->Option Int->Hp->VK->Prop):Prop :=
 ∀(pins:List (Addr×Obj)) (s:Shared) (σ:St) (H:Hp) (x:V) (v vl vu:Value) (lo hi:Option Int) (sl:Addr) (Q:VK),Inv X pins σ H s->RelV x v->s.heap.IsSliceOf sl vl vu .none->IsPart vl lo->IsPart vu hi->r x lo hi H Q ->
  ∃ T id,typeLookup (.type T) "__getitem__" = pure (some (.builtin id))/\s.TypeIs v T/\wpAny (model X.prog X.w) X.A (getItem v (.ref sl)) (EP X pins σ Q) X.xe s
theorem SlR.or{r r':V->Option Int->Option Int->Hp->VK->Prop}(h:SlR X r)(h':SlR X r'):SlR X (λx lo hi H Q=>r x lo hi H Q\/r' x lo hi H Q):=by
 intro a s f H x v b d lo hi i Q I j c g e q
 rcases q with q | q
 .exact h a s f H x v b d lo hi i Q I j c g e q
 .exact h' a s f H x v b d lo hi i Q I j c g e q
def tSl(r:V->Option Int->Option Int->Hp->VK->Prop)(te:TE)(tl th:TO):TE:=λσ H Q=>te σ H λx H1=>tl σ H1 λl H2=>th σ H2 λu H3=>r x l u H3 Q
theorem d6{r:V->Option Int->Option Int->Hp->VK->Prop}(F:SlR X r)(f:PE X e te)(G:PO X lo tl)(j:PO X hi th):PE X (.Subscript e (.Slice lo hi none p2) pos) (tSl r te tl th):=by
 intro a s c H Q I h;refine Subscript_ (thn (f a s c H _ I h) λv D ⟨x,z,i,B,A⟩=>?_);refine wpAny_Slice (thn (G a D c z _ i A) λd p ⟨l,y,g,w,E⟩=>thn (j a p c y _ g E) λvu s3 ⟨u,H3,I3,pu,q3⟩=>?_);rw[evalPart_none];refine wpAny_pure ?_;have o:Inv X a c H3 { s3 with heap:=s3.heap.push { cls:=.type "slice",data:=.fields #[d,vu,.none] } }:=I3.kept (t':=s3.toks) λb J q=>Heap.get?_push_of_some _ q
 obtain⟨T,K,m,k,C⟩:=F a { s3 with heap:=s3.heap.push { cls:=.type "slice",data:=.fields #[d,vu,.none] } } c H3 x v d vu l u s3.heap.objs.size Q o B (Heap.IsSliceOf.new ..) w pu q3;show wpAny (model X.prog X.w) X.A (subscriptTail e (.Slice lo hi none p2) v (.ref s3.heap.objs.size)) (EP X a c Q) X.xe { s3 with heap:=s3.heap.push { cls:=.type "slice",data:=.fields #[d,vu,.none] } };exact tail_any (ops:=[.ref s3.heap.objs.size,v]) k m C (by with_unfolding_all rfl)
def dQ(xs:List V)(lo hi:Option Int):List V:=(xs.drop (HT.sIx xs.length 0 lo)).take (HT.sIx xs.length xs.length hi - HT.sIx xs.length 0 lo)
theorem jd(xs:List V)(lo a:Option Int):(dQ xs lo a).length<=xs.length:=by
 unfold dQ;rw[length_take,length_drop];lia
def x9(K:Frag):V->Option Int->Option Int->Hp->VK->Prop:=λx lo hi H Q=>∃ a xs,x=.ref a/\SqT K H a xs /\
 ¬(HT.sIx xs.length 0 lo=0/\HT.sIx xs.length xs.length hi=xs.length)/\∀ p,H p=none->Q (.ref p) (upd H p (.tup (dQ xs lo hi)))
theorem sl_tup:SlR X (x9 X.K):=by
 intro i s C H x v B z e f A Q I y p u m h;obtain⟨a,d,rfl,l,w,q⟩:=h;cases y;obtain⟨g,r,j,k⟩:=I.tuple l;have c:g.toArray.size=d.length:=by rw[size_toArray];exact r.length.symm
 refine⟨"tuple",_,PyProof.Rows.slot_tuple_getitem.lookup,j.typeIs,?_⟩;refine HT.getItem_tuple_cut j p u m (by rw[c];exact w) ?_ (by rw[c];exact k);rw[c];refine⟨.ref s.heap.objs.size,_,I.laid (t':=s.toks) (o:=.tup (dQ d e f)) (λb D q=>Heap.get?_push_of_some _ q) (Nat.le_refl _) ?_,rfl,q _ (I.hok.fresh (Nat.le_refl _))⟩;exact⟨Nat.le_trans (jd d e f) k,_,(r.drop (HT.sIx d.length 0 e)).take (HT.sIx d.length d.length f - HT.sIx d.length 0 e),IsTup.new _ _⟩
def sy(K:Frag):R2:=λx y H Q=>∃ a b xs ys,x=.ref a/\y=.ref b/\SqT K H a xs/\SqT K H b ys/\xs≠[]/\xs.length+ys.length<=sizeLine /\
 (ys=[]->Q (.ref a) H)/\(ys≠[]->∀ p,H p=none->Q (.ref p) (upd H p (.tup (xs++ys))))
theorem Vals.nil_iff{xs:List V}{us:List Value}(r:Vals xs us):us=[]↔xs=[]:=by
 cases r with
 | nil=>simp
 | cons _ _=>simp
theorem um:OpR X (binaryOp .Add) (sy X.K):=by
 intro e s F H x y v u Q I E l h;obtain⟨a,b,m,k,rfl,rfl,r,D,i,f,p,B⟩:=h;cases E;cases l;obtain⟨C,d,A,_⟩:=I.tuple r;obtain⟨g,c,j,_⟩:=I.tuple D;refine HT.cat_tup A j (λz=>i (d.nil_iff.mp z)) (λz=>⟨.ref a,H,I,rfl,p (c.nil_iff.mp z)⟩) (λz=>?_) (by rw[<- d.length,<- c.length];exact f);refine⟨.ref s.heap.objs.size,_,I.laid (t':=s.toks) (o:=.tup (m++k)) (λb G q=>Heap.get?_push_of_some _ q) (Nat.le_refl _) ?_,rfl,B (λw=>z (c.nil_iff.mpr w)) _ (I.hok.fresh (Nat.le_refl _))⟩;exact⟨by rw[length_append];exact f,_,d.append c,IsTup.new _ _⟩
end
def ixN(n:Nat)(i:Int):Option Nat:=if 0<=i then (if i<n then some i.toNat else none) else if -(n:Int)<=i then some (i+n).toNat else none
def atI{α:Type}(xs:List α)(i:Int):Option α:=(ixN xs.length i).bind λj=>xs[j]?
theorem tJ{n:Nat}{i:Int}{j:Nat}(h:ixN n i=some j):seqIndex? i n=some j/\j<n/\-(n:Int)<=i/\i<n:=by
 unfold ixN at h
 by_cases h0:0<=i
 .rw[if_pos h0]at h
  by_cases h1:i<n
  .rw[if_pos h1]at h
   have e:i.toNat=j:=Option.some.inj h;exact⟨by rw[seqIndex_of h0 h1,e],by lia,by lia,h1⟩
  .rw[if_neg h1]at h;cases h
 .rw[if_neg h0]at h
  by_cases h1:-(n:Int)<=i
  .rw[if_pos h1]at h
   have e:(i+n).toNat=j:=Option.some.inj h;exact⟨by rw[seqIndex_neg (by lia) h1,e],by lia,h1,by lia⟩
  .rw[if_neg h1]at h;cases h
theorem lY{a:Type}{xs:List a}{i:Int}{v:a}(h:atI xs i=some v):∃ j,seqIndex? i xs.length=some j/\xs[j]? = some v/\j<xs.length/\-(xs.length:Int)<=i/\i<xs.length:=by
 unfold atI at h;cases e:ixN xs.length i with
 | none=>rw[e]at h;cases h
 | some j =>
  rw[e]at h;obtain⟨c,f,b,d⟩:=tJ e;exact⟨j,c,h,f,b,d⟩
theorem fG{a:Type}{xs:List a}{j:Nat}{v:a}(h:xs[j]? = some v):atI xs (j:Int)=some v:=by
 have b:j<xs.length:=(List.getElem?_eq_some_iff.mp h).1
 have e:ixN xs.length (j:Int)=some j:=by
  unfold ixN;rw[if_pos (by lia),if_pos (by lia)];simp
 unfold atI;rw[e];exact h
def tY(b:Expr):Prop:=∀ o i,subscripted b false o i=operate [o,i] (getItem o i)
def IxR(X:Cx)(r:R2):Prop :=
 ∀(value slice:Expr) (pins:List (Addr×Obj)) (s:Shared) (σ:St) (H:Hp) (x y:V) (v u:Value) (Q:VK),Inv X pins σ H s->RelV x v->RelV y u->r x y H Q ->
  subscripted slice false v u=operate [v,u] (getItem v u)->wpAny (model X.prog X.w) X.A (subscriptTail value slice v u) (EP X pins σ Q) X.xe s
def MtR(X:Cx)(id:String)(r:V->List V->Hp->VK->Prop):Prop :=
 ∀(pins:List (Addr×Obj)) (s:Shared) (σ:St) (H:Hp) (x:V) (xs:List V) (v:Value) (us:List Value) (Q:VK),Inv X pins σ H s->RelV x v->Vals xs us->r x xs H Q ->
  wpAny (model X.prog X.w) X.A (call (.builtin id) (v::us)) (EP X pins σ Q) X.xe s
section
variable {X:Cx}{a b:Expr}{ta tb:TE}{pos:Pos}
theorem IxR.or{r r':R2}(h:IxR X r)(h':IxR X r'):IxR X (λx y H Q=>r x y H Q\/r' x y H Q):=by
 intro a b c s e H x y v u Q I g f q d
 rcases q with q | q
 .exact h a b c s e H x y v u Q I g f q d
 .exact h' a b c s e H x y v u Q I g f q d
theorem aB{r:R2}(f:IxR X r)(j:PE X a ta)(m:PE X b tb)(g:tY b):PE X (.Subscript a b pos) (tOp r ta tb):=by
 intro c s i H Q I h;exact Subscript_ (vU j m I h λv u l x y d e o k q=>f a b c l i d x y v u Q e o k q (g _ _))
inductive rIxL(K:Frag)(x y:V)(H:Hp)(Q:VK):Prop
 | mk(p:Addr)(xs:List V)(i:Int)(v:V)(h0:x=.ref p)(h1:y=.int i)(h2:SqL K H p xs)(h3:atI xs i=some v)(h4:Q v H):rIxL K x y H Q
inductive rIxT(K:Frag)(x y:V)(H:Hp)(Q:VK):Prop
 | mk(p:Addr)(xs:List V)(i:Int)(v:V)(h0:x=.ref p)(h1:y=.int i)(h2:SqT K H p xs)(h3:atI xs i=some v)(h4:Q v H):rIxT K x y H Q
def xg:R2:=λx y H Q=>∃ z i c,x=.str z/\y=.int i/\z.length<=sizeLine/\atI z.cps.toList i=some c/\Q (.str ⟨#[c]⟩) H
theorem ix_list:IxR X (rIxL X.K):=by
 intro g f a s o H x y v u Q I L C h m;obtain⟨p,N,i,z,rfl,rfl,G,B,q⟩:=h;cases L;obtain⟨t,rfl⟩:=C;obtain⟨l,r,e,O⟩:=I.list G;obtain⟨j,c,E,M,D,F⟩:=lY B;obtain⟨w,A,d⟩:=r.get E;have J:=r.length;have P:=iW
 have b:EP X a o Q w s:=⟨z,H,I,d,q⟩
 by_cases h0:0<=i
 .have k:i.toNat=j:=by
   rw[seqIndex_of h0 F]at c;exact Option.some.inj c
  exact item_listR e.isList h0 (by lia) (by rw[k];simpa using A) b m
 .have k:(i+(l.toArray.size:Int)).toNat=j:=by
   rw[seqIndex_neg (by lia) D]at c;rw[size_toArray,<- J];exact Option.some.inj c
  exact subscriptTail_builtinR (x:=w) e.isList.typeIs slot_list_getitem.lookup
   (wpAny_getItem_list_neg (Q:=λr K=>r=w/\EP X a o Q r K) e.isList (by lia) (by rw[size_toArray] <;> lia) (by lia) (by rw[k];simpa using A) ⟨rfl,b⟩) m
theorem ix_tup:IxR X (rIxT X.K):=by
 intro e d a s g H x y v u Q I G m h A;obtain⟨p,M,i,z,rfl,rfl,C,k,q⟩:=h;cases G;obtain⟨t,rfl⟩:=m;obtain⟨F,r,f,N⟩:=I.tuple C;obtain⟨j,l,o,K,J,L⟩:=lY k;obtain⟨w,B,c⟩:=r.get o;have D:=r.length;have O:=iW
 have b:EP X a g Q w s:=⟨z,H,I,c,q⟩
 exact subscriptTail_builtinR (x:=w) f.typeIs slot_tuple_getitem.lookup
  (getItem_tuple (j:=j) (Q:=λr E=>r=w/\EP X a g Q r E) f (by lia) (by lia) (by rw[size_toArray,<- D];exact l) (by simpa using B) ⟨rfl,b⟩) A
theorem wg:IxR X xg:=by
 intro b a e s E H x y v u Q I A g h m;obtain⟨z,i,c,rfl,rfl,F,f,q⟩:=h;obtain⟨t,rfl⟩:=A;obtain⟨B,rfl⟩:=g;obtain⟨j,d,l,C,k,p⟩:=lY f;have r:z.cps.toList.length=z.length:=by simp[Str.length]
 rw[r]at d k p;have D:=iW
 exact tail_any (typeIs_str s z t) slot_str_getitem.lookup (getItem_str (c:=c) (by
  have o:decide (i < -(2 ^ 63:Int))=false:=decide_eq_false (by lia);have w:decide (i >= 2 ^ 63)=false:=decide_eq_false (by lia)
  rw[o,w,Bool.or_false]) (by rw[d];simpa using l) ⟨.str ⟨#[c]⟩,H,I.tok _,⟨_,rfl⟩,q⟩) m
def rIx(K:Frag):R2:=λx y H Q=>rIxL K x y H Q\/rIxT K x y H Q\/xg x y H Q
theorem ax:IxR X (rIx X.K):=ix_list.or (ix_tup.or wg)
theorem lS(lo a:Option Int)(n:Nat):(sliceBounds lo a none n).1=((HT.sIx n 0 lo:Nat):Int)/\(sliceBounds lo a none n).2.1=((HT.sIx n n a:Nat):Int)/\(sliceBounds lo a none n).2.2=1:=by
 refine⟨?_,?_,rfl⟩
 .cases lo with
  | none=>simp[sliceBounds,HT.sIx]
  | some i =>
   simp only[sliceBounds,HT.sIx,Option.getD_none,show(1:Int) > 0 by decide,if_true]
   by_cases h:i<0
   .simp only[h,if_true] <;> lia
   .simp only[h,if_false] <;> lia
 .cases a with
  | none=>simp[sliceBounds,HT.sIx]
  | some i =>
   simp only[sliceBounds,HT.sIx,Option.getD_none,show(1:Int) > 0 by decide,if_true]
   by_cases h:i<0
   .simp only[h,if_true] <;> lia
   .simp only[h,if_false] <;> lia
theorem kj(its:List Value)(lo a:Option Int):slicePick its.toArray lo a none=((its.drop (HT.sIx its.length 0 lo)).take (HT.sIx its.length its.length a - HT.sIx its.length 0 lo)).toArray:=by
 obtain⟨b,d,c⟩:=lS lo a its.toArray.size;unfold slicePick;rw[b,d,c]
 simp only[sliceRange_one,pick_run,size_toArray] <;> rfl
def ye(K:Frag):V->Option Int->Option Int->Hp->VK->Prop:=λx lo hi H Q=>∃ a xs,x=.ref a/\SqL K H a xs/\∀ p,H p=none->Q (.ref p) (upd H p (.lst (dQ xs lo hi)))
theorem sl_list:SlR X (ye X.K):=by
 intro i s A H x v y z e f C Q I w k p m h;obtain⟨a,c,rfl,j,q⟩:=h;cases w;obtain⟨l,r,g,u⟩:=I.list j;have d:=r.length;refine⟨"list",_,slot_list_getitem.lookup,g.isList.typeIs,?_⟩;refine wpAny_getItem_list_slice g.isList k p m .none (by simp) ?_ (by rw[size_toArray] <;> lia);rw[kj,<- d];refine⟨.ref s.heap.objs.size,_,I.laid (t':=s.toks) (o:=.lst (dQ c e f)) (λb B q=>Heap.get?_push_of_some _ q) (Nat.le_refl _) ?_,rfl,q _ (I.hok.fresh (Nat.le_refl _))⟩;exact⟨Nat.le_trans (jd c e f) u,_,0,(r.drop (HT.sIx c.length 0 e)).take (HT.sIx c.length c.length f - HT.sIx c.length 0 e),Heap.get?_push_size _ rfl⟩
def gN:V->Bool
 | .non=>true
 | .bl _=>true
 | .int _=>true
 | .str _=>true
 | _=>false
def eqV:V->V->Bool
 | .non,.non=>true
 | .bl a,.bl b=>a == b
 | .bl a,.int b=>(if a then 1 else 0) == b
 | .int a,.bl b=>a == (if b then 1 else 0)
 | .int a,.int b=>a == b
 | .str a,.str b=>a == b
 | _,_=>false
theorem vV{A:Around}{s:Shared}{y x:V}{u v:Value}(f:RelV y u)(c:RelV x v)(g:gN y=true)(e:gN x=true):SeqAt.EqAt A s u v (eqV y x):=by
 cases y with
 | non =>
  cases f;cases x with
  | non=>cases c;exact SeqAt.EqAt.same _
  | bl b=>cases c;exact SeqAt.EqAt.none_bool b
  | int b=>obtain⟨t,rfl⟩:=c;exact SeqAt.EqAt.none_int b t
  | str b=>obtain⟨t,rfl⟩:=c;exact SeqAt.EqAt.none_str b t
  | _=>exact absurd (show false=true from e) Bool.false_ne_true
 | bl a =>
  cases f;cases x with
  | non=>cases c;exact SeqAt.EqAt.bool_none a
  | bl b=>cases c;exact SeqAt.EqAt.bool_bool a b
  | int b=>obtain⟨t,rfl⟩:=c;exact SeqAt.EqAt.bool_int a b t
  | str b=>obtain⟨t,rfl⟩:=c;exact SeqAt.EqAt.bool_str a b t
  | _=>exact absurd (show false=true from e) Bool.false_ne_true
 | int a =>
  obtain⟨d,rfl⟩:=f;cases x with
  | non=>cases c;exact SeqAt.EqAt.int_none a d
  | bl b=>cases c;exact SeqAt.EqAt.int_bool a d b
  | int b=>obtain⟨t,rfl⟩:=c;exact SeqAt.EqAt.int_int a d b t
  | str b=>obtain⟨t,rfl⟩:=c;exact SeqAt.EqAt.int_str a d b t
  | _=>exact absurd (show false=true from e) Bool.false_ne_true
 | str a =>
  obtain⟨d,rfl⟩:=f;cases x with
  | non=>cases c;exact SeqAt.EqAt.str_none a d
  | bl b=>cases c;exact SeqAt.EqAt.str_bool a d b
  | int b=>obtain⟨t,rfl⟩:=c;exact SeqAt.EqAt.str_int a d b t
  | str b=>obtain⟨t,rfl⟩:=c;exact SeqAt.EqAt.str_str a d b t
  | _=>exact absurd (show false=true from e) Bool.false_ne_true
 | _=>exact absurd (show false=true from g) Bool.false_ne_true
def eqU(x:V)(u:Value):Bool:=match u with
 | .none=>eqV .non x
 | .bool b=>eqV (.bl b) x
 | .int i _=>eqV (.int i) x
 | .str z _=>eqV (.str z) x
 | _=>false
theorem sZ{x y:V}{u:Value}(r:RelV y u)(f:gN y=true):eqU x u=eqV y x:=by
 cases y with
 | non=>cases r;rfl
 | bl b=>cases r;rfl
 | int i=>obtain⟨t,rfl⟩:=r;rfl
 | str z=>obtain⟨t,rfl⟩:=r;rfl
 | _=>exact absurd (show false=true from f) Bool.false_ne_true
theorem iy{x:V}:∀{xs:List V}{us:List Value},Vals xs us->xs.all gN=true->us.any (eqU x)=xs.any λy=>eqV y x
 | _,_,.nil,_=>rfl
 | y::xs,u::us,.cons r t,f=>by
  rw[all_cons,Bool.and_eq_true]at f;rw[any_cons,any_cons,sZ r f.1,iy t f.2]
theorem gk{A:Around}{s:Shared}{x:V}{v:Value}(b:RelV x v)(a:gN x=true):∀{xs:List V}{us:List Value},Vals xs us->xs.all gN=true->∀ u∈us,SeqAt.EqAt A s u v (eqU x u)
 | _,_,.nil,_=>λu hu=>by cases hu
 | y::xs,u::us,.cons r t,f=>λc hu=>by
  rw[all_cons,Bool.and_eq_true]at f
  rcases mem_cons.mp hu with rfl | hu
  .rw[sZ r f.1];exact vV r b f.1 a
  .exact gk b a t f.2 c hu
def inV(x:V)(xs:List V):Bool:=xs.any λy=>eqV y x
inductive rIn(K:Frag)(neg:Bool)(x y:V)(H:Hp)(Q:VK):Prop
 | mk(p:Addr)(xs:List V)(h0:y=.ref p)(h1:SqL K H p xs\/SqT K H p xs)(h2:gN x=true)(h3:xs.all gN=true)(h4:Q (.bl (if neg then !inV x xs else inV x xs)) H):rIn K neg x y H Q
theorem kA:OpR X (compareOp .In) (rIn X.K false):=by
 intro e s k H x y v u Q I g i h;obtain⟨p,l,rfl,hq,f,b,q⟩:=h;cases i
 rcases hq with hq | hq
 .obtain⟨a,r,c,j⟩:=I.list hq
  refine SeqAt.in_listAt (eqU x) c.isList (λw d=>gk g f r b w (by simpa using d)) ⟨.bl _,H,I,rfl,?_⟩;rw[show a.toArray.any (eqU x)=a.any (eqU x) by simp,iy r b];exact q
 .obtain⟨a,r,c,j⟩:=I.tuple hq
  refine SeqAt.in_tupleAt (eqU x) c (λw d=>gk g f r b w (by simpa using d)) ⟨.bl _,H,I,rfl,?_⟩;rw[show a.toArray.any (eqU x)=a.any (eqU x) by simp,iy r b];exact q
theorem ip:OpR X (compareOp .NotIn) (rIn X.K true):=by
 intro e s k H x y v u Q I g i h;obtain⟨p,l,rfl,hq,f,b,q⟩:=h;cases i
 rcases hq with hq | hq
 .obtain⟨a,r,c,j⟩:=I.list hq
  refine SeqAt.notIn_listAt (eqU x) c.isList (λw d=>gk g f r b w (by simpa using d)) ⟨.bl _,H,I,rfl,?_⟩;rw[show a.toArray.any (eqU x)=a.any (eqU x) by simp,iy r b];exact q
 .obtain⟨a,r,c,j⟩:=I.tuple hq
  refine SeqAt.notIn_tupleAt (eqU x) c (λw d=>gk g f r b w (by simpa using d)) ⟨.bl _,H,I,rfl,?_⟩;rw[show a.toArray.any (eqU x)=a.any (eqU x) by simp,iy r b];exact q
theorem mn:CallR X (.builtin "len") (λxs H Q=>∃ p ys,xs=[.ref p]/\(SqL X.K H p ys\/SqT X.K H p ys)/\Q (.int ys.length) H):=by
 intro e s i H xs j Q I r h;obtain⟨p,ys,rfl,hq,q⟩:=h;obtain⟨u,rfl,g⟩:=fX r;cases g;have k:=iW
 rcases hq with hq | hq
 .obtain⟨b,d,c,f⟩:=I.list hq
  have a:=d.length;exact Calls.call_len_list c.isList (by simp only[size_toArray] <;> lia) ⟨.int ys.length,H,I.tok _,⟨s.toks+1,by rw[size_toArray,a]⟩,q⟩
 .obtain⟨b,d,c,f⟩:=I.tuple hq
  have a:=d.length;exact len_tuple c (by simp only[size_toArray] <;> lia) ⟨.int ys.length,H,I.tok _,⟨s.toks+1,by rw[size_toArray,a]⟩,q⟩
theorem call_len_str:CallR X (.builtin "len") (λxs H Q=>∃ z,xs=[.str z]/\z.length<=sizeLine/\Q (.int z.length) H):=by
 intro a s b H xs c Q I r h;obtain⟨z,rfl,d,q⟩:=h;obtain⟨u,rfl,t,rfl⟩:=fX r;have e:=iW;exact len_str (by lia) ⟨.int z.length,H,I.tok _,⟨_,rfl⟩,q⟩
theorem CallR.or{f:Value}{r r':List V->Hp->VK->Prop}(h:CallR X f r)(h':CallR X f r'):CallR X f (λxs H Q=>r xs H Q\/r' xs H Q):=by
 intro a s c H xs b Q I d q
 rcases q with q | q
 .exact h a s c H xs b Q I d q
 .exact h' a s c H xs b Q I d q
inductive rListOf(K:Frag)(xs:List V)(H:Hp)(Q:VK):Prop
 | mk(p:Addr)(ys:List V)(h0:xs=[.ref p])(h1:SqL K H p ys\/SqT K H p ys)(h2:∀ l,H l=none->Q (.ref l) (upd H l (.lst ys))):rListOf K xs H Q
theorem iq:CallR X (.type "list") (rListOf X.K):=by
 intro i s z H C B Q I r h;obtain⟨p,v,rfl,hq,q⟩:=h;obtain⟨u,rfl,A⟩:=fX r;cases A
 have g:∀(a:List Value),Vals v a->v.length<=sizeLine->∀(c:Heap) (d:Nat),(∀ b o',s.heap.get? b=some o'->c.get? b=some o') ->
   c.get? s.heap.objs.size=some { cls:=.type "list",dict:=none,data:=.seq a.toArray d,slots:=#[] }->EP X i z Q (.ref s.heap.objs.size) { s with heap:=c }:=λa f l c d k e =>
  ⟨.ref s.heap.objs.size,_,I.laid (t':=s.toks) k (Nat.le_refl _) (show ObjOk X.prog X.w _ c _ (.lst v) from⟨l,a,d,f,e⟩),rfl,q _ (I.hok.fresh (Nat.le_refl _))⟩
 rcases hq with hq | hq
 .obtain⟨a,f,w,l⟩:=I.list hq
  have j:=f.length;obtain⟨o,m,x,n,y⟩:=w.isList;exact call_list_seq p (.inl rfl) m x y (λc d k e=>g a f l c d k e) (by simp only[size_toArray] <;> lia)
 .obtain⟨a,f,w,l⟩:=I.tuple hq
  have j:=f.length;obtain⟨o,m,x,n,y⟩:=w;exact call_list_seq p (.inr rfl) m x y (λc d k e=>g a f l c d k e) (by simp only[size_toArray] <;> lia)
theorem eZ:CallR X (.type "tuple") (λxs H Q=>∃ p ys,xs=[.ref p]/\((SqL X.K H p ys/\∀ l,H l=none->Q (.ref l) (upd H l (.tup ys)))\/(SqT X.K H p ys/\Q (.ref p) H))):=by
 intro a s k H xs z Q I r h;obtain⟨p,ys,rfl,h⟩:=h;obtain⟨u,rfl,y⟩:=fX r;cases y
 rcases h with⟨f,q⟩ | ⟨f,q⟩
 .obtain⟨c,i,g,v⟩:=I.list f
  have m:=i.length;refine call_tuple_list g.isList (λd x=>?_) (by simp only[size_toArray] <;> lia);have j:Inv X a k H { s with heap:=d }:=I.kept (t':=s.toks) x
  have w:Inv X a k (upd H d.objs.size (.tup ys)) { s with heap:=d.push { cls:=.type "tuple",data:=.seq c.toArray } } :=
   j.laid (t':=s.toks) (λb o e=>Heap.get?_push_of_some _ e) (Nat.le_refl _) (show ObjOk X.prog X.w _ _ _ (.tup ys) from⟨v,c,i,IsTup.new _ _⟩)
  exact⟨.ref d.objs.size,_,w,rfl,q _ (j.hok.fresh (Nat.le_refl _))⟩
 .obtain⟨c,i,g,v⟩:=I.tuple f
  exact call_tuple_same g ⟨.ref p,H,I,rfl,q⟩
def tyV(K:Frag)(T:String)(x:V)(H:Hp):Prop:=match x with
 | .str _=>T = "str"
 | .int _=>T = "int"
 | .ref p=>(T = "list" /\ ∃ xs,SqL K H p xs)\/(T = "tuple" /\ ∃ o,K.lookup p=some o/\o.cls=.type "tuple" /\ o.dict=none) \/
   (T = "dict" /\ ((∃ kvs,H p=some (.dK kvs))\/∃ kvs,H p=some (.dT kvs)))\/(T = "set" /\ ∃ S n,H p=some (.set S n))
 | _=>False
theorem su{f:List (Addr×Obj)}{m:St}{H:Hp}{s:Shared}{T:String}{x:V}{v:Value}(I:Inv X f m H s)(r:RelV x v)(ty:tyV X.K T x H) :
  s.TypeIs v T/\∀ a,v=.ref a->∃ ob,s.heap.get? a=some ob/\ob.dict=none:=by
 cases x with
 | str z =>
  obtain⟨t,rfl⟩:=r;cases(show T = "str" from ty);exact⟨typeIs_str s z t,λ_ e=>nomatch e⟩
 | int i =>
  obtain⟨t,rfl⟩:=r;cases(show T = "int" from ty);exact⟨typeIs_int s i t,λ_ e=>nomatch e⟩
 | ref p =>
  cases r
  rcases ty with⟨rfl,w,q⟩ | ⟨rfl,o,b,u,j⟩ | ⟨rfl,b⟩ | ⟨rfl,S,n,b⟩
  .obtain⟨l,_,k,_⟩:=I.list q
   refine⟨k.isList.typeIs,λa e=>?_⟩;cases e;obtain⟨o,n,e,c,j,_⟩:=k;exact⟨o,e,j⟩
  .refine⟨⟨o,I.kIn p o b,u⟩,λa e=>?_⟩
   cases e;exact⟨o,I.kIn _ o b,j⟩
  .have z:∃ o,s.heap.get? p=some o/\o.ExactDict:=by
    rcases b with⟨g,b⟩ | ⟨g,b⟩
    .obtain⟨_,_,_,_,o,_,_,e,d,_⟩:=I.hok p _ b
     exact⟨o,e,d⟩
    .obtain⟨_,_,_,_,o,_,_,e,d,_⟩:=I.hok p _ b
     exact⟨o,e,d⟩
   obtain⟨o,e,d⟩:=z;refine⟨⟨o,e,d.1⟩,λa h=>?_⟩;cases h;exact⟨o,e,d.2.1⟩
  .obtain⟨o,_,_,_,e,d,_⟩:=I.hok p _ b
   refine⟨⟨o,e,d.1⟩,λa h=>?_⟩;cases h;exact⟨o,e,d.2.1⟩
 | _=>exact False.elim ty
def wW(K:Frag)(T:String)(r:V->List V->Hp->VK->Prop)(to:TE):TE:=λσ H Q=>to σ H λx H1=>tyV K T x H1/\r x [] H1 Q
def tBM(K:Frag)(T:String)(r:V->List V->Hp->VK->Prop)(to:TE)(t:TA):TE:=λσ H Q=>to σ H λx H1=>tyV K T x H1/\t σ H1 λxs H2=>r x xs H2 Q
variable {o e:Expr}{es:List Expr}{to:TE}{t:TA}{name:Str}{apos cpos:Pos}{T id:String}{r:V->List V->Hp->VK->Prop}
theorem wu(j:PlainAttrs T)(d:Slot T name id)(e:typeOf (.builtin id)=pure (.type "method_descriptor"))(l:MtR X id r)(p:PE X o to)
  (b:attributeBase o name X.env (eval o X.env)=eval o X.env:=by rfl) (c:(apos.endLine == cpos.line)=true:=by rfl):PE X (.Call (.Attribute o name apos) [] [] cpos) (wW X.K T r to):=by
 intro a s g H Q I h;refine wpAny_Call_method0_late b c (thn (p a s g H _ I h) λv y ⟨x,k,f,i,u,q⟩=>?_);obtain⟨m,w⟩:=su f i u;exact⟨T,id,j,d,e,m,w,Calls.callWith_builtin rfl (PySem.evalArgs_none (l a y g k x [] v [] Q f i .nil q))⟩
theorem rF(z:PlainAttrs T)(f:Slot T name id)(i:typeOf (.builtin id)=pure (.type "method_descriptor"))(K:MtR X id r)(u:PE X o to)(F:PA X (e::es) t)
  (c:attributeBase o name X.env (eval o X.env)=eval o X.env:=by rfl)
  (g:((backTo cpos (starEach (e::es) X.env)).all (λx=>!x.1) && (backToKw cpos (keywordEach [] X.env)).all (λx=>x.1.isSome)
   && decide ((e::es).length+([]:List Keyword).length+(if ([]:List Keyword).isEmpty then 0 else 1)<30))=true:=by rfl)
  (d:(apos.endLine == cpos.line)=true:=by rfl) (A:starEach (e::es) X.env=(false,eval e X.env)::starEach es X.env:=by rfl) (b:(backTo cpos (starEach es X.env)).any (·.1)=false:=by rfl) :
  PE X (.Call (.Attribute o name apos) (e::es) [] cpos) (tBM X.K T r to t):=by
 intro a s j H Q I h;refine wpAny_Call_method_late c g d rfl (thn (u a s j H _ I h) λv J ⟨x,D,k,m,G,E⟩=>?_);obtain⟨q,y⟩:=su k m G;refine⟨T,id,z,f,i,q,y,?_⟩;have l:=F cpos a J j D _ k E;rw[A]at l ⊢;refine Calls.callWith_builtin (by show(false || (backTo cpos (starEach es X.env)).any (·.1))=false;rw[b] <;> rfl) (Calls.evalArgs_plain ?_);exact thn l λN B ⟨M,C,p,w,L⟩=>K a B j C x M v N Q p m w L
end
def MtM(X:Cx)(id:String)(r:V->List V->Hp->VK->Prop):Prop :=
 ∀(pins:List (Addr×Obj)) (s:Shared) (σ:St) (H:Hp) (x:V) (xs:List V) (v:Value) (us:List Value) (Q:VK),Inv X pins σ H s->RelV x v->Vals xs us->r x xs H Q ->
  wpAny (model X.prog X.w) X.A (call (.builtin id) (v::us)) (EP X pins σ Q) X.xe s
theorem Vals.one:∀{x:V}{us:List Value},Vals [x] us->∃ u,us=[u]/\RelV x u
 | _,_,.cons r .nil=>⟨_,rfl,r⟩
theorem Vals.rep{xs:List V}{us:List Value}(h:Vals xs us):∀ k:Nat,Vals (List.replicate k xs).flatten (List.replicate k us).flatten
 | 0=>.nil
 | k+1=>by
  rw[replicate_succ,replicate_succ,flatten_cons,flatten_cons];exact Vals.append h (Vals.rep h k)
theorem kU(its:List Value):∀(k:Nat) (acc:List Value),
  List.foldl (λx1 x2=>x1++x2) acc.toArray (List.replicate k its.toArray)=(acc++(List.replicate k its).flatten).toArray
 | 0,acc=>by simp
 | k+1,acc=>by
  have e:acc.toArray++its.toArray=(acc++its).toArray:=by simp
  have a:(acc++its)++(List.replicate k its).flatten=acc++(List.replicate (k+1) its).flatten:=by
   rw[replicate_succ,flatten_cons,append_assoc]
  rw[<- a,<- kU its k (acc++its),<- e,replicate_succ,foldl_cons]
section
variable {X:Cx}{pins:List (Addr×Obj)}{σ:St}{H:Hp}{s:Shared}{l b:Addr}{xs ys zs:List V}
theorem Inv.lset{its its':List Value}{n:Nat}{f:Array Value->Array Value}{t':Nat}(I:Inv X pins σ H s)(a:H l=some (.lst xs))
  (e:s.heap.get? l=some { cls:=.type "list",data:=.seq its.toArray n }) (c:f its.toArray=its'.toArray) (d:Vals ys its') (hz:ys.length<=sizeLine) :
  Inv X pins σ (upd H l (.lst ys)) { s with heap:=s.heap.update l (Obj.mapSeq f),toks:=t' }:=by
 have q:=PySem.IsL.update e f;rw[c]at q;refine I.write (x:=l) (e:=l) (by rw[a];exact trivial) (.inl rfl) (λh u g b=>(Heap.get?_update_other s.heap (Obj.mapSeq f) (Ne.symm g)).trans b) ⟨_,q⟩ ?_;exact⟨hz,its',_,d,q⟩
theorem Inv.lnew{its:List Value}{t':Nat}(I:Inv X pins σ H s)(a:Vals ys its)(hz:ys.length<=sizeLine) :
  Inv X pins σ (upd H s.heap.objs.size (.lst ys)) { s with heap:=s.heap.push { cls:=.type "list",data:=.seq its.toArray },toks:=t' } :=
 I.laid (λ_ _ q=>Heap.get?_push_of_some _ q) (Nat.le_refl _) ⟨hz,its,0,a,Heap.get?_push_size _ rfl⟩
theorem Inv.fresh(I:Inv X pins σ H s):H s.heap.objs.size=none:=I.hok.fresh (Nat.le_refl _)
theorem Inv.lstM(I:Inv X pins σ H s)(a:H l=some (.lst xs)):xs.length<=sizeLine/\∃(its:List Value) (n:Nat),Vals xs its/\xs.length=its.length/\s.heap.get? l=some { cls:=.type "list",data:=.seq its.toArray n }:=by
 obtain⟨z,its,n,r,e⟩:=I.hok l _ a;exact⟨z,its,n,r,r.length,e⟩
theorem rR{n:Nat}(h:n<=sizeLine):Builtin.List.listTooLong n=false:=by
 unfold Builtin.List.listTooLong;exact decide_eq_false (by lia)
end
section
variable {X:Cx}
inductive rAppend(x:V)(vs:List V)(H:Hp)(Q:VK):Prop
 | mk(l:Addr)(xs:List V)(y:V)(h0:x=.ref l)(h1:vs=[y])(h2:H l=some (.lst xs))(h3:xs.length<sizeLine)(h4:Q .non (upd H l (.lst (xs++[y])))):rAppend x vs H Q
theorem ko:MtM X "list.append" rAppend:=by
 intro c s j H x i v m Q I g f h;obtain⟨l,o,y,rfl,rfl,b,p,q⟩:=h;cases g;obtain⟨u,rfl,d⟩:=f.one;obtain⟨z,a,n,r,k,e⟩:=I.lstM b;refine call_meets F.slot_list_append ⟨_,e,rfl⟩ F.entry_list_append (F.args_list_append_2 _ _) (PySem.list_append l a.toArray n u (by rw[size_toArray];lia)) ⟨e,?_⟩;refine⟨.non,_,I.lset (its':=a++[u]) b e (by simp) (r.append (.cons d .nil)) ?_,rfl,q⟩;rw[length_append,length_singleton];lia
inductive rCat(x y:V)(H:Hp)(Q:VK):Prop
 | mk(l b:Addr)(xs zs:List V)(h0:x=.ref l)(h1:y=.ref b)(h2:H l=some (.lst xs))(h3:H b=some (.lst zs))(h4:xs.length+zs.length<=sizeLine)(h5:∀ p,H p=none->Q (.ref p) (upd H p (.lst (xs++zs)))):rCat x y H Q
theorem jS:OpR X (binaryOp .Add) rCat:=by
 intro d s B H x y v u Q I p k h;obtain⟨l,b,F,A,rfl,rfl,f,i,D,q⟩:=h;cases p;cases k;obtain⟨z,c,n,r,C,e⟩:=I.lstM f;obtain⟨E,a,w,m,g,o⟩:=I.lstM i;refine PySem.P.add_list e o ?_ (by rw[size_toArray,size_toArray];lia);have j:c.toArray++a.toArray=(c++a).toArray:=by simp
 rw[j];exact⟨.ref _,_,I.lnew (t':=s.toks) (r.append m) (by rw[length_append];lia),rfl,q _ I.fresh⟩
def xE:R2:=λx y H Q=>∃ l k xs,x=.ref l/\y=.int k/\H l=some (.lst xs)/\-(2 ^ 63)<=k/\k<2 ^ 63/\xs.length*k.toNat<=sizeLine /\
 ∀ p,H p=none->Q (.ref p) (upd H p (.lst (List.replicate k.toNat xs).flatten))
theorem uI{a:Type}(xs:List a)(k:Nat):(List.replicate k xs).flatten.length=k*xs.length:=by
 induction k with
 | zero=>simp
 | succ k ih=>rw[replicate_succ,flatten_cons,length_append,ih,Nat.succ_mul,Nat.add_comm]
theorem v7:OpR X (binaryOp .Mult) xE:=by
 intro p s M H x y v u Q I K B h;obtain⟨l,k,L,rfl,rfl,E,A,C,w,q⟩:=h;cases K;obtain⟨t,rfl⟩:=B;obtain⟨z,b,n,r,G,e⟩:=I.lstM E;have f:b.toArray.size*k.toNat<=sizeLine:=by rw[size_toArray,<- G];exact w
 have g:¬b.toArray.size*k.toNat > (2 ^ 63 - 1)/8:=by
  have:(sizeLine:Nat)<=(2 ^ 63 - 1)/8:=by decide
  lia
 have d:¬(!Builtin.List.listFitsIndex k)=true:=by
  rw[fitsIndex_both A C];exact Bool.false_ne_true
 have c:¬Builtin.List.listTooLong (b.toArray.size*k.toNat)=true:=by
  rw[rR f];exact Bool.false_ne_true
 have i:List.foldl (λo j=>o++j) #[] (List.replicate (if b.toArray.isEmpty=true then 0 else k.toNat) b.toArray)=(List.replicate k.toNat b).flatten.toArray:=by
  have D:∀ m:Nat,List.foldl (λo j=>o++j) #[] (List.replicate m b.toArray)=(List.replicate m b).flatten.toArray:=λm=>by
   have:=kU b m [];rw[nil_append]at this;exact this
  rw[D];cases b with
  | nil=>simp
  | cons a r'=>rw[if_neg (by simp)]
 refine wpAny_binaryOp_repeat_ref (T := "list") (U := "int") (by decide) ⟨_,e,rfl⟩ (λJ=>typeIs_int J k t) noFill_list_mul F.fills_int_mul F.slot_int_rmul repeat_list F.slot_int_index.lookup
  (call_meets F.slot_int_rmul (typeIs_int s k t) F.entry_int_rmul (F.args_int_rmul_2 _ _) (int___rmul___int_list k t l b.toArray n)
   ⟨e,rfl,⟨_,e,rfl⟩,call_meets F.slot_list_mul ⟨_,e,rfl⟩ F.entry_list_mul (F.args_list_mul_2 _ _) (AutoListH.list___mul___list_int_3 l b.toArray n k t d g c) ⟨e,?_⟩⟩)
 rw[i];exact⟨.ref _,_,I.lnew (t':=s.toks) (r.rep k.toNat) (by rw[uI,Nat.mul_comm];exact w),rfl,q _ I.fresh⟩
end
section
variable {prog:Program}{w:World}{A:Around}{E:Value->Shared->Prop}{s:Shared}
set_option maxRecDepth 100000 in
end
section
variable {X:Cx}
end
end L2
namespace Att
open PySem PySem.W PySem.Calls PyProof.Rows
theorem jg{P:Params}{h:Heap}:∀(ns:List Int) (vs:List Value),WellAll P h vs (ns.map WData.int)->IntsAre vs ns:=by
 intro ns
 induction ns with
 | nil =>
  intro vs w;rw[map_nil]at w;cases w;exact .nil
 | cons n ns ih =>
  intro vs w;rw[map_cons]at w;cases w with
  | cons a b =>
   cases a;exact .cons _ _ (ih _ b)
theorem p8{l:OpenLaw}{n:Nat}(u:l.most=some n){P:Params}{h:Heap}{args:List WData}{c:List Value}
  (b:l.row.toRowW.claim.pre args=true) (j:WellAll P h c args) :
  ∃ a vs ns,c=[Value.ref a]/\args=[WData.list (ns.map WData.int)]/\h.get? a=some { cls:=.type "list",data:=.seq vs.toArray }/\IntsAre vs ns/\ns.length<=n:=by
 have i:WShape.hasAll [] args [.list .int]=true:=(pre_splitW b).1;have k:l.pre.holds [] { args:=args }=true:=(pre_splitW b).2;obtain⟨d,r,rfl,o,s⟩:=hasAllW_cons i;obtain rfl:=hasAllW_nil s;obtain⟨v,rfl,p⟩:=hasW_list o;obtain⟨ns,rfl⟩:=items_int p
 have e:ns.length<=n:=by
  unfold OpenLaw.pre at k
  have f:(WTm.not (.lt (.lit (.int (n:Int))) (.len (.arg 0)))).holds [] { args:=[.list (ns.map .int)] }=true:=by
   have f:=(holds_andW k).1;rw[u]at f;exact f
  have g:=condW_of f (w_not (w_lt w_lit (w_len_list (w_arg rfl))));rw[length_map]at g;refine Nat.le_of_not_lt λq=>?_
  have m:(n:Int)<((ns.length:Nat):Int):=by lia
  first
   | (rw[decide_eq_true m]at g;exact absurd g (by decide))
   | (simp at g;lia)
 cases j with
 | cons w1 w2 =>
  cases w2;cases w1 with
  | list ho hall=>exact⟨_,_,ns,rfl,rfl,ho,jg ns _ hall,e⟩
theorem qm(l:OpenLaw)(args:List WData):l.row.toRowW.claim.post args (.bool true) args=true :=
 postW_of (r:=l.row.toRowW) (X:=(true == true))
  (show WShape.has [] (.bool true) .bool=true by first | rfl | decide | simp[WShape.has,WShape.arms,WShape.armsAll])
  (show(WTm.eq .res (.lit (.bool true))).value [] { args:=args,res:=some (.bool true),after:=args }=some (.bool (true == true)) from w_eq_bool (w_res rfl) w_lit) rfl
theorem attach_call{l:OpenLaw}{n:Nat}{q:Program}{b:List Str}{y:(Str->Option Value)->Heap->Prop}{v:World->Heap->Prop}{d:DefRec}
  (M:l.most=some n) (k:d.params.defaults=[])
  (e:∀(w:World) (s₀ s₁:Shared) (mg mb:Str->Option Value) (fa:Addr) (o:Obj) (pm cd doc:Value) (a:Addr) (vs:List Value) (ns:List Int),
   Ground q b [] y w s₀ mg mb s₁.heap->v w s₁.heap ->
   s₁.heap.get? fa=some o->o.data=.func (docDef d.name d.params d.body d.scope pm cd doc)->s₁.heap.CodeRec cd d.name->mg d.name=some (.ref fa) ->
   s₁.heap.get? a=some { cls:=.type "list",data:=.seq vs.toArray }->IntsAre vs ns->ns.length<=n->s₁.gens = #[] ->
   codeAny (model l.prog w) callerA (.call (.ref fa) ⟨[.ref a],[]⟩) (λr s'=>r=.ok (.ret (.bool true))/\OldK s₁.heap s'.heap/\s'.os=s₁.os/\AllBare s'.gens) s₁) :
  WalkO q b y v l.row.toRowW d [] (λf vs=>PySem.call f vs):=by
 intro w s₀ s₁ mg mb G Y fa o pm cd doc A H B K j u p J x s N i z I m F;obtain rfl:A=.none:=Dflts.none u k;obtain rfl:H=.none:=Dflts.noKw u;obtain⟨a,vs,ns,rfl,rfl,h,c,g⟩:=p8 M i m;refine enter_call (codeAny_mono (e w s₀ s₁ mg mb fa o pm cd doc a vs ns G Y B (fd_plain K) j p h c g J) λr s' L=>?_);obtain⟨rfl,E,C,D⟩:=L;exact⟨.inl ⟨.bool true,.bool true,[],rfl,λ_=>rfl,.bool true,qm l _,λ_=>⟨List.Pairwise.nil,λ_ hm=>(nomatch hm)⟩⟩,E,C,D⟩
section
variable {prog:Program}{w:World}{A:Around}{E:Value->Shared->Prop}{s:Shared}{K:Frag}
end
end Att
namespace L2
open PySem PySem.Spec PyProof.Rows
theorem kL:∀{vs:List Value}{ns:List Int},IntsAre vs ns->Vals (ns.map V.int) vs
 | _,_,.nil=>.nil
 | _,_,.cons n t h=>.cons ⟨t,rfl⟩ (kL h)
abbrev KOf{K:Frag}{h:Heap}(_:K.In h):Frag:=K
def bh(s:Stmt)(j:Nat):Stmt:=match s with
 | .ClassDef _ _ _ body _ _ _ _ _ _ _=>body.getD j (.Pass ⟨0,0,0,0⟩)
 | _=>.Pass ⟨0,0,0,0⟩
def am(s:Stmt):Arguments:=match s with
 | .FunctionDef _ a _ _ _ _ _ _ _ _=>a
 | _=>{ posonlyargs:=[],args:=[],vararg:=none,kwonlyargs:=[],kw_defaults:=[],kwarg:=none,defaults:=[] }
def ak(s:Stmt):List Stmt:=match s with
 | .FunctionDef _ _ b _ _ _ _ _ _ _=>b
 | _=>[]
def af(s:Stmt):Scope:=match s with
 | .FunctionDef _ _ _ _ _ _ sc _ _ _=>sc
 | _=>{ kind:=.function,names:=[],isGenerator:=false,isCoroutine:=false }
abbrev CX0:CXT:=λ_ _ _ _ _ _=>False
abbrev E0:XK:=λ_ _ _=>False
theorem ao{X:Cx}:g6 CX0 X E0:=λ_ _ _ _ _ _ _ h=>h.elim
structure Fun(K:Frag)(x qual:Str)(st:Stmt)(f:Addr)(fd:FuncData):Prop where
 ex:∃(oc:Value) (od:Option Addr) (kV doc pm:Value) (an:Option Addr) (cdv ct:Value) (osl:Array (Option Value)),
  fd=fnOf x qual (am st) (ak st) (af st) .none kV doc pm an cdv ct/\K.lookup f=some ⟨oc,od,.func fd,osl⟩/\codeIn K cdv qual=true
 kp:keepIn K (.ref f)=true
section
variable {P:Program}{w:World}{K:Frag}{mg:Str->Option Value}{base:Heap}
theorem Fun.ok{x a:Str}{st:Stmt}{f:Addr}{g:FuncData}{N ps:List Str}{k:Nat}{sp:Sp}(F:Fun K x a st f g)(S:FnScope N ps (af st))(d:∀ vs H Q E,sp vs H Q E->vs.length=ps.length)
  (b:∀(cdv:Value) (A:Around) (outer:List Env) (s:Shared) (H:Hp) (vs:List V) (Q:VK) (E:XK),Room k (A.deeper (envOfC a (af st) s.heap.objs.size f cdv))->sp vs H Q E ->
   ∃ t,PSs (fu CX0 P w K mg base N a (af st) f cdv A outer s H E).nox (ak st) t/\t { nx:=λ_ H'=>Q .non H',rt:=Q } (start N vs) H):FnOk P w K mg base CX0 (k+1) f g ps sp:=by
 obtain⟨y,r,p,m,u,o,cdv,v,i,rfl,l,c⟩:=F.ex;refine wQ l c S d λA outer s H vs Q E j e=>?_
 obtain⟨t,h,q⟩:=b cdv A outer s H vs Q E j e;exact⟨t,h.nox,q⟩
theorem Fun.binds{x a:Str}{st:Stmt}{f:Addr}{b:FuncData}{ps:List Str}(F:Fun K x a st f b)
  (h:∀(kV doc pm:Value) (an:Option Addr) (cdv ct:Value) (us:List Value),us.length=ps.length->bindArgs (fnOf x a (am st) (ak st) (af st) .none kV doc pm an cdv ct) ⟨us,[]⟩=pure (ps.zip us)):Binds K b ps []:=by
 obtain⟨i,g,kV,doc,pm,an,cdv,ct,c,rfl,e,d⟩:=F.ex;exact .all (h kV doc pm an cdv ct)
theorem aq{x a:Str}{st:Stmt}{f:Addr}{o:Value}{m g:Option Addr}{e:Array (Option Value)}{h d i b j:Value}(l:K.lookup f=some ⟨o,m,.func (fnOf x a (am st) (ak st) (af st) .none h d i g b j),e⟩)
  (c:codeIn K b a=true) (k:keepIn K (.ref f)=true):Fun K x a st f (fnOf x a (am st) (ak st) (af st) .none h d i g b j):=⟨⟨o,m,h,d,i,g,b,j,e,rfl,l,c⟩,k⟩
end
theorem kH{A:Around}{k:Nat}(a:Room k A):A.units+1<cLine:=Nat.lt_of_le_of_lt (Nat.add_le_add_left (by decide:1<=64) _) a.units
section
variable {X:Cx}
end
theorem sY{A B:Prop}(h:B):if false=true then A else B:=by
 rw[if_neg Bool.false_ne_true];exact h
theorem sE{c A B:Prop}[Decidable c](a:c->A)(b:¬c->B):if c then A else B:=by
 by_cases h:c
 .rw[if_pos h]
  exact a h
 .rw[if_neg h]
  exact b h
theorem vF{c A B:Prop}[Decidable c](a:c)(h:B):if (!decide c)=true then A else B:=by
 rw[decide_eq_true a];exact sY h
def Same(H H':Hp):Prop:=∀ b o,H b=some o->H' b=some o
theorem Same.refl(H:Hp):Same H H:=λ_ _ h=>h
theorem Same.trans{H e d:Hp}(a:Same H e)(b:Same e d):Same H d:=λc o h=>b c o (a c o h)
theorem Same.free{H a:Hp}(e:Same H a){l:Addr}(h:a l=Option.none):H l=Option.none:=by
 cases q:H l with
 | none=>rfl
 | some o =>
  rw[e l o q]at h;cases h
end L2
set_option maxHeartbeats 4000000
namespace L2
open PySem PySem.Spec PyProof.Rows
def Its(x:Str):It:=⟨λi _=>i<x.cps.size,λi H y H'=>H'=H/\∃ c,x.cps[i]? = some c/\y=.str ⟨#[c]⟩,λi _=>x.cps.size<=i⟩
theorem nN{P:Program}{w:World}{K:Frag}{tg:Expr}(x:Str)(p:Addr){ty:String}{t:Tok}(m:ty = "str_ascii_iterator" \/ ty = "str_iterator") :
  Turn P w K tg (Its x) [p] p (λi h=>h.IsStrIter p ty x t i) where
 mem:=by simp
 obj:=λi h f b a=>by
  have e:b=p:=by simpa using a
  subst e;obtain⟨o,e,c,d⟩:=f;exact⟨o,e,λv z=>by rw[d]at z;cases z⟩
 keep:=λi h l f k=>by
  obtain⟨o,e,r⟩:=f;exact⟨o,k p (by simp) o e,r⟩
 item:=by
  intro X O L R J i g s M H E I C f N;subst O L R;have q:i<x.cps.size:=N;obtain⟨A,B,S,u,D,y⟩:=C p (by simp)
  rcases m with rfl | rfl
  .refine wpAny_pyNext_ascii_item f (c:=x.cps[i]) (by simp[q]) λl j Q=>?_
   have F:Inv X g M H { s with heap:=l,toks:=s.toks+1 }:=I.turned (λb o a e=>(Q.2 b a).trans e) A B u D y;obtain⟨o,e,c,d⟩:=id j;exact⟨_,rfl,nH (s:={ s with heap:=l,toks:=s.toks+1 }) e c d (by decide) ⟨.str ⟨#[x.cps[i]]⟩,H,F,⟨_,rfl⟩,⟨rfl,x.cps[i],by simp[q],rfl⟩,j,λb a=>(C b a).1⟩⟩
  .refine wpAny_pyNext_wide_item f (c:=x.cps[i]) (by simp[q]) λl j Q=>?_
   have F:Inv X g M H { s with heap:=l,toks:=s.toks+1 }:=I.turned (λb o a e=>(Q.2 b a).trans e) A B u D y;obtain⟨o,e,c,d⟩:=id j;exact⟨_,rfl,nH (s:={ s with heap:=l,toks:=s.toks+1 }) e c d (by decide) ⟨.str ⟨#[x.cps[i]]⟩,H,F,⟨_,rfl⟩,⟨rfl,x.cps[i],by simp[q],rfl⟩,j,λb a=>(C b a).1⟩⟩
 done:=by
  intro X O L R J i g s M H E I C f N;subst O L R;have q:x.cps.size<=i:=N;obtain⟨A,B,S,u,D,y⟩:=C p (by simp)
  rcases m with rfl | rfl
  .exact wpAny_pyNext_ascii_end (I.ok.hd J) f (by simp[q]) λl G=>⟨rfl,I.turned (t':=s.toks) (λb o a e=>G b o a e) A B u D y⟩
  .exact wpAny_pyNext_wide_end (I.ok.hd J) f (by simp[q]) λl G=>⟨rfl,I.turned (t':=s.toks) (λb o a e=>G b o a e) A B u D y⟩
 self:=λ_ _ _ _ _ f h=>by
  rcases m with rfl | rfl
  .exact wpAny_pyIter_striter_ascii f h
  .exact wpAny_pyIter_striter_wide f h
def xM(tl:TE):TI:=λσ H R=>tl σ H λx H1=>∃ z,x=.str z/\R (Its z) H1
theorem wv{X:Cx}{tg l:Expr}{tl:TE}(j:PE X l tl):PI X tg l (xM tl):=by
 intro a s g H R I h;refine thn (j a s g H _ I h) λv c ⟨x,f,d,k,i⟩=>?_
 obtain⟨z,e,q⟩:=i;subst e;obtain⟨t,rfl⟩:=k;refine wpAny_pyIter_strU ?_;refine⟨c.heap.objs.size,[c.heap.objs.size],_,_,f,rfl,d.kept (t':=c.toks) λb o e=>Heap.get?_push_of_some _ e,nN (ty:=strIterType z) (t:=t) z _ ?_,⟨_,Heap.get?_push_size _ rfl,rfl,rfl⟩,λb hb=>?_,q⟩
 .unfold strIterType
  split
  .exact .inl rfl
  .exact .inr rfl
 .have e:b=c.heap.objs.size:=by simpa using hb
  subst e;exact d.fpOk (Nat.le_refl _) (d.hok.fresh (Nat.le_refl _))
def Wk:St->St->Prop
 | [],[]=>True
 | Option.none::r,_::q=>Wk r q
 | some a::r,b::q=>b=some a/\Wk r q
 | _,_=>False
theorem Wk.len:∀{a b:St},Wk a b->a.length=b.length
 | [],[],_=>rfl
 | Option.none::r,_::q,h=>congrArg (· + 1) (Wk.len (a:=r) (b:=q) h)
 | some _::r,_::q,h=>congrArg (· + 1) (Wk.len (a:=r) (b:=q) h.2)
 | [],_::_,h=>h.elim
 | Option.none::_,[],h=>h.elim
 | some _::_,[],h=>h.elim
theorem Wk.get:∀{a b:St},Wk a b->∀(i:Nat) v,a[i]? = some (some v)->b[i]? = some (some v)
 | [],[],_,i,v,e=>by simp at e
 | Option.none::r,y::q,h,0,v,e=>by simp at e
 | Option.none::r,y::q,h,i+1,v,e=>by simpa using Wk.get (a:=r) (b:=q) h i v (by simpa using e)
 | some x::r,y::q,h,0,v,e=>by
  have c:x=v:=by simpa using e
  rw[h.1,c] <;> simp
 | some x::r,y::q,h,i+1,v,e=>by simpa using Wk.get (a:=r) (b:=q) h.2 i v (by simpa using e)
 | [],_::_,h,_,_,_=>h.elim
 | Option.none::_,[],h,_,_,_=>h.elim
 | some _::_,[],h,_,_,_=>h.elim
def eJ(cells:List (Str×Addr)):List (Str×NameKind)->List (Str×Addr)->List (Str×Addr)
 | [],acc=>acc
 | (n,k)::r,acc=>if k == .free then eJ cells r ((n,(cells.lookup n).getD 0)::acc) else eJ cells r acc
theorem fV{d:Scope}{env:Env}(h:∀ y∈d.names,y.2=.free->∃ c,env.cells.lookup y.1=some c):closureFor d env=pure (eJ env.cells d.names []):=by
 unfold closureFor
 have e:∀(l:List (Str×NameKind)) (b:List (Str×Addr)),(∀ y∈l,y.2=.free->∃ c,env.cells.lookup y.1=some c) ->
   (forIn l b λx r=>match x with | (name,kind)=>if (kind == .free)=true then do let a <- cellOf env name;pure (ForInStep.yield ((name,a)::r)) else pure (ForInStep.yield r):Sem (List (Str×Addr)))=pure (eJ env.cells l b):=by
  intro l
  induction l with
  | nil=>intro b _;rfl
  | cons y r ih =>
   intro b g;obtain⟨n,k⟩:=y;have i:∀ y∈r,y.2=.free->∃ c,env.cells.lookup y.1=some c:=λy o=>g y (mem_cons_of_mem _ o)
   rw[forIn_cons]
   by_cases hk:k=.free
   .subst hk
    obtain⟨c,j⟩:=g (n,.free) mem_cons_self rfl;have p:cellOf env n=pure c:=by unfold cellOf;rw[j]
    have f:eJ env.cells ((n,.free)::r) b=eJ env.cells r ((n,c)::b):=by
     show(if (NameKind.free == NameKind.free)=true then eJ env.cells r ((n,(env.cells.lookup n).getD 0)::b) else eJ env.cells r b)=_;rw[if_pos (by decide),j];rfl
    rw[f,<- ih ((n,c)::b) i];show(do let x <- (if (NameKind.free == NameKind.free)=true then do let a <- cellOf env n;pure (ForInStep.yield ((n,a)::b)) else pure (ForInStep.yield b):Sem _);_)=_;rw[if_pos (by decide),p];rfl
   .have m:(k == NameKind.free)=false:=by simpa using hk
    have f:eJ env.cells ((n,k)::r) b=eJ env.cells r b:=by
     show(if (k == NameKind.free)=true then eJ env.cells r ((n,(env.cells.lookup n).getD 0)::b) else eJ env.cells r b)=_;rw[m];rfl
    rw[f,<- ih b i];show(do let x <- (if (k == NameKind.free)=true then do let a <- cellOf env n;pure (ForInStep.yield ((n,a)::b)) else pure (ForInStep.yield b):Sem _);_)=_;rw[m];rfl
 have:=e d.names [] h
 first | exact this | (rw[this];rfl) | simpa using this
theorem eU{a:List (Str×Addr)}:∀{l:List (Str×NameKind)}{acc:List (Str×Addr)}{n:Str}{c:Addr},(∀ y∈l,y.2=.free->∃ c,a.lookup y.1=some c)->(∀ n c,acc.lookup n=some c->a.lookup n=some c) ->
  (eJ a l acc).lookup n=some c->a.lookup n=some c
 | [],acc,n,c,_,ha,e=>ha n c e
 | (m,k)::r,acc,n,c,hl,ha,e=>by
  have h:∀ y∈r,y.2=.free->∃ c,a.lookup y.1=some c:=λy i=>hl y (mem_cons_of_mem _ i)
  have b:(if (k == NameKind.free)=true then eJ a r ((m,(a.lookup m).getD 0)::acc) else eJ a r acc).lookup n=some c:=e
  by_cases hk:(k == NameKind.free)=true
  .rw[if_pos hk]at b
   refine eU h (λn c z=>?_) b;obtain⟨d,j⟩:=hl (m,k) mem_cons_self (by simpa using hk);rw[lookup_cons]at z
   by_cases hn:(n == m)=true
   .rw[hn]at z
    have:n=m:=by simpa using hn
    subst this;have f:a.lookup n=some d:=j;rw[f]at z ⊢;simpa using z
   .have g:(n == m)=false:=by simpa using hn
    rw[g]at z;exact ha n c z
  .rw[if_neg hk]at b
   exact eU h ha b
theorem gD{b:List (Str×Addr)}:∀{l:List (Str×NameKind)}{acc:List (Str×Addr)}{n:Str},((n,NameKind.free)∈l\/∃ c,acc.lookup n=some c)->∃ c,(eJ b l acc).lookup n=some c
 | [],acc,n,h=>by
  rcases h with h | h
  .cases h
  .exact h
 | (m,k)::r,acc,n,h=>by
  show ∃ c,(if (k == NameKind.free)=true then eJ b r ((m,(b.lookup m).getD 0)::acc) else eJ b r acc).lookup n=some c
  have d:∀ a,n=m\/(∃ c,acc.lookup n=some c)->∃ c,((m,a)::acc).lookup n=some c:=λa z=>by
   rw[lookup_cons]
   by_cases hn:(n == m)=true
   .rw[hn];exact⟨_,rfl⟩
   .have f:(n == m)=false:=by simpa using hn
    rw[f]
    rcases z with z | z
    .exact absurd (by simpa using z) hn
    .exact z
  by_cases hk:(k == NameKind.free)=true
  .rw[if_pos hk]
   refine gD ?_
   rcases h with h | h
   .rcases mem_cons.mp h with e | h
    .exact .inr (d _ (.inl (congrArg Prod.fst e)))
    .exact .inl h
   .exact .inr (d _ (.inr h))
  .rw[if_neg hk]
   refine gD ?_
   rcases h with h | h
   .rcases mem_cons.mp h with e | h
    .have:k=.free:=(congrArg Prod.snd e).symm
     rw[this]at hk;exact absurd (by decide) hk
    .exact .inl h
   .exact .inr h
def rlb(env:Env)(p:Str×NameKind):Str×NameKind:=if (p.2 == NameKind.free && env.scope.kind == ScopeKind.function && env.kindOf p.1 == some NameKind.cell)=true then (p.1,NameKind.cell) else p
theorem kd(a:Scope)(env:Env):(relabel a env).names=a.names.map (rlb env):=rfl
theorem ul(env:Env)(p:Str×NameKind):(rlb env p).1=p.1:=by
 unfold rlb
 split <;> rfl
theorem r9{env:Env}{p:Str×NameKind}(h:p.2≠.cell)(h2:(rlb env p).2=.cell\/(rlb env p).2=.free):p.2=.free:=by
 unfold rlb at h2
 split at h2
 .rename_i q
  rw[Bool.and_eq_true,Bool.and_eq_true]at q;simpa using q.1.1
 .rcases h2 with h2 | h2
  .exact absurd h2 h
  .exact h2
theorem gS{env:Env}:∀{names:List (Str×NameKind)}{x:Str}{k:NameKind},(∀ y∈names,y.2≠.cell)->(k=.cell\/k=.free)->(names.map (rlb env)).lookup x=some k->(x,NameKind.free)∈names
 | [],x,k,_,_,e=>by simp at e
 | p::r,x,k,hc,hk,e=>by
  have c:∀ y∈r,y.2≠.cell:=λy b=>hc y (mem_cons_of_mem _ b)
  have f:rlb env p=(p.1,(rlb env p).2):=by rw[<- ul env p]
  rw[map_cons,f,lookup_cons]at e
  by_cases hx:x=p.1
  .have a:(x == p.1)=true:=by simpa using hx
   rw[a]at e;have g:(rlb env p).2=k:=Option.some.inj e;have d:=r9 (env:=env) (hc p mem_cons_self) (by rw[g];exact hk);have:(x,NameKind.free)=p:=by rw[hx,<- d]
   rw[this];exact mem_cons_self
  .have a:(x == p.1)=false:=by simpa using hx
   rw[a]at e;exact mem_cons_of_mem _ (gS c hk e)
theorem fJ{env:Env}{a:Scope}{x:Str}{k:NameKind}(c:∀ y∈a.names,y.2≠.cell)(b:k=.cell\/k=.free)(e:(relabel a env).names.lookup x=some k):(x,NameKind.free)∈a.names :=
 gS (env:=env) c b (by rw[<- kd];exact e)
def qo(ix:List (Option Nat))(σ:St):St:=ix.map λo=>o.bind λi=>(σ[i]?).join
def fk(env:Env)(y:Str):NameKind:=if env.kindOf y == some NameKind.free then .free else .cell
theorem wO(env:Env)(y:Str):fk env y=.cell\/fk env y=.free:=by unfold fk;split <;> simp
def FreeOkF(XN:List Str)(env:Env)(sc:Scope):List Str->List (Option Nat)->Prop
 | [],[]=>True
 | _::N,Option.none::ix=>FreeOkF XN env sc N ix
 | y::N,some i::ix=>XN[i]? = some y/\env.kindOf y=some (fk env y)/\(relabel sc env).names.lookup y=some (fk env y)/\FreeOkF XN env sc N ix
 | _,_=>False
theorem FreeOkF.len{a:List Str}{env:Env}{b:Scope}:∀{N:List Str}{ix:List (Option Nat)},FreeOkF a env b N ix->ix.length=N.length
 | [],[],_=>rfl
 | _::N,Option.none::ix,h=>congrArg (· + 1) (FreeOkF.len (N:=N) (ix:=ix) h)
 | _::N,some _::ix,h=>congrArg (· + 1) (FreeOkF.len (N:=N) (ix:=ix) h.2.2.2)
 | [],_::_,h=>h.elim
 | _::_,[],h=>h.elim
theorem FreeOkF.get{b:List Str}{env:Env}{c:Scope}:∀{N:List Str}{ix:List (Option Nat)},FreeOkF b env c N ix->∀(j:Nat) (y:Str) (i:Nat),N[j]? = some y->ix[j]? = some (some i) ->
  b[i]? = some y/\env.kindOf y=some (fk env y)/\(relabel c env).names.lookup y=some (fk env y)
 | [],[],_,j,y,i,e,_=>by simp at e
 | _::N,Option.none::ix,h,0,y,i,e,e2=>by simp at e2
 | _::N,Option.none::ix,h,j+1,y,i,e,e2=>FreeOkF.get (N:=N) (ix:=ix) h j y i (by simpa using e) (by simpa using e2)
 | z::N,some k::ix,h,0,y,i,e,e2=>by
  have d:z=y:=by simpa using e
  have a:k=i:=by simpa using e2
  subst d;subst a;exact⟨h.1,h.2.1,h.2.2.1⟩
 | _::N,some _::ix,h,j+1,y,i,e,e2=>FreeOkF.get (N:=N) (ix:=ix) h.2.2.2 j y i (by simpa using e) (by simpa using e2)
 | [],_::_,h,_,_,_,_,_=>h.elim
 | _::_,[],h,_,_,_,_,_=>h.elim
def cxB(X:Cx)(sc:Scope)(C:Addr)(N:List Str)(s₀:Shared)(H₀:Hp)(fp:List Addr):Cx :=
 { X with N:=N,s₀:=s₀,H₀:=H₀,env:=compEnvC sc (eJ X.env.cells sc.names []) C X.env,outer:=X.stack,ex:=fp,fn:=λ_=>false,pn:=[],xe:=λ_ _=>False }
structure CompOk(X:Cx)(sc:Scope)(N:List Str)(ix:List (Option Nat)):Prop where
 kind:sc.kind=.function
 nocell:(sc.names.all λy=>y.2 != .cell)=true
 names:(sc.names.all λy=>y.2 != .local || sc.names.lookup y.1 == some .local) = true
 free:(sc.names.all λy=>y.2 != .free || (X.env.scope.names.lookup y.1 == some .cell || X.env.scope.names.lookup y.1 == some .free))=true
 fr:FreeOkF X.N X.env sc N ix
section
variable {X:Cx}{sc:Scope}{N:List Str}{ix:List (Option Nat)}{pins:List (Addr×Obj)}{σ:St}{H:Hp}{s:Shared}
theorem CompOk.cells(c:CompOk X sc N ix)(a:X.Ok):∀ y∈sc.names,y.2=.free->∃ c,X.env.cells.lookup y.1=some c:=λy d e=>by
 have h:=all_eq_true.mp c.free y d;rw[e]at h;have b:X.env.scope.names.lookup y.1=some .cell\/X.env.scope.names.lookup y.1=some .free:=by simpa using h
 exact a.has y.1 b
theorem CompOk.nc(c:CompOk X sc N ix):∀ y∈sc.names,y.2≠.cell:=λy a=>by simpa using all_eq_true.mp c.nocell y a
theorem CompOk.nm(c:CompOk X sc N ix):∀ y ∈ sc.names,y.2 = .local->sc.names.lookup y.1 = some .local:=λy a e=>by
 have h:=all_eq_true.mp c.names y a;rw[e]at h;simpa using h
theorem ql{C:Addr}{J:List Addr}{h₁:Heap}{t':Nat}(c:CompOk X sc N ix)(I:Inv X pins σ H s)(D:∀ b∈J,FpOk X pins H b)(F:∀ b∈J,b<s.heap.objs.size)(G:s.heap.objs.size<=C)
  (Y:h₁.Ns C (λ_=>none)) (h:∀ b o,s.heap.get? b=some o->h₁.get? b=some o):Inv (cxB X sc C N s H J) [] (qo ix σ) H { s with heap:=h₁,toks:=t' }:=by
 have g:=c.cells I.ok;have a:∀ n c,(eJ X.env.cells sc.names []).lookup n=some c->X.env.cells.lookup n=some c:=λn c e=>eU g (λn c z=>by simp at z) e
 refine⟨⟨I.ok.mod,c.kind,I.ok.glob,I.ok.blt,G,λx y d L M=>I.ok.inj x y d (a x d L) (a y d M),λx hx=>?_,λx d z=>absurd z (by simp[cxB]),I.ok.hd,I.ok.frames,.inl rfl,λb hb=>⟨?_,λx d e=>?_⟩,I.bs,Nat.le_trans I.ok.bsz I.sz,λb o e hb=>?_,λb hb hs=>?_,I.stack,I.stkFree⟩,
  rfl,I.bare,Un.kept h,⟨_,Y,λj y v O k Z=>?_⟩,λx d e=>?_,I.hok.fresh G,λx d e=>I.freeC x d (a x d e),λp hp=>absurd (show p∈([]:List (Addr×Obj)) from hp) (by simp),I.hok.kept h,?_⟩
 .refine gD (.inl ?_)
  rcases hx with hx | hx
  .exact fJ c.nc (.inl rfl) (show(relabel sc X.env).names.lookup x=some .cell from hx)
  .exact fJ c.nc (.inr rfl) (show(relabel sc X.env).names.lookup x=some .free from hx)
 .exact Nat.ne_of_lt (Nat.lt_of_lt_of_le (F b hb) G)
 .exact(D b hb).2.2.2.2.1 x d (a x d e)
 .rcases(D b hb).2.2.2.1 with z | z
  .exact I.ok.noex b o e z
  .exact absurd (Nat.lt_of_lt_of_le (Heap.lt_size e) (Nat.le_trans I.ok.bsz z)) (Nat.lt_irrefl _)
 .rcases mem_cons.mp (I.stkSub b hs) with z | z
  .exact(D b hb).2.1 z
  .exact(D b hb).2.2.1 z
 .have Q:∃ i,ix[j]? = some (some i)/\σ[i]? = some (some v):=by
   unfold qo at k;rw[List.getElem?_map]at k;cases q:ix[j]? with
   | none=>rw[q]at k;cases k
   | some o =>
    rw[q]at k;cases o with
    | none=>cases k
    | some i =>
     refine⟨i,rfl,?_⟩;have f:(σ[i]?).join=some v:=Option.some.inj k;cases q2:σ[i]? with
     | none=>rw[q2]at f;cases f
     | some w=>rw[q2]at f;exact congrArg some f
  obtain⟨i,P,W⟩:=Q;obtain⟨R,K,B⟩:=c.fr.get j y i O P;obtain⟨m,hm,T⟩:=I.loc;have E:=wO X.env y;have k9:X.env.kindOf y=some .cell\/X.env.kindOf y=some .free:=E.imp (λz=>by rw[<- z];exact K) λz=>by rw[<- z];exact K
  obtain⟨u,r,l⟩:=T i y v R W (.inr k9);refine⟨u,r,?_⟩
  rcases l with⟨z,_⟩ | ⟨_,d,S,A⟩
  .rcases k9 with k9 | k9 <;> (rw[k9]at z;cases z)
  .obtain⟨d',hd'⟩:∃ d',(eJ X.env.cells sc.names []).lookup y=some d':=gD (.inl (fJ c.nc E B))
   have:=a y d' hd';rw[S]at this;cases this;exact .inr ⟨E.imp (λz=>(by rw[z]at B;exact B)) (λz=>(by rw[z]at B;exact B)),d,hd',A.keeps h⟩
 .obtain⟨v,z⟩:=I.cell x d (a x d e)
  exact⟨v,z.keeps h⟩
 .show(qo ix σ).length=N.length
  unfold qo;rw[length_map,c.fr.len]
theorem mK{C:Addr}{d:List Addr}{a:List (Addr×Obj)}{c:St}{e:Hp}{f:Shared}(I:Inv X pins σ H s)(k:∀ b∈d,FpOk X pins H b)(J:Inv (cxB X sc C N s H d) a c e f):Inv X pins σ e f:=by
 refine I.call' (ch:=d) J.os J.base J.hok J.bare λb g=>?_
 obtain⟨m,j,o,i,l,h⟩:=k b g;exact⟨i,j,l,h⟩
end
def PTs(X:Cx)(ifs:List Expr)(t:TT):Prop :=
 ∀(pins:List (Addr×Obj)) (s:Shared) (σ:St) (H:Hp) (Q:Bool->Hp->Prop),Inv X pins σ H s->t σ H Q ->
  wpAny (model X.prog X.w) X.A (forIn ifs true λc r=>if r=true then do let ok <- isTrue c X.env (eval c X.env);pure (ForInStep.yield ok) else pure (ForInStep.yield r)) (TP X pins σ Q) X.xe s
def tAll:TT:=λ_ H Q=>Q true H
theorem bC{X:Cx}:PTs X [] tAll:=λ_ _ _ H _ I h=>wpAny_tests_nil ⟨H,I,h⟩
theorem eV{X:Cx}{c:Expr}{t:TT}(h:PT X c t):PTs X [c] t:=λa s b H Q I d=>wpAny_tests_one (h a s b H Q I d)
def jP(J:It)(D:Addr)(σb:St)(g:TG)(tt:TT)(te:TE)(Q:Hp->List V->Prop)(W:Nat->Nat->List V->Hp->Prop):Prop :=
 ∀ i m ys H,W i m ys H->H D=some (.lst ys)/\((J.stop i H/\Q H ys)\/(J.go i H/\∀ x H3,J.yld i H x H3->g x σb H3 λσ4 H4=>Wk σb σ4/\tt σ4 H4 λb H5 =>
  if b=true then te σ4 H5 λy H6=>H6 D=some (.lst ys)/\ys.length<sizeLine/\∃ m',m'<m/\W (i+1) m' (ys++[y]) (upd H6 D (.lst (ys++[y]))) else ∃ m',m'<m/\W (i+1) m' ys H5))
def u3(ix:List (Option Nat))(wi:TI)(g:TG)(tt:TT)(te:TE):TE:=λσ H Q=>wi σ H λJ H1=>∀ D,H1 D=none->∃ W,(∃ m,W 0 m [] (upd H1 D (.lst [])))/\jP J D (qo ix σ) g tt te (λH _=>Q (.ref D) H) W
section
variable {X:Cx}{sc:Scope}{N:List Str}{ix:List (Option Nat)}{elt tg iter:Expr}{ifs:List Expr}{pos:Pos}{wi:TI}{g:TG}{tt:TT}{te:TE}
structure Blk(X:Cx)(sc:Scope)(N:List Str)(tg elt:Expr)(ifs:List Expr)(g:TG)(tt:TT)(te:TE):Prop where
 tg:∀ C s H fp,PG (cxB X sc C N s H fp) tg g
 tests:∀ C s H fp,PTs (cxB X sc C N s H fp) ifs tt
 elt:∀ C s H fp,PE (cxB X sc C N s H fp) elt te
theorem qv{J:It}{k:List Addr}{O D:Addr}{F:Nat->Heap->Prop}{a:St}{Q:Hp->List V->Prop}{R:Result->Shared->Prop}{W:Nat->Nat->List V->Hp->Prop}
  (hc:X.calm=true) (ad:X.xe=λ_ _=>False) (T:Turn X.prog X.w X.K tg J k O F) (hg:PG X tg g) (ht:PTs X ifs tt) (he:PE X elt te) (m:jP J D a g tt te Q W)
  (c:∀{H':Hp},(∀ b∈k,H' b=none)->∀ b∈k,FpOk X [] H' b)
  (H:∀{σ':St}{H':Hp}{s':Shared}{ys:List V},Inv X [] σ' H' s'->Q H' ys->R (.ok .next) s')
  {m0 i0:Nat}{w:List V}{H0:Hp}{S:Shared}(I0:Inv X [] a H0 S) (N:F i0 S.heap) (Z:∀ b∈k,H0 b=none) (w0:W i0 m0 w H0) :
  codeAny (model X.prog X.w) X.A (.compLoop (.ListComp elt [⟨tg,iter,ifs,0⟩] sc pos) 0 (.ref O) (.ref D) X.env) R S:=by
 have f:∀{E':Value->Shared->Prop}(e:Value) (s':Shared),X.xe e s'->E' e s':=λ{E'} e s' z=>by rw[ad]at z;exact z.elim
 refine codeAny_loop rfl (λn s'=>∃ i ys H',Inv X [] a H' s'/\F i s'.heap/\(∀ b∈k,H' b=none)/\W i n ys H') ?_ m0 ⟨i0,w,H0,I0,N,Z,w0⟩;rintro n I ⟨i,ys,G,I3,A,C,w3⟩;show wpAny _ X.A ((compTurn (.ListComp elt [⟨tg,iter,ifs,0⟩] sc pos) 0 (.ref O) (.ref D) X.env).onRaise (λx=>do noteFrame x X.env;theTreesLotGoes x)) _ _ I;refine wpAny_noted ?_;rw[compTurn_list];refine wpAny_bind (wpAny_standAt (wpAny_bind ?_));obtain⟨al,next⟩:=m i n ys G w3
 rcases next with⟨s,q⟩ | ⟨go,p⟩
 .refine thn (T.done X rfl rfl rfl hc i [] I a G _ I3 (c C) A s) λr s4 ⟨hr,I4⟩=>?_
  subst hr;exact wpAny_pure (H I4 q)
 .refine thn (T.item X rfl rfl rfl hc i [] I a G _ I3 (c C) A go) λr s4 ⟨u,hr,h4⟩=>?_
  subst hr;refine wpAny_bind (thn h4 λ_ s5 ⟨x,H5,I5,r5,y5,j,ah⟩=>?_);have P:=I5.pinned (c ah) (T.obj _ _ j)
  have jm:∀{σ':St}{H':Hp}{s':Shared},Inv X ([]++j3 k s5.heap) σ' H' s'->Wk a σ'->Inv X [] a H' s'/\F (i+1) s'.heap/\∀ b∈k,H' b=none:=λ{σ' H' s'} l B=>by
   refine⟨(l.unpinned).weak B.len B.get,T.keep _ _ _ j λb E o e=>(l.pin (b,o) (mem_append_right _ (mem_append_right _ (fM E e)))).1,λb E=>?_⟩;obtain⟨o,e,d⟩:=T.obj _ _ j b E;exact(l.pin (b,o) (mem_append_right _ (mem_append_right _ (fM E e)))).2.1
  refine wpAny_bind (wpAny_mono (hg _ s5 a H5 x u _ P r5 (p x H5 y5)) (λ_ s6 ⟨h,H6,I6,B,q6⟩=>?_) f);refine wpAny_bind (wpAny_mono (ht _ s6 h H6 _ I6 q6) (λok s7 ⟨H7,l,q7⟩=>?_) f);cases ok with
  | false =>
   obtain⟨K,hm,w7⟩:=q7;obtain⟨L,M,b3⟩:=jm l B;exact wpAny_pure ⟨rfl,K,hm,i+1,ys,H7,L,M,b3,w7⟩
  | true =>
   refine wpAny_bind (wpAny_bind (wpAny_mono (he _ s7 h H7 _ l q7) (λv s8 ⟨y,H8,I8,r8,Y,ab,K,hm,w8⟩=>?_) f));refine wpAny_bind (wpAny_mono (ko _ s8 h H8 (.ref D) [y] (.ref D) [v] (λ_ H9=>H9=upd H8 D (.lst (ys++[y]))) I8 rfl (.cons r8 .nil) ⟨D,ys,y,rfl,rfl,Y,ab,rfl⟩) (λ_ s9 ⟨z,H9,I9,_,e9⟩=>?_) f);subst e9;obtain⟨L,M,b3⟩:=jm I9 B;exact wpAny_pure (wpAny_pure ⟨rfl,K,hm,i+1,ys++[y],_,L,M,b3,w8⟩)
theorem kM{a:List (Addr×Obj)}{L:St}{H:Hp}{s:Shared}{E:Value->Shared->Prop}{RR:Value->Addr->Result->Shared->Prop}{P:Addr}{i:List Addr}{F:Nat->Heap->Prop}{J:It}{Q:Addr->Hp->List V->Prop}
  (hc:X.calm=true) (c:CompOk X sc N ix) (B:Blk X sc N tg elt ifs g tt te) (I:Inv X a L H s) (T:Turn X.prog X.w X.K tg J i P F) (st:F 0 s.heap) (Z:∀ b∈i,FpOk X a H b)
  (h:∀ D,H D=none->∃ W,(∃ m,W 0 m [] (upd H D (.lst [])))/\jP J D (qo ix L) g tt te (Q D) W)
  (hR:∀ D C H' s' ys,Inv X a L H' s'->FpOk X a H' C->(∃ m,s'.heap.Ns C m)->Q D H' ys->RR (.ref D) C (.ok .next) s') :
  wpAny (model X.prog X.w) X.A (newList []) (λacc s₃=>wpAny (model X.prog X.w) X.A (newFunctionEnv sc X.env.globals (eJ X.env.cells sc.names []) [] X.env.qual none .none (some X.env)) (λcenv s₄ =>
   codeAny (model X.prog X.w) X.A (.compStart (.ListComp elt [⟨tg,iter,ifs,0⟩] sc pos) 0 (.ref P) acc { cenv with scope:=relabel sc X.env }) (RR acc cenv.locals) s₄) E s₃) E s:=by
 have M:∀ b∈i,b<s.heap.objs.size:=λb f=>let ⟨o,e,_⟩:=T.obj _ _ st b f;Heap.lt_size e
 refine wpAny_newObj_type ?_ (by show 0<=sizeLine;exact Nat.zero_le _);have hD:H s.heap.objs.size=none:=I.hok.fresh (Nat.le_refl _);obtain⟨W,⟨m0,w0⟩,u⟩:=h s.heap.objs.size hD;have v:Inv X a L (upd H s.heap.objs.size (.lst [])) { s with heap:=s.heap.push { cls:=.type "list",data:=.seq ([]:List Value).toArray } }:=I.lnew (t':=s.toks) (its:=[]) .nil (Nat.zero_le _);have k1:∀ b o,s.heap.get? b=some o->(s.heap.push { cls:=.type "list",data:=.seq ([]:List Value).toArray }).get? b=some o:=λb o e=>Heap.get?_push_of_some _ e
 have R:∀ b∈i,b≠s.heap.objs.size:=λb f=>Nat.ne_of_lt (M b f)
 have j:∀ b∈i,FpOk X a (upd H s.heap.objs.size (.lst [])) b:=λb f=>⟨by rw[au (R b f)];exact(Z b f).1,(Z b f).2⟩
 have K:F 0 (s.heap.push { cls:=.type "list",data:=.seq ([]:List Value).toArray }):=T.keep _ _ _ st λb _ o e=>k1 b o e
 generalize hs1:({ s with heap:=s.heap.push { cls:=.type "list",data:=.seq ([]:List Value).toArray } }:Shared)=s1 at v;have r:s1.heap=s.heap.push { cls:=.type "list",data:=.seq ([]:List Value).toArray }:=by rw[<- hs1]
 generalize hDe:s.heap.objs.size=D at *;show wpAny _ _ _ _ _ s1;refine wpAny_newFunctionEnv c.nc (by intro y hy;simp at hy) (λh₁ hns₁ hsb₁=>?_) c.kind;have G:∀ b o,s1.heap.get? b=some o->h₁.get? b=some o:=λb o e=>(hsb₁.2 b (Nat.ne_of_lt (Heap.lt_size e))).trans (Heap.get?_push_of_some _ e)
 have l:∀ b∈i,b<s1.heap.objs.size:=λb f=>by
  obtain⟨o,e,_⟩:=T.obj _ _ K b f;rw[r];exact Heap.lt_size e
 have J0:=ql (h₁:=h₁) (t':=s1.toks+([]:List (Str×Value)).length) c v j l (Nat.le_refl _) (by simpa using hns₁) G;have A:F 0 h₁:=T.keep _ _ _ (by rw[r];exact K:F 0 s1.heap) λb _ o e=>G b o e
 have S:∀{H':Hp},(∀ b∈i,H' b=none)->∀ b∈i,FpOk (cxB X sc s1.heap.objs.size N s1 (upd H D (.lst [])) i) [] H' b:=λ{H'} Y b f=>by
  obtain⟨f0,f1,f2,f3,f4,f5⟩:=j b f;refine⟨Y b f,Nat.ne_of_lt (l b f),?_,.inl f,λx d e=>f4 x d (eU (c.cells I.ok) (λn c z=>by simp at z) e),λp hp=>absurd (show p∈([]:List (Addr×Obj)) from hp) (by simp)⟩;intro z
  rcases mem_cons.mp (v.stkSub b z) with q | q
  .exact f1 q
  .exact f2 q
 have O:∀{w:St}{H':Hp}{s':Shared}{ys:List V},Inv (cxB X sc s1.heap.objs.size N s1 (upd H D (.lst [])) i) [] w H' s'->Q D H' ys->RR (.ref D) s1.heap.objs.size (.ok .next) s':=λ{w H' s' ys} J q =>
  hR D _ H' s' ys (mK v j J) (v.fpOk (Nat.le_refl _) J.free) (let ⟨m,Y,_⟩:=J.loc;⟨m,Y⟩) q
 have k:codeAny (model X.prog X.w) X.A (.compLoop (.ListComp elt [⟨tg,iter,ifs,0⟩] sc pos) 0 (.ref P) (.ref D) (cxB X sc s1.heap.objs.size N s1 (upd H D (.lst [])) i).env) (RR (.ref D) s1.heap.objs.size) { s1 with heap:=h₁,toks:=s1.toks+([]:List (Str×Value)).length } :=
  qv (X:=cxB X sc s1.heap.objs.size N s1 (upd H D (.lst [])) i) hc rfl T (B.tg _ _ _ _) (B.tests _ _ _ _) (B.elt _ _ _ _) u S O J0 A (λb f=>(j b f).1) w0
 exact codeAny_compStart_list k (T.self _ 0 _ _ _ A k)
theorem bj(y:X.calm=true)(c:CompOk X sc N ix)(z:PI X tg iter wi)(B:Blk X sc N tg elt ifs g tt te)(u:∀ x,foldedSetIterable iter X.env x=pure x:=by intro _;rfl):PE X (.ListComp elt [⟨tg,iter,ifs,0⟩] sc pos) (u3 ix wi g tt te):=by
 intro a s k H Q I h;rw[eval_ListComp];refine wpAny_comprehension_free (use:=none) rfl u (fV (c.cells I.ok)) c.kind c.nm (thn (z a s k H _ I h) λxv j d=>thn d λitv s₂ h₂=>?_);obtain⟨S,Z,W,J,Y,e,m,T,f,l,G⟩:=h₂;subst e;refine kM (RR:=λi C=>compPost (model X.prog X.w) X.A X.xe none (EP X a k Q) i C) (Q:=λD H _=>Q (.ref D) H) y c B m T f l G ?_;intro D C A L R E F v q;refine⟨_,v.choose_spec,λh' K=>⟨.ref D,A,?_,rfl,q⟩⟩;obtain⟨w,M,l,p,O,r⟩:=F;exact E.turned (t':=L.toks) (λb o P e=>(K.2 b P).trans e) w M p O r
theorem im{i:Nat}{y:Str}{j f:Pos}(hc:X.calm = true)(W:X.N.Nodup)(Z:X.N[i]? = some y)(M:X.env.scope.names.lookup y = some .local)
  (A:swapsWith (.ListComp elt [⟨tg,iter,ifs,0⟩] sc pos) (some (.Name y j)) f.line X.env=pure true)
  (c:CompOk X sc N ix) (hi:PI X tg iter wi) (B:Blk X sc N tg elt ifs g tt te) (hs:∀ x,foldedSetIterable iter X.env x=pure x:=by intro _;rfl) :
  PS X (.Assign [.Name y j] (.ListComp elt [⟨tg,iter,ifs,0⟩] sc pos) f) (wr (u3 ix wi g tt te) (rq i)):=by
 intro d s G H p I h;rw[exec_Assign_Name_used _ _ _ _ A];refine wpAny_bind (wpAny_standAt (wpAny_bind ?_));show wpAny _ X.A (do let _ <- comprehension (.ListComp elt [⟨tg,iter,ifs,0⟩] sc pos) sc X.env _ (newList []) false (eval iter X.env) (some (assign (.Name y j) X.env))) _ _ s
 refine wpAny_bind (wpAny_mono (wpAny_comprehension_free (use:=some (assign (.Name y j) X.env)) (Q:=λ_ l=>SP X d p .next l) rfl hs (fV (c.cells I.ok)) c.kind c.nm
  (thn (hi d s G H _ I h) λxv F k=>thn k λitv s₂ h₂=>?_)) (λ_ l hq=>wpAny_pure (wpAny_pure hq)) λ_ _ e=>e)
 obtain⟨it,fp,tn,J,H2,e,P,T,u,K,q2⟩:=h₂;subst e;refine kM (RR:=λw C=>compPost (model X.prog X.w) X.A X.xe (some (assign (.Name y j) X.env)) (λ_ l=>SP X d p .next l) w C) (Q:=λD H _=>p.nx (G.set i (some (.ref D))) H) hc c B P T u K q2 ?_;intro D C H' l ys I' fC ns q;show wpAny _ X.A (assign (.Name y j) X.env (.ref D)) _ _ _;obtain⟨f0,L,K,R,O,Y⟩:=fC;refine wpAny_assign_Name (ky I' W Z (.inl M) (v:=.ref D) rfl (λs2 S ⟨a,sb,ha⟩=>?_) (.inr M));obtain⟨m,hn⟩:=ns
 have E:C≠a:=by
  rcases ha with z | z
  .rw[z];exact L
  .exact λe=>O y a z e.symm
 refine⟨m,hn.sameBut sb E,λh3 r=>⟨_,H',?_,q⟩⟩;exact S.turned (t':=s2.toks) (λb o hb e=>(r.2 b hb).trans e) f0 L R O Y
end
section
variable {κ:Type} [DecidableEq κ]
def fh(kvs:List (κ×V))(k:κ):Option V:=(kvs.find? λkv=>decide (kv.1=k)).map (·.2)
def fF(kvs:List (κ×V))(k:κ)(v:V):List (κ×V) :=
 if (kvs.any λkv=>decide (kv.1=k))=true then kvs.map (λkv=>if kv.1=k then (kv.1,v) else kv) else kvs++[(k,v)]
theorem d8{p:κ×V}{r:List (κ×V)}{k:κ}(e:p.1=k):fh (p::r) k=some p.2:=by simp[fh,List.find?_cons,e]
theorem eI{p:κ×V}{r:List (κ×V)}{k:κ}(e:¬p.1=k):fh (p::r) k=fh r k:=by simp[fh,List.find?_cons,e]
theorem hV(k:κ):∀ kvs:List (κ×V),(kvs.any λkv=>decide (kv.1=k))=(fh kvs k).isSome
 | []=>rfl
 | p::r=>by
  rw[any_cons]
  by_cases e:p.1=k
  .simp only[d8 e,decide_eq_true e,Bool.true_or,Option.isSome_some]
  .rw[eI e,decide_eq_false e,Bool.false_or];exact hV k r
theorem gd(a:List (κ×V))(k:κ)(v:V):(fF a k v).length<=a.length+1:=by
 unfold fF
 split
 .rw[length_map];lia
 .rw[length_append,length_cons,length_nil];lia
theorem sf{a:List (κ×V)}{k:κ}(v:V)(h:fh a k=none):fF a k v=a++[(k,v)]:=by
 unfold fF;rw[hV,h];exact if_neg (by decide)
theorem RelO.isSome_eq{o:Option V}{u:Option Value}(r:RelO o u):o.isSome=u.isSome:=by
 cases o with
 | none=>cases u with
  | none=>rfl
  | some _=>exact(show False from r).elim
 | some _=>cases u with
  | none=>exact(show False from r).elim
  | some _=>rfl
theorem KV.val{a:List (κ×V)}{vs:List (κ×Value)}(r:KV a vs)(k:κ):RelO (fh a k) (valueAt vs k):=by
 unfold KV at r
 induction r with
 | nil=>exact True.intro
 | @cons p q ps qs h t ih =>
  obtain⟨d,f⟩:=h
  by_cases e:p.1=k
  .have c:q.1=k:=d.symm.trans e
   have b:valueAt (q::qs) k=some q.2:=by simp[valueAt,List.find?_cons,c]
   rw[d8 e,b];exact f
  .have c:¬q.1=k:=λz=>e (d.trans z)
   have b:valueAt (q::qs) k=valueAt qs k:=by simp[valueAt,List.find?_cons,c]
   rw[eI e,b];exact ih
theorem KV.any{a:List (κ×V)}{vs:List (κ×Value)}(r:KV a vs)(k:κ):(a.any λkv=>decide (kv.1=k))=vs.any λkv=>decide (kv.1=k):=by
 unfold KV at r
 induction r with
 | nil=>rfl
 | cons h t ih=>rw[any_cons,any_cons,ih,h.1]
theorem KV.repl{a:List (κ×V)}{vs:List (κ×Value)}(r:KV a vs)(k:κ){y:V}{u:Value}(d:RelV y u) :
  KV (a.map λkv=>if kv.1=k then (kv.1,y) else kv) (vs.map λkv=>if kv.1=k then (kv.1,u) else kv):=by
 unfold KV at r ⊢
 induction r with
 | nil=>exact .nil
 | @cons p q ps qs h t ih =>
  rw[map_cons,map_cons];refine .cons ?_ ih;obtain⟨b,c⟩:=h
  by_cases e:p.1=k
  .rw[if_pos e,if_pos (b.symm.trans e)];exact⟨b,d⟩
  .rw[if_neg e,if_neg (λz=>e (b.trans z))];exact⟨b,c⟩
theorem KV.put{a:List (κ×V)}{vs:List (κ×Value)}(r:KV a vs)(k:κ){y:V}{u:Value}(b:RelV y u):KV (fF a k y) (stored vs k u):=by
 unfold fF stored;rw[r.any k]
 by_cases e:(vs.any λc=>decide (c.1=k))=true
 .rw[if_pos e,if_pos e];exact r.repl k b
 .rw[if_neg e,if_neg e];exact Paired.snoc r ⟨rfl,b⟩
theorem KV.length{a:List (κ×V)}{vs:List (κ×Value)}(r:KV a vs):a.length=vs.length:=Paired.length r
end
theorem nJ{P:Program}{w:World}{k:Key}{u:Value}(r:RelV (kV k) u):(bO P w).is k u=true:=by
 cases k with
 | inl i=>obtain⟨t,e⟩:=(show ∃ t,u=Value.int i t from r);subst e;exact nU P w i t
 | inr x=>obtain⟨t,e⟩:=(show ∃ t,u=Value.str x t from r);subst e;exact nz P w x t
theorem kr{P:Program}{w:World}:∀{ks:List Key}{us:List Value},Vals (ks.map kV) us->ItemsAre (bO P w) ks us
 | [],_,r=>by rw[map_nil]at r;cases r;exact .nil
 | k::ks,_,r=>by
  rw[map_cons]at r;cases r with
  | cons h t=>exact .cons (nJ h) (kr t)
abbrev KT(H:Hp):List (List Key×V)->List (List Key×Addr×Value)->Prop:=Paired λp q=>p.1=q.1/\H q.2.1=some (.tup (p.1.map kV))/\RelV p.2 q.2.2
theorem KT.val{H:Hp}{a:List (List Key×V)}{xs:List (List Key×Addr×Value)}(r:KT H a xs)(k:List Key):RelO (fh a k) ((atKey xs k).map (·.2)):=by
 induction r with
 | nil=>exact True.intro
 | @cons p q ps qs h t ih =>
  obtain⟨d,_,f⟩:=h
  by_cases e:p.1=k
  .have c:q.1=k:=d.symm.trans e
   have b:atKey (q::qs) k=some q.2:=by simp[atKey,List.find?_cons,c]
   rw[d8 e,b];exact f
  .have c:¬q.1=k:=λz=>e (d.trans z)
   have b:atKey (q::qs) k=atKey qs k:=by simp[atKey,List.find?_cons,c]
   rw[eI e,b];exact ih
theorem KT.repl{H:Hp}{a:List (List Key×V)}{xs:List (List Key×Addr×Value)}(r:KT H a xs)(k:List Key){y:V}{u:Value}(d:RelV y u) :
  KT H (a.map λkv=>if kv.1=k then (kv.1,y) else kv) (xs.map (putAt k u)):=by
 induction r with
 | nil=>exact .nil
 | @cons p q ps qs h t ih =>
  rw[map_cons,map_cons];refine .cons ?_ ih;obtain⟨b,c,f⟩:=h;unfold putAt
  by_cases e:p.1=k
  .rw[if_pos e,if_pos (b.symm.trans e)];exact⟨b,c,d⟩
  .rw[if_neg e,if_neg (λz=>e (b.trans z))];exact⟨b,c,f⟩
theorem KT.put{H:Hp}{a:List (List Key×V)}{xs:List (List Key×Addr×Value)}(r:KT H a xs)(k:List Key){b:Addr}{y:V}{u:Value}(f:H b=some (.tup (k.map kV)))(c:RelV y u) :
  KT H (fF a k y) (storedH xs k b u):=by
 have e:(a.any λd=>decide (d.1=k))=(atKey xs k).isSome:=by
  rw[hV,(r.val k).isSome_eq,Option.isSome_map]
 unfold fF storedH;rw[e]
 by_cases q:(atKey xs k).isSome=true
 .rw[if_pos q,if_pos q];exact r.repl k c
 .rw[if_neg q,if_neg q];exact Paired.snoc r ⟨rfl,f,c⟩
theorem KT.keeps{H c:Hp}{a:List (List Key×V)}{xs:List (List Key×Addr×Value)}(r:KT H a xs)(d:∀ b ys,H b=some (.tup ys)->c b=some (.tup ys)):KT c a xs :=
 Paired.mapP r λ_ _ z=>⟨z.1,d _ _ z.2.1,z.2.2⟩
section
variable {P:Program}{w:World}{H:Hp}{h:Heap}{a:Addr}
theorem vx{u:HO}(b:HOk P w H h)(e:Rd H a u):ObjOk P w H h a u:=e.ok b
theorem rP{b:List (Key×V)}(c:HOk P w H h)(e:Rd H a (.dK b)):b.length<=sizeLine/\(a == sysModules)=false/\∃ vs,KV b vs/\h.DictOf (bO P w) a vs :=
 show ObjOk P w H h a (.dK b) from vx c e
theorem nE{b:List (Key×V)}(c:HOk P w H h)(e:H a=some (.dK b)):b.length<=sizeLine/\(a == sysModules)=false/\∃ vs,KV b vs/\h.DictOf (bO P w) a vs:=rP c (.inl e)
theorem ow{b:List Key}(f:HOk P w H h)(e:H a=some (.tup (b.map kV))):(tupleKind (bO P w)).is h b a:=by
 obtain⟨_,c,r,o,d,i,n,g⟩:=(show ObjOk P w H h a (.tup (b.map kV)) from f a _ e)
 exact⟨o,c.toArray,n,d,i,g,by simpa using kr r⟩
theorem sr{b:List (List Key×V)}(d:HOk P w H h)(e:Rd H a (.dT b)):b.length<=sizeLine/\(a == sysModules)=false /\
  ∃ xs,KT H b xs/\h.DictOfH (tupleKind (bO P w)) a xs:=by
 obtain⟨z,y,xs,r,o,k,f,i,u,g,s,j⟩:=(show ObjOk P w H h a (.dT b) from vx d e)
 refine⟨z,y,xs,r,o,k,f,i,u,g,s,λx hx=>?_,j⟩
 have c:∀{l:List (List Key×V)}{m:List (List Key×Addr×Value)},KT H l m->∀ x∈m,(tupleKind (bO P w)).is h x.1 x.2.1:=by
  intro l m q
  induction q with
  | nil=>intro x hx;exact nomatch hx
  | @cons p q ps qs hq t ih =>
   intro x hx
   rcases mem_cons.mp hx with e | hx
   .subst e
    exact ow d (by rw[<- hq.1];exact hq.2.1)
   .exact ih x hx
 exact c r x hx
theorem wS{b:List (List Key×V)}(c:HOk P w H h)(e:H a=some (.dT b)):b.length<=sizeLine/\(a == sysModules)=false /\
  ∃ xs,KT H b xs/\h.DictOfH (tupleKind (bO P w)) a xs:=sr c (.inl e)
end
def vW(H:Hp)(a:Addr)(y:V)(r:Option V):Prop :=
 (∃ kvs k,Rd H a (.dK kvs)/\y=kV k/\r=fh kvs k)\/∃ kvs k b,Rd H a (.dT kvs)/\y=.ref b/\H b=some (.tup (k.map kV))/\r=fh kvs k
def xn(H:Hp)(a:Addr)(y v:V)(H':Hp):Prop :=
 (∃ kvs k,H a=some (.dK kvs)/\y=kV k/\kvs.length<sizeLine/\H'=upd H a (.dK (fF kvs k v))) \/
 ∃ kvs k b,H a=some (.dT kvs)/\y=.ref b/\H b=some (.tup (k.map kV))/\kvs.length<sizeLine/\H'=upd H a (.dT (fF kvs k v))
section
variable {X:Cx}{pins:List (Addr×Obj)}{σ:St}{H:Hp}{s:Shared}{a:Addr}{y v:V}{u r:Value}{o:Option V}{A:Around}{E:Value->Shared->Prop}
theorem Inv.big(I:Inv X pins σ H s):sysModules<s.heap.objs.size:=by
 have h:mainGlobals<s.heap.objs.size:=(I.mod.glob.keeps I.bk).lt;exact Nat.lt_trans (by decide) h
theorem qy{Q:Value->Shared->Prop}(B:A.units+1<cLine)(I:Inv X pins σ H s)(g:vW H a y (some v))(r:RelV y u)(h:∀ w' s',Inv X pins σ H s'->RelV v w'->Q w' s') :
  wpAny (model X.prog X.w) A (getItem (.ref a) u) Q E s:=by
 rcases g with⟨i,k,e,j,l⟩ | ⟨i,k,b,e,j,w,l⟩
 .subst j
  obtain⟨z,F,x,c,f⟩:=rP I.hok e;obtain⟨w',q,d⟩:=RelO.some_of (v:=v) (o:=valueAt x k) (by rw[l];exact c.val k);exact wpAny_getItem_of (nJ r) f.mapOf q (h w' _ (I.tok _) d)
 .subst j
  cases(show u=Value.ref b from r);obtain⟨z,F,D,c,f⟩:=sr I.hok e;obtain⟨w',q,d⟩:=RelO.some_of (v:=v) (o:=(atKey D k).map (·.2)) (by rw[l];exact c.val k);obtain⟨p,C,m⟩:=Option.map_eq_some_iff.mp q;refine wpAny_getItem_heap (tupleKind_room_in1 B) (ow I.hok w) f C ?_;rw[m];exact h w' _ (I.tok _) d
theorem jp{h':Heap}{t':Nat}{d:HO}(I:Inv X pins σ H s)(h:Mut (H a))(g:Heap.SameBut a s.heap h')(f:∃ q,h'.get? a=some q)(c:ObjOk X.prog X.w (upd H a d) h' a d) :
  Inv X pins σ (upd H a d) { s with heap:=h',toks:=t' } :=
 I.write (x:=a) (e:=a) h (.inl rfl) (λb q i z=>(g.2 b i).trans z) f c
theorem og{P:Program}{w:World}{d:Hp}{h':Heap}{b:List (Key×V)}{vs:List (Key×Value)}(z:b.length<=sizeLine)(f:(a == sysModules)=false)(c:KV b vs)(e:h'.DictOf (bO P w) a vs) :
  ObjOk P w d h' a (.dK b):=⟨z,f,vs,c,e⟩
theorem qO{J:Hp}{Q:Unit->Shared->Prop}(M:A.units+1<cLine)(I:Inv X pins σ H s)(g:xn H a y v J)(D:RelV y u)(F:RelV v r)(h:∀ s',Inv X pins σ J s'->Q () s') :
  wpAny (model X.prog X.w) A (setItem (.ref a) u r) Q E s:=by
 rcases g with⟨d,k,e,C,l,m⟩ | ⟨d,k,b,e,C,G,l,m⟩
 .subst C m
  obtain⟨z,x,W,f,p⟩:=nE I.hok e;have w:W.length<=sizeLine:=by rw[<- f.length];exact z
  have B:(fF d k v).length<=sizeLine:=by have:=gd d k v;lia
  refine wpAny_setItem_pairs (hsz:=w) (nJ D) p λK i o=>h _ ?_
  have L:∃ q,K.get? a=some q:=let ⟨q,_,_,j,_⟩:=i;⟨q,j⟩;exact jp I (by rw[e];exact True.intro) o L (og B x (f.put k F) i)
 .subst C m
  cases(show u=Value.ref b from D);obtain⟨z,x,S,f,p⟩:=wS I.hok e;have w:S.length<=sizeLine:=by rw[<- Paired.length f];exact z
  have B:(fF d k v).length<=sizeLine:=by have:=gd d k v;lia
  refine wpAny_setItem_heap (hsz:=w) (tupleKind_room_in1 M) (ow I.hok G) p λK i o=>h _ ?_
  obtain⟨q,Y,T,j,P,O,N,_,R⟩:=i;refine jp I (by rw[e];exact True.intro) o ⟨q,j⟩ ⟨B,x,_,(f.put k G F).keeps λc ys ec=>?_,q,Y,T,j,P,O,N,R⟩;rw[au (pq ec e (λz=>nomatch z))];exact ec
end
section
variable {X:Cx}{pins:List (Addr×Obj)}{σ:St}{H:Hp}{s:Shared}{a:Addr}{kvs:List (Key×V)}{k:Key}{u:Value}{A:Around}{E:Value->Shared->Prop}
end
def wT(i:Expr):Prop:=∀ ov iv,subscripted i false ov iv=operate [ov,iv] (getItem ov iv)
theorem uV{prog:Program}{w:World}{A:Around}{E:Value->Shared->Prop}{s:Shared}{env:Env}{b a:Expr}{j:Pos}{T p:String}{Q:Value->Shared->Prop}
  (m:typeLookup (.type T) "__getitem__" = pure (some (.builtin p))) (l:wT a)
  (h:wpAny (model prog w) A (eval b env) (λo s₁=>wpAny (model prog w) A (eval a env) (λi s₂=>s₂.TypeIs o T/\wpAny (model prog w) A (getItem o i) Q E s₂) E s₁) E s) :
  wpAny (model prog w) A (eval (.Subscript b a j) env) Q E s:=by
 refine Subscript_ (wpAny_mono h (λo s₁ f=>wpAny_mono f (λi s₂ c=>?_) λ_ _ x=>x) λ_ _ x=>x);obtain⟨k,c⟩:=c;unfold subscriptTail;refine wpAny_bind ?_;rw[getitemInPython_of_ne k.not_modules];refine wpAny_bind (wpAny_specialOf k m ?_)
 have e:wpAny (model prog w) A (subscripted a false o i) (λr d=>wpAny (model prog w) A (letTemporaryGo b o r >>= λ_=>pure r) Q E d) E s₂:=by
  rw[l o i];exact wpAny_operating (wpAny_mono c (λr d g=>wpAny_bind (wpAny_letTemporaryGo (wpAny_pure g))) λ_ _ x=>x)
 first
  | exact wpAny_pure (wpAny_bind e)
  | exact wpAny_bind (wpAny_pure (wpAny_bind e))
  | exact wpAny_bind e
theorem nX{X:Cx}{c:List (Addr×Obj)}{h:St}{H:Hp}{s:Shared}{a:Addr}{y:V}{o:Option V}(I:Inv X c h H s)(g:vW H a y o):s.TypeIs (.ref a) "dict" := by
 rcases g with⟨f,k,e,_,_⟩ | ⟨f,k,b,e,_,_,_⟩
 .obtain⟨_,_,i,_,d⟩:=rP I.hok e
  exact d.typeIs
 .obtain⟨_,_,j,_,d⟩:=sr I.hok e
  exact d.typeIs
inductive rDGet(x y:V)(H:Hp)(Q:VK):Prop
 | mk(a:Addr)(v:V)(h0:x=.ref a)(h1:vW H a y (some v))(h2:Q v H):rDGet x y H Q
def wU(td ty:TE):TE:=λσ H Q=>td σ H λx H1=>ty σ H1 λy H2=>rDGet x y H2 Q
def xz(td ty tv:TE):TS:=λD σ H=>tv σ H λv H1=>td σ H1 λx H2=>ty σ H2 λy H3=>∃ a H4,x=.ref a/\xn H3 a y v H4/\D.nx σ H4
section
variable {X:Cx}{o i e value:Expr}{pos pos' tpos:Pos}{td ty tv:TE}
theorem ia(m:X.A.units+1<cLine)(l:PE X o td)(r:PE X i ty)(k:wT i):PE X (.Subscript o i pos) (wU td ty):=by
 intro b s d H Q I h;refine uV PySem.F.slot_dict_getitem.lookup k (thn (l b s d H _ I h) λu f ⟨x,e,j,w,p⟩=>thn (r b f d e _ j p) λiv s2 ⟨y,H2,I2,ry,a,v,ex,g,q2⟩=>?_);subst ex;obtain rfl:u=Value.ref a:=w;exact⟨nX I2 g,qy m I2 g ry λz A q c=>⟨v,H2,q,c,q2⟩⟩
theorem uk(k:X.A.units+1<cLine)(j:PE X o td)(q:PE X i ty)(p:PE X value tv)(f:swapsWith value (some (.Subscript o i pos')) pos.line X.env=pure false) :
  PS X (.Assign [.Subscript o i pos'] value pos) (xz td ty tv):=by
 intro b s c H D I h;refine wpAny_Assign_Subscript (thn (p b s c H _ I h) λr z ⟨v,d,e,w,l⟩=>thn (j b z c d _ e l) λu s2 ⟨x,H2,I2,rx,q2⟩=>thn (q b s2 c H2 _ I2 q2) λiv s3 ⟨y,H3,I3,ry,a,H4,ex,g,q3⟩=>?_) f;subst ex;obtain rfl:u=Value.ref a:=rx
 exact qO k I3 g ry w λA m=>⟨c,H4,m,q3⟩
end
theorem m3{P:Program}{w:World}{H:Hp}(h:Heap)(a:sysModules<h.objs.size):ObjOk P w H (h.push { cls:=.type "dict",data:=.dict #[] }) h.objs.size (.dK []) :=
 ⟨Nat.zero_le _,beq_eq_false_iff_ne.mpr (Ne.symm (Nat.ne_of_lt a)),[],.nil,Heap.DictOf.new h⟩
def wq:TE:=λ_ H Q=>∀ p,H p=none->Q (.ref p) (upd H p (.dK []))
section
variable {X:Cx}{pos:Pos}
theorem rE:PE X (.Dict [] [] pos) wq:=λb s c H Q I h =>
 wpAny_Dict_empty ⟨.ref s.heap.objs.size,_,I.laid (a:=s.heap.objs.size) (o:=.dK []) (t':=s.toks) (λ_ _ q=>Heap.get?_push_of_some _ q) (Nat.le_refl _) (m3 s.heap I.big),rfl,h _ (I.hok.fresh (Nat.le_refl _))⟩
end
def oH:List (TE×TE)->St->Hp->(List (V×V)->Hp->Prop)->Prop
 | [],_,H,Q=>Q [] H
 | (tk,tv)::r,σ,H,Q=>tk σ H λx H1=>tv σ H1 λy H2=>oH r σ H2 λps H3=>Q ((x,y)::ps) H3
abbrev VV:List (V×V)->List (Value×Value)->Prop:=Paired λp q=>RelV p.1 q.1/\RelV p.2 q.2
def PPs(X:Cx)(pos:Pos)(keys:List (Option Expr))(values:List Expr)(trs:List (TE×TE)):Prop :=
 ∀(pins:List (Addr×Obj)) (s:Shared) (σ:St) (H:Hp) (Q:List (V×V)->Hp->Prop),Inv X pins σ H s->oH trs σ H Q ->
  wpAny (model X.prog X.w) X.A (evalPairs (pairTrees keys values X.env pos)) (λvs s'=>∃ ps H',Inv X pins σ H' s'/\VV ps vs/\Q ps H') X.xe s
theorem uH{X:Cx}{a:Pos}:PPs X a [] [] []:=λb s c H Q I h=>pairTrees_nil_walk ⟨[],H,I,.nil,h⟩
theorem mG{X:Cx}{b:Pos}{k v:Expr}{g:List (Option Expr)}{vs:List Expr}{tk f:TE}{c:List (TE×TE)}(m:PE X k tk)(A:PE X v f)(z:PPs X b g vs c) :
  PPs X b (some k::g) (v::vs) ((tk,f)::c):=λa s d H Q I h =>
 pairTrees_cons_walk (thn (m a s d H _ I h) λu r ⟨x,p,j,B,q⟩=>thn (A a r d p _ j q) λw2 s2 ⟨y,H2,I2,ry,q2⟩ =>
  thn (z a s2 d H2 _ I2 q2) λD C ⟨l,i,o,e,w⟩=>⟨(x,y)::l,i,o,.cons ⟨B,ry⟩ e,w⟩)
def g8(kvs more:List (Key×V)):List (Key×V):=more.foldl (λacc kv=>fF acc kv.1 kv.2) kvs
theorem KV.merge:∀{more:List (Key×V)}{rs:List (Key×Value)}{kvs:List (Key×V)}{vs:List (Key×Value)},KV more rs->KV kvs vs->KV (g8 kvs more) (merged vs rs):=by
 intro more rs kvs vs r;unfold KV at r
 induction r generalizing kvs vs with
 | nil=>intro q;exact q
 | @cons p q ps qs h t ih =>
  intro a
  have e:KV (fF kvs p.1 p.2) (stored vs q.1 q.2):=by
   have:=a.put p.1 h.2;rw[<- h.1];exact this
  exact ih e
theorem gW:∀(more kvs:List (Key×V)),(g8 kvs more).length<=kvs.length+more.length
 | [],kvs=>by show kvs.length<=kvs.length+0;lia
 | p::r,kvs=>by
  have a:=gW r (fF kvs p.1 p.2);have b:=gd kvs p.1 p.2;show(g8 (fF kvs p.1 p.2) r).length<=_;rw[length_cons];lia
theorem jQ{P:Program}{w:World}:∀{kvs:List (Key×V)}{ws:List (Value×Value)},VV (kvs.map λkv=>(kV kv.1,kv.2)) ws->∃ rs,Carries (bO P w) ws rs/\KV kvs rs
 | [],_,r=>by rw[map_nil]at r;cases r;exact⟨[],True.intro,.nil⟩
 | p::kvs,_,r=>by
  rw[map_cons]at r;cases r with
  | @cons a b as bs h t =>
   obtain⟨rs,c,q⟩:=jQ (P:=P) (w:=w) t;obtain⟨e,d⟩:=b;exact⟨(p.1,d)::rs,⟨nJ h.1,rfl,c⟩,.cons ⟨rfl,h.2⟩ q⟩
def w9(trs:List (TE×TE)):TE:=λσ H Q=>∀ p,H p=none->oH trs σ (upd H p (.dK [])) λps H2=>H2 p=some (.dK [])/\∃ kvs:List (Key×V),ps=kvs.map (λkv=>(kV kv.1,kv.2))/\kvs.length<=15/\Q (.ref p) (upd H2 p (.dK (g8 [] kvs)))
theorem uY{X:Cx}{i:Pos}{b:List (Option Expr)}{d:List Expr}{k:List (TE×TE)}(h:PPs X i b d k)(j:b.all (·.isSome)=true)(M:b.length=d.length)(O:b≠[])
  (m:b.length<=15):PE X (.Dict b d i) (w9 k):=by
 intro f s C H Q I q;have N:=I.hok.fresh (Nat.le_refl s.heap.objs.size);have v:=I.laid (a:=s.heap.objs.size) (o:=.dK []) (h':=s.heap.push { cls:=.type "dict",data:=.dict #[] }) (t':=s.toks) (λ_ _ q=>Heap.get?_push_of_some _ q) (Nat.le_refl _) (m3 s.heap I.big);refine wpAny_Dict_walk (knd:=bO X.prog X.w) j M O m (thn (h f _ C _ _ v (q _ N)) λY T ⟨S,W,r,p,e,l,G,R,J⟩=>?_);subst G;obtain⟨y,c,B⟩:=jQ (P:=X.prog) (w:=X.w) p;obtain⟨z,F,L,K,D⟩:=nE r.hok e;cases K;refine⟨y,c,D,λh' g A=>⟨.ref s.heap.objs.size,_,?_,rfl,J⟩⟩
 have E:(g8 [] l).length<=sizeLine:=by
  have x:=gW l [];rw[length_nil]at x;rw[sizeLine_eq];lia
 have u:∃ q,h'.get? s.heap.objs.size=some q:=let ⟨q,_,_,hq,_⟩:=g;⟨q,hq⟩;exact jp r (by rw[e];exact True.intro) A u (og E F (B.merge .nil) g)
section
variable {X:Cx}{pins:List (Addr×Obj)}{σ:St}{H:Hp}{s:Shared}{a:Addr}{y d:V}{u r:Value}{o:Option V}{A:Around}{E:Value->Shared->Prop}
end
section
variable {X:Cx}{o e f:Expr}{apos cpos:Pos}{td ty tx:TE}
end
section
variable {X:Cx}{pins:List (Addr×Obj)}{σ:St}{H:Hp}{s:Shared}{a:Addr}{kvs:List (Key×V)}{A:Around}{E:Value->Shared->Prop}
end
section
variable {X:Cx}{pins:List (Addr×Obj)}{σ:St}{H:Hp}{s:Shared}{a:Addr}{y:V}{u:Value}{A:Around}{E:Value->Shared->Prop}
end
theorem OpR.imp{X:Cx}{f:Value->Value->Sem Value}{r r':R2}(h:OpR X f r)(i:∀ x y H Q,r' x y H Q->r x y H Q):OpR X f r' :=
 λa s b H x y v u Q I d c q=>h a s b H x y v u Q I d c (i x y H Q q)
theorem CallR.imp{X:Cx}{f:Value}{r r':List V->Hp->VK->Prop}(h:CallR X f r)(i:∀ xs H Q,r' xs H Q->r xs H Q):CallR X f r' :=
 λa s c H xs b Q I d q=>h a s c H xs b Q I d (i xs H Q q)
def tV(i:Nat):TE:=λσ H Q=>match σ[i]? with
 | some (some v)=>Q v H
 | _=>False
theorem vr{X:Cx}(i:Nat){x:Str}{c:Pos}(f:X.N[i]? = some x:=by rfl)(g:Vis X.env.scope x:=by first | exact Or.inl rfl | exact Or.inr (Or.inl rfl) | exact Or.inr (Or.inr rfl))(j:(x == ("__debug__" : Str))=false:=by decide)
  (b:(x == ("__classdict__" : Str))=false:=by decide):PE X (.Name x c) (tV i):=λa s d H Q I h=>by
 refine vK f g j b a s d H Q I ?_;unfold tV at h
 split at h
 .rename_i v e
  exact⟨v,e,h⟩
 .exact h.elim
def rI2(g:Int->Int->V):R2:=λx y H Q=>match x,y with
 | .int i,.int j=>Q (g i j) H
 | _,_=>False
def rIC(C:Int->Int->Prop)(g:Int->Int->V):R2:=λx y H Q=>match x,y with
 | .int i,.int j=>C i j/\Q (g i j) H
 | _,_=>False
theorem OpR.i2{X:Cx}{f:Value->Value->Sem Value}{g:Int->Int->V}(h:OpR X f (rI0 g)):OpR X f (rI2 g):=h.imp λx y H Q q=>by
 cases x <;> cases y <;> first | exact⟨_,_,rfl,rfl,q⟩ | exact(show False from q).elim
theorem OpR.ic{X:Cx}{f:Value->Value->Sem Value}{C:Int->Int->Prop}{g:Int->Int->V}(h:OpR X f (rI C g)):OpR X f (rIC C g):=h.imp λx y H Q q=>by
 cases x <;> cases y <;> first | exact⟨_,_,rfl,rfl,q.1,q.2⟩ | exact(show False from q).elim
section
variable {X:Cx}
def wP:R2:=λx y H Q=>match x,y with
 | .int i,.int j=>Q (.int (i+j)) H
 | .str i,.str j=>i.length+j.length<=sizeLine/\Q (.str (i++j)) H
 | _,_=>False
theorem di:OpR X (binaryOp .Add) wP:=(op_add.or oh).imp λx y H Q q=>by
 cases x <;> cases y <;> first | exact .inl ⟨_,_,rfl,rfl,q⟩ | exact .inr ⟨_,_,rfl,rfl,q.1,q.2⟩ | exact(show False from q).elim
theorem eO:OpR X (binaryOp .Sub) (rI2 λi j=>.int (i - j)):=op_sub.i2
def wX(i j:Int):Prop:=0<j
def CNn(i j:Int):Prop:=0<=j
theorem cp{i j:Int}(h:0<j:=by decide):wX i j:=h
theorem cn{i j:Int}(h:0<=j:=by decide):CNn i j:=h
theorem cd{i j:Int}(h:0<j:=by decide)(a:j<1073741824:=by decide):xY i j:=⟨h,a⟩
theorem cw{i j:Int}(h:0<=j:=by decide)(b:j<=1000000:=by decide)(a:i.natAbs<2 ^ 64:=by decide):wB i j:=⟨h,b,a⟩
theorem cl{i j:Int}(h:-(2 ^ 64)<i:=by decide)(a:i<2 ^ 64:=by decide):CMul i j:=.inl ⟨h,a⟩
theorem cr{i j:Int}(h:-(2 ^ 64)<j:=by decide)(a:j<2 ^ 64:=by decide):CMul i j:=.inr ⟨h,a⟩
theorem dD:OpR X (binaryOp .Mod) (rIC wX λi j=>.int (i % j)):=op_mod.ic
theorem kB:OpR X (binaryOp .Pow) (rIC wB λi j=>.int (i ^ j.toNat)):=op_pow.ic
theorem xA:OpR X (binaryOp .RShift) (rIC CNn λi j=>.int (i/2 ^ j.toNat)):=op_shr.ic
theorem qx:OpR X (compareOp .LtE) (λx y H Q=>∃ i j,x=.str i/\y=.str j/\Q (.bl (!decide (j.cps.toList<i.cps.toList))) H):=by
 intro a s e H x y v u Q I c b h;obtain⟨i,j,rfl,rfl,q⟩:=h;obtain⟨t,rfl⟩:=c;obtain⟨d,rfl⟩:=b;exact PySem.P.le_str (bn I q rfl)
def vv(f:Int->Int->Bool)(g:Str->Str->Bool):R2:=λx y H Q=>match x,y with
 | .int i,.int j=>Q (.bl (f i j)) H
 | .str i,.str j=>Q (.bl (g i j)) H
 | _,_=>False
theorem ln:OpR X (compareOp .Lt) (vv (λi j=>decide (i<j)) λi j=>decide (i.cps.toList<j.cps.toList)):=(op_lt.or qH).imp λx y H Q q=>by
 cases x <;> cases y <;> first | exact .inl ⟨_,_,rfl,rfl,q⟩ | exact .inr ⟨_,_,rfl,rfl,q⟩ | exact(show False from q).elim
theorem sC:OpR X (compareOp .LtE) (vv (λi j=>decide (i<=j)) λi j=>!decide (j.cps.toList<i.cps.toList)):=(op_le.or qx).imp λx y H Q q=>by
 cases x <;> cases y <;> first | exact .inl ⟨_,_,rfl,rfl,q⟩ | exact .inr ⟨_,_,rfl,rfl,q⟩ | exact(show False from q).elim
theorem tu:OpR X (compareOp .Gt) (rI2 λi j=>.bl (decide (j<i))):=op_gt.i2
theorem qZ:OpR X (compareOp .GtE) (rI2 λi j=>.bl (decide (j<=i))):=op_ge.i2
def wK(neg:Bool):R2:=λx y H Q=>match x,y with
 | .int i,.int j=>Q (.bl (if neg then !decide (i=j) else decide (i=j))) H
 | .str i,.str j=>Q (.bl (if neg then !decide (i=j) else decide (i=j))) H
 | .bl i,.bl j=>Q (.bl (if neg then !decide (i=j) else decide (i=j))) H
 | .non,.non=>Q (.bl (!neg)) H
 | .non,.int _=>Q (.bl neg) H
 | .non,.str _=>Q (.bl neg) H
 | .non,.bl _=>Q (.bl neg) H
 | .int _,.non=>Q (.bl neg) H
 | .str _,.non=>Q (.bl neg) H
 | .bl _,.non=>Q (.bl neg) H
 | .int _,.str _=>Q (.bl neg) H
 | .str _,.int _=>Q (.bl neg) H
 | _,_=>False
theorem dm:OpR X (compareOp .Eq) (wK false):=op_eq.imp λx y H Q q=>by
 cases x <;> cases y <;> first | exact(show False from q).elim | exact⟨rfl,q⟩ | exact⟨rfl,by rw[jr];exact q⟩ | exact⟨rfl,by rw[lF];exact q⟩ | exact⟨rfl,by rw[jv];exact q⟩
theorem w5:OpR X (compareOp .NotEq) (wK true):=op_ne.imp λx y H Q q=>by
 cases x <;> cases y <;> first | exact(show False from q).elim | exact⟨rfl,q⟩ | exact⟨rfl,by rw[jr];exact q⟩ | exact⟨rfl,by rw[lF];exact q⟩ | exact⟨rfl,by rw[jv];exact q⟩
def rU1(g:Int->V):V->Hp->VK->Prop:=λx H Q=>match x with
 | .int i=>Q (g i) H
 | _=>False
theorem sg:UnR X (unaryOp .USub) (rU1 λi=>.int (-i)):=λa s b H x v Q I r q=>vT a s b H x v Q I r (by
 cases x <;> first | exact⟨_,rfl,q⟩ | exact(show False from q).elim)
def mB(Q:Bool->Hp->Prop):VK:=λx H=>match x with
 | .bl c=>Q c H
 | _=>False
variable {a b c:Expr}{ta tb tc:TE}{pos:Pos}{rest:List Expr}
def xG(ta tb:TE):TE:=λσ H Q=>ta σ H (mB λc H1=>if c=true then tb σ H1 Q else Q (.bl false) H1)
def yj(ta:TE):TE:=λσ H Q=>ta σ H (mB λc H1=>Q (.bl (!c)) H1)
theorem gZ{Q:Bool->Hp->Prop}{x:V}{H:Hp}(h:mB Q x H):∃ c,x=.bl c/\Q c H:=by
 cases x <;> first | exact⟨_,rfl,h⟩ | exact(show False from h).elim
theorem uZ(k:PE X a ta)(m:PE X (.BoolOp .And (b::rest) pos) tb):PE X (.BoolOp .And (a::b::rest) pos) (xG ta tb):=by
 intro d s i H Q I h;refine BoolOp_and (thn (k d s i H _ I h) λv l ⟨x,f,g,j,e⟩=>?_);obtain⟨c,rfl,e⟩:=gZ e;cases j;refine wpAny_truthy_bool ?_;cases c with
 | true=>exact m d l i f Q g e
 | false=>exact⟨.bl false,f,g,rfl,e⟩
theorem xf(j:PE X a ta):PE X (.UnaryOp .Not a pos) (yj ta):=by
 intro b s g H Q I h;refine UnaryOp_ (thn (j b s g H _ I h) λv k ⟨x,e,f,i,d⟩=>?_);obtain⟨c,rfl,d⟩:=gZ d;cases i;exact not_of (wpAny_truthy_bool ⟨.bl (!c),e,f,rfl,d⟩)
def mT(t:TE):TT:=λσ H Q=>t σ H (mB Q)
theorem gU(h:PE X a ta)(c:∀ whole,isTrue a X.env whole=(do let v <- whole;standAt a.pos;holding [v] (truthy v)):=by intro _;rfl):PT X a (mT ta):=by
 intro b s g H Q I k;refine isTrue_plain (thn (h b s g H _ I k) λv l ⟨x,e,f,j,i⟩=>?_) (c _);obtain⟨d,rfl,q⟩:=gZ i;cases j;exact wpAny_truthy_bool ⟨e,f,q⟩
theorem aK{f:CmpOp}{r:R2}(p:OpR X (compareOp f) r)(B:PE X a ta)(D:PE X b tb)(i:behindInMarks f b=false):PT X (.Compare a [f] [b] pos) (mT (tOp r ta tb)):=by
 intro d s g H Q I h
 refine wpAny_isTrue_Compare1 (thn (B d s g H _ I h) λv C ⟨x,l,m,A,q⟩=>thn (D d C g l _ m q) λu s2 ⟨y,H2,I2,r2,q2⟩ =>
  thn (p d s2 g H2 x y v u _ I2 A r2 q2) λc E ⟨z,j,w,o,e⟩=>?_) i
 obtain⟨k,rfl,e⟩:=gZ e;cases o;exact wpAny_truthy_bool ⟨j,w,e⟩
def rA(r r':R2)(ta tb tc:TE):TE:=λσ H Q=>ta σ H λx H1=>tb σ H1 λy H2=>r x y H2 (mB λk H3=>if k=true then tc σ H3 λw' H4=>r' y w' H4 Q else Q (.bl false) H3)
theorem pJ{l f:CmpOp}{r r':R2}(A:OpR X (compareOp l) r)(j:OpR X (compareOp f) r')(L:PE X a ta)(S:PE X b tb)(F:PE X c tc)
  (R:lastMarks [l,f] [b,c]=false:=by with_unfolding_all rfl):PE X (.Compare a [l,f] [b,c] pos) (rA r r' ta tb tc):=by
 intro e s g H Q I h
 refine Compare_chain (thn (L e s g H _ I h) λv P ⟨x,G,p,K,J⟩=>chain_link (thn (S e P g G _ p J) λu s2 ⟨y,H2,I2,r2,q2⟩ =>
  thn (A e s2 g H2 x y v u _ I2 K r2 q2) λd C ⟨z,m,o,q,i⟩=>?_)) R
 obtain⟨k,rfl,i⟩:=gZ i;cases q;refine wpAny_truthy_bool ?_;cases k with
 | false=>exact ite_ff ⟨.bl false,m,o,rfl,i⟩
 | true=>exact ite_tt (chain_last (thn (F e C g m _ o i) λM B ⟨N,O,E,D,w⟩=>j e B g O y N u M Q E r2 D w))
theorem uc{m f:CmpOp}{r r':R2}(B:OpR X (compareOp m) r)(l:OpR X (compareOp f) r')(M:PE X a ta)(T:PE X b tb)(G:PE X c tc)
  (S:lastMarks [m,f] [b,c]=false:=by with_unfolding_all rfl):PT X (.Compare a [m,f] [b,c] pos) (mT (rA r r' ta tb tc)):=by
 intro e s g H Q I h
 refine isTrue_chain (thn (M e s g H _ I h) λv R ⟨x,J,q,L,K⟩=>test_link (thn (T e R g J _ q K) λu s2 ⟨y,H2,I2,r2,q2⟩ =>
  thn (B e s2 g H2 x y v u _ I2 L r2 q2) λd D ⟨z,o,p,w,i⟩=>?_)) S
 obtain⟨k,rfl,i⟩:=gZ i;cases w;refine wpAny_truthy_bool ?_;cases k with
 | false=>exact ite_ff ⟨o,p,i⟩
 | true =>
  refine ite_tt (test_last (thn (G e D g o _ p i) λN C ⟨O,P,F,E,A⟩=>thn (l e C g P y O u N _ F r2 E A) λd' s5 ⟨z2,H5,I5,r5,j⟩=>?_));obtain⟨W,rfl,j⟩:=gZ j;cases r5;exact wpAny_truthy_bool ⟨H5,I5,j⟩
open PySem.W in
theorem rX{e:List (Addr×Obj)}{h:St}{H:Hp}{s:Shared}{x:V}{u t:Value}(I:Inv X e h H s)(b:RelV x u)(ty:TyOf X.K H x t) :
  ∃ Hh:Heap->Prop,KitX X.K u t Hh/\Hh s.heap/\u≠.builtin "__main__.__loader__#opaque" := by
 cases ty with
 | non=>cases(show u=Value.none from b);exact⟨_,PySem.W.kitx_none,True.intro,λz=>nomatch z⟩
 | bl y=>cases(show u=Value.bool y from b);exact⟨_,PySem.W.kitx_bool,True.intro,λz=>nomatch z⟩
 | int i=>obtain⟨t,q⟩:=(show ∃ t,u=Value.int i t from b);cases q;exact⟨_,PySem.W.kitx_int,True.intro,λz=>nomatch z⟩
 | str y=>obtain⟨t,q⟩:=(show ∃ t,u=Value.str y t from b);cases q;exact⟨_,PySem.W.kitx_str,True.intro,λz=>nomatch z⟩
 | flt y=>obtain⟨t,q⟩:=(show ∃ t,u=Value.float y t from b);cases q;exact⟨_,PySem.W.kitx_float,True.intro,λz=>nomatch z⟩
 | @lst a d ea =>
  cases(show u=Value.ref a from b)
  obtain⟨_,_,n,_,c⟩:=(show ObjOk X.prog X.w H s.heap a (.lst d) from I.hok a _ ea)
  exact⟨_,kitx_list,⟨_,c,rfl⟩,λz=>nomatch z⟩
 | @frz a ob d ea =>
  cases(show u=Value.ref a from b)
  obtain⟨_,_,_,n,_,c⟩:=(show ObjOk X.prog X.w H s.heap a (.frz ob (.lst d)) from I.hok a _ ea)
  exact⟨_,kitx_list,⟨_,c,rfl⟩,λz=>nomatch z⟩
 | @tup a d ea =>
  cases(show u=Value.ref a from b)
  obtain⟨_,_,_,p⟩:=(show ObjOk X.prog X.w H s.heap a (.tup d) from I.hok a _ ea)
  obtain⟨o,c,f,_⟩:=p;exact⟨_,kitx_tuple,⟨o,c,f⟩,λz=>nomatch z⟩
 | @dK a kvs ea =>
  cases(show u=Value.ref a from b)
  obtain⟨_,_,l,_,p⟩:=(show ObjOk X.prog X.w H s.heap a (.dK kvs) from I.hok a _ ea)
  obtain⟨o,j,g,c,f,_⟩:=p;exact⟨_,kitx_dict,⟨o,c,f.1⟩,λz=>nomatch z⟩
 | @dT a kvs ea =>
  cases(show u=Value.ref a from b)
  obtain⟨_,_,d,_,o,j,g,c,f,_⟩:=(show ObjOk X.prog X.w H s.heap a (.dT kvs) from I.hok a _ ea)
  exact⟨_,kitx_dict,⟨o,c,f.1⟩,λz=>nomatch z⟩
 | @ins a C dx fs ea cl ha hn htk hm =>
  cases(show u=Value.ref a from b);obtain⟨k,O,_⟩:=jt I.hok ea;obtain⟨m,J,_⟩:=O.look;exact⟨_,PySem.W.kitx_own (cl.get _) cl.hd ha hn htk hm,J,λz=>nomatch z⟩
def w4:V->Value
 | .ty n=>.type n
 | .ref a=>.ref a
 | _=>.none
def vm:V->Bool
 | .ty _=>true
 | .ref _=>true
 | _=>false
theorem ur{c:V}{u:Value}(h:vm c=true)(r:RelV c u):u=w4 c:=by
 cases c <;> first | exact r | exact absurd (show false=true from h) Bool.false_ne_true
inductive rIsi(K:Frag)(xs:List V)(H:Hp)(Q:VK):Prop
 | mk(x c:V)(t:_)(b:Bool)(h0:xs=[x,c])(h1:vm c=true)(h2:TyOf K H x t)(h3:kitOne K t (w4 c)=some b)(h4:Q (.bl b) H):rIsi K xs H Q
theorem m5:CallR X (.builtin "isinstance") (rIsi X.K):=by
 intro a s l H w m Q I r h;obtain⟨x,c,t,b,rfl,j,i,e,q⟩:=h;obtain⟨u,o,rfl,k,g⟩:=kQ r;cases ur j g;obtain⟨v,Z,p,d⟩:=rX I k i
 exact PySem.W.kia_one Z I.kIn p e d λf=>⟨.bl b,H,I.tok f,rfl,q⟩
end
theorem wn{Q:V->Prop}{p r:Prop}[Decidable p][Decidable r](q:Q (.bl (decide (p/\r)))):if decide p=true then Q (.bl (decide r)) else Q (.bl false):=by
 by_cases h:p
 .rw[if_pos (decide_eq_true h)]
  have e:decide (p/\r)=decide r:=by by_cases z:r <;> simp[h,z]
  rw[<- e];exact q
 .rw[if_neg (λz=>h (of_decide_eq_true z))]
  have e:decide (p/\r)=false:=decide_eq_false λz=>h z.1
  rw[<- e];exact q
theorem ifP{c:Prop}[Decidable c]{A B:Prop}(a:c)(h:A):if decide c=true then A else B:=by rw[if_pos (decide_eq_true a)];exact h
theorem ifN{c:Prop}[Decidable c]{A B:Prop}(a:¬c)(h:B):if decide c=true then A else B:=by rw[if_neg (λz=>a (of_decide_eq_true z))];exact h
theorem ifC{c:Prop}[Decidable c]{A B:Prop}(a:c->A)(b:¬c->B):if decide c=true then A else B:=by
 by_cases h:c
 .exact ifP h (a h)
 .exact ifN h (b h)
theorem ifB{b:Bool}{A B:Prop}(a:b=true->A)(c:b=false->B):if b=true then A else B:=by
 cases b with
 | true=>rw[if_pos rfl];exact a rfl
 | false=>rw[if_neg Bool.false_ne_true];exact c rfl
theorem cj:bootBuiltins "len" = some (.builtin "len"):=by decide +kernel
theorem gJ:bootBuiltins "isinstance" = some (.builtin "isinstance"):=by decide +kernel
theorem rQ:bootBuiltins "min" = some (.builtin "min"):=by decide +kernel
theorem o6:bootBuiltins "max" = some (.builtin "max"):=by decide +kernel
theorem lJ:bootBuiltins "enumerate" = some (.type "enumerate"):=by decide +kernel
theorem sK:bootBuiltins "zip" = some (.type "zip"):=by decide +kernel
theorem mC:bootBuiltins "range" = some (.type "range"):=by decide +kernel
theorem wz:bootBuiltins "int" = some (.type "int"):=by decide +kernel
theorem tR:bootBuiltins "bool" = some (.type "bool"):=by decide +kernel
theorem gB:bootBuiltins "list" = some (.type "list"):=by decide +kernel
theorem jY:bootBuiltins "tuple" = some (.type "tuple"):=by decide +kernel
theorem ii{X:Cx}{x:Str}{v:V}{a:Pos}(b:Gl X x)(h:∃ u,X.mg x=some u/\RelV v u)(c:(x == ("__debug__" : Str))=false:=by decide):PE X (.Name x a) (tC v) :=
 let ⟨_,e,r⟩:=h
 uq b e r c
def w6(K:Frag)(tl:TE):TI:=λσ H R=>tl σ H λx H1=>match x with
 | .str z=>R (Its z) H1
 | .ref a=>((∃ xs,SqL K H1 a xs)/\R (Itl K a) H1)\/((∃ xs,SqT K H1 a xs)/\R (Itt K a) H1)
 | _=>False
theorem bJ{X:Cx}{tg l:Expr}{tl:TE}(m:PE X l tl):PI X tg l (w6 X.K tl):=by
 intro g s u H R I h;have w:PE X l tl:=m;refine thn (m g s u H _ I h) λv c ⟨x,i,d,r,j⟩=>?_
 cases x with
 | str z =>
  have:=wv (X:=X) (tg:=tg) (l:=l) (tl:=tC (.str z));obtain⟨t,rfl⟩:=r;refine wpAny_pyIter_strU ?_;refine⟨c.heap.objs.size,[c.heap.objs.size],_,_,i,rfl,d.kept (t':=c.toks) λb o e=>Heap.get?_push_of_some _ e,nN (ty:=strIterType z) (t:=t) z _ ?_,⟨_,Heap.get?_push_size _ rfl,rfl,rfl⟩,λb hb=>?_,j⟩
  .unfold strIterType
   split
   .exact .inl rfl
   .exact .inr rfl
  .have e:b=c.heap.objs.size:=by simpa using hb
   subst e;exact d.fpOk (Nat.le_refl _) (d.hok.fresh (Nat.le_refl _))
 | ref a =>
  cases r
  rcases j with⟨⟨y,k⟩,q⟩ | ⟨⟨y,k⟩,q⟩
  .obtain⟨f,B,p,A⟩:=d.list k
   refine wpAny_pyIter_list p.isList ?_;refine⟨c.heap.objs.size,[c.heap.objs.size],_,_,i,rfl,d.kept (t':=c.toks) λb o e=>Heap.get?_push_of_some _ e,qI a _,⟨_,Heap.get?_push_size _ rfl,rfl,rfl⟩,λb hb=>?_,q⟩;have e:b=c.heap.objs.size:=by simpa using hb
   subst e;exact d.fpOk (Nat.le_refl _) (d.hok.fresh (Nat.le_refl _))
  .obtain⟨f,B,p,A⟩:=d.tuple k
   refine wpAny_pyIter_tuple (show c.heap.IsTuple a f.toArray from p) ?_;refine⟨c.heap.objs.size,[c.heap.objs.size],_,_,i,rfl,d.kept (t':=c.toks) λb o e=>Heap.get?_push_of_some _ e,oQ a _,⟨_,Heap.get?_push_size _ rfl,rfl,rfl⟩,λb hb=>?_,q⟩;have e:b=c.heap.objs.size:=by simpa using hb
   subst e;exact d.fpOk (Nat.le_refl _) (d.hok.fresh (Nat.le_refl _))
 | _=>exact(show False from j).elim
inductive rLenSq(K:Frag)(p:Addr)(H:Hp)(Q:VK):Prop
 | mk(ys:List V)(h0:SqL K H p ys\/SqT K H p ys)(h1:Q (.int ys.length) H):rLenSq K p H Q
theorem aP{X:Cx}:CallR X (.builtin "len") (λxs H Q=>match xs with
  | [.str z]=>z.length<=sizeLine/\Q (.int z.length) H
  | [.ref p]=>rLenSq X.K p H Q
  | _=>False):=(call_len_str.or mn).imp λxs H Q q=>by
 match xs,q with
 | [.str z],q=>exact .inl ⟨z,rfl,q.1,q.2⟩
 | [.ref p],q=>obtain⟨a,h,q⟩:=q;exact .inr ⟨p,a,rfl,h,q⟩
section
variable {D:Addr}{σb:St}{g:TG}{tt:TT}{te:TE}{Q:Hp->List V->Prop}{H:Hp}{K:Frag}
def pj(D:Addr)(σb:St)(g:TG)(tt:TT)(te:TE)(x:V)(ys:List V)(H:Hp)(P:List V->Hp->Prop):Prop :=
 g x σb H λσ4 H4=>Wk σb σ4/\tt σ4 H4 λb H5=>if b=true then te σ4 H5 λy H6=>H6 D=some (.lst ys)/\ys.length<sizeLine/\P (ys++[y]) (upd H6 D (.lst (ys++[y]))) else P ys H5
theorem aO{a:Addr}{xs:List V}(c:Nat->List V->Hp->Prop)(j:c 0 [] H)(f:∀ i ys H,c i ys H->SqL K H a xs)(h:∀ i ys H,c i ys H->H D=some (.lst ys))
  (d:∀(i:Nat) x ys H P,xs[i]? = some x->c i ys H->(∀ a b,c (i+1) a b->P a b)->pj D σb g tt te x ys H P) (k:∀ ys H,c xs.length ys H->Q H ys):∃ W,(∃ m,W 0 m [] H)/\jP (Itl K a) D σb g tt te Q W:=by
 refine⟨λi m ys H=>m=xs.length - i/\i<=xs.length/\c i ys H,⟨_,rfl,Nat.zero_le _,j⟩,?_⟩;rintro i m ys H ⟨rfl,o,p⟩;refine⟨h i ys H p,?_⟩;have q:=f i ys H p
 by_cases hlt:i<xs.length
 .refine .inr ⟨⟨xs,xs[i],q,by simp[hlt]⟩,λx l y=>?_⟩
  obtain⟨rfl,y⟩:=y;exact d i x ys _ (λa b=>∃ m',m'<xs.length - i/\m'=xs.length - (i+1)/\i+1<=xs.length/\c (i+1) a b) (y xs q) p (λa b q=>⟨xs.length - (i+1),by lia,rfl,hlt,q⟩)
 .have e:i=xs.length:=by lia
  subst e;exact .inl ⟨⟨xs,q,Nat.le_refl _⟩,k ys H p⟩
theorem rd{a:Addr}{xs:List V}(c:Nat->List V->Hp->Prop)(j:c 0 [] H)(f:∀ i ys H,c i ys H->SqT K H a xs)(h:∀ i ys H,c i ys H->H D=some (.lst ys))
  (d:∀(i:Nat) x ys H P,xs[i]? = some x->c i ys H->(∀ a b,c (i+1) a b->P a b)->pj D σb g tt te x ys H P) (k:∀ ys H,c xs.length ys H->Q H ys):∃ W,(∃ m,W 0 m [] H)/\jP (Itt K a) D σb g tt te Q W:=by
 refine⟨λi m ys H=>m=xs.length - i/\i<=xs.length/\c i ys H,⟨_,rfl,Nat.zero_le _,j⟩,?_⟩;rintro i m ys H ⟨rfl,o,p⟩;refine⟨h i ys H p,?_⟩;have q:=f i ys H p
 by_cases hlt:i<xs.length
 .refine .inr ⟨⟨xs,xs[i],q,by simp[hlt]⟩,λx l y=>?_⟩
  obtain⟨rfl,y⟩:=y;exact d i x ys _ (λa b=>∃ m',m'<xs.length - i/\m'=xs.length - (i+1)/\i+1<=xs.length/\c (i+1) a b) (y xs q) p (λa b q=>⟨xs.length - (i+1),by lia,rfl,hlt,q⟩)
 .have e:i=xs.length:=by lia
  subst e;exact .inl ⟨⟨xs,q,Nat.le_refl _⟩,k ys H p⟩
theorem jC{lo:Int}{n:Nat}(c:Nat->List V->Hp->Prop)(h:c 0 [] H)(f:∀ i ys H,c i ys H->H D=some (.lst ys))
  (d:∀(i:Nat) ys H P,i<n->c i ys H->(∀ a b,c (i+1) a b->P a b)->pj D σb g tt te (.int (lo+i)) ys H P) (j:∀ ys H,c n ys H->Q H ys):∃ W,(∃ m,W 0 m [] H)/\jP (Itr lo n) D σb g tt te Q W:=by
 refine⟨λi m ys H=>m=n - i/\i<=n/\c i ys H,⟨_,rfl,Nat.zero_le _,h⟩,?_⟩;rintro i m ys H ⟨rfl,l,p⟩;refine⟨f i ys H p,?_⟩
 by_cases hlt:i<n
 .refine .inr ⟨hlt,λx k y=>?_⟩
  obtain⟨rfl,rfl⟩:=y;exact d i ys _ (λa b=>∃ m',m'<n - i/\m'=n - (i+1)/\i+1<=n/\c (i+1) a b) hlt p (λa b q=>⟨n - (i+1),by lia,rfl,hlt,q⟩)
 .have e:i=n:=by lia
  subst e;exact .inl ⟨Nat.le_refl _,j ys H p⟩
end
theorem Same.new{H:Hp}{p:Addr}{o:HO}(h:H p=none):Same H (upd H p o):=λb u e=>by rw[au (ar e h)];exact e
mutual
def DV(K:Frag)(H:Hp):PyData->V->Prop
 | .none,x=>x=.non
 | .bool b,x=>x=.bl b
 | .int i,x=>x=.int i
 | .str z,x=>x=.str z
 | .list ds,x=>∃ a xs,x=.ref a/\SqL K H a xs/\DVs K H ds xs
 | .tuple ds,x=>∃ a xs,x=.ref a/\SqT K H a xs/\DVs K H ds xs
 | .dict _,_=>False
def DVs(K:Frag)(H:Hp):List PyData->List V->Prop
 | [],xs=>xs=[]
 | d::ds,xs=>∃ y ys,xs=y::ys/\DV K H d y/\DVs K H ds ys
end
section
variable {X:Cx}{pins:List (Addr×Obj)}{σ:St}{H:Hp}{s:Shared}
mutual
theorem DV.reads(I:Inv X pins σ H s):∀{d:PyData}{x:V}{u:Value},DV X.K H d x->RelV x u->∃ as,Reads s.heap u d as
 | .none,x,u,h,r=>by
  rw[DV]at h;subst h;cases r;exact⟨_,.none⟩
 | .bool b,x,u,h,r=>by
  rw[DV]at h;subst h;cases r;exact⟨_,.bool b⟩
 | .int i,x,u,h,r=>by
  rw[DV]at h;subst h;obtain⟨t,rfl⟩:=r;exact⟨_,.int i t⟩
 | .str z,x,u,h,r=>by
  rw[DV]at h;subst h;obtain⟨t,rfl⟩:=r;exact⟨_,.str z t⟩
 | .list ds,x,u,h,r=>by
  rw[DV]at h;obtain⟨a,l,rfl,f,j⟩:=h;cases r;obtain⟨g,k,⟨o,n,e,c,_,d⟩,_⟩:=I.list f;obtain⟨as,q⟩:=DVs.reads I j k;exact⟨_,.list e c d (by simpa using q)⟩
 | .tuple ds,x,u,h,r=>by
  rw[DV]at h;obtain⟨a,l,rfl,f,j⟩:=h;cases r;obtain⟨g,k,⟨o,e,c,n,d⟩,_⟩:=I.tuple f;obtain⟨as,q⟩:=DVs.reads I j k;exact⟨_,.tuple e c d (by simpa using q)⟩
 | .dict _,x,u,h,r=>by rw[DV]at h;exact h.elim
theorem DVs.reads(I:Inv X pins σ H s):∀{ds:List PyData}{xs:List V}{us:List Value},DVs X.K H ds xs->Vals xs us->∃ as,ReadsAll s.heap us ds as
 | [],xs,us,h,r=>by
  rw[DVs]at h;subst h;cases r;exact⟨_,.nil⟩
 | d::ds,xs,us,h,r=>by
  rw[DVs]at h;obtain⟨y,c,rfl,b,a⟩:=h;cases r with
  | cons r rs =>
   obtain⟨as,q⟩:=DV.reads I b r;obtain⟨e,p⟩:=DVs.reads I a rs;exact⟨_,.cons q p⟩
end
end
inductive rEqD(K:Frag)(neg:Bool)(x y:V)(H:Hp)(Q:VK):Prop
 | mk(d e:PyData)(h0:DV K H d x)(h1:DV K H e y)(h2:SeqAt.shaped d=true)(h3:SeqAt.shaped e=true)(h4:Q (.bl (if neg then !PyData.eqv d e else PyData.eqv d e)) H):rEqD K neg x y H Q
theorem sI{X:Cx}(g:X.A.units+64<cLine):OpR X (compareOp .Eq) (rEqD X.K false):=by
 intro a s p H x y v u Q I m j h;obtain⟨d,e,f,l,c,k,q⟩:=h;obtain⟨o,i⟩:=f.reads I m;obtain⟨r,b⟩:=l.reads I j;exact eq_dataH i b c k g ⟨.bl _,H,I,rfl,q⟩
theorem vH{X:Cx}(g:X.A.units+64<cLine):OpR X (compareOp .NotEq) (rEqD X.K true):=by
 intro a s p H x y v u Q I m j h;obtain⟨d,e,f,l,c,k,q⟩:=h;obtain⟨o,i⟩:=f.reads I m;obtain⟨r,b⟩:=l.reads I j;exact ne_dataH i b c k g ⟨.bl _,H,I,rfl,q⟩
def tE(z:Str)(lo hi:Option Int):Str:=⟨((z.cps.toList.drop (HT.sIx z.cps.size 0 lo)).take (HT.sIx z.cps.size z.cps.size hi - HT.sIx z.cps.size 0 lo)).toArray⟩
theorem vC(n d:Nat)(v:Option Int):(match v with | none=>(d:Int) | some i=>max 0 (min (if i<0 then i+(n:Int) else i) (n:Int)))=((HT.sIx n d v:Nat):Int):=by
 cases v with
 | none=>rfl
 | some i =>
  show max 0 (min (if i<0 then i+(n:Int) else i) (n:Int))=(((if i<0 then (i+(n:Int)).toNat else min i.toNat n):Nat):Int)
  split <;> lia
theorem sw(lo a:Option Int)(n:Nat):Builtin.Str.strSliceIndices lo a 1 n=(List.range (HT.sIx n n a - HT.sIx n 0 lo)).map (HT.sIx n 0 lo + ·):=by
 have e:Builtin.Str.strSliceIndices lo a 1 n=sliceRange ((HT.sIx n 0 lo:Nat):Int) ((HT.sIx n n a:Nat):Int) 1:=by
  rw[<- vC n 0 lo,<- vC n n a];unfold Builtin.Str.strSliceIndices;simp only[show(1:Int) > 0 by decide,if_true]
  cases lo <;> cases a <;> rfl
 rw[e,sliceRange_one]
theorem qK(z:Str)(lo a:Option Int):Txt.slice z lo a=tE z lo a:=by
 have e:((Builtin.Str.strSliceIndices lo a 1 z.length).filterMap (z.cps[·]?))=(z.cps.toList.drop (HT.sIx z.cps.size 0 lo)).take (HT.sIx z.cps.size z.cps.size a - HT.sIx z.cps.size 0 lo):=by
  rw[sw];exact pick_run z.cps _ _
 unfold Txt.slice
 split
 .rename_i h
  have c:(Builtin.Str.strSliceIndices lo a 1 z.length).length=z.cps.size:=by
   rw[Bool.and_eq_true]at h;exact eq_of_beq h.2
  rw[sw,length_map,length_range]at c;have g:=HT.sIx_le z.cps.size z.cps.size (Nat.le_refl _) a;have b:HT.sIx z.cps.size z.cps.size a - HT.sIx z.cps.size 0 lo=z.cps.size:=c;unfold tE
  by_cases h0:z.cps.size=0
  .refine ext_toList ?_
   have d:z.cps.toList=[]:=length_eq_zero_iff.mp (by simpa using h0);show z.cps.toList=_;rw[d];simp
  .have f:HT.sIx z.cps.size 0 lo=0:=by lia
   rw[b,f,drop_zero,take_of_length_le (by simp)]
 .rw[e]
  rfl
section
variable {X:Cx}
def xS:V->Option Int->Option Int->Hp->VK->Prop:=λx lo hi H Q=>∃ z,x=.str z/\z.length<=sizeLine/\Q (.str (tE z lo hi)) H
theorem vL:SlR X xS:=by
 intro b s m H x v w y g p A Q I r c o f h;obtain⟨z,rfl,d,q⟩:=h;obtain⟨t,rfl⟩:=r;refine⟨"str",_,F.slot_str_getitem.lookup,typeIs_str _ _ _,?_⟩;rw[<- qK]at q
 have a:∀ e k,EP X b m Q (.str (Txt.slice z g p) e) { s with toks:=k }:=λe k=>⟨.str _,H,I.tok _,⟨_,rfl⟩,q⟩
 cases o with
 | none =>
  cases f with
  | none=>exact wpAny_getItem_str_slice (l:=none) (u:=none) (st:=none) c rfl (post_val_or_str ⟨Nat.le_trans (Txt.slice_le z _ _) d,a⟩)
  | int j uj=>exact wpAny_getItem_str_slice (l:=none) (u:=some (j,uj)) (st:=none) c rfl (post_val_or_str ⟨Nat.le_trans (Txt.slice_le z _ _) d,a⟩)
 | int i ui =>
  cases f with
  | none=>exact wpAny_getItem_str_slice (l:=some (i,ui)) (u:=none) (st:=none) c rfl (post_val_or_str ⟨Nat.le_trans (Txt.slice_le z _ _) d,a⟩)
  | int j uj=>exact wpAny_getItem_str_slice (l:=some (i,ui)) (u:=some (j,uj)) (st:=none) c rfl (post_val_or_str ⟨Nat.le_trans (Txt.slice_le z _ _) d,a⟩)
theorem SlR.imp{r r':V->Option Int->Option Int->Hp->VK->Prop}(h:SlR X r)(i:∀ x lo hi H Q,r' x lo hi H Q->r x lo hi H Q):SlR X r' :=
 λa s f H x v b d lo hi j Q I k c g e q=>h a s f H x v b d lo hi j Q I k c g e (i x lo hi H Q q)
theorem gg:SlR X (λx lo hi H Q=>match x with
  | .str z=>z.length<=sizeLine/\Q (.str (tE z lo hi)) H
  | .ref a=>(∃ xs,SqL X.K H a xs/\∀ p,H p=none->Q (.ref p) (upd H p (.lst (dQ xs lo hi)))) \/
    ∃ xs,SqT X.K H a xs/\¬(HT.sIx xs.length 0 lo=0/\HT.sIx xs.length xs.length hi=xs.length)/\∀ p,H p=none->Q (.ref p) (upd H p (.tup (dQ xs lo hi)))
  | _=>False):=(sl_list.or (sl_tup.or vL)).imp λx lo hi H Q q=>by
 cases x with
 | str z=>exact .inr (.inr ⟨z,rfl,q.1,q.2⟩)
 | ref a =>
  rcases q with⟨xs,b,c⟩ | ⟨xs,b,c,d⟩
  .exact .inl ⟨a,xs,rfl,b,c⟩
  .exact .inr (.inl ⟨a,xs,rfl,b,c,d⟩)
 | _=>exact(show False from q).elim
variable {o e:Expr}{es:List Expr}{to:TE}{t:TA}{apos cpos:Pos}
end
section
variable {X:Cx}{st:Stmt}{rest:List Stmt}{t u:TS}{e:Expr}{te:TE}{tt:TT}
def xa(t u:TS):TS:=λD σ H=>∃ M:St->Hp->Prop,t { D with nx:=M } σ H/\∀ σ' H',M σ' H'->u D σ' H'
theorem kP(g:PS X st t)(j:PSs X rest u):PSs X (st::rest) (xa t u):=by
 intro a s i H D I h;obtain⟨M,h,d⟩:=h;refine wpAny_execs_cons (thn (g a s i H { D with nx:=M } I h) λf k q=>?_);cases f with
 | next =>
  obtain⟨b,c,e,q⟩:=q;exact j a k b c D e (d _ _ q)
 | ret v=>exact q
 | brk=>exact q
 | cont=>exact q
end
end L2
namespace L2
abbrev PvS:=Nat->St->Hp->Prop
abbrev PvL:=Nat->List V->Hp->Prop
theorem gI{c a:TS}{D:Ends}{b:St}{H:Hp}:(let B2:TS:=a;bA c B2 D b H)->bA c a D b H:=λh=>h
theorem gM{d a c:TS}{D:Ends}{b:St}{H:Hp}:(let B3:TS:=c;let B2:TS:=bA a B3;bA d B2 D b H)->bA d (bA a c) D b H:=λh=>h
theorem ny{d a e c:TS}{D:Ends}{b:St}{H:Hp}:(let B4:TS:=c;let B3:TS:=bA e B4;let B2:TS:=bA a B3;bA d B2 D b H)->bA d (bA a (bA e c)) D b H:=λh=>h
theorem pO{e a f c d:TS}{D:Ends}{b:St}{H:Hp}:(let B5:TS:=d;let B4:TS:=bA c B5;let B3:TS:=bA f B4;let B2:TS:=bA a B3;bA e B2 D b H)->bA e (bA a (bA f (bA c d))) D b H:=λh=>h
theorem u7{e a g c d f:TS}{D:Ends}{b:St}{H:Hp}:(let B6:TS:=f;let B5:TS:=bA d B6;let B4:TS:=bA c B5;let B3:TS:=bA g B4;let B2:TS:=bA a B3;bA e B2 D b H)->bA e (bA a (bA g (bA c (bA d f)))) D b H:=λh=>h
theorem xw{g c j e f i b a:TS}{D:Ends}{d:St}{H:Hp}:(let B8:TS:=a;let B7:TS:=bA b B8;let B6:TS:=bA i B7;let B5:TS:=bA f B6;let B4:TS:=bA e B5;let B3:TS:=bA j B4;let B2:TS:=bA c B3;bA g B2 D d H)->bA g (bA c (bA j (bA e (bA f (bA i (bA b a)))))) D d H:=λh=>h
theorem rT{j d l g i k c b f a:TS}{D:Ends}{e:St}{H:Hp}:(let B10:TS:=a;let B9:TS:=bA f B10;let B8:TS:=bA b B9;let B7:TS:=bA c B8;let B6:TS:=bA k B7;let B5:TS:=bA i B6;let B4:TS:=bA g B5;let B3:TS:=bA l B4;let B2:TS:=bA d B3;bA j B2 D e H)->bA j (bA d (bA l (bA g (bA i (bA k (bA c (bA b (bA f a)))))))) D e H:=λh=>h
end L2
namespace L2
open PySem PySem.Spec PyProof.Rows
section
variable {X:Cx}{pins:List (Addr×Obj)}{σ:St}{H:Hp}{s:Shared}{h':Heap}
theorem Inv.turnedNew{t':Nat}{ch:List Addr}{a:Addr}{o:HO}(I:Inv X pins σ H s)(k:∀ b u,b ∉ ch->s.heap.get? b=some u->h'.get? b=some u)(p:∀ b∈ch,FpOk X pins H b)
  (w:s.heap.objs.size<=a) (i:ObjOk X.prog X.w (upd H a o) h' a o):Inv X pins σ (upd H a o) { s with heap:=h',toks:=t' }:=by
 have l:H a=none:=I.hok.fresh w
 have g:∀ b u,H b=some u->b ∉ ch:=λb u e z=>by
  rw[(p b z).1]at e;cases e
 have d:∀ b u,H b=some u->b≠a:=λb u e z=>by
  rw[z,l]at e;cases e
 have j:∀ b u,s.heap.get? b=some u->b≠a:=λb u e=>Nat.ne_of_lt (Nat.lt_of_lt_of_le (Heap.lt_size e) w)
 refine I.step (g':=s.gens) (d':=s.drawn) (ch:=ch) (λb h=>?_) (λb u _ _ f e _=>k b u f e) (λb u _ _ f e _=>⟨u.slots,k b u f e⟩) (λb u _ e n=>?_) (λb u f e=>⟨u,k b u f e⟩)
  (λb G e=>?_) (λb u v e=>?_) (λb ps e=>⟨#[],?_⟩) (λm hm=>?_) (λb u e=>?_) I.bare
 .obtain⟨_,E,_,C,B,A⟩:=p b h
  exact⟨C,E,B,A⟩
 .rw[au (j b u e)];exact n
 .rw[au (d b _ e)];exact e
 .rw[au (d b _ e)];exact e
 .rw[au (d b _ e),e];simp
 .obtain⟨x,F,y,D,r⟩:=hm
  exact⟨x,F,y,k _ x (λz=>(p _ z).2.1 rfl) D,r⟩
 .by_cases h:b=a
  .subst h
   rw[ac]at e;cases e;exact i
  .rw[au h]at e
   refine(I.hok b u e).stay (λc v f q=>k c v ?_ q) (λc q=>?_) λc G q=>?_
   .rcases f with z | z
    .rw[z];exact g b u e
    .exact g c _ z
   .rw[au (d c _ q)];exact q
   .rw[au (d c _ q)];exact q
theorem Inv.turnedN{t':Nat}{ch:List Addr}(I:Inv X pins σ H s)(k:∀ b u,b ∉ ch->s.heap.get? b=some u->h'.get? b=some u)(f:∀ b∈ch,FpOk X pins H b):Inv X pins σ H { s with heap:=h',toks:=t' }:=by
 have d:∀ b u,H b=some u->b ∉ ch:=λb u e z=>by
  rw[(f b z).1]at e;cases e
 refine I.step (g':=s.gens) (d':=s.drawn) (ch:=ch) (λb y=>?_) (λb u _ _ a e _=>k b u a e) (λb u _ _ a e _=>⟨u.slots,k b u a e⟩) (λb u _ e n=>n) (λb u a e=>⟨u,k b u a e⟩)
  (λb x e=>e) (λb u v e=>e) (λb ps e=>⟨#[],by rw[e];simp⟩) (λm hm=>?_) (λb u e=>?_) I.bare
 .obtain⟨_,o,_,j,w,i⟩:=f b y
  exact⟨j,o,w,i⟩
 .obtain⟨g,p,h,l,r⟩:=hm
  exact⟨g,p,h,k _ g (λz=>(f _ z).2.1 rfl) l,r⟩
 .refine(I.hok b u e).stay (λc v a q=>k c v ?_ q) (λc q=>q) λc x q=>q
  rcases a with z | z
  .rw[z];exact d b u e
  .exact d c _ z
end
def Ite(a:Addr):It:=⟨λi H=>∃ xs x,H a=some (.lst xs)/\xs[i]? = some x,
 λi H x H'=>∃ p y,H p=none/\x=.ref p/\(∀ xs,H a=some (.lst xs)->xs[i]? = some y)/\H'=upd H p (.tup [.int (i:Nat),y]),λi H=>∃ xs,H a=some (.lst xs)/\xs.length<=i⟩
theorem qa{P:Program}{w:World}{K:Frag}{es:List Expr}{k:Nat}{O:Pos}(a e c:Addr)(B:e≠c) :
  Turn P w K (.Tuple es k O) (Ite a) [e,c] e (λi h=>(∃ old,IsEnum h e c i old)/\h.IsListIter c a i) where
 mem:=by simp
 obj:=λi h g b hb=>by
  obtain⟨⟨old,d⟩,o,p,C,h3⟩:=g
  rcases mem_cons.mp hb with rfl | hb
  .exact⟨_,d,λv z=>by cases z⟩
  .rw[mem_singleton.mp hb]
   exact⟨o,p,λv z=>by rw[h3]at z;cases z⟩
 keep:=λi h h' g kp=>by
  obtain⟨⟨old,d⟩,o,p,r⟩:=g;exact⟨⟨old,kp e (by simp) _ d⟩,o,kp c (by simp) o p,r⟩
 item:=by
  intro X W Q hK hc i j s σ H E I F g T;subst W Q hK;obtain⟨⟨old,d⟩,f⟩:=g;obtain⟨xs,x,D,G⟩:=T;obtain⟨z,m,n,r,A,R⟩:=I.lstM D;obtain⟨u,hu,ru⟩:=Vals.get r G
  have l:s.heap.IsList a m.toArray:=⟨_,R,rfl,_,rfl⟩
  refine wpAny_pyNext_enum_item d f l (x:=u) (by simpa using hu) B λp e1 e2 e3 e4 e5=>?_
  refine⟨_,rfl,wpAny_letOwnedTupleGo_enum e1 λC e6 Y=>?_⟩;have y:s.heap.objs.size≠e:=λq=>absurd (Heap.lt_size d) (by rw[<- q];exact Nat.lt_irrefl _)
  have S:s.heap.objs.size≠c:=λq=>by
   obtain⟨o,M,_⟩:=f;exact absurd (Heap.lt_size M) (by rw[<- q];exact Nat.lt_irrefl _)
  have hn:H s.heap.objs.size=none:=I.hok.fresh (Nat.le_refl _);have Z:C.get? s.heap.objs.size=some { cls:=.type "tuple",data:=.seq #[.int i s.toks,u] }:=(Y.2 _ y).trans e3
  have J:Inv X j σ (upd H s.heap.objs.size (.tup [.int (i:Nat),x])) { s with heap:=C,toks:=s.toks+1 }:=by
   refine I.turnedNew (ch:=[e,c]) (λb o hb q=>?_) F (Nat.le_refl _) ⟨by rw[sizeLine_eq];show 2<=16777216;decide,[.int i s.toks,u],.cons ⟨_,rfl⟩ (.cons ru .nil),_,Z,rfl,0,rfl⟩;have b1:b≠e:=λz=>hb (by simp[z])
   have b2:b≠c:=λz=>hb (by simp[z])
   exact(Y.2 b b1).trans (e5 b o b1 b2 q)
  refine⟨.ref s.heap.objs.size,_,J,rfl,⟨s.heap.objs.size,x,hn,rfl,λys hy=>?_,rfl⟩,⟨⟨u,?_⟩,?_⟩,λb hb=>?_⟩
  .rw[D]at hy
   cases hy;exact G
  .have L:IsEnum C e c ((i:Int)+1) u:=e6
   have e7:((i+1:Nat):Int)=(i:Int)+1:=by lia
   rw[e7];exact L
  .obtain⟨o,M,r⟩:=e2
   exact⟨o,(Y.2 c (Ne.symm B)).trans M,r⟩
  .have N:b≠s.heap.objs.size:=by
    rcases mem_cons.mp hb with rfl | hb
    .exact y.symm
    .rw[mem_singleton.mp hb];exact S.symm
   rw[au N];exact(F b hb).1
 done:=by
  intro X W Q hK hc i j s σ H E I F g T;subst W Q hK;obtain⟨⟨old,d⟩,f⟩:=g;obtain⟨xs,D,G⟩:=T;obtain⟨z,m,n,r,A,R⟩:=I.lstM D
  have l:s.heap.IsList a m.toArray:=⟨_,R,rfl,_,rfl⟩
  refine wpAny_pyNext_enum_end (I.ok.hd hc) d f l (by simp;lia) λp eb=>⟨rfl,I.turnedN (ch:=[e,c]) (t':=s.toks) (λb o hb q=>eb b o (λz=>hb (by simp[z])) q) F⟩
 self:=λ_ _ _ _ _ g h=>by
  obtain⟨⟨old,d⟩,_⟩:=g;exact wpAny_pyIter_enum d h
def wR(ta:TA):TI:=λσ H R=>ta σ H λvs H1=>∃ a xs,vs=[.ref a]/\H1 a=some (.lst xs)/\R (Ite a) H1
theorem eR{X:Cx}{es:List Expr}{k:Nat}{f:Pos}{e:Expr}{x:TA}{p i:Pos}(G:Gl X "enumerate")(J:X.mg "enumerate" = none)(F:PA X [e] x)(C:starEach [e] X.env=[(false,eval e X.env)]:=by rfl) :
  PI X (.Tuple es k f) (.Call (.Name "enumerate" p) [e] [] i) (wR x):=by
 intro c s w H R I h;refine wpAny_Call_Name_kw (fO I G J lJ ?_ (by decide) (by decide));refine PyProof.Rows.callWith_type1 (thn (F i c s w H _ I h) λS d ⟨Q,v,j,E,a,O,l,L,q⟩=>?_) C rfl;subst l;obtain⟨u,rfl,A⟩:=fX E;cases A;obtain⟨z,M,n,r,o,D⟩:=j.lstM L;refine call_enumerate_1 (n:=n) D λB l N P K=>?_
 have y:Inv X c w v { d with heap:=B }:=j.kept (t':=d.toks) K;have m:d.heap.objs.size+1≠d.heap.objs.size:=Nat.succ_ne_self _;refine wpAny_pyIter_enum l ?_;refine⟨d.heap.objs.size+1,[d.heap.objs.size+1,d.heap.objs.size],_,_,v,rfl,y,qa a _ _ m,⟨⟨_,l⟩,N⟩,λb hb=>?_,q⟩
 have g:d.heap.objs.size<=b:=by
  rcases mem_cons.mp hb with rfl | hb
  .lia
  .rw[mem_singleton.mp hb]
   exact Nat.le_refl _
 exact j.fpOk g (j.hok.fresh g)
theorem jI{a:Addr}{xs:List V}{g:TG}{f:TS}{D:Ends}{c:St}{H:Hp}(d:Nat->St->Hp->Prop)(r:d 0 c H)(k:∀ i c H,d i c H->H a=some (.lst xs))
  (j:∀(i:Nat) x c H p,xs[i]? = some x->d i c H->H p=none->g (.ref p) c (upd H p (.tup [.int (i:Nat),x])) λσ2 H2=>f { D with nx:=d (i+1),ct:=d (i+1),bk:=D.nx } σ2 H2) (s:∀ c H,d xs.length c H->D.nx c H) :
  ∃ W:Nat->Nat->St->Hp->Prop,(∃ m,W 0 m c H)/\∀ i m c H,W i m c H ->
   ((Ite a).stop i H/\D.nx c H)\/((Ite a).go i H/\∃ N:St->Hp->Prop,(∀ σ' H',N σ' H'->∃ m',m'<m/\W (i+1) m' σ' H')/\∀ x H',(Ite a).yld i H x H'->g x c H' λσ2 H2=>f { D with nx:=N,ct:=N,bk:=D.nx } σ2 H2):=by
 refine⟨λi m c H=>m=xs.length - i/\i<=xs.length/\d i c H,⟨_,rfl,Nat.zero_le _,r⟩,?_⟩;rintro i m c H ⟨rfl,u,p⟩;have q:=k i c H p
 by_cases hlt:i<xs.length
 .refine .inr ⟨⟨xs,xs[i],q,by simp[hlt]⟩,d (i+1),λσ' H' o=>⟨_,by lia,rfl,hlt,o⟩,λx H' y=>?_⟩
  obtain⟨b,v,h,rfl,l,rfl⟩:=y;exact j i v c H b (l xs q) p h
 .have e:i=xs.length:=by lia
  subst e;exact .inl ⟨⟨xs,q,Nat.le_refl _⟩,s c H p⟩
theorem fD{D:Addr}{d:St}{g:TG}{f:TT}{h:TE}{Q:Hp->List V->Prop}{H:Hp}{a:Addr}{xs:List V}(c:Nat->List V->Hp->Prop)(u:c 0 [] H)(l:∀ i ys H,c i ys H->H a=some (.lst xs))(o:∀ i ys H,c i ys H->H D=some (.lst ys))
  (k:∀(i:Nat) x ys H p P,xs[i]? = some x->c i ys H->H p=none->(∀ a b,c (i+1) a b->P a b)->pj D d g f h (.ref p) ys (upd H p (.tup [.int (i:Nat),x])) P) (w:∀ ys H,c xs.length ys H->Q H ys):∃ W,(∃ m,W 0 m [] H)/\jP (Ite a) D d g f h Q W:=by
 refine⟨λi m ys H=>m=xs.length - i/\i<=xs.length/\c i ys H,⟨_,rfl,Nat.zero_le _,u⟩,?_⟩;rintro i m ys H ⟨rfl,A,p⟩;refine⟨o i ys H p,?_⟩;have q:=l i ys H p
 by_cases hlt:i<xs.length
 .refine .inr ⟨⟨xs,xs[i],q,by simp[hlt]⟩,λx z y=>?_⟩
  obtain⟨b,v,j,rfl,s,rfl⟩:=y
  exact k i v ys H b (λa b=>∃ m',m'<xs.length - i/\m'=xs.length - (i+1)/\i+1<=xs.length/\c (i+1) a b) (s xs q) p j λa b r=>⟨_,by lia,rfl,hlt,r⟩
 .have e:i=xs.length:=by lia
  subst e;exact .inl ⟨⟨xs,q,Nat.le_refl _⟩,w ys H p⟩
def Itz(a b:Addr):It:=⟨λi H=>∃ xs ys x y,H a=some (.lst xs)/\H b=some (.lst ys)/\xs[i]? = some x/\ys[i]? = some y,
 λi H v H'=>∃ p x y,H p=none/\v=.ref p/\(∀ xs,H a=some (.lst xs)->xs[i]? = some x)/\(∀ ys,H b=some (.lst ys)->ys[i]? = some y)/\H'=upd H p (.tup [x,y]),
 λi H=>∃ xs ys,H a=some (.lst xs)/\H b=some (.lst ys)/\(xs.length<=i\/ys.length<=i)⟩
theorem ss{P:Program}{w:World}{K:Frag}{es:List Expr}{k:Nat}{ad:Pos}(a b z l g f j:Addr)(F:[z,l,g,f,j].Nodup) :
  Turn P w K (.Tuple es k ad) (Itz a b) [z,l,g,f,j] z (λi h=>IsZip h z l g .none/\IsPair h l (.ref f) (.ref j)/\(∃ u v,IsPair h g u v)/\h.IsListIter f a i/\h.IsListIter j b i):=by
 have n1:l≠z:=λe=>by simp[e]at F
 have n2:g≠z:=λe=>by simp[e]at F
 have n3:f≠z:=λe=>by simp[e]at F
 have n4:j≠z:=λe=>by simp[e]at F
 have n5:l≠g:=λe=>by simp[e]at F
 have n6:l≠f:=λe=>by simp[e]at F
 have n7:l≠j:=λe=>by simp[e]at F
 have n8:g≠f:=λe=>by simp[e]at F
 have n9:g≠j:=λe=>by simp[e]at F
 have n0:f≠j:=λe=>by simp[e]at F
 have A:∀{H:Hp}{xs ys:List V},(∀ c∈[z,l,g,f,j],H c=none)->H a=some (.lst xs)->H b=some (.lst ys)->ZipApart z l g f j a b:=λ{H xs ys} p B D =>
  ⟨n1,n2,n3,n4,n5,n6,n7,n8,n9,n0,ar B (p z (by simp)),ar B (p g (by simp)),ar B (p f (by simp)),ar B (p j (by simp)),
   ar D (p z (by simp)),ar D (p g (by simp)),ar D (p f (by simp)),ar D (p j (by simp))⟩
 refine { mem:=by simp,obj:=?_,keep:=?_,item:=?_,done:=?_,self:=?_ }
 .rintro i h ⟨N,M,⟨u,v,Q⟩,⟨o4,G,_,d4⟩,⟨o5,L,_,d5⟩⟩ c d
  simp only[mem_cons,not_mem_nil,or_false]at d
  rcases d with rfl | rfl | rfl | rfl | rfl
  .exact⟨_,N,λv z=>by cases z⟩
  .exact⟨_,M,λv z=>by cases z⟩
  .exact⟨_,Q,λv z=>by cases z⟩
  .exact⟨_,G,λv z=>by rw[d4]at z;cases z⟩
  .exact⟨_,L,λv z=>by rw[d5]at z;cases z⟩
 .rintro i h h' ⟨N,M,⟨u,v,Q⟩,⟨o4,G,r4⟩,⟨o5,L,r5⟩⟩ kp
  exact⟨kp z (by simp) _ N,kp l (by simp) _ M,⟨u,v,kp g (by simp) _ Q⟩,⟨o4,kp f (by simp) _ G,r4⟩,⟨o5,kp j (by simp) _ L,r5⟩⟩
 .intro X hP hw hK d i O s σ H E I p st hg
  subst hP hw hK;obtain⟨N,M,⟨u,v,Q⟩,G,L⟩:=st;obtain⟨xs,ys,x,y,B,D,hx,hy⟩:=hg;obtain⟨_,S,n,r,Z,eo⟩:=I.lstM B;obtain⟨_,C,m,r2,R,T⟩:=I.lstM D;obtain⟨ux,ap,al⟩:=Vals.get r hx;obtain⟨uy,an,ah⟩:=Vals.get r2 hy;have hn:H s.heap.objs.size=none:=I.hok.fresh (Nat.le_refl _)
  have ab:∀ c∈[z,l,g,f,j],c≠s.heap.objs.size:=λc d q=>by
   have:∃ o,s.heap.get? c=some o:=by
    simp only[mem_cons,not_mem_nil,or_false]at d;obtain⟨o4,G,_⟩:=G;obtain⟨o5,L,_⟩:=L
    rcases d with rfl | rfl | rfl | rfl | rfl
    .exact⟨_,N⟩
    .exact⟨_,M⟩
    .exact⟨_,Q⟩
    .exact⟨_,G⟩
    .exact⟨_,L⟩
   obtain⟨o,Y⟩:=this;exact absurd (Heap.lt_size Y) (by rw[q];exact Nat.lt_irrefl _)
  refine wpAny_pyNext_zip_item (A (λc d=>(p c d).1) B D) N M Q G L (xs:=S.toArray) (ys:=C.toArray) ⟨_,eo,rfl,_,rfl⟩ ⟨_,T,rfl,_,rfl⟩ (x:=ux) (y:=uy) (by simpa using ap) (by simpa using an)
   λh6 e1 e2 e3 e4 e5 e6 e7=>?_
  refine⟨_,rfl,wpAny_letOwnedTupleGo_zip e1 λh7 e8 W=>?_⟩
  have J:Inv X O σ (upd H s.heap.objs.size (.tup [x,y])) { s with heap:=h7 }:=by
   refine I.turnedNew (t':=s.toks) (ch:=[z,l,g,f,j]) (λc o d q=>?_) p (Nat.le_refl _) ⟨by rw[sizeLine_eq];show 2<=16777216;decide,[ux,uy],.cons al (.cons ah .nil),_,(W.2 _ (ab z (by simp)).symm).trans e5,rfl,0,rfl⟩;have c1:c≠z:=λw=>d (by simp[w])
   exact(W.2 c c1).trans (e7 c o c1 (λw=>d (by simp[w])) (λw=>d (by simp[w])) (λw=>d (by simp[w])) q)
  refine⟨.ref s.heap.objs.size,_,J,rfl,⟨s.heap.objs.size,x,y,hn,rfl,λas h=>by rw[B]at h;cases h;exact hx,λys' h=>by rw[D]at h;cases h;exact hy,rfl⟩,⟨e8,?_,⟨ux,uy,?_⟩,?_,?_⟩,λc d=>?_⟩
  .exact(W.2 l n1).trans (e7 l _ n1 n5 n6 n7 M)
  .exact(W.2 g n2).trans e2
  .obtain⟨o,Y,q⟩:=e3
   exact⟨o,(W.2 f n3).trans Y,q⟩
  .obtain⟨o,Y,q⟩:=e4
   exact⟨o,(W.2 j n4).trans Y,q⟩
  .rw[au (ab c d)]
   exact(p c d).1
 .intro X hP hw hK d i O s σ H E I p st hg
  subst hP hw hK;obtain⟨N,M,⟨u,v,Q⟩,G,L⟩:=st;obtain⟨xs,ys,B,D,hx⟩:=hg;obtain⟨_,S,n,r,Z,eo⟩:=I.lstM B;obtain⟨_,C,m,r2,R,T⟩:=I.lstM D;refine wpAny_pyNext_zip_end (I.ok.hd d) (A (λc d=>(p c d).1) B D) N M Q G L (xs:=S.toArray) (ys:=C.toArray) ⟨_,eo,rfl,_,rfl⟩ ⟨_,T,rfl,_,rfl⟩ (by simp;lia) λh6 e7=>?_
  exact⟨rfl,I.turnedN (t':=s.toks) (ch:=[z,l,g,f,j]) (λc o d q=>e7 c o (λw=>d (by simp[w])) (λw=>d (by simp[w])) (λw=>d (by simp[w])) (λw=>d (by simp[w])) q) p⟩
 .exact λ_ _ _ _ _ st h=>wpAny_pyIter_zip st.1 h
def xT(ta:TA):TI:=λσ H R=>ta σ H λvs H1=>∃ a b xs ys,vs=[.ref a,.ref b]/\H1 a=some (.lst xs)/\H1 b=some (.lst ys)/\R (Itz a b) H1
theorem wA{X:Cx}{es:List Expr}{k:Nat}{l:Pos}{e f:Expr}{K:TA}{p i:Pos}(hg:Gl X "zip")(hm:X.mg "zip" = none)(Z:PA X [e,f] K)(Q:starEach [e,f] X.env=(false,eval e X.env)::starEach [f] X.env:=by rfl)
  (A:(backTo i (starEach [f] X.env)).any (·.1)=false:=by rfl):PI X (.Tuple es k l) (.Call (.Name "zip" p) [e,f] [] i) (xT K):=by
 intro g s J H R I h;refine wpAny_Call_Name_kw (fO I hg hm sK ?_ (by decide) (by decide));refine PyProof.Rows.callWith_type1 (thn (Z i g s J H _ I h) λus d ⟨vs,G,j,Y,a,b,xs,ys,x,hl,B,q⟩=>?_) Q A;subst x;obtain⟨u,v,rfl,M,P⟩:=kQ Y;cases M;cases P;obtain⟨_,C,n,r,E,T⟩:=j.lstM hl;obtain⟨_,w,m,r2,y,D⟩:=j.lstM B;refine call_zip_2 (xs:=C.toArray) (ys:=w.toArray) ⟨_,T,rfl,_,rfl⟩ ⟨_,D,rfl,_,rfl⟩ λO x e2 W e4 S e6 N=>?_
 have L:Inv X g J G { d with heap:=O }:=j.kept (t':=d.toks) N;refine wpAny_pyIter_zip x ?_;refine⟨d.heap.objs.size+4,[d.heap.objs.size+4,d.heap.objs.size+2,d.heap.objs.size+3,d.heap.objs.size,d.heap.objs.size+1],_,_,G,rfl,L,ss a b _ _ _ _ _ (by simp),⟨x,e2,⟨_,_,W⟩,e4,S⟩,λc F=>?_,q⟩
 have o:d.heap.objs.size<=c:=by
  simp only[mem_cons,not_mem_nil,or_false]at F
  rcases F with z | z | z | z | z <;> rw[z] <;> first | exact Nat.le_refl _ | exact Nat.le_add_right _ _
 exact j.fpOk o (j.hok.fresh o)
theorem uu{a b:Addr}{xs ys:List V}{g:TG}{k:TS}{D:Ends}{d:St}{H:Hp}(A:xs.length=ys.length)(f:Nat->St->Hp->Prop)(w:f 0 d H)(r:∀ i d H,f i d H->H a=some (.lst xs)/\H b=some (.lst ys))
  (q:∀(i:Nat) x y d H p,xs[i]? = some x->ys[i]? = some y->f i d H->H p=none->g (.ref p) d (upd H p (.tup [x,y])) λσ2 H2=>k { D with nx:=f (i+1),ct:=f (i+1),bk:=D.nx } σ2 H2) (z:∀ d H,f xs.length d H->D.nx d H) :
  ∃ W:Nat->Nat->St->Hp->Prop,(∃ m,W 0 m d H)/\∀ i m d H,W i m d H ->
   ((Itz a b).stop i H/\D.nx d H)\/((Itz a b).go i H/\∃ N:St->Hp->Prop,(∀ σ' H',N σ' H'->∃ m',m'<m/\W (i+1) m' σ' H')/\∀ x H',(Itz a b).yld i H x H'->g x d H' λσ2 H2=>k { D with nx:=N,ct:=N,bk:=D.nx } σ2 H2):=by
 refine⟨λi m d H=>m=xs.length - i/\i<=xs.length/\f i d H,⟨_,rfl,Nat.zero_le _,w⟩,?_⟩;rintro i m d H ⟨rfl,B,p⟩;obtain⟨j,h⟩:=r i d H p
 by_cases hlt:i<xs.length
 .refine .inr ⟨⟨xs,ys,xs[i],ys[i]'(by lia),j,h,by simp[hlt],by simp[show i<ys.length by lia]⟩,f (i+1),λσ' H' u=>⟨_,by lia,rfl,hlt,u⟩,λv H' y=>?_⟩
  obtain⟨c,x,y,s,rfl,l,o,rfl⟩:=y;exact q i x y d H c (l xs j) (o ys h) p s
 .have e:i=xs.length:=by lia
  subst e;exact .inl ⟨⟨xs,ys,j,h,.inl (Nat.le_refl _)⟩,z d H p⟩
end L2
namespace NumM
open PySem PySem.NumText
end NumM
namespace L2
open PySem PySem.Spec PyProof.Rows
def oJ(ns:List Int)(k:Int):Int:=if k<ns.length then ns.getD k.toNat 0 else 7919*k+14
def v6(lo hi:Int):Option Int->Option Int
 | some n=>if lo<=n/\n<=hi then some n else none
 | none=>none
end L2
namespace SplM
open PySem
end SplM
namespace L2
open PySem PySem.Spec PyProof.Rows
section
variable {X:Cx}
open Builtin.Str in
theorem wH{P:Program}{w:World}{A:Around}{E:Value->Shared->Prop}{s:Shared}{x y:Str}{t u:Tok}{Q:Value->Shared->Prop}(c:(y.length == 0)=false)(d:x.length<=sizeLine)
  (e:(partsBetween x (occurrences x y 0 x.length (x.length+1)) y.length).length<=sizeLine)
  (h:∀(l:List (Str×Tok)) (k:Nat),l.map (·.1)=Txt.split x y->Q (.ref s.heap.objs.size) { s with heap:=s.heap.push { cls:=.type "list",data:=.seq (strValues l).toArray },toks:=k }) :
  wpAny (model P w) A (call (.builtin "str.split") [.str x t,.str y u]) Q E s:=by
 by_cases h1:(decide (x.length<y.length) || decide (strKind x<strKind y))=true
 .refine call_meets F.slot_str_split (typeIs_str s x t) F.entry_str_split (F.args_str_split_2 _ _) (meets_str_split_cannot_occur x y t u h1) ?_
  exact h [(x,t)] s.toks (by unfold Txt.split;rw[if_pos h1];rfl)
 .have a:=eq_false_of_ne_true h1
  by_cases h2:(occurrences x y 0 x.length (x.length+1)).isEmpty=true
  .refine call_meets F.slot_str_split (typeIs_str s x t) F.entry_str_split (F.args_str_split_2 _ _) (meets_str_split_not_found x y t u a c h2) ?_
   exact h [(x,t)] s.toks (by unfold Txt.split;rw[if_neg h1,if_pos h2];rfl)
  .have b:=eq_false_of_ne_true h2
   refine call_meets F.slot_str_split (typeIs_str s x t) F.entry_str_split (F.args_str_split_2 _ _) (meets_str_split_sep x y t u a c b d e) ?_
   have:=h (numbered s.toks (partsBetween x (occurrences x y 0 x.length (x.length+1)) y.length)) (s.toks+(partsBetween x (occurrences x y 0 x.length (x.length+1)) y.length).length)
    ((numbered_texts _ _).trans (by unfold Txt.split;rw[if_neg h1,if_neg h2]))
   rw[<- strsFrom_eq]at this;exact this
variable {o e:Expr}{es:List Expr}{to:TE}{t:TA}{apos cpos:Pos}
theorem pe_m.append(g:PE X o to)(h:PA X (e::es) t)(b:attributeBase o "append" X.env (eval o X.env)=eval o X.env:=by rfl)
  (d:((backTo cpos (starEach (e::es) X.env)).all (λx=>!x.1) && (backToKw cpos (keywordEach [] X.env)).all (λx=>x.1.isSome) && decide ((e::es).length+([]:List Keyword).length+(if ([]:List Keyword).isEmpty then 0 else 1)<30))=true:=by rfl)
  (c:(apos.endLine == cpos.line)=true:=by rfl) (f:starEach (e::es) X.env=(false,eval e X.env)::starEach es X.env:=by rfl) (a:(backTo cpos (starEach es X.env)).any (·.1)=false:=by rfl) :
  PE X (.Call (.Attribute o "append" apos) (e::es) [] cpos) (tBM X.K "list" rAppend to t):=rF F.plainAttrs_list F.slot_list_append F.type_list_append ko g h b d c f a
end
def TK(H H':Hp):Prop:=∀ b xs,H b=some (.tup xs)->H' b=some (.tup xs)
theorem TK.trans{H e d:Hp}(a:TK H e)(b:TK e d):TK H d:=λc o h=>b c o (a c o h)
theorem Same.tk{H a:Hp}(e:Same H a):TK H a:=λb c h=>e b _ h
theorem TK.lst{H:Hp}{l:Addr}{xs ys:List V}(h:H l=some (.lst xs)):TK H (upd H l (.lst ys)):=λb a e=>by
 rw[au (pq e h (by intro z;cases z))];exact e
theorem Same.put{H a:Hp}{D:Addr}{o:HO}(e:Same H a)(h:H D=none):Same H (upd a D o):=λb u q=>by
 rw[au (ar q h)];exact e b u q
theorem bK{a:Type}{xs:List a}{i:Int}{v:a}(k:Nat)(b:(k:Int)=i)(h:xs[k]? = some v):atI xs i=some v:=by rw[<- b];exact fG h
theorem qB(xs:List V)(k:Nat)(h:k<=xs.length):dQ xs none (some (k:Int))=xs.take k:=by
 unfold dQ;rw[HT.sIx_nat,HT.sIx_none,drop_zero,Nat.sub_zero,Nat.min_eq_left h]
theorem fA(xs:List V)(k:Nat):dQ xs (some (k:Int)) none=xs.drop k:=by
 unfold dQ;rw[HT.sIx_nat,HT.sIx_none]
 by_cases h:k<=xs.length
 .rw[Nat.min_eq_left h,take_of_length_le (by simp)]
 .rw[Nat.min_eq_right (by lia),Nat.sub_self,take_zero,drop_of_length_le (by lia)]
theorem mM(n:Str):∀ ts:List Str,inV (.str n) (ts.map V.str)=decide (n∈ts)
 | []=>rfl
 | t::ts=>by
  have a:=mM n ts;unfold inV at a ⊢;rw[map_cons,any_cons,a]
  by_cases h:t=n
  .have e:eqV (V.str t) (V.str n)=true:=by rw[h];simp only[eqV,beq_self_eq_true]
   rw[e,Bool.true_or,decide_eq_true (by rw[h];exact mem_cons_self)]
  .have e:eqV (V.str t) (V.str n)=false:=by simp only[eqV];exact beq_false_of_ne h
   rw[e,Bool.false_or,Bool.eq_iff_iff,decide_eq_true_eq,decide_eq_true_eq,mem_cons];exact⟨.inr,λz=>z.elim (λq=>absurd q.symm h) id⟩
theorem kY:∀ ts:List Str,(ts.map V.str).all gN=true
 | []=>rfl
 | t::ts=>by rw[map_cons,all_cons,kY ts];rfl
structure U where
 name:Str
 value:Int
 size:Int
 path:List Str
section
variable {X:Cx}{K:Frag}
theorem cu(h:X.K=K):IxR X (rIx K):=h ▸ ax
theorem ud(h:X.K=K):SlR X (λx lo hi H Q=>match x with
  | .str z=>z.length<=sizeLine/\Q (.str (tE z lo hi)) H
  | .ref a=>(∃ xs,SqL K H a xs/\∀ p,H p=none->Q (.ref p) (upd H p (.lst (dQ xs lo hi)))) \/
    ∃ xs,SqT K H a xs/\¬(HT.sIx xs.length 0 lo=0/\HT.sIx xs.length xs.length hi=xs.length)/\∀ p,H p=none->Q (.ref p) (upd H p (.tup (dQ xs lo hi)))
  | _=>False):=h ▸ gg
theorem oW(h:X.K=K):OpR X (compareOp .In) (rIn K false):=h ▸ kA
theorem fb(h:X.K=K):OpR X (compareOp .NotIn) (rIn K true):=h ▸ ip
theorem cN(h:X.K=K){es:List Expr}{k:Nat}{t:TGs}{n:Nat}{b:Pos}(d:X.calm=true)(c:PGs X es t)(e:(assignEach es X.env).length=n:=by rfl)(a:(assignEach es X.env).findIdx? (·.1)=none:=by rfl) :
  PG X (.Tuple es k b) (gTup K n t):=h ▸ dN d c e a
end
structure XCls(K:Frag)(D:Addr):Prop where
 ga:findIn K (.ref D) "__getattribute__" = some (some (.builtin "BaseException.__getattribute__"))
 gn:findIn K (.ref D) "__getattr__" = some none
 cl:findIn K (.ref D) "__class__" = some (some (.builtin "object.__class__"))
 mb:mroIn K D (.type "BaseException")=some true
 mo:mroIn K D (.type "object")=some true
 isc:(clsIn K D).isSome=true
section
variable {prog:Program}{w:World}{A:Around}{E:Value->Shared->Prop}{h:Heap}{g:Array GenState}{d:Drawn}{t:Nat}{os:OsState}{a D:Addr}{o:Obj}{K:Frag}
end
structure XHd(K:Frag)(C:Addr):Prop where
 isc:(clsIn K C).isSome=true
 ty:typeIn K (.ref C)=some (.type "type")
 mb:mroIn K C (.type "BaseException")=some true
section
variable {X:Cx}{pins:List (Addr×Obj)}{σ:St}{H H' H1:Hp}{s s' s1:Shared}{x D C:Addr}{a0:Value}{B h2:Heap}
end
section
variable {prog:Program}{w:World}{A:Around}{E:Value->Shared->Prop}{h:Heap}{g:Array GenState}{d:Drawn}{t:Nat}{os:OsState}{a D dx:Addr}{o:Obj}{vs:Array Value}{cd:ClassData}{K:Frag}{name:Str}{mA:Str->Option Value}{v:Value}
abbrev bmV:List Value:=[.type "ValueError",.type "Exception",.type "BaseException",.type "object"]
def xN:Value->Bool
 | .ref _=>true
 | _=>false
def vE(l:List Value):Bool:=l.dropWhile xN == bmV
structure XSet(K:Frag)(D:Addr)(name:Str)(cd:ClassData):Prop where
 k:clsIn K D=some cd
 dct:cd.hasDict=true
 mro:vE cd.mro=true
 mo:mroIn K D (.type "object")=some true
 sa:findIn K (.ref D) "__setattr__" = some (some (.builtin "object.__setattr__"))
 na:findIn K (.ref D) name=some none
end
section
variable {prog:Program}{w:World}{A:Around}{E:Value->Shared->Prop}{h:Heap}{g:Array GenState}{d:Drawn}{t:Nat}{os:OsState}
variable {nm q:Str}{C N fI:Addr}{bs bm bmB:List Value}{hdct:Bool}{sn:List Str}{sub:List Value}{ab:Bool}{col:Option Bool}{dd:Option Addr}{k0 k1 k2 k3 k5:Option Value}{B newId initId:String}{mN:Str->Option Value}{rest:List Value}{oI:Obj}
end
def xIn(K:Frag)(C:Addr)(fI:Option Value):Bool:=match K.lookup C with
 | some ⟨.type "type",_,.cls cd,sl⟩=>(match cd.mro,sl.toList with
  | .ref C'::bm,[_,_,_,_,some (.builtin n),_]=>C' == C && n == "ValueError.__new__" && !cd.hasDel && tailIn K bmV bm && nsOkIn K cd.ns && nsIn K cd.ns "__init__" == some fI
  | _,_=>false)
 | _=>false
def m9(K:Frag)(D:Addr):Bool:=findIn K (.ref D) "__getattribute__" == some (some (.builtin "BaseException.__getattribute__")) && findIn K (.ref D) "__getattr__" == some none &&
 findIn K (.ref D) "__class__" == some (some (.builtin "object.__class__")) && mroIn K D (.type "BaseException") == some true && mroIn K D (.type "object") == some true && (clsIn K D).isSome && typeIn K (.ref D) == some (.type "type")
theorem ym{K:Frag}{D:Addr}(h:m9 K D=true):XCls K D:=by
 unfold m9 at h;simp only[Bool.and_eq_true,beq_iff_eq]at h;obtain⟨⟨⟨⟨⟨⟨b,e⟩,a⟩,d⟩,c⟩,f⟩,g⟩:=h;exact⟨b,e,a,d,c,f⟩
theorem yn{K:Frag}{D:Addr}(h:m9 K D=true):XHd K D:=by
 unfold m9 at h;simp only[Bool.and_eq_true,beq_iff_eq]at h;obtain⟨⟨⟨⟨⟨⟨e,g⟩,d⟩,b⟩,f⟩,c⟩,a⟩:=h;exact⟨c,a,b⟩
def uE(K:Frag)(D:Addr)(name:Str):Bool:=((clsIn K D).any λcd=>cd.hasDict && vE cd.mro) && mroIn K D (.type "object") == some true &&
 findIn K (.ref D) "__setattr__" == some (some (.builtin "object.__setattr__")) && findIn K (.ref D) name == some none
theorem yk{K:Frag}{D:Addr}{name:Str}(h:uE K D name=true):∃ cd,XSet K D name cd:=by
 unfold uE at h;simp only[Bool.and_eq_true,beq_iff_eq]at h;obtain⟨⟨⟨c,f⟩,b⟩,d⟩:=h;obtain⟨cd,e,a⟩:=any_some c;rw[Bool.and_eq_true]at a;exact⟨cd,e,a.1,a.2,f,b,d⟩
section
variable {P:Program}{w:World}{K:Frag}{mg:Str->Option Value}{base:Heap}{N:List Str}{qual:Str}{scope:Scope}{f:Addr}{cdv:Value}{A:Around}{outer:List Env}{s0:Shared}{H0:Hp}{E:XK}
end
section
variable {X:Cx}{k:Nat}{f C:Addr}{fd:FuncData}{ps:List Str}{sp:Sp}{x:Str}{p pos:Pos}{e:Expr}{es:List Expr}{t:TA}
end
section
variable {prog:Program}{w:World}{KT:Type} [DecidableEq KT] {knd:KeyKind prog w KT}{A:Around}{E:Value->Shared->Prop}{s:Shared}{d:Addr}{kvs:List (KT×Value)}{k:KT}{key dflt:Value}
theorem vQ{Q:Value->Shared->Prop}(c:knd.is k key=true)(G:s.heap.DictOf knd d kvs)(hz:kvs.length<=sizeLine)(i:valueAt kvs k=none)
  (h:∀ h',h'.DictOf knd d (kvs++[(k,dflt)])->Heap.SameBut d s.heap h'->Q dflt { s with heap:=h',toks:=s.toks+1 }):wpAny (model prog w) A (dictSetDefault d key dflt) Q E s:=by
 obtain⟨J,o,F,m,z,f,p,j,y⟩:=G
 have H:o.size<=sizeLine:=by
  have K:=j.length;have L:o.toList.length=o.size:=by simp
  lia
 have g:∀ q∈kvs,q.1≠k:=λq r u=>by
  unfold valueAt at i;rw[Option.map_eq_none_iff,List.find?_eq_none]at i;exact i q r (by simpa using u)
 have x:(o.findIdx? λe=>knd.is k e.key)=none:=by
  have B:(o.findIdx? λe=>knd.is k e.key)=kvs.findIdx? λq=>decide (q.1=k):=by
   rw[<- j.findIdx k];obtain⟨l⟩:=o;simp
  rw[B,List.findIdx?_eq_none_iff];intro q r;simpa using g q r
 unfold dictSetDefault;refine wpAny_holding (wpAny_bind (knd.pyHash c (wpAny_bind (wpAny_dictFind_of (s:={ s with toks:=s.toks+1 }) c m f p ?_))));rw[x]
 refine wpAny_bind (wpAny_rule (wpAny_bind (wpAny_updateDictKeys (hz:=H) (s:={ s with toks:=s.toks+1 }) m f (wpAny_pure (h _ ⟨_,_,F+1,Heap.get?_update_self _ m (Obj.isFreed_of_dict (Obj.data_mapDictKeys f _)),
  z.mapDictKeys _,Obj.data_mapDictKeys f _,p.push c _,?_,?_⟩ (Heap.SameBut.update ..))))))
 .have C:=j.append c (knd.hash k) dflt
  obtain⟨l⟩:=o;simpa using C
 .rw[map_append,nodup_append]
  refine⟨y,by simp,λa D b I=>?_⟩;obtain⟨q,r,rfl⟩:=mem_map.mp D;have v:b=k:=by simpa using I
  rw[v];exact g q r
theorem tm(b:knd.is k key=true)(y:(d == sysModules)=false)(a:Value):MeetsIn prog w (Builtin.«dict.setdefault» ⟨[.ref d,key,a],[]⟩) (λ_ R s=>∃ kvs,s.heap.DictOf knd d kvs/\kvs.length<=sizeLine /\
  (∀ v,valueAt kvs k=some v->R (.ok (.ret v)) { s with toks:=s.toks+1 })/\(valueAt kvs k=none->∀ h',h'.DictOf knd d (kvs++[(k,a)])->Heap.SameBut d s.heap h'->R (.ok (.ret a)) { s with heap:=h',toks:=s.toks+1 })) :=
 .of_wp λA R s ⟨kvs,c,hz,o,p⟩=>by
  have x:s.heap.DictLe d sizeLine:=by
   obtain⟨E,l,F,h,B,f,r,e,u⟩:=id c;intro G J D j m;rw[h]at j;cases j;rw[f]at m;cases m;have H:=e.length;have I:l.toList.length=l.size:=by simp
   lia
  unfold Builtin.«dict.setdefault»;refine wpAny_bind ?_;unfold Builtin.Dict.keyAndDefault;refine wpAny_bind (wpAny_notOrdered_dict c.typeIs (show wpAny _ _ (pure (d,key,some a)) _ _ s from wpAny_pure ?_));show wpAny _ _ (if (d == sysModules)=true then _ else (dictSetDefault d key a >>= _)) _ _ s;rw[if_neg (by rw[y];exact Bool.false_ne_true)];cases hv:valueAt kvs k with
  | some v=>exact wpAny_bind (wpAny_dictSetDefault_of (hz:=x) b c.mapOf (λi g=>wpAny_pure ⟨i,rfl,o i g⟩) λhn=>absurd hn (by rw[hv];exact λz=>nomatch z))
  | none=>exact wpAny_bind (vQ b c hz hv λh' q C=>wpAny_pure ⟨a,rfl,p hv h' q C⟩)
end
def u8:V->List V->Hp->VK->Prop:=λx vs H Q=>∃(a:Addr) (kvs:List (Key×V)) (k:Key) (v:V),x=.ref a/\vs=[kV k,v]/\H a=some (.dK kvs)/\kvs.length<sizeLine /\
 (∀ y,fh kvs k=some y->Q y H)/\(fh kvs k=none->Q v (upd H a (.dK (kvs++[(k,v)]))))
section
variable {X:Cx}
theorem tN:MtR X "dict.setdefault" u8:=by
 intro i s M H x d v O Q I K C h;obtain⟨a,b,k,y,rfl,rfl,e,l,A,B⟩:=h;cases K;obtain⟨N,f,rfl,D,j⟩:=kQ C;obtain⟨z,r,d,c,m⟩:=nE I.hok e;have E:d.length<=sizeLine:=by rw[<- c.length];exact z
 refine call_meetsIn PySem.F.slot_dict_setdefault m.typeIs PySem.F.entry_dict_setdefault (PySem.F.args_dict_setdefault_3 _ _ _) (tm (knd:=bO X.prog X.w) (nJ D) r f) ⟨d,m,E,λL g=>?_,λhn h' m' s'=>?_⟩
 .have:=c.val k
  rw[g]at this;cases q:fh b k with
  | none=>rw[q]at this;exact False.elim this
  | some y' =>
   rw[q]at this;exact⟨y',H,I.tok _,this,A y' q⟩
 .have:=c.val k
  rw[hn]at this
  have q:fh b k=none:=by
   cases q:fh b k with
   | none=>rfl
   | some y'=>rw[q]at this;exact False.elim this
  have J:KV (b++[(k,y)]) (d++[(k,f)]):=by
   have p:=c.put k j
   have F:stored d k f=d++[(k,f)]:=by
    unfold stored;rw[if_neg];intro w;have o:=(c.any k).trans w;rw[hV,q]at o;cases o
   rw[sf y q,F]at p;exact p
  have G:(b++[(k,y)]).length<=sizeLine:=by rw[length_append];exact l
  have u:∃ ob,h'.get? a=some ob:=let ⟨ob,_,_,hq,_⟩:=m';⟨ob,hq⟩;exact⟨y,_,jp I (by rw[e];exact True.intro) s' u (og G r J m'),j,B q⟩
end
theorem oo{b:Addr}{o:HO}:∀{l:List (Addr×HO)},l.lookup b=some o->(b,o)∈l
 | [],e=>by simp at e
 | (c,u)::r,e=>by
  rw[lookup_cons]at e
  by_cases h:b=c
  .rw[show(b == c)=true by simpa using h]at e
   cases e;rw[h];exact mem_cons_self
  .rw[show(b == c)=false by simpa using h]at e
   exact mem_cons_of_mem _ (oo e)
def IV(v d:Addr):Heap->Prop:=λh=>h.IsItemsView v d
def qT:V->List V->Hp->VK->Prop:=λx vs H Q=>∃(d:Addr) (kvs:List (Key×V)),x=.ref d/\vs=[]/\H d=some (.dK kvs)/\∀ v,H v=none->Q (.ref v) (upd H v (.ext (IV v d)))
section
variable {X:Cx}{o e:Expr}{es:List Expr}{to:TE}{t:TA}{apos cpos:Pos}
theorem rG:MtR X "dict.items" qT:=by
 intro f s D H x C v E Q I j y h;obtain⟨d,p,rfl,rfl,e,q⟩:=h;cases j;cases y;obtain⟨z,A,w,m,c⟩:=nE I.hok e;refine call_meetsIn PySem.F.slot_dict_items c.typeIs PySem.F.entry_dict_items (PySem.F.args_dict_items_1 _) (meets_dict_items (bO X.prog X.w) d A) ⟨⟨w,c⟩,?_⟩;refine⟨.ref s.heap.objs.size,_,I.laid (t':=s.toks) (a:=s.heap.objs.size) (o:=.ext (IV s.heap.objs.size d)) (λb u e=>Heap.get?_push_of_some _ e) (Nat.le_refl _) ?_,rfl,q _ (I.hok.fresh (Nat.le_refl _))⟩;have g:(s.heap.push { cls:=.type "dict_items",data:=.fields #[.ref d] }).get? s.heap.objs.size=some { cls:=.type "dict_items",data:=.fields #[.ref d] }:=Heap.get?_push_size _ rfl;exact⟨⟨_,g,rfl,rfl⟩,⟨_,g⟩,λB F ⟨i,l,r⟩ k=>⟨i,k i l,r⟩⟩
def wy:List V->Hp->VK->Prop:=λxs H Q=>∃(v d:Addr) (kvs:List (Key×V)),xs=[.ref v]/\H v=some (.ext (IV v d))/\H d=some (.dK kvs) /\
 ∀(l:Addr) (as:List Addr) (H':Hp),Same H H'->H l=none->H' l=some (.lst (as.map V.ref))->as.length=kvs.length ->
  (∀(j:Nat) (a:Addr) (k:Key) (y:V),as[j]? = some a->kvs[j]? = some (k,y)->H a=none/\H' a=some (.tup [kV k,y]))->Q (.ref l) H'
theorem sX{P:Program}{w:World}{k:Key}{u:Value}(h:(bO P w).is k u=true):RelV (kV k) u:=by
 cases k with
 | inl i =>
  cases u <;> first | exact absurd h Bool.false_ne_true | (rename_i j t;have a:gQ (Sum.inl i) (Value.int j t)=true:=h;have:j=i:=(by simpa[gQ,Value.isInt] using a);exact(show ∃ t',Value.int j t=Value.int i t' from⟨t,by rw[this]⟩))
 | inr x =>
  cases u <;> first | exact absurd h Bool.false_ne_true | (rename_i j t;have a:gQ (Sum.inr x) (Value.str j t)=true:=h;have:j=x:=(by simpa[gQ,Value.isStrOf] using a);exact(show ∃ t',Value.str j t=Value.str x t' from⟨t,by rw[this]⟩))
theorem oB(hc:X.calm=true):CallR X (.type "list") wy:=by
 intro an s σ H xs us Q I r h;obtain⟨v,d,A,rfl,ev,ed,q⟩:=h;obtain⟨u,rfl,ru⟩:=fX r;cases ru;obtain⟨z,hd,ws,G,dd⟩:=nE I.hok ed;obtain⟨ob,en,ep,ab⟩:=id dd;have hz:ws.length<=sizeLine:=by rw[<- G.length];exact z
 have hv:s.heap.IsItemsView v d:=(I.hok v _ ev).1
 have S:s.heap.DictAt (bO X.prog X.w) d ws ep:=⟨ob,en,ab⟩
 refine PySem.W.kdx_call (knd:=bO X.prog X.w) (I.ok.hd hc) hv S hz λh' tk O c f Y hS hl hG M=>?_
 have i:f.length=A.length:=by rw[hl,G.length]
 have g:∀ b,s.heap.objs.size<=b->H b=none:=λb D=>I.hok.fresh D
 have aS:∀ a∈f,s.heap.objs.size<a:=hG.above;have W:f.Nodup:=hG.rise.imp (λh=>Nat.ne_of_lt h)
 let tb:List (Addr×HO):=f.zip (A.map λp=>HO.tup [kV p.1,p.2])
 have ap:tb.length=f.length:=by simp[tb,i]
 let H':Hp:=λb=>if b=s.heap.objs.size then some (.lst (f.map V.ref)) else (tb.lookup b).or (H b)
 have ad:∀ b o,tb.lookup b=some o->b∈f:=λb o e=>by
  have m:=oo e;exact(of_mem_zip (show(b,o)∈f.zip (A.map λp=>HO.tup [kV p.1,p.2]) from m)).1
 have N:∀ b,b<s.heap.objs.size->H' b=H b:=λb D=>by
  show(if b=s.heap.objs.size then _ else _)=_;rw[if_neg (Nat.ne_of_lt D)];cases q:tb.lookup b with
  | none=>rfl
  | some o=>exact absurd (aS b (ad b o q)) (Nat.not_lt.mpr (Nat.le_of_lt D))
 have K:Same H H':=λb o e=>by
  have D:b<s.heap.objs.size:=Nat.lt_of_not_le λw=>by rw[g b w]at e;cases e
  rw[N b D];exact e
 have at_:∀(j:Nat) (a:Addr) (k:Key) (y:V),f[j]? = some a->A[j]? = some (k,y)->H' a=some (.tup [kV k,y]):=λj a k y E Z=>by
  have S:a∈f:=List.mem_of_getElem? E;show(if a=s.heap.objs.size then _ else _)=_;rw[if_neg (Nat.ne_of_gt (aS a S))]
  have e1:tb[j]? = some (a,.tup [kV k,y]):=by
   simp only[tb];rw[List.getElem?_zip_eq_some];refine⟨E,?_⟩;rw[List.getElem?_map,Z];rfl
  have T:tb.lookup a=some (.tup [kV k,y]):=by
   have C:∀(f:List Addr) (F:List HO) (j:Nat) (a:Addr) (o:HO),f.Nodup->f[j]? = some a->F[j]? = some o->(f.zip F).lookup a=some o:=by
    intro f
    induction f with
    | nil=>intro F j a o _ h;simp at h
    | cons x r ih =>
     intro F j a o W h1 h2;cases F with
     | nil=>simp at h2
     | cons o0 F =>
      rw[List.zip_cons_cons,lookup_cons];cases j with
      | zero =>
       have e1:x=a:=by simpa using h1
       have T:o0=o:=by simpa using h2
       subst e1 T;simp
      | succ j =>
       have m:a∈r:=List.mem_of_getElem? (show r[j]? = some a by simpa using h1);have ne:a≠x:=λw=>(nodup_cons.mp W).1 (w ▸ m)
       rw[show(a == x)=false by simpa using ne];exact ih F j a o (nodup_cons.mp W).2 (by simpa using h1) (by simpa using h2)
   exact C f _ j a _ W E (by rw[List.getElem?_map,Z];rfl)
  rw[T];rfl
 have ah:HOk X.prog X.w H' h':=λb o e=>by
  by_cases D:b=s.heap.objs.size
  .subst D
   have J:some (HO.lst (f.map V.ref))=some o:=by
    rw[<- e];show _=if s.heap.objs.size=s.heap.objs.size then _ else _
    rw[if_pos rfl]
   cases J
   have P:Vals (f.map V.ref) O.toList:=by
    rw[M]
    have:∀(l:List Addr),Vals (l.map V.ref) (l.map Value.ref):=by
     intro l
     induction l with
     | nil=>exact .nil
     | cons a l ih=>exact .cons rfl ih
    exact this f
   refine⟨by rw[length_map,i];exact z,O.toList,c,P,?_⟩;rw[hS]
  .have J:(tb.lookup b).or (H b)=some o:=by
    have:=e;simp only[H',if_neg D]at this;exact this
   cases qb:tb.lookup b with
   | some o' =>
    rw[qb]at J;cases J;have S:=oo qb;obtain⟨j,hj⟩:=List.mem_iff_getElem?.mp S;simp only[tb]at hj;rw[List.getElem?_zip_eq_some]at hj;obtain⟨E,L⟩:=hj;rw[List.getElem?_map]at L;cases hkv:A[j]? with
    | none=>rw[hkv]at L;cases L
    | some p =>
     rw[hkv]at L;cases L;obtain⟨C,k,x,hx,al,hg⟩:=hG.pairs j b E
     obtain⟨B,hq',e3,r3⟩:∃ B,ws[j]? = some B/\p.1=B.1/\RelV p.2 B.2:=by
      have:∀{a:List (Key×V)}{b:List (Key×Value)},KV a b->∀(j:Nat) (p:Key×V),a[j]? = some p->∃ B,b[j]? = some B/\p.1=B.1/\RelV p.2 B.2:=by
       intro a b r
       induction r with
       | nil=>intro j p h;simp at h
       | @cons a0 b0 l1 l2 h0 _ ih =>
        intro j p h;cases j with
        | zero =>
         have e0:a0=p:=by simpa using h
         subst e0;exact⟨b0,by simp,h0⟩
        | succ j=>exact ih j p (by simpa using h) |>.imp λB hq=>⟨by simpa using hq.1,hq.2⟩
      exact this G j p hkv
     rw[hx]at hq';cases hq'
     have rk:RelV (kV p.1) C:=by
      have:p.1=k:=e3;rw[this];exact sX al
     exact⟨(by decide:2<=sizeLine),[C,x],.cons rk (.cons r3 .nil),⟨_,hg,rfl,_,rfl⟩⟩
   | none =>
    rw[qb]at J;have T:H b=some o:=J;refine(I.hok b o T).stay (λb2 u _ R=>Y b2 u R) (λb2 R=>K _ _ R) λb2 xs R=>K _ _ R
 refine⟨.ref s.heap.objs.size,H',I.un (t':=tk) ⟨λb o e _ _ _=>Y b o e,λb o e _ _ _=>⟨o.slots,Y b o e⟩,λb o e n _=>?_,λb o e _=>⟨o,Y b o e⟩,λb xs e=>K _ _ e,λb o u e=>K _ _ e,λb ps e=>⟨#[],by rw[K _ _ e];simp⟩⟩ ah,rfl,?_⟩
 .rw[N b (Heap.lt_size e)]
  exact n
 .refine q _ f H' K (g _ (Nat.le_refl _)) ?_ i λj a k y E Z=>⟨g a (Nat.le_of_lt (aS a (List.mem_of_getElem? E))),at_ j a k y E Z⟩
  show(if _ then _ else _)=_;rw[if_pos rfl]
end
section
variable {X:Cx}{o e:Expr}{es:List Expr}{to:TE}{t:TA}{apos cpos:Pos}
theorem pe_m.setdefault(g:PE X o to)(h:PA X (e::es) t)(b:attributeBase o "setdefault" X.env (eval o X.env)=eval o X.env:=by rfl)
  (d:((backTo cpos (starEach (e::es) X.env)).all (λx=>!x.1) && (backToKw cpos (keywordEach [] X.env)).all (λx=>x.1.isSome) && decide ((e::es).length+([]:List Keyword).length+(if ([]:List Keyword).isEmpty then 0 else 1)<30))=true:=by rfl)
  (c:(apos.endLine == cpos.line)=true:=by rfl) (f:starEach (e::es) X.env=(false,eval e X.env)::starEach es X.env:=by rfl) (a:(backTo cpos (starEach es X.env)).any (·.1)=false:=by rfl) :
  PE X (.Call (.Attribute o "setdefault" apos) (e::es) [] cpos) (tBM X.K "dict" u8 to t):=rF F.plainAttrs_dict F.slot_dict_setdefault F.type_dict_setdefault tN g h b d c f a
theorem pe_m.items(c:PE X o to)(b:attributeBase o "items" X.env (eval o X.env)=eval o X.env:=by rfl)(a:(apos.endLine == cpos.line)=true:=by rfl) :
  PE X (.Call (.Attribute o "items" apos) [] [] cpos) (wW X.K "dict" qT to):=wu F.plainAttrs_dict F.slot_dict_items F.type_dict_items rG c b a
end
theorem pB:∀{xs:List V}{us:List Value},xs.length=us.length->(∀(i:Nat) x u,xs[i]? = some x->us[i]? = some u->RelV x u)->Vals xs us
 | [],[],_,_=>.nil
 | x::xs,u::us,h,r=>.cons (r 0 x u rfl rfl) (pB (by simpa using h) λi y w a b=>r (i+1) y w (by simpa using a) (by simpa using b))
 | [],_::_,h,_=>by cases h
 | _::_,[],h,_=>by cases h
section
variable {X:Cx}
theorem kD:CallR X (.type "range") (λxs H Q=>∃ b,xs=[.int b]/\∀ p,H p=none->Q (.ref p) (upd H p (.rng 0 b))):=by
 intro a s d H xs c Q I r h;obtain⟨b,rfl,q⟩:=h;obtain⟨u,rfl,⟨t,rfl⟩⟩:=fX r;refine call_range_1 ?_;exact⟨.ref s.heap.objs.size,_,I.laid (o:=.rng 0 b) (λb o e=>Heap.get?_push_of_some _ e) (Nat.le_refl _) ⟨_,_,_,Heap.get?_push_size _ rfl⟩,rfl,q _ (I.hok.fresh (Nat.le_refl _))⟩
end
end L2
namespace FrM
theorem mw(x y:Int):Int.gcd y (x % y)=Int.gcd x y:=by
 have e:x=x % y+y*(x/y):=(Int.emod_add_mul_ediv x y).symm;rw[Int.gcd_comm x y]
 conv=>rhs;rw[e]
 rw[Int.gcd_add_mul_left_right]
def Bt(n:Nat)(i:Int):Prop:=i.natAbs<2 ^ n
theorem Bt.mono{m n:Nat}{i:Int}(h:Bt m i)(l:m<=n):Bt n i:=Nat.lt_of_lt_of_le h (Nat.pow_le_pow_right (by decide) l)
theorem Bt.le{n:Nat}{i j:Int}(h:Bt n i)(l:j.natAbs<=i.natAbs):Bt n j:=Nat.lt_of_le_of_lt l h
theorem Bt.mul{m n:Nat}{i j:Int}(h:Bt m i)(h':Bt n j):Bt (m+n) (i*j):=by
 unfold Bt at *;rw[Int.natAbs_mul,Nat.pow_add];exact Nat.mul_lt_mul_of_le_of_lt (Nat.le_of_lt h) h' (Nat.lt_of_le_of_lt (Nat.zero_le _) h)
structure Low(T B t b:Int):Prop where
 pos:1<=b
 cop:Int.gcd t b=1
 eq:t*B=T*b
theorem low(t b:Int)(g:0<b):0<(Int.gcd t b:Int)/\(Int.gcd t b:Int)<=b/\Low t b (t/(Int.gcd t b:Int)) (b/(Int.gcd t b:Int))/\(t/(Int.gcd t b:Int)).natAbs<=t.natAbs/\(b/(Int.gcd t b:Int)).natAbs<=b.natAbs:=by
 have d:0<Int.gcd t b:=Int.gcd_pos_iff.mpr (.inr (by omega));have e:0<(Int.gcd t b:Int):=by omega
 have f:=Int.gcd_dvd_left t b;have a:=Int.gcd_dvd_right t b;have h:=Int.ediv_mul_cancel f;have i:=Int.ediv_mul_cancel a;have c:(Int.gcd t b:Int)<=b:=Int.le_of_dvd g a;refine⟨e,c,⟨?_,Int.gcd_ediv_gcd_ediv_gcd d,?_⟩,?_,?_⟩
 .have:=Int.ediv_pos_of_pos_of_dvd g (by omega) a
  omega
 .rw[<- Int.mul_ediv_assoc _ a,Int.mul_comm,<- Int.mul_ediv_assoc _ f,Int.mul_comm]
 .have:=congrArg Int.natAbs h
  rw[Int.natAbs_mul]at this;rw[<- this];exact Nat.le_mul_of_pos_right _ (by simpa using d)
 .have:=congrArg Int.natAbs i
  rw[Int.natAbs_mul]at this;rw[<- this];exact Nat.le_mul_of_pos_right _ (by simpa using d)
theorem lK{b t a:Int}(c:Int.gcd t b=1)(h:b ∣ t*a):b ∣ a:=by
 rw[<- Int.natAbs_dvd_natAbs]at *;rw[Int.natAbs_mul]at h;exact Nat.Coprime.dvd_of_dvd_mul_left (by rw[Nat.coprime_comm];exact c) h
theorem Low.uniq{T B t b t' a:Int}(d:B≠0)(h:Low T B t b)(h':Low T B t' a):t=t'/\b=a:=by
 have e:t*a=t'*b:=by
  have:(t*a)*B=(t'*b)*B:=by
   rw[Int.mul_assoc,Int.mul_comm a B,<- Int.mul_assoc,h.eq,Int.mul_assoc t' b B,Int.mul_comm b B,<- Int.mul_assoc,h'.eq,Int.mul_assoc,Int.mul_assoc,Int.mul_comm b a]
  exact Int.eq_of_mul_eq_mul_right d this
 have g:b ∣ a:=by
  have:b ∣ t*a:=⟨t',by rw[e,Int.mul_comm]⟩
  exact lK h.cop this
 have f:a ∣ b:=by
  have:a ∣ t'*b:=⟨t,by rw[<- e,Int.mul_comm]⟩
  exact lK h'.cop this
 have c:b=a:=Int.dvd_antisymm (by have:=h.pos;omega) (by have:=h'.pos;omega) g f;refine⟨?_,c⟩;rw[c]at e;exact Int.eq_of_mul_eq_mul_right (by have:=h'.pos;omega) e
end FrM
namespace L2
open PySem PySem.Spec PyProof.Rows FrM
section
variable {X:Cx}
def CMulB(i j:Int):Prop:=(Bt 8000 i/\Bt 8000 j)\/CMul i j
theorem CMulB.ok{i j:Int}(h:CMulB i j):IntMulOk i j:=by
 rcases h with⟨a,b⟩ | h
 .exact IntMulOk.of_le (m:=8000) (n:=8000) (intBits_le_iff.mpr a) (intBits_le_iff.mpr b) (by decide)
 .exact h.ok
def CDivB(i j:Int):Prop:=0<j/\Bt 8000 j
theorem CDivB.no{i j:Int}(h:CDivB i j):Builtin.divisionGoesByPylong i j=false:=by
 refine PyProof.noPylong_of_log2 ?_;have a:j.natAbs<2 ^ 8000:=h.2
 by_cases h0:j.natAbs=0
 .rw[h0];decide +kernel
 .have:j.natAbs.log2<8000:=(Nat.log2_lt h0).mpr a
  lia
theorem op_mulB:OpR X (binaryOp .Mult) (rI CMulB λi j=>.int (i*j)):=opI λ_ _ _ _ _ _ _ a q=>mul_int q a.ok
theorem op_fdivB:OpR X (binaryOp .FloorDiv) (rI CDivB λi j=>.int (i/j)):=opI λi j _ _ _ _ _ a q=>by
 have b:(0:Int)<j:=a.1;exact floordiv_int (by lia) (by rw[Int.fdiv_eq_ediv_of_nonneg i (by lia)];exact q) (.inl a.no)
theorem dI:OpR X (binaryOp .Mult) (rIC CMulB λi j=>.int (i*j)):=op_mulB.ic
theorem cL:OpR X (binaryOp .FloorDiv) (rIC CDivB λi j=>.int (i/j)):=op_fdivB.ic
theorem cmB{i j:Int}{m n:Nat}(h:Bt m i)(h':Bt n j)(a:m<=8000:=by decide)(b:n<=8000:=by decide):CMulB i j:=.inl ⟨h.mono a,h'.mono b⟩
theorem clB{i j:Int}(h:-(2 ^ 64)<i:=by decide)(a:i<2 ^ 64:=by decide):CMulB i j:=.inr (cl h a)
theorem crB{i j:Int}(h:-(2 ^ 64)<j:=by decide)(a:j<2 ^ 64:=by decide):CMulB i j:=.inr (cr h a)
theorem cdB{i j:Int}{n:Nat}(h:0<j)(h':Bt n j)(a:n<=8000:=by decide):CDivB i j:=⟨h,h'.mono a⟩
theorem wo:bootBuiltins "abs" = some (.builtin "abs"):=by decide +kernel
end
end L2
namespace L2
open PySem PySem.Spec PyProof.Rows
def xk:Expr->Bool
 | .Starred ..=>true
 | _=>false
theorem qC{e:Expr}{es:List Expr}{env:Env}(h:xk e=false):starEach (e::es) env=(false,eval e env)::starEach es env:=by
 cases e <;> first | rfl | cases h
theorem gv{X:Cx}{e:Expr}{es:List Expr}{a:TE}{t:TA}(b:PE X e a)(c:PA X es t)(h:xk e=false:=by rfl):PA X (e::es) (vh a t):=aa b c (qC h)
@[irreducible] def PSq(X:Cx)(sts:List Stmt)(t:TS):Prop:=PSs X sts t
theorem wI{X:Cx}{st:Stmt}{a:List Stmt}{t u:TS}(c:PS X st t)(b:PSq X a u):PSs X (st::a) (bA t u):=by
 unfold PSq at b;exact ai c b
section
variable {X:Cx}{k ie ir:Nat}{f C:Addr}{fd:FuncData}{ps:List Str}{sp:Sp}{dvs:List V}{ds:List Value}{fx cn en rn:Str}{p pos p2 p3 cp hp tp:Pos}{e:Expr}{es:List Expr}{t:TA}{b₀:Stmt}{suite:List Stmt}{ts:TS}
end
end L2
namespace HT
open PySem PySem.Spec PyProof.Rows
section
variable {prog:Program}{w:World}{A:Around}{E:Value->Shared->Prop}{s:Shared}
end
end HT
namespace L2
open PySem PySem.Spec PyProof.Rows
section
variable {X:Cx}
def oj(K:Frag):R2:=λx y H Q=>∃ a b ys,x=.ref a/\y=.ref b/\SqT K H a []/\SqT K H b ys/\Q (.ref b) H
theorem op_catT0:OpR X (binaryOp .Add) (oj X.K):=by
 intro m s P H x y v u Q I M B h;obtain⟨a,b,N,rfl,rfl,G,L,q⟩:=h;cases M;cases B;obtain⟨j,F,J,_⟩:=I.tuple G;obtain⟨e,O,A,_⟩:=I.tuple L;have K:j=[]:=F.nil_iff.mpr rfl;subst K;obtain⟨⟨D,E,o,C⟩,l,p,n,w⟩:=id J;obtain⟨⟨r,i,k,g⟩,d,c,z,f⟩:=id A;simp only at p w c f;subst p w c f
 exact concat_meets ⟨_,l,rfl⟩ ⟨_,d,rfl⟩ noFill_tuple_add seq_tuple_add PySem.F.slot_tuple_add PySem.F.entry_tuple_add (PySem.F.args_tuple_add_2 _ _)
   (tuple_addW0 a b _ e.toArray n z E i C g rfl) ⟨l,d,⟨.ref b,H,I,rfl,q⟩⟩
theorem sJ:OpR X (binaryOp .Add) (λx y H Q=>oj X.K x y H Q\/sy X.K x y H Q):=op_catT0.or um
@[irreducible] def PAq(X:Cx)(es:List Expr)(t:TA):Prop:=PA X es t
theorem xC:PAq X [] wm:=by unfold PAq;exact ae
end
structure LamD where
 qual:Str
 params:Arguments
 body:Expr
 scope:Scope
def fZ(f:Addr)(d:LamD)(clos:List (Str×Addr))(c:Addr):Heap->Prop:=λh=>∃ pm ctv,h.get? f=some (kla_obj "<lambda>" d.qual d.params d.body d.scope clos pm c ctv)
def dF(c:Addr)(v:V):Heap->Prop:=λh=>∃ o u,h.get? c=some o/\o.data=.cell (some u)/\RelV v u
def eE(c:Addr)(q:Str):Heap->Prop:=λh=>∃ o vs t,h.get? c=some o/\o.data=.fields vs/\vs[1]? = some (.str q t)
section
variable {P:Program}{w:World}{H:Hp}{h:Heap}
theorem pP{f:Addr}{d:LamD}{b:List (Str×Addr)}{c:Addr}{g a:Value}(e:h.get? f=some (kla_obj "<lambda>" d.qual d.params d.body d.scope b g c a)):ObjOk P w H h f (.ext (fZ f d b c)) :=
 ⟨⟨g,a,e⟩,⟨_,e⟩,λj l ⟨g,a,i⟩ k=>⟨g,a,k _ i⟩⟩
theorem m8{c:Addr}{v:V}(x:dF c v h):ObjOk P w H h c (.ext (dF c v)) :=
 ⟨x,let ⟨o,_,e,_⟩:=x;⟨o,e⟩,λb d ⟨o,u,a,r⟩ k=>⟨o,u,k _ a,r⟩⟩
theorem rC{c:Addr}{q:Str}(x:eE c q h):ObjOk P w H h c (.ext (eE c q)) :=
 ⟨x,let ⟨o,_,_,e,_⟩:=x;⟨o,e⟩,λd f ⟨o,a,t,b,r⟩ k=>⟨o,a,t,k _ b,r⟩⟩
end
theorem pd(a:Addr)(o:Obj)(b:o.data≠.freed):∃ h:Heap,h.get? a=some o:=by
 refine⟨{ objs:=Array.replicate (a+1) o },?_⟩;obtain⟨c,d,e,f⟩:=o
 cases e <;> first | exact absurd rfl b | simp[Heap.get?]
theorem gj{f:Addr}{d:LamD}{a:List (Str×Addr)}{c:Addr}{v:V}:HO.ext (fZ f d a c)≠HO.ext (dF f v):=λe=>by
 injection e with e
 obtain⟨h,b⟩:=pd f (kla_obj "<lambda>" d.qual d.params d.body d.scope a .none c .none) (by intro z;cases z);have y:dF f v h:=by rw[<- e];exact⟨_,_,b⟩
 obtain⟨o,u,g,i,_⟩:=y;rw[b]at g;cases g;cases i
theorem eC{c:Addr}{q:Str}{v:V}:HO.ext (eE c q)≠HO.ext (dF c v):=λe=>by
 injection e with e
 obtain⟨h,a⟩:=pd c { cls:=.none,data:=.fields #[.none,.str q 0] } (by intro z;cases z);have y:dF c v h:=by rw[<- e];exact⟨_,_,_,a,rfl,rfl⟩
 obtain⟨o,u,b,d,_⟩:=y;rw[a]at b;cases b;cases d
def xt:HO->Bool
 | .tbl _=>false
 | _=>true
def SameT(H H':Hp):Prop:=∀ b o,H b=some o->(xt o=true->H' b=some o)/\∃ o',H' b=some o'
theorem SameT.refl{H:Hp}:SameT H H:=λb o e=>⟨λ_=>e,o,e⟩
theorem SameT.trans{H h d:Hp}(a:SameT H h)(b:SameT h d):SameT H d:=λc o e=>by
 obtain⟨f,j,l⟩:=a c o e;obtain⟨g,i,k⟩:=b c j l;exact⟨λn=>(b c o (f n)).1 n,i,k⟩
theorem Same.t{H a:Hp}(s:Same H a):SameT H a:=λb o e=>⟨λ_=>s b o e,o,s b o e⟩
theorem SameT.at{H b:Hp}(s:SameT H b){a:Addr}{o:HO}(e:H a=some o)(n:xt o=true:=by rfl):b a=some o:=(s a o e).1 n
theorem SameT.free{H b:Hp}(s:SameT H b){a:Addr}(e:b a=none):H a=none:=by
 cases q:H a with
 | none=>rfl
 | some o=>obtain⟨_,d,c⟩:=s a o q;rw[e]at c;cases c
theorem SameT.put{H c:Hp}(s:SameT H c){a:Addr}{o:HO}(e:H a=none):SameT H (upd c a o):=λb u q=>by
 have n:b≠a:=λz=>by rw[z,e]at q;cases q
 rw[au n];exact s b u q
def xc(H:Hp)(P:Addr)(ls:List (Pos×Str)):Prop:=∃ ps,H P=some (.tbl ps)/\TriplesOk ps.toList/\∀ l∈ls,codeAmong l.1 ps.toList=none\/∃ c,codeAmong l.1 ps.toList=some (.ref c)/\H c=some (.ext (eE c l.2))
abbrev oF:=List (Addr×List (Pos×Str))
def TabsOk(tabs:oF)(H:Hp):Prop:=∀ q∈tabs,xc H q.1 q.2
theorem TabsOk.same{d:oF}{H e:Hp}(t:TabsOk d H)(s:Same H e):TabsOk d e:=λq h=>by
 obtain⟨j,g,k,f⟩:=t q h;exact⟨j,s _ _ g,k,λl i=>(f l i).imp id λ⟨c,a,b⟩=>⟨c,a,s _ _ b⟩⟩
theorem TabsOk.put{d:oF}{H:Hp}{r:Addr}{o:HO}(t:TabsOk d H)(g:∀ ps,H r≠some (.tbl ps))(j:∀ φ,H r≠some (.ext φ)):TabsOk d (upd H r o):=λq h=>by
 obtain⟨ps,e,k,f⟩:=t q h;refine⟨ps,?_,k,λl i=>(f l i).imp id λ⟨c,a,b⟩=>⟨c,a,?_⟩⟩
 .rw[au λz=>g ps (by rw[<- z];exact e)];exact e
 .rw[au λz=>j _ (by rw[<- z];exact b)];exact b
theorem nL{p d:Pos}{c:Value}(l:List Value)(h:TriplesOk l)(e:¬(p.line=d.line/\p.col=d.col)):codeAmong d (l++[rawInt p.line,rawInt p.col,c])=codeAmong d l:=by
 fun_induction TriplesOk l with
 | case1 =>
  simp only[nil_append,codeAmong,rawInt];rw[if_neg];intro z;rw[Bool.and_eq_true,beq_iff_eq,beq_iff_eq]at z;exact e ⟨by lia,by lia⟩
 | case2 a t b u x rest ih =>
  simp only[cons_append,codeAmong];rw[ih h]
 | case3=>exact h.elim
theorem lq{p:Pos}{c:Value}(l:List Value)(h:TriplesOk l):TriplesOk (l++[rawInt p.line,rawInt p.col,c]):=by
 fun_induction TriplesOk l with
 | case1=>simp[TriplesOk,rawInt]
 | case2 a t b u x rest ih=>exact ih h
 | case3=>exact h.elim
def Bm(mg:Str->Option Value)(base:Heap):Prop:=∃ bm ob,mg "__builtins__" = some (.ref bm)/\base.get? bm=some ob/\ob.cls=.type "module" /\ ob.dict=some builtinsNs/\ob.data=.plain
def xO(tabs:oF)(d:LamD)(clos:List (Str×Addr)):TE:=λσ H Q=>TabsOk tabs H/\∀ f c H1,SameT H H1->TabsOk tabs H1->H f=none->H1 f=some (.ext (fZ f d clos c))->H1 c=some (.ext (eE c d.qual))->Q (.ref f) H1
theorem lb{b c:Type}:∀{l:List (b×c)},(l.map (·.1)).Nodup->∀ x∈l,∀ y∈l,x.1=y.1->x=y
 | [],_,x,hx,_,_,_=>by cases hx
 | a::r,nd,x,hx,y,hy,e=>by
  rw[map_cons,nodup_cons]at nd
  rcases mem_cons.mp hx with rfl | hx' <;> rcases mem_cons.mp hy with rfl | hy'
  .rfl
  .exact absurd (mem_map.mpr ⟨y,hy',e.symm⟩) nd.1
  .exact absurd (mem_map.mpr ⟨x,hx',e⟩) nd.1
  .exact lb nd.2 x hx' y hy' e
theorem pS:∀{l:List (Pos×Str)},(l.Pairwise λx y=>¬(x.1.line=y.1.line/\x.1.col=y.1.col))->∀ x∈l,∀ y∈l,(x.1.line=y.1.line/\x.1.col=y.1.col)->x=y
 | [],_,x,hx,_,_,_=>by cases hx
 | a::r,nd,x,hx,y,hy,e=>by
  rw[pairwise_cons]at nd
  rcases mem_cons.mp hx with rfl | hx' <;> rcases mem_cons.mp hy with rfl | hy'
  .rfl
  .exact absurd e (nd.1 y hy')
  .exact absurd ⟨e.1.symm,e.2.symm⟩ (nd.1 x hx')
  .exact pS nd.2 x hx' y hy' e
section
variable {X:Cx}{tabs:oF}{P c:Addr}{ls:List (Pos×Str)}{d:LamD}{clos:List (Str×Addr)}{pos:Pos}
theorem eY(S:X.env.code=.ref c)(hC:codeHdIn X.K c P=true)(hB:Bm X.mg X.base)(hq:X.env.qual ++ "<lambda>" = d.qual)(O:closureFor d.scope X.env=pure clos)(J:defaultsOf d.params X.env=([],[]))
  (hm:(P,ls)∈tabs) (hl:(pos,d.qual)∈ls) (a6:(tabs.map (·.1)).Nodup) (a3:ls.Pairwise λx y=>¬(x.1.line=y.1.line/\x.1.col=y.1.col)):PE X (.Lambda d.params d.body d.scope pos) (xO tabs d clos):=by
 intro a8 s σ H Q I h;obtain⟨hT,hQ⟩:=h;refine PySem.W.kla_eval J ?_;rw[hq];obtain⟨F,r,l,K⟩:=hT _ hm;have p:s.heap.Ns mainGlobals X.mg:=I.mod.glob.keeps I.bk;have C:CodeHd s.heap c P:=codeHd_of_K I.kIn hC;have w:s.heap.get? P=some (tabObj F):=I.hok P _ r
 have as:mainGlobals≠P:=λq=>by
  obtain⟨o,es,ep,e,hd,_⟩:=p;rw[q,w]at e;cases e;cases hd
 obtain⟨bm,ob,b1,b2,b3,b4,Y⟩:=hB;have bo:=I.bk _ _ b2
 have a0:bm≠P:=λq=>by
  rw[q,w]at bo;cases bo;cases b3
 have aS:bm≠mainGlobals:=λq=>by
  obtain⟨o,es,ep,e,hd,_⟩:=p;rw[q,e]at bo;cases bo;rw[hd]at Y;cases Y
 have a1:bm≠builtinsNs:=λq=>by
  obtain⟨mb,⟨o,es,ep,e,hd,_⟩,_⟩:=I.mod.blt;rw[q,e]at b2;cases b2;rw[hd]at Y;cases Y
 have BA:s.heap.BuiltinsAt X.mg P:=⟨bm,ob,b1,a1,aS,a0,bo,b3,b4,Y⟩
 rcases K _ hl with hn | ⟨i,hc,a5⟩
 .refine PySem.W.kla_makeFunction (mg:=X.mg) O I.ok.glob p S C w l hn as BA λi R h' tk hx v D Z ad=>?_
  have T:H i=none:=I.hok.fresh v;have j:H h'.objs.size=none:=I.hok.fresh (Nat.le_trans v (Nat.le_of_lt D));have ab:i≠h'.objs.size:=Nat.ne_of_lt D;have a7:P≠i:=ar r T;have W:P≠h'.objs.size:=ar r j
  obtain⟨f,hf⟩:∃ f,f=h'.objs.size:=⟨_,rfl⟩
  obtain⟨ob',hob⟩:∃ o,o=kla_obj "<lambda>" d.qual d.params d.body d.scope clos ((X.mg "__name__").getD .none) i R:=⟨_,rfl⟩
  have ap:(h'.push ob').get? f=some ob':=by rw[hf,hob];exact Heap.get?_push_size _ rfl
  have k:∀ b o,b≠P->s.heap.get? b=some o->(h'.push ob').get? b=some o:=λb o n e=>Heap.get?_push_of_some _ (hx b o n e)
  have B:(h'.push ob').get? P=some (tabObj (F ++ #[rawInt pos.line,rawInt pos.col,.ref i])):=Heap.get?_push_of_some _ ad
  have al:eE i d.qual (h'.push ob'):=by
   obtain⟨A,oc,vs,t,e2,a2,ah,hv⟩:=Z;cases e2;exact⟨oc,vs,t,Heap.get?_push_of_some _ a2,ah,hv⟩
  rw[<- hf]at j ab W ⊢;rw[<- hob]
  obtain⟨H1,hH1⟩:∃ H1,H1=upd (upd (upd H P (.tbl (F ++ #[rawInt pos.line,rawInt pos.col,.ref i]))) i (.ext (eE i d.qual))) f (.ext (fZ f d clos i)):=⟨_,rfl⟩
  have gf:H1 f=some (.ext (fZ f d clos i)):=by rw[hH1];exact ac
  have gc:H1 i=some (.ext (eE i d.qual)):=by rw[hH1,au ab];exact ac
  have gP:H1 P=some (.tbl (F ++ #[rawInt pos.line,rawInt pos.col,.ref i])):=by rw[hH1,au W,au a7];exact ac
  have go:∀ b,b≠P->b≠i->b≠f->H1 b=H b:=λb h1 h2 M=>by rw[hH1,au M,au h2,au h1]
  have g:∀ b o,b≠P->H b=some o->H1 b=some o:=λb o n e=>by rw[go b n (ar e T) (ar e j)];exact e
  have E:∀ b o,H b=some o->(∀ qs,o≠.tbl qs)->b≠P:=λb o e n z=>by rw[z,r]at e;cases e;exact n F rfl
  have un:Un X.fs [] H H1 s.heap (h'.push ob'):=by
   refine⟨λb o e n _ _=>k b o (λz=>by rw[z,r]at n;cases n) e,λb o e n _ _=>⟨o.slots,k b o (λz=>by rw[z,r]at n;cases n) e⟩,λb o e n _=>?_,λb o e _=>?_,λb xs e=>g b _ (E b _ e λ_ z=>nomatch z) e,λb o u e=>g b _ (E b _ e λ_ z=>nomatch z) e,λb qs e=>?_⟩
   .have hb:b<s.heap.objs.size:=Heap.lt_size e
    rw[go b (λz=>by rw[z,r]at n;cases n) (Nat.ne_of_lt (Nat.lt_of_lt_of_le hb v)) (by rw[hf];exact Nat.ne_of_lt (Nat.lt_of_lt_of_le hb (Nat.le_trans v (Nat.le_of_lt D))))];exact n
   .by_cases hb:b=P
    .rw[hb];exact⟨_,B⟩
    .exact⟨o,k b o hb e⟩
   .by_cases hb:b=P
    .rw[hb,r]at e
     cases e;rw[hb];exact⟨_,gP⟩
    .exact⟨#[],by rw[g b _ hb e];simp⟩
  have a4:HOk X.prog X.w H1 (h'.push ob'):=λa o e=>by
   by_cases h1:a=f
   .subst h1;rw[gf]at e;cases e;exact pP (by rw[ap,hob])
   by_cases h2:a=i
   .subst h2;rw[gc]at e;cases e;exact rC al
   by_cases M:a=P
   .subst M;rw[gP]at e;cases e;exact B
   rw[go a M h2 h1]at e;refine(I.hok a o e).stay (λb u hb q=>k b u ?_ q) (λb q=>g b _ (E b _ q λ_ z=>nomatch z) q) λb xs q=>g b _ (E b _ q λ_ z=>nomatch z) q
   rcases hb with rfl | hb
   .exact M
   .exact E b _ hb λ_ z=>nomatch z
  refine⟨.ref f,H1,I.un (h':=h'.push ob') (t':=tk) un a4,rfl,hQ f i H1 (λb o e=>?_) (λq hq'=>?_) j gf gc⟩
  .by_cases hb:b=P
   .subst hb
    rw[r]at e;cases e;exact⟨λz=>(Bool.false_ne_true z).elim,_,gP⟩
   .exact⟨λ_=>g b o hb e,o,g b o hb e⟩
  .by_cases hqP:q.1=P
   .have an:q=(P,ls):=lb a6 q hq' (P,ls) hm hqP
    subst an;refine⟨_,gP,by rw[Array.toList_append];exact lq _ l,λG m=>?_⟩;rw[Array.toList_append]
    by_cases hp:pos.line=G.1.line/\pos.col=G.1.col
    .have:=pS a3 (pos,d.qual) hl G m hp
     subst this;exact .inr ⟨i,codeAmong_snoc _ l hn,gc⟩
    .have eo:=nL (c:=.ref i) F.toList l hp
     rcases K G m with z | ⟨A,z1,L⟩
     .exact .inl (eo.trans z)
     .exact .inr ⟨A,eo.trans z1,g A _ (E A _ L λ_ z=>nomatch z) L⟩
   .obtain⟨qs,e1,e2,e3⟩:=hT q hq'
    exact⟨qs,g _ _ hqP e1,e2,λG m=>(e3 G m).imp id λ⟨A,z1,L⟩=>⟨A,z1,g A _ (E A _ L λ_ z=>nomatch z) L⟩⟩
 .refine PySem.W.kla_makeFunctionHit (mg:=X.mg) O I.ok.glob p S C w l hc BA λR h' tk hk N=>?_
  have j:H h'.objs.size=none:=I.hok.fresh N;have sm:Same H (upd H h'.objs.size (.ext (fZ h'.objs.size d clos i))):=Same.new j;refine⟨.ref h'.objs.size,_,I.laid (a:=h'.objs.size) (o:=.ext (fZ h'.objs.size d clos i)) (t':=tk) (λb u e=>Heap.get?_push_of_some _ (hk b u e)) N (pP (Heap.get?_push_size _ rfl)),rfl,hQ _ i _ sm.t (hT.same sm) j ac (sm _ _ a5)⟩
end
def untrs(H:Hp)(cs:List Addr):Hp:=λb=>if b∈cs then none else H b
theorem eD{H:Hp}{a:List Addr}{b:Addr}(h:b∈a):untrs H a b=none:=by unfold untrs;rw[if_pos h]
theorem aE{H:Hp}{a:List Addr}{b:Addr}(h:b ∉ a):untrs H a b=H b:=by unfold untrs;rw[if_neg h]
theorem cJ{H:Hp}{a:List Addr}{b:Addr}(h:H b=none):untrs H a b=none:=by unfold untrs;split <;> first | rfl | exact h
abbrev CellsAt(H:Hp):List (Str×Addr)->List V->Prop:=Paired λ(p:Str×Addr) (v:V)=>H p.2=some (.ext (dF p.2 v))
theorem CellsAt.mem{H:Hp}:∀{clos:List (Str×Addr)}{vals:List V},CellsAt H clos vals->∀ p∈clos,∃ v,H p.2=some (.ext (dF p.2 v))
 | _,_,.nil,p,h=>by cases h
 | _,_,.cons r t,p,h=>by
  rcases mem_cons.mp h with rfl | h
  .exact⟨_,r⟩
  .exact CellsAt.mem t p h
theorem CellsAt.get{H:Hp}:∀{clos:List (Str×Addr)}{vals:List V}{i:Nat}{v:V},CellsAt H clos vals->vals[i]? = some v->∃ p,clos[i]? = some p/\H p.2=some (.ext (dF p.2 v))
 | _,_,_,_,.nil,h=>by cases h
 | _,_,0,_,.cons r t,h=>by cases h;exact⟨_,rfl,r⟩
 | _,_,i+1,_,.cons r t,h=>CellsAt.get (i:=i) t h
theorem CellsAt.at{H:Hp}{a:List (Str×Addr)}{c:List V}(d:CellsAt H a c){b:Addr}(f:b∈a.map (·.2)):∃ v,H b=some (.ext (dF b v)):=by
 obtain⟨p,e,rfl⟩:=mem_map.mp f;exact d.mem p e
theorem du{H:Hp}{a:List (Str×Addr)}{c:List V}{b:Addr}{o:HO}(d:CellsAt H a c)(h:H b=some o)(n:∀ v,o≠.ext (dF b v)):untrs H (a.map (·.2)) b=some o:=by
 rw[aE λz=>?_]
 .exact h
 .obtain⟨v,e⟩:=d.at z
  rw[h]at e;exact n v (Option.some.inj e)
theorem d3{a:Type}:∀{l:List (Str×a)}{x:Str}{u:a},(l.map (·.1)).Nodup->(x,u)∈l->l.lookup x=some u
 | [],_,_,_,h=>by cases h
 | (y,w)::r,x,u,nd,h=>by
  rw[map_cons,nodup_cons]at nd
  rcases mem_cons.mp h with e | h
  .cases e;simp[List.lookup]
  .have:x≠y:=λz=>nd.1 (mem_map.mpr ⟨(x,u),h,z⟩)
   rw[lookup_cons,beq_eq_false_iff_ne.mpr this];exact d3 nd.2 h
theorem qj{a:Type}{l:List a}(h:l.Nodup):l.reverse.Nodup:=by
 unfold List.Nodup at h ⊢;rw[List.pairwise_reverse];exact h.imp λn z=>n z.symm
def jJ(d:LamD)(L f c:Addr)(clos:List (Str×Addr)):Env:={ scope:=d.scope,locals:=L,globals:=mainGlobals,cells:=clos,qual:=d.qual ++ ".<locals>.",func:=some f,code:=.ref c,frame:=some L,builtins:=builtinsNs }
def cxL(P:Program)(w:World)(K:Frag)(mg:Str->Option Value)(base:Heap)(N:List Str)(d:LamD)(clos:List (Str×Addr))(f c:Addr)(A:Around)(outer:List Env)(s:Shared)(H:Hp):Cx where
 prog:=P
 w:=w
 K:=K
 mg:=mg
 base:=base
 A:=A.deeper (jJ d s.heap.objs.size f c clos)
 N:=N
 s₀:=s
 H₀:=untrs H (clos.map (·.2))
 env:=jJ d s.heap.objs.size f c clos
 outer:=outer
 stack:=jJ d s.heap.objs.size f c clos::outer
 ex:=[]
 calm:=true
 fn:=λ_=>false
 pn:=[]
 xe:=λ_ _=>False
def LamOkC(P:Program)(w:World)(K:Frag)(mg:Str->Option Value)(base:Heap)(k:Nat)(d:LamD)(fv ps:List Str)(sp:List (Str×Addr)->List V->Sp):Prop :=
 ∀(A:Around) (outer:List Env) (s:Shared) (H:Hp) (f c:Addr) (clos:List (Str×Addr)) (us:List Value) (vs vals:List V) (Q:VK) (E:XK),Room k A->Env0 P w K mg base A outer s H->H f=some (.ext (fZ f d clos c))->H c=some (.ext (eE c d.qual)) ->
  clos.map (·.1)=fv->(clos.map (·.2)).Nodup->CellsAt H clos vals->Vals vs us->sp clos vals vs H Q E->codeAny (model P w) A (.call (.ref f) ⟨us,[]⟩) (CR CX0 outer P w H s Q E) s
structure LamScope(d:LamD)(fv ps:List Str):Prop where
 kind:d.scope.kind=.function
 co:d.scope.isCoroutine=false
 gen:d.scope.isGenerator=false
 nocell:∀ x∈d.scope.names,x.2≠.cell
 par:∀ x ∈ ps,d.scope.names.lookup x = some .local
 free:∀ x∈d.scope.names,x.2=.free->x.1∈fv
 fr:∀ x∈fv,d.scope.names.lookup x=some .free
 nd:(ps++fv).Nodup
theorem df{a b:Type}[BEq a][LawfulBEq a]:∀{l:List (a×b)}{x:a}{u:b},l.lookup x=some u->(x,u)∈l
 | [],_,_,h=>by cases h
 | (y,w)::r,x,u,h=>by
  rw[lookup_cons]at h;cases e:x == y with
  | true=>rw[e]at h;cases h;rw[eq_of_beq e];exact mem_cons_self ..
  | false=>rw[e]at h;exact mem_cons_of_mem _ (df h)
theorem oy{P:Program}{w:World}{K:Frag}{mg:Str->Option Value}{D:Heap}{d:LamD}{L ps:List Str}{a:List (Str×Addr)}{f c:Addr}{A:Around}{j:List Env}{s:Shared}{H:Hp}{us:List Value}{vs g:List V}{F:Heap}{tk:Nat}
  (S:LamScope d L ps) (hd:A.handled=none) (C:Env0 P w K mg D A j s H) (hl:vs.length=ps.length) (r:Vals vs us) (B:a.map (·.1)=L) (ab:(a.map (·.2)).Nodup) (N:CellsAt H a g)
  (ad:F.Ns s.heap.objs.size (λx=>(ps.zip us).reverse.lookup x)) (Y:∀ b o,s.heap.get? b=some o->F.get? b=some o) :
  Inv (cxL P w K mg D (ps++L) d a f c A j s H) [] ((vs++g).map some) (untrs H (a.map (·.2))) { s with heap:=F,toks:=tk }:=by
 have O:(a.map (·.1)).Nodup:=by rw[B];exact(nodup_append.mp S.nd).2.1
 have T:ps.Nodup:=(nodup_append.mp S.nd).1;have an:us.length=ps.length:=by rw[<- r.length];exact hl
 have Q:∀ x k,a.lookup x=some k->k∈a.map (·.2):=λx k e=>mem_map.mpr ⟨(x,k),df e,rfl⟩
 have l:∀ b v,H b=some (.ext (dF b v))->∃ u,RelV v u/\F.IsCell b (some u):=λb v e=>by
  obtain⟨⟨o,u,E,m,g3⟩,_⟩:=C.hok b _ e;exact⟨u,g3,o,Y _ _ E,m⟩
 have J:∀ b:Addr,b ∉ (cxL P w K mg D (ps++L) d a f c A j s H).ex:=λb z=>absurd (show b∈([]:List Addr) from z) (by simp)
 have al:a.length=L.length:=by rw[<- B,length_map]
 have ap:g.length=a.length:=(Paired.length N).symm
 refine⟨⟨C.mod,S.kind,rfl,rfl,Nat.le_refl _,λy z k F X=>?_,λy hy=>?_,λy k h=>(Bool.false_ne_true h).elim,λ_=>hd,Around.frames_deeper C.frames,.inr ⟨rfl,rfl⟩,λb z=>absurd z (J b),λb o e=>⟨(C.bs b o e).1,cJ (C.bs b o e).2⟩,C.bsz,λb _ _=>J b,λb z=>absurd z (J b),C.funs,λb hb=>cJ (C.frf b hb)⟩,
  rfl,C.bare,Un.kept Y,⟨_,ad,λi y v E m g3=>?_⟩,λy k h=>?_,cJ (C.hok.fresh (Nat.le_refl _)),λy k h=>eD (Q y k h),λp M=>absurd (show p∈([]:List (Addr×Obj)) from M) (by simp),λb u e=>?_,?_⟩
 .have F:a.lookup y=some k:=F
  have X:a.lookup z=some k:=X;have e1:=df F;have e2:=df X;have Z:((a.map λp=>(p.2,p.1)).map (·.1)).Nodup:=by rw[map_map];exact ab
  have:=lb Z (k,y) (mem_map.mpr ⟨_,e1,rfl⟩) (k,z) (mem_map.mpr ⟨_,e2,rfl⟩) rfl;exact congrArg Prod.snd this
 .have hy:d.scope.names.lookup y=some .cell\/d.scope.names.lookup y=some .free:=hy
  rcases hy with hy | hy
  .exact absurd rfl (S.nocell _ (df hy))
  .have:=S.free _ (df hy) rfl
   rw[<- B]at this;obtain⟨p,M,e⟩:=mem_map.mp this;have e':p.1=y:=e;exact⟨p.2,d3 O (by show(y,p.2)∈a;rw[<- e'];exact M)⟩
 .have E:(ps++L)[i]? = some y:=E
  by_cases hi:i<ps.length
  .rw[List.getElem?_append_left hi]at E
   rw[List.getElem?_map,List.getElem?_append_left (by lia)]at m
   have I:vs[i]? = some v:=by
    cases q:vs[i]? with
    | none=>rw[q]at m;cases m
    | some x=>rw[q]at m;cases m;rfl
   obtain⟨u,hu,W⟩:=r.get I;refine⟨u,W,.inl ⟨S.par y (List.mem_of_getElem? E),?_⟩⟩;have ah:(y,u)∈ps.zip us:=List.mem_of_getElem? (i:=i) (by rw[List.getElem?_zip_eq_some];exact⟨E,hu⟩);refine d3 ?_ (List.mem_reverse.mpr ah);rw[List.map_reverse];refine qj ?_;have:(ps.zip us).map (·.1)=ps:=by rw[List.map_fst_zip];lia
   rw[this];exact T
  .rw[List.getElem?_append_right (by lia)]at E
   rw[List.getElem?_map,List.getElem?_append_right (by lia)]at m
   have I:g[i - ps.length]? = some v:=by
    rw[hl]at m;cases q:g[i - ps.length]? with
    | none=>rw[q]at m;cases m
    | some x=>rw[q]at m;cases m;rfl
   obtain⟨p,M,e⟩:=N.get I;rw[<- B,List.getElem?_map,M]at E;cases E;obtain⟨u,W,R⟩:=l _ _ e;have G:=List.mem_of_getElem? M;refine⟨u,W,.inr ⟨.inr (S.fr p.1 ?_),p.2,d3 O G,R⟩⟩;rw[<- B];exact mem_map.mpr ⟨p,G,rfl⟩
 .obtain⟨v,e⟩:=N.at (Q y k h)
  obtain⟨u,_,R⟩:=l _ _ e;exact⟨_,R⟩
 .by_cases hb:b∈a.map (·.2)
  .rw[eD hb]at e;cases e
  .rw[aE hb]at e
   refine(C.hok b u e).stay (λb' u' _ q=>Y b' u' q) (λb' q=>?_) λb' xs q=>?_
   .exact du N q λv z=>nomatch z
   .exact du N q λv z=>nomatch z
 .show((vs++g).map some).length=(ps++L).length
  rw[length_map,length_append,length_append];lia
section
variable {P:Program}{w:World}{K:Frag}{mg:Str->Option Value}{base:Heap}
theorem eB{d:LamD}{M ps:List Str}{k:Nat}{sp:List (Str×Addr)->List V->Sp}(S:LamScope d M ps)
  (x:∀(pm ctv:Value) (clos:List (Str×Addr)) (c:Addr) (us:List Value),us.length=ps.length->bindArgs (kla_fn "<lambda>" d.qual d.params d.body d.scope clos pm (.ref c) ctv) ⟨us,[]⟩=pure (ps.zip us))
  (R:∀ clos vals vs H Q E,sp clos vals vs H Q E->vs.length=ps.length)
  (B:∀(A:Around) (outer:List Env) (s:Shared) (H:Hp) (f c:Addr) (clos:List (Str×Addr)) (vals vs:List V) (Q:VK) (E:XK),Room k (A.deeper (jJ d s.heap.objs.size f c clos))->clos.map (·.1)=M->CellsAt H clos vals->sp clos vals vs H Q E ->
   ∃ t,PE (cxL P w K mg base (ps++M) d clos f c A outer s H) d.body t/\t ((vs++vals).map some) (untrs H (clos.map (·.2))) (λv H'=>∀ H3,Same H' H3->(∀ p∈clos,H3 p.2=H p.2)->Q v H3)) :
  LamOkC P w K mg base (k+1) d M ps sp:=by
 intro A outer s H f c clos us vs vals Q E Z j hf hc F O l r L;have hl:=R _ _ _ _ _ _ L;have X:us.length=ps.length:=by rw[<- r.length];exact hl
 obtain⟨⟨pm,ctv,ef⟩,_,_⟩:=j.hok f _ hf;obtain⟨⟨oc,Y,ct,ec,ed,ev⟩,_,_⟩:=j.hok c _ hc;have W:s.heap.NoLimit:=j.mod.nolimit.keeps λb o e=>(j.bs b o e).1
 obtain⟨t,ht,hq⟩:=B A outer s H f c clos vals vs Q E (Z.deeper _) F l L;refine PySem.W.kla_callFunE (body:=d.body) Z.depth ef rfl S.co S.gen rfl ⟨c,oc,Y,ct,rfl,ec,ed,ev⟩ ?_;rw[x pm ctv clos c us X];refine wpAny_pure (wpAny_newFunctionEnv S.nocell (λy hy=>S.par y.1 (of_mem_zip hy).1) (λh1 hns hsb=>?_) S.kind);have hk:∀ b o,s.heap.get? b=some o->h1.get? b=some o:=λb o e=>hsb.extBut b o (Nat.ne_of_lt (Heap.lt_size e)) (Heap.get?_push_of_some _ e)
 refine⟨W.fresh _ hsb,?_⟩;show codeAny _ _ (.expr d.body (jJ d s.heap.objs.size f c clos)) _ _;have I:=oy (f:=f) (c:=c) (tk:=s.toks+(ps.zip us).length) S Z.hd j hl r F O l hns hk;refine PySem.W.kla_codeExpr (wpAny_mono (ht [] _ _ _ _ I hq) (λu s' hs=>?_) λe s' z=>False.elim z);obtain⟨v,H',J,rv,q⟩:=hs
 obtain⟨cs,hcs⟩:∃ cs,cs=clos.map (·.2):=⟨_,rfl⟩
 have h:Un (frs outer) [] (untrs H (clos.map (·.2))) H' s.heap s'.heap:=J.base
 have m:∀ b,b∈clos.map (·.2)->∃ o v,s.heap.get? b=some o/\H b=some (.ext (dF b v)):=λb a=>by
  obtain⟨v,e⟩:=l.at a;obtain⟨⟨o,_,g,_⟩,_⟩:=j.hok b _ e;exact⟨o,v,g,e⟩
 have N:∀ b∈clos.map (·.2),H' b=none:=λb a=>by
  obtain⟨o,v,g,_⟩:=m b a;exact h.free b o g (eD a) (by simp)
 let H3:Hp:=λb=>if b∈clos.map (·.2) then H b else H' b
 have g1:∀ b,b∈clos.map (·.2)->H3 b=H b:=λb a=>if_pos a
 have T:∀ b,b ∉ clos.map (·.2)->H3 b=H' b:=λb a=>if_neg a
 have C:Same H' H3:=λb o e=>by
  rw[T b λz=>by rw[N b z]at e;cases e];exact e
 have up:∀ b o,H b=some o->(∀ v,o≠.ext (dF b v))->b ∉ clos.map (·.2):=λb o e n z=>by
  obtain⟨v,i⟩:=l.at z;rw[e]at i;exact n v (Option.some.inj i)
 refine⟨v,H3,J.os,J.bare,⟨λb o e n a D=>h.keep b o e (cJ n) a D,λb o e n a D=>h.slot b o e (cJ n) a D,λb o e n D=>?_,h.there,λb xs e=>?_,λb o u e=>?_,λb ps' e=>?_⟩,λb o e=>?_,rv,q H3 C λp hp=>g1 p.2 (mem_map.mpr ⟨p,hp,rfl⟩)⟩
 .rw[T b λz=>by obtain⟨_,v,_,i⟩:=m b z;rw[n]at i;cases i]
  exact h.free b o e (cJ n) D
 .exact C _ _ (h.tups b xs (du l e λv z=>nomatch z))
 .exact C _ _ (h.frzs b o u (du l e λv z=>nomatch z))
 .obtain⟨G,z⟩:=h.tbls b ps' (du l e λv z=>nomatch z)
  exact⟨G,C _ _ z⟩
 .by_cases a:b∈clos.map (·.2)
  .rw[g1 b a]at e
   obtain⟨o',v',g,i⟩:=m b a;rw[e]at i;cases i;obtain⟨⟨o2,u2,k1,k2,k3⟩,_⟩:=j.hok b _ e;refine m8 ⟨o2,u2,h.keep b o2 k1 (eD a) (λz=>?_) (by simp),k2,k3⟩;rw[j.frf b z]at e;cases e
  .rw[T b a]at e
   refine(J.hok b o e).stay (λb' u' _ q=>q) (λb' q=>C _ _ q) λb' xs q=>C _ _ q
end
theorem PE.or{X:Cx}{e:Expr}{t t':TE}(h:PE X e t)(h':PE X e t'):PE X e (λσ H Q=>t σ H Q\/t' σ H Q):=λa s σ H Q I q=>q.elim (h a s σ H Q I) (h' a s σ H Q I)
def io(d:LamD)(fv:List Str)(sp:List (Str×Addr)->List V->Sp):V->List V->Hp->VK->Prop:=λv vs H Q=>∃ f c clos vals,v=.ref f/\H f=some (.ext (fZ f d clos c))/\H c=some (.ext (eE c d.qual))/\clos.map (·.1)=fv/\(clos.map (·.2)).Nodup/\CellsAt H clos vals/\sp clos vals vs H Q λ_ _ _=>False
section
variable {X:Cx}{d:LamD}{fv ps:List Str}{k:Nat}{sp:List V->Sp}{x:Str}{p pos:Pos}{tf:TE}{t:TA}{e:Expr}{es:List Expr}
theorem pT{sp:List (Str×Addr)->List V->Sp}{a:List (Addr×Obj)}{j:St}{H:Hp}{s:Shared}{Q:VK}{us:List Value}{vs:List V}{v:V}{u:Value}(L:LamOkC X.prog X.w X.K X.mg X.base k d fv ps sp)(m:Room k X.A)(I:Inv X a j H s)(y:RelV v u)(r:Vals vs us)(h:io d fv sp v vs H Q) :
  wpAny (model X.prog X.w) X.A (call u us) (EP X a j Q) X.xe s:=by
 obtain⟨f,c,i,g,rfl,p,w,o,q,x,l⟩:=h;obtain rfl:u=Value.ref f:=y;refine wpAny_call (codeAny_mono (L X.A X.stack s H f c i us vs g Q _ m I.env0 p w o q x r l) λr z b=>?_);cases r with
 | error e=>exact False.elim b
 | ok fl =>
  cases fl with
  | ret u=>exact I.after b
  | next=>exact False.elim b
  | brk=>exact False.elim b
  | cont=>exact False.elim b
theorem lO{H:Hp}{s:Shared}{P:Program}{w:World}{f c:Addr}{d:LamD}{a:List (Str×Addr)}(g:HOk P w H s.heap)(h:H f=some (.ext (fZ f d a c))):FnAt f s.heap:=by
 obtain⟨⟨i,b,e⟩,_,_⟩:=g f _ h;exact⟨_,_,_,_,e⟩
theorem bU{sp:List (Str×Addr)->List V->Sp}(l:PE X (.Name x p) tf)(L:LamOkC X.prog X.w X.K X.mg X.base k d fv ps sp)(j:Room k X.A):PE X (.Call (.Name x p) [] [] pos) (λσ H Q=>tf σ H λv H1=>io d fv sp v [] H1 Q):=by
 intro a s σ H Q I h;refine wpAny_Call_Name_kw (thn (l a s σ H _ I h) λu r ⟨v,H1,b,o,q⟩=>?_);obtain⟨f,c,g,e,i,m,_⟩:=id q;subst i;obtain rfl:u=Value.ref f:=o;exact PySem.W.callWith_F0 (lO b.hok m) (pT (us:=[]) L j b (v:=.ref f) rfl .nil q)
end
abbrev TR:=VK->(V->St->Hp->Prop)->St->Hp->Prop
def PR(X:Cx)(sts:List Stmt)(t:TR):Prop :=
 ∀(pins:List (Addr×Obj)) (s:Shared) (σ:St) (H:Hp) (R:VK) (Z:V->St->Hp->Prop),Inv X pins σ H s->t R Z σ H ->
  wpAny (model X.prog X.w) X.A (execs sts X.env) (λf s'=>∃ u,f=.ret u/\((∃ v σ' H',Inv X pins σ' H' s'/\RelV v u/\(R v H'\/Z v σ' H'))\/∃ v H',s'.os=X.s₀.os/\AllBare s'.gens/\Un X.fs X.ex X.H₀ H' X.s₀.heap s'.heap/\HOk X.prog X.w H' s'.heap/\RelV v u/\R v H')) X.xe s
section
variable {X:Cx}{e:Expr}{te:TE}{pos:Pos}{st:Stmt}{rest:List Stmt}{t:TS}{u:TR}
theorem jZ(b:PE X e te):PR X [.Return (some e) pos] (λ_ Z σ H=>te σ H λv H'=>Z v σ H'):=by
 intro a s σ H R Z I h;refine wpAny_execs_cons (wpAny_Return_some (thn (b a s σ H _ I h) λv i ⟨x,c,d,g,f⟩=>?_));exact⟨v,rfl,.inl ⟨x,σ,c,d,g,.inr f⟩⟩
theorem dG(e:PS X st t)(i:PR X rest u):PR X (st::rest) (λR Z σ H=>t { nx:=u R Z,rt:=R } σ H):=by
 intro a s σ H R Z I h;refine wpAny_execs_cons (thn (e a s σ H { nx:=u R Z,rt:=R } I h) λf j q=>?_);cases f with
 | next =>
  obtain⟨b,c,d,q⟩:=q;exact i a j b c R Z d q
 | ret v =>
  obtain⟨g,b,c,d,r,q⟩:=q;exact⟨v,rfl,.inl ⟨g,b,c,d,r,.inl q⟩⟩
 | brk=>obtain⟨_,_,_,q⟩:=q;exact False.elim q
 | cont=>obtain⟨_,_,_,q⟩:=q;exact False.elim q
end
def mr(cells:List (Str×Addr))(N:List Str)(σ:St)(H3:Hp):Prop:=∀(i:Nat) (y:Str) (v:V) (c:Addr),N[i]? = some y->σ[i]? = some (some v)->cells.lookup y=some c->H3 c=some (.ext (dF c v))
theorem i5{y:Str}{c:Addr}:∀(names:List (Str×NameKind)) (n:Nat) (acc:List (Str×Addr)),(y,c)∈cellsFrom n names acc->(y,c)∈acc\/(y,NameKind.cell)∈names
 | [],n,acc,h=>.inl h
 | (x,k)::r,n,acc,h=>by
  unfold cellsFrom at h
  split at h
  .rename_i hk
   rcases i5 r (n+1) ((x,n)::acc) h with z | z
   .rcases mem_cons.mp z with e | z
    .cases e
     rw[eq_of_beq hk];exact .inr (mem_cons_self ..)
    .exact .inl z
   .exact .inr (mem_cons_of_mem _ z)
  .rcases i5 r n acc h with z | z
   .exact .inl z
   .exact .inr (mem_cons_of_mem _ z)
section
variable {P:Program}{w:World}{K:Frag}{mg:Str->Option Value}{base:Heap}
theorem vn{CX:CXT}{N:List Str}{C:Str}{scope:Scope}{f:Addr}{Z:Value}{A:Around}{a:List Env}{s Q:Shared}{H B:Hp}{E:XK}{Y:St}(hN:N.Nodup)(T:∀ p∈scope.names,p.2=.cell->scope.names.lookup p.1=some .cell)
  {L:List (Addr×Obj)}(J:Inv (fu CX P w K mg base N C scope f Z A a s H E) L Y B Q) :
  ∃ H3,Same B H3/\mr (cellsFrom (s.heap.objs.size+1) scope.names []) N Y H3/\(∀ b,B b=none->H3 b≠none->∃ y,(cellsFrom (s.heap.objs.size+1) scope.names []).lookup y=some b)/\Un (frs a) [] H H3 s.heap Q.heap/\HOk P w H3 Q.heap:=by
 have x:∀ y c,(cellsFrom (s.heap.objs.size+1) scope.names []).lookup y=some c->scope.names.lookup y=some .cell:=λy c e=>by
  rcases i5 _ _ _ (df e) with z | z
  .cases z
  .exact T _ z rfl
 obtain⟨cells,hcells⟩:∃ l,l=cellsFrom (s.heap.objs.size+1) scope.names []:=⟨_,rfl⟩
 rw[<- hcells]at x ⊢;have d:(fu CX P w K mg base N C scope f Z A a s H E).env.cells=cells:=hcells.symm
 let G:Addr->V->Prop:=λb v=>∃(i:Nat) (y:Str),N[i]? = some y/\Y[i]? = some (some v)/\cells.lookup y=some b
 have G1:∀ b v X,G b v->G b X->v=X:=by
  rintro b v X ⟨i,y,O,I,g⟩ ⟨j,z,b1,b2,b3⟩;have:y=z:=J.ok.inj y z b (by rw[d];exact g) (by rw[d];exact b3);subst this;have:i=j:=jA hN O b1;subst this;rw[I]at b2;cases b2;rfl
 have W:∀ b v,G b v->B b=none/\s.heap.objs.size<=b/\dF b v Q.heap:=by
  rintro b v ⟨i,y,O,I,g⟩;refine⟨J.freeC y b (by rw[d];exact g),J.ok.cab y b rfl (by rw[d];exact g),?_⟩;obtain⟨m,hn,hl⟩:=J.loc;obtain⟨u,r,l⟩:=hl i y v O I (.inr (.inl (x y b g)))
  rcases l with⟨k,_⟩ | ⟨k,c,e,o,ho,hd⟩
  .exfalso
   have k:scope.names.lookup y = some .local:=k;rw[x y b g]at k;cases k
  .have e:cells.lookup y=some c:=by rw[<- d];exact e
   rw[g]at e;cases e;exact⟨o,u,ho,hd,r⟩
 classical
 let H3:Hp:=λb=>if h:∃ v,G b v then some (.ext (dF b (Classical.choose h))) else B b
 have g1:∀ b v,G b v->H3 b=some (.ext (dF b v)):=λb v h=>by
  have R:∃ v,G b v:=⟨v,h⟩
  show(if h:∃ v,G b v then some (.ext (dF b (Classical.choose h))) else B b)=_;rw[dif_pos R,G1 b _ v (Classical.choose_spec R) h]
 have S:∀ b,(¬∃ v,G b v)->H3 b=B b:=λb h=>dif_neg h
 have F:Same B H3:=λb o e=>by
  rw[S b λ⟨v,z⟩=>by rw[(W b v z).1]at e;cases e];exact e
 have D:Un (frs a) [] H B s.heap Q.heap:=J.base;refine⟨H3,F,λi y v c O I g=>g1 c v ⟨i,y,O,I,g⟩,(λb n1 n2=>?_),⟨D.keep,D.slot,λb o e n R=>?_,D.there,λb xs e=>F _ _ (D.tups b xs e),λb o u e=>F _ _ (D.frzs b o u e),λb ps e=>?_⟩,λb o e=>?_⟩
 .by_cases h:∃ v,G b v
  .obtain⟨v,i,y,_,_,g⟩:=h
   exact⟨y,g⟩
  .rw[S b h]at n2
   exact absurd n1 n2
 .rw[S b λ⟨v,z⟩=>absurd (Nat.lt_of_lt_of_le (Heap.lt_size e) (W b v z).2.1) (Nat.lt_irrefl _)]
  exact D.free b o e n R
 .obtain⟨M,z⟩:=D.tbls b ps e
  exact⟨M,F _ _ z⟩
 .by_cases h:∃ v,G b v
  .obtain⟨v,h⟩:=h
   rw[g1 b v h]at e;cases e;exact m8 (W b v h).2.2
  .rw[S b h]at e
   exact(J.hok b o e).stay (λb' u' _ q=>q) (λb' q=>F _ _ q) λb' xs q=>F _ _ q
theorem Fun.okF{x a:Str}{st:Stmt}{f c:Addr}{B:FuncData}{N ps:List Str}{k:Nat}{sp:Sp}(F:Fun K x a st f B)(hc:B.code=.ref c)(S:FnScope N ps (af st))(z:∀ p∈(af st).names,p.2=.cell->(af st).names.lookup p.1=some .cell)
  (h:∀ vs H Q E,sp vs H Q E->vs.length=ps.length)
  (g:∀(A:Around) (outer:List Env) (s:Shared) (H:Hp) (vs:List V) (Q:VK) (E:XK),Room k (A.deeper (envOfC a (af st) s.heap.objs.size f (.ref c)))->sp vs H Q E ->
   ∃ t,PR (fu CX0 P w K mg base N a (af st) f (.ref c) A outer s H E).nox (ak st) t/\t Q (λv σ H'=>∀ H3,Same H' H3->mr (cellsFrom (s.heap.objs.size+1) (af st).names []) N σ H3->(∀ y b,(cellsFrom (s.heap.objs.size+1) (af st).names []).lookup y=some b->H' b=none)->Q v H3) (start N vs) H):FnOk P w K mg base CX0 (k+1) f B ps sp:=by
 obtain⟨oc,od,kV,ab,pm,an,C,ct,T,rfl,X,m⟩:=F.ex;obtain rfl:C=.ref c:=hc;refine⟨h,λA outer s H M us vs Q E L j hb r i=>?_⟩;have hl:=h _ _ _ _ i;have R:K.In s.heap:=j.mod.kin.keeps λb o e=>(j.bs b o e).1
 have G:s.heap.NoLimit:=j.mod.nolimit.keeps λb o e=>(j.bs b o e).1
 have d:∀ y ∈ ps.zip us,(af st).names.lookup y.1 = some .local\/((af st).names.lookup y.1 = some .cell/\((cellsFrom (s.heap.objs.size + 1) (af st).names []).lookup y.1).isSome = true):=λ⟨n,v⟩ hy=>by
  rcases S.par n (of_mem_zip hy).1 with q | q
  .exact .inl q
  .exact .inr ⟨q,cellsFrom_some _ _ _ (.inl q)⟩
 refine codeAny_call_function L.depth (R _ _ X) rfl S.co S.gen rfl (codeRec_of R m) (hb _ _ _ _ ?_);refine wpAny_newFunctionEnv_cells S.kind d λad W O x=>?_
 subst W;refine⟨G.keeps x.toInCall.keep,codeAny_func ?_⟩;obtain⟨t,ht,hq⟩:=g A outer s H vs Q E (L.deeper _) i;have I:Inv (fu CX0 P w K mg base N a (af st) f (.ref c) A outer s H E) [] (start N vs) H O:=kG S L.hd j hl r x;refine wpAny_mono (ht [] O (start N vs) H Q _ (I.wish _) hq) (λfl s' D=>?_) λe s' D=>False.elim D
 obtain⟨u,rfl,⟨v,Z,H',J,l,q⟩ | ⟨v,H',g1,g2,g3,g4,l,q⟩⟩:=D
 .have J:=J.unwish
  rcases q with q | q
  .exact⟨v,H',J.os,J.bare,J.base,J.hok,l,q⟩
  .obtain⟨H3,Y,h2,_,h3,h4⟩:=vn S.nd z J
   exact⟨v,H3,J.os,J.bare,h3,h4,l,q H3 Y h2 λy b e=>J.freeC y b e⟩
 .exact⟨v,H',g1,g2,g3,g4,l,q⟩
end
theorem qe{P:Program}{w:World}{K:Frag}{mg mb:Str->Option Value}{CX:CXT}{k:Nat}{fa a:Addr}{fd:FuncData}{x:Str}{sp:Sp}{f:Shared}{vs:List Value}{ns:List Int}{p:List Addr}
  (KX:K.In f.heap) (J:f.heap.Ns mainGlobals mg) (g:f.heap.Ns builtinsNs mb) (aS:∀ x:Str,x ≠ "__name__" -> mb x=bootBuiltins x) (I:f.heap.NoLimit) (hg:f.gens = #[])
  (G:f.heap.get? a=some { cls:=.type "list",data:=.seq vs.toArray }) (hi:IntsAre vs ns) (hl:ns.length<=sizeLine) (hr:Room k callerA) (a0:Bm mg f.heap)
  (l:∀ P∈p,f.heap.get? P=some (tabObj #[])) (ad:∀ P∈p,∃ c,codeHdIn K c P=true) (ap:∀ P∈p,K.lookup P=none)
  (F:∀ base:Heap,K.In base->base.Ns mainGlobals mg->Bm mg base->FnOk P w K mg base CX k fa fd [x] sp) (E:∀(s:Shared) (u:Value),BindsTo s fd ⟨[u],[]⟩ [(x,u)])
  (an:∀ H:Hp,(∀ P∈p,H P=some (.tbl #[]))->SqL K H a (ns.map V.int)->sp [.ref a] H (λv _=>v=.bl true) λ_ _ _=>False)
  (as:∀ H e s',CX [] H f (λ_ _ _=>False) e s'->False) :
  codeAny (model P w) callerA (.call (.ref fa) ⟨[.ref a],[]⟩) (λr s'=>r=.ok (.ret (.bool true))/\OldK f.heap s'.heap/\s'.os=f.os/\AllBare s'.gens) f:=by
 have rv:=kL hi;have Q:=hi.length;have R:a ∉ p:=λz=>by have:=l a z;rw[G]at this;cases this
 have B:∀ H:Hp,(∀ P∈p,H P=some (.tbl #[]))->SqL K H a (ns.map V.int)->HOk P w H f.heap->(∀ b u,H b=some u->(b=a/\∃ o xs,u=.frz o (.lst xs))\/(b∈p/\u=.tbl #[]))->(H a≠none->K.lookup a=none) ->
   codeAny (model P w) callerA (.call (.ref fa) ⟨[.ref a],[]⟩) (λr s'=>r=.ok (.ret (.bool true))/\OldK f.heap s'.heap/\s'.os=f.os/\AllBare s'.gens) f:=by
  intro H hT hS N Y hK;have j:∀{b:Addr}{o:Obj},f.heap.get? b=some o->H b=none->(km f.heap H).get? b=some o:=λe n=>rY e n
  have ab:∀{b:Addr}{o:Obj},f.heap.get? b=some o->o.cls≠.none->(∀ W n,o.data≠.seq W n)->H b=none:=λ{b o} e d1 d2=>by
   cases q:H b with
   | none=>rfl
   | some u =>
    rcases Y b u q with⟨rfl,_⟩ | ⟨g,_⟩
    .rw[G]at e;cases e;exact(d2 _ _ rfl).elim
    .rw[l b g]at e;cases e;exact(d1 rfl).elim
  have ah:∀{b:Addr}{o:Obj}{S:Array DictEntry}{O:Nat},f.heap.get? b=some o->o.data=.dict S O->H b=none:=λ{b o S O} e d=>by
   cases q:H b with
   | none=>rfl
   | some u =>
    rcases Y b u q with⟨rfl,_⟩ | ⟨g,_⟩
    .rw[G]at e;cases e
     have d':Data.seq vs.toArray _=Data.dict S O:=d;cases d'
    .rw[l b g]at e;cases e;cases d
  have y:∀{b:Addr}{m:Str->Option Value},f.heap.Ns b m->(km f.heap H).Ns b m:=λ{b m} ⟨o,S,O,e,d,r⟩=>⟨o,S,O,j e (ah e d),d,r⟩
  have L:K.In (km f.heap H):=λb o e=>j (KX b o e) (by
   cases q:H b with
   | none=>rfl
   | some u =>
    rcases Y b u q with⟨rfl,_⟩ | ⟨g,_⟩
    .rw[hK (by rw[q];simp)]at e;cases e
    .rw[ap b g]at e;cases e)
  have hM:Mod K mg (km f.heap H):=⟨L,y J,⟨mb,y g,aS⟩,let ⟨mc,h1,h2⟩:=I;⟨mc,y h1,h2⟩⟩
  have hB:Bm mg (km f.heap H):=by
   obtain⟨bm,ob,b1,b2,b3,b4,b5⟩:=a0;exact⟨bm,ob,b1,j b2 (ab b2 (by rw[b3];simp) (λW n=>by rw[b5];intro z;cases z)),b3,b4,b5⟩
  have e0:Env0 P w K mg (km f.heap H) callerA [] f H:=⟨rfl,hM,λb o e=>t8 e,Nat.le_of_eq (qc _ _),trivial,λb g=>absurd (show b∈([]:List Addr) from g) (by simp),N,.of_eq hg⟩
  refine codeAny_mono ((F _ L (y J) hB).run callerA [] f H ⟨[.ref a],[]⟩ [.ref a] [.ref a] _ _ hr e0 (E f (.ref a)) (.cons rfl .nil) (an H hT hS)) λr s' h=>?_
  cases r with
  | error e=>exact(as H e s' h).elim
  | ok fl =>
   cases fl with
   | next=>exact False.elim h
   | brk=>exact False.elim h
   | cont=>exact False.elim h
   | ret u =>
    obtain⟨v,H',os,M,X,D,r',q⟩:=h;have q':v=.bl true:=q;subst q';obtain rfl:u=Value.bool true:=r';refine⟨rfl,⟨λb o e=>?_,λb o e=>X.there b o e (by simp)⟩,os,M⟩;cases q:H b with
    | none=>exact .inl (X.keep b o e q (by intro z;exact absurd (show b∈([]:List Addr) from z) (by simp)) (by simp))
    | some u =>
     rcases Y b u q with⟨_,ob,xs,rfl⟩ | ⟨g,rfl⟩
     .have z2:=X.frzs b ob _ q
      obtain⟨e1,_⟩:=N b _ q;obtain⟨e2,_⟩:=D b _ z2;rw[e]at e1;cases e1;exact .inl e2
     .obtain⟨c,hc⟩:=ad b g
      have C:=codeHd_of_K KX hc;obtain⟨A,z⟩:=X.tbls b _ q;have z2:s'.heap.get? b=some (tabObj (#[]++A)):=D b _ z;rw[l b g]at e;cases e;exact .inr (.inl ⟨(C.tab (l b g)).isCodeTable,rfl,#[],A,rfl,z2⟩)
 let T:Hp:=λb=>if b∈p then some (.tbl #[]) else none
 cases hk:K.lookup a with
 | some o =>
  have e:=KX a o hk;rw[G]at e;cases e;refine B T (λP Z=>if_pos Z) (.inr ⟨_,vs.toArray,_,hk,rfl,rfl,rfl,by rw[size_toArray,Q];exact hl,by simpa using rv⟩) (λb u z=>?_) (λb u z=>?_) λz=>absurd (if_neg R) z
  .by_cases g:b∈p
   .have i:=(if_pos g).symm.trans z
    cases i;exact l b g
   .have i:=(if_neg g).symm.trans z
    cases i
  .by_cases g:b∈p
   .have i:=(if_pos g).symm.trans z
    cases i;exact .inr ⟨g,rfl⟩
   .have i:=(if_neg g).symm.trans z
    cases i
 | none =>
  refine B (λb=>if b=a then some (.frz { cls:=.type "list",data:=.seq vs.toArray } (.lst (ns.map V.int))) else T b) (λP Z=>?_) (.inl (.inr ⟨{ cls:=.type "list",data:=.seq vs.toArray },if_pos rfl⟩)) (λb u z=>?_) (λb u z=>?_) λ_=>hk
  .have al:P≠a:=λz=>R (by rw[<- z];exact Z)
   exact(if_neg al).trans (if_pos Z)
  .by_cases g:b=a
   .have i:=(if_pos g).symm.trans z
    cases i;subst g;exact⟨G,by rw[length_map];exact hl,vs,_,rv,G⟩
   .have i:=(if_neg g).symm.trans z
    by_cases g:b∈p
    .have i:=(if_pos g).symm.trans i
     cases i;exact l b g
    .have i:=(if_neg g).symm.trans i
     cases i
  .by_cases g:b=a
   .have i:=(if_pos g).symm.trans z
    cases i;exact .inl ⟨g,_,_,rfl⟩
   .have i:=(if_neg g).symm.trans z
    by_cases g:b∈p
    .have i:=(if_pos g).symm.trans i
     cases i;exact .inr ⟨g,rfl⟩
    .have i:=(if_neg g).symm.trans i
     cases i
theorem walk_ofT{l:PySem.W.OpenLaw}{n k:Nat}{q:Program}{j:List Str}{S:(Str->Option Value)->Heap->Prop}{I:World->Heap->Prop}{d:DefRec}{K:Params->Frag}{CX:CXT}{sp:Frag->List Addr->Sp}{x:Str}{b:List Addr}
  (hn:l.most=some n) (y:n<=sizeLine) (r:d.params.defaults=[]) (W:Room k callerA)
  (T:∀(w:World) (h:Heap),I w h->(K w.params).In h/\∀ P∈b,h.get? P=some (tabObj #[]))
  (F:∀(ts':List Addr),ts'=b->∀(w:World) (mg:Str->Option Value) (fa:Addr) (h:Heap),(K w.params).In h->h.Ns mainGlobals mg->mg d.name=some (.ref fa) ->
   ∃ fd:FuncData,(∀(s:Shared) (u:Value),BindsTo s fd ⟨[u],[]⟩ [(x,u)])/\(∀ P∈b,∃ c,codeHdIn (K w.params) c P=true)/\(∀ P∈b,(K w.params).lookup P=none) /\
    ∀ base:Heap,(K w.params).In base->base.Ns mainGlobals mg->Bm mg base->FnOk l.prog w (K w.params) mg base CX k fa fd [x] (sp (K w.params) b))
  (A:∀(K:Frag) (H:Hp) (a:Addr) (ns:List Int),ns.length<=n->(∀ P∈b,H P=some (.tbl #[]))->SqL K H a (ns.map V.int)->sp K b [.ref a] H (λv _=>v=.bl true) λ_ _ _=>False)
  (C:∀(H:Hp) (s:Shared) (e:Value) (s':Shared),CX [] H s (λ_ _ _=>False) e s'->False) :
  PySem.W.WalkO q j S I l.row.toRowW d [] (λf vs=>PySem.call f vs):=by
 refine Att.attach_call hn r λw J i mg mb fa o pm cd Q a vs ns G Y ho hd N B p m g R=>?_
 obtain⟨L,O⟩:=T w _ Y;obtain⟨fd,hb,z,D,M⟩:=F b rfl w mg fa _ L G.T.g B;have E:Bm mg i.heap:=let ⟨bm,ob,b1,_,b3,b4,b5,b6⟩:=G.T.bmain;⟨bm,ob,b1,b3,b4,b5,b6⟩;exact qe L G.T.g G.T.b G.T.builtins G.T.nolimit R p m (Nat.le_trans g y) W E O z D M hb (λH Z X=>A (K w.params) H a ns g Z X) λH e s'=>C H i e s'
end L2
namespace FrM
def hX(t b:Int):Int×Int:=(t/(Int.gcd t b:Int),b/(Int.gcd t b:Int))
theorem m6{t b:Int}(a:0<b):Low t b (hX t b).1 (hX t b).2:=(low t b a).2.2.1
theorem wC{T B t b:Int}(c:0<B)(h:Low T B t b):(t,b)=hX T B:=by
 obtain⟨a,d⟩:=h.uniq (by lia) (m6 c);rw[a,d]
def sz(z:List Int)(k:Nat):Int:=z.getD k 0
def aU(z:List Int)(l:List Nat):Int:=(l.map (sz z)).sum
def stay(z:List Int)(l:List Nat)(w:Int):List Nat:=l.filter λk=>decide (sz z k*w<aU z l)
theorem iw(z:List Int)(l:List Nat)(w:Int):(stay z l w).length<=l.length:=length_filter_le _ _
def fin(z:List Int)(l:List Nat)(w:Int):List Nat×Int :=
 if (stay z l w).length=l.length then (l,w) else fin z (stay z l w) (w - ((l.length:Int) - ((stay z l w).length:Int)))
termination_by l.length
decreasing_by
 have:=iw z l w;lia
theorem iB{z:List Int}{l:List Nat}{w:Int}(h:(stay z l w).length=l.length):fin z l w=(l,w):=by
 rw[fin,if_pos h]
theorem lQ{z:List Int}{l:List Nat}{w:Int}(h:(stay z l w).length≠l.length):fin z l w=fin z (stay z l w) (w - ((l.length:Int) - ((stay z l w).length:Int))):=by
 rw[fin,if_neg h]
theorem eM(z:List Int):∀(l:List Nat),(∀ k∈l,1<=sz z k)->(l.length:Int)<=aU z l
 | [],_=>by simp[aU]
 | a::l,h=>by
  have:=eM z l (λk b=>h k (mem_cons_of_mem _ b));have c:=h a mem_cons_self;unfold aU at *;rw[map_cons,sum_cons,length_cons];lia
theorem ju(z:List Int)(M:Int):∀(l:List Nat),(∀ k∈l,sz z k<=M)->aU z l<=(l.length:Int)*M
 | [],_=>by simp[aU]
 | a::l,h=>by
  have:=ju z M l (λk b=>h k (mem_cons_of_mem _ b));have c:=h a mem_cons_self;unfold aU at *;rw[map_cons,sum_cons,length_cons];have e:((l.length+1:Nat):Int)*M=(l.length:Int)*M+M:=by rw[Int.natCast_add,Int.add_mul];simp
  rw[e];lia
theorem fK(z:List Int)(w S:Int):∀(l:List Nat),(∀ k∈l,S<=sz z k*w)->(l.length:Int)*S<=aU z l*w
 | [],_=>by simp[aU]
 | a::l,h=>by
  have:=fK z w S l (λk b=>h k (mem_cons_of_mem _ b));have c:=h a mem_cons_self;unfold aU at *;rw[map_cons,sum_cons,length_cons,Int.add_mul];have e:((l.length+1:Nat):Int)*S=(l.length:Int)*S+S:=by rw[Int.natCast_add,Int.add_mul];simp
  rw[e];lia
theorem mP{z:List Int}{l:List Nat}{w:Int}(hz:∀ k∈l,1<=sz z k)(i:w<l.length)(f:0<l.length):0<(stay z l w).length:=by
 by_cases h:0<(stay z l w).length
 .exact h
 .exfalso
  have e:stay z l w=[]:=length_eq_zero_iff.mp (by lia)
  have a:∀ k∈l,aU z l<=sz z k*w:=λk c=>by
   have:=(List.filter_eq_nil_iff.mp e) k c;simp at this;exact this
  have b:=fK z w (aU z l) l a;have g:=eM z l hz;have d:0<aU z l:=by lia
  rw[Int.mul_comm (aU z l) w]at b;have:=Int.le_of_mul_le_mul_right b d;lia
structure Rnd(z:List Int)(n:Nat)(m:Int)(l:List Nat)(w:Int):Prop where
 pos:0<l.length
 sub:∀ k∈l,k<n
 lt:w<l.length
 dif:w - l.length=m - n
 fil:l=(List.range n).filter λk=>decide (k∈l)
theorem Rnd.len{z:List Int}{n:Nat}{m:Int}{l:List Nat}{w:Int}(h:Rnd z n m l w):l.length<=n:=by
 have e:=congrArg List.length h.fil;have:=length_filter_le (λk=>decide (k∈l)) (List.range n);rw[length_range]at this;lia
theorem Rnd.start{z:List Int}{n:Nat}{m:Int}(c:0<n)(b:m<n):Rnd z n m (List.range n) m:=by
 refine⟨by rw[length_range];exact c,λk a=>mem_range.mp a,by rw[length_range];exact b,by rw[length_range],?_⟩;rw[List.filter_eq_self.mpr];intro k a;exact decide_eq_true a
theorem Rnd.step{z:List Int}{n:Nat}{m:Int}{l:List Nat}{w:Int}(hz:∀ k,k<n->1<=sz z k)(h:Rnd z n m l w):Rnd z n m (stay z l w) (w - ((l.length:Int) - ((stay z l w).length:Int))):=by
 have b:=mP (λk a=>hz k (h.sub k a)) h.lt h.pos;refine⟨b,λk a=>h.sub k (mem_filter.mp a).1,by have:=h.lt;lia,by have:=h.dif;lia,?_⟩
 have e:(List.range n).filter (λk=>decide (k∈stay z l w))=((List.range n).filter λk=>decide (k∈l)).filter λk=>decide (sz z k*w<aU z l):=by
  rw[List.filter_filter];refine List.filter_congr λk _=>?_
  rw[Bool.eq_iff_iff];simp[stay];exact And.comm
 rw[e,<- h.fil];rfl
theorem Rnd.fin{z:List Int}{n:Nat}{m:Int}(hz:∀ k,k<n->1<=sz z k):∀(c:Nat) (l:List Nat) (w:Int),l.length<=c->Rnd z n m l w->Rnd z n m (fin z l w).1 (fin z l w).2
 | 0,l,w,hc,h=>absurd h.pos (by lia)
 | c+1,l,w,hc,h=>by
  by_cases e:(stay z l w).length=l.length
  .rw[iB e];exact h
  .rw[lQ e]
   have:=iw z l w;exact Rnd.fin hz c _ _ (by lia) (h.step hz)
theorem ww{N S t b:Int}(g:0<S)(h:Low N S t b):b<=S/\t.natAbs<=N.natAbs:=by
 have j:=h.pos;have d:b ∣ S:=lK h.cop ⟨N,by rw[h.eq,Int.mul_comm]⟩;have a:=Int.le_of_dvd g d;refine⟨a,?_⟩;have e:=congrArg Int.natAbs h.eq;rw[Int.natAbs_mul,Int.natAbs_mul]at e;have f:b.natAbs<=S.natAbs:=by lia
 have i:0<S.natAbs:=by lia
 have c:N.natAbs*b.natAbs<=N.natAbs*S.natAbs:=Nat.mul_le_mul_left _ f;rw[<- e]at c;exact Nat.le_of_mul_le_mul_right c i
def due(z:List Int)(m:Int):List (Int×Int) :=
 if (z.length:Int)<=m then z.map λ_=>(1,1) else if m=0 then z.map λ_=>(0,1)
 else (List.range z.length).map λk=>if decide (k∈(fin z (List.range z.length) m).1)=true then hX (sz z k*(fin z (List.range z.length) m).2) (aU z (fin z (List.range z.length) m).1) else (1,1)
theorem dc(z:List Int)(m:Int):(due z m).length=z.length:=by
 unfold due
 split
 .simp
 .split <;> simp
end FrM
namespace L2
open PySem PySem.Spec PyProof.Rows
def mf:List V->List Value->Bool
 | [],[]=>true
 | .int i::xs,.int j _::us=>decide (i=j) && mf xs us
 | _,_=>false
theorem i9:∀{xs:List V}{us:List Value},mf xs us=true->Vals xs us
 | [],[],_=>.nil
 | .int i::xs,.int j t::us,h=>by
  have h:(decide (i=j) && mf xs us)=true:=h;rw[Bool.and_eq_true]at h;have e:=of_decide_eq_true h.1;exact .cons ⟨t,by rw[e]⟩ (i9 h.2)
def jy(K:Frag)(a:Addr)(xs:List V):Bool :=
 match K.lookup a with
 | some o =>
  (match o.cls with
  | .type t=>t == "tuple"
  | _=>false) &&
  (match o.data with
  | .seq its _=>decide (its.size<=1000) && mf xs its.toList
  | _=>false)
 | none=>false
theorem lm{K:Frag}{H:Hp}{a:Addr}{xs:List V}(h:jy K a xs=true):SqT K H a xs:=by
 unfold jy at h
 split at h
 .rename_i o e
  rw[Bool.and_eq_true]at h;obtain⟨c,b⟩:=h
  split at c
  .rename_i t ec
   split at b
   .rename_i its n ed
    rw[Bool.and_eq_true]at b;refine .inr ⟨o,its,n,e,by rw[ec,beq_iff_eq.mp c],ed,?_,i9 b.2⟩;have:=of_decide_eq_true b.1;have:sizeLine=16777216:=sizeLine_eq;lia
   .cases b
  .cases c
 .cases h
def TyS(K:Frag)(H:Hp)(x:V)(t:Value):Prop:=TyOf K H x t\/∃ a xs,x=.ref a/\t=.type "tuple" /\ SqT K H a xs
section
variable {X:Cx}
open PySem.W in
theorem xB{b:List (Addr×Obj)}{g:St}{H:Hp}{s:Shared}{x:V}{u t:Value}(I:Inv X b g H s)(d:RelV x u)(ty:TyS X.K H x t) :
  ∃ Hh:Heap->Prop,KitX X.K u t Hh/\Hh s.heap/\u≠.builtin "__main__.__loader__#opaque" := by
 rcases ty with ty | ⟨a,i,rfl,rfl,h⟩
 .exact rX I d ty
 .cases(show u=Value.ref a from d)
  obtain⟨f,k,p,j⟩:=I.tuple h;exact⟨_,kitx_tuple,let ⟨o,e,c,_⟩:=p;⟨o,e,c⟩,λz=>nomatch z⟩
theorem eX:bootBuiltins "sum" = some (.builtin "sum"):=by decide +kernel
theorem ge:∀{ns:List Int}{us:List Value},Vals (ns.map V.int) us->IntsAre us ns
 | [],_,.nil=>.nil
 | n::ns,_,.cons r t=>by
  obtain⟨a,rfl⟩:=r;exact .cons _ _ (ge t)
inductive rSumI(K:Frag)(xs:List V)(H:Hp)(Q:VK):Prop
 | mk(p:Addr)(ns:List Int)(h0:xs=[.ref p])(h1:SqL K H p (ns.map V.int))(h2:Q (.int ns.sum) H):rSumI K xs H Q
theorem dh(j:X.calm=true):CallR X (.builtin "sum") (rSumI X.K):=by
 intro c s x H xs A Q I r h;obtain⟨p,a,rfl,l,q⟩:=h;obtain⟨u,rfl,o⟩:=fX r;cases o;obtain⟨b,f,i,y⟩:=I.list l;have d:=ge f;obtain⟨xs,e⟩:=d.allInts.items;have m:(numsOf b)=a:=d.numsOf;refine sum_intListG (I.ok.hd j) (xs:=xs) (by rw[<- e];exact i.isList) λz w v g=>?_
 have k:preSum (numAt xs) xs.size=a.sum:=by
  rw[preSum_eq,take_of_length_le (by simp),<- m,<- nums_intItems,<- e]
 rw[k];exact⟨.int a.sum,H,I.kept g,⟨_,rfl⟩,q⟩
theorem iA(z:X.calm=true):CallR X (.type "list") (λxs H Q=>∃(p:Addr) (n:Nat),xs=[.ref p]/\n<=1000/\H p=some (.rng 0 (n:Int))/\∀ l,H l=none->Q (.ref l) (upd H l (.lst ((List.range n).map λ(i:Nat)=>V.int (i:Int))))):=by
 intro f s F H xs K Q I r h;obtain⟨p,n,rfl,L,e,q⟩:=h;obtain⟨u,rfl,k⟩:=fX r;cases k
 obtain⟨t,E,G,g⟩:=(show ObjOk X.prog X.w H s.heap p (.rng 0 (n:Int)) from I.hok p _ e)
 refine call_list_range (n:=n) (I.ok.hd z) g (small_one (by decide) (by decide) (by lia) (by lia)) (by rw[rangeSize_one];split <;> lia) (by lia) λJ B d c w C A=>?_
 refine⟨.ref s.heap.objs.size,_,I.laid (t':=B) (o:=.lst ((List.range n).map λ(i:Nat)=>V.int (i:Int))) w (Nat.le_refl _) ?_,rfl,q _ (I.hok.fresh (Nat.le_refl _))⟩;obtain⟨y,v⟩:=A;refine⟨by rw[length_map,length_range,sizeLine_eq];lia,d.toList,c,pB (by rw[length_map,length_range];simpa using y.symm) λi x u a j=>?_,C⟩;rw[List.getElem?_map]at a
 have b:i<n:=by
  by_cases b:i<n
  .exact b
  .rw[List.getElem?_eq_none (by rw[length_range];lia)]at a
   cases a
 rw[List.getElem?_range b]at a;cases a;obtain⟨m,D⟩:=v i u (by simpa using j);refine(show ∃ t',u=Value.int (i:Int) t' from⟨m,?_⟩);rw[D]
 congr 1
 lia
end
def dE:Expr:=.Name "" ⟨0,0,0,0⟩
def lD(st:Stmt)(i:Nat):Stmt:=(ak st).getD i (.Pass ⟨0,0,0,0⟩)
def lN:Stmt->Expr
 | .Return (some e) _=>e
 | _=>dE
def om:Expr->Nat->Expr
 | .Call _ es _ _,i=>es.getD i dE
 | _,_=>dE
def uC:Expr->Nat->Expr
 | .List es _,i=>es.getD i dE
 | _,_=>dE
def uD:Expr->Nat->Expr
 | .Tuple es _ _,i=>es.getD i dE
 | _,_=>dE
def iD(q:Str):Expr->LamD
 | .Lambda p b s _=>⟨q,p,b,s⟩
 | _=>⟨q,default,dE,default⟩
def lB:Expr->Pos
 | .Lambda _ _ _ p=>p
 | _=>⟨0,0,0,0⟩
theorem fm:bootBuiltins "sorted" = some (.builtin "sorted"):=by decide +kernel
theorem ej:∀{us:List Value}{ns:List Int},IntsAre us ns->Vals (ns.map V.int) us
 | _,_,.nil=>.nil
 | _,_,.cons n t h=>.cons ⟨_,rfl⟩ (ej h)
theorem eA{X:Cx}:CallR X (.builtin "sorted") (λxs H Q=>∃(p:Addr) (ns:List Int),xs=[.ref p]/\SqL X.K H p (ns.map V.int)/\ns.length<64/\∀ q (ns':List Int),ns'.Perm ns->ns'.Pairwise (·<=·)->H q=none->Q (.ref q) (upd H q (.lst (ns'.map V.int)))):=by
 intro i s C H xs F Q I r h;obtain⟨p,ns,rfl,y,E,q⟩:=h;obtain⟨u,rfl,B⟩:=fX r;cases B;obtain⟨d,j,v,D⟩:=I.list y;have w:=ge j;have k:d.length=ns.length:=by have:=j.length;rw[length_map]at this;exact this.symm
 refine sorted_ints v.isList w (by lia) λc ns' x g m=>?_
 obtain⟨e,l⟩:=sortedAll_at s.heap d c;have A:H (s.heap.objs.size+1)=none:=I.hok.fresh (Nat.le_succ _);have f:sizeLine=16777216:=sizeLine_eq;refine⟨.ref (s.heap.objs.size+1),_,I.laid (a:=s.heap.objs.size+1) (o:=.lst (ns'.map V.int)) (t':=s.toks) (λb u z=>sortedAll_old z) (Nat.le_succ _) ⟨?_,c.toList,e,ej x,?_⟩,rfl,q _ ns' g m A⟩
 .rw[length_map,g.length_eq];lia
 .rw[l,Array.toArray_toList]
section
variable {X:Cx}{e:Expr}{es:List Expr}{pos:Pos}
theorem wj{K:Frag}(h:X.K=K)(a:X.A.units+64<cLine):OpR X (compareOp .Eq) (rEqD K false):=h ▸ sI a
end
section
variable {X:Cx}
inductive rCount(K:Frag)(x:V)(vs:List V)(H:Hp)(Q:VK):Prop
 | mk(l:Addr)(xs:List V)(ds:List PyData)(y:V)(d:PyData)(h0:x=.ref l)(h1:vs=[y])(h2:H l=some (.lst xs))(h3:DVs K H ds xs)(h4:DV K H d y)(h5:PyData.canLayAll0 ds=true)(h6:d.canLay0=true)(h7:d.depth<=60)
   (h8:Q (.int ((ds.countP λz=>PyData.eqv z d:Nat):Int)) H):rCount K x vs H Q
theorem rV(C:X.A.units+64<cLine):MtM X "list.count" (rCount X.K):=by
 intro f s E H x J v L Q I B k h;obtain⟨l,xs,b,y,d,rfl,rfl,p,c,A,g,m,G,q⟩:=h;cases B;obtain⟨u,rfl,j⟩:=k.one;obtain⟨z,a,n,r,K,e⟩:=I.lstM p;obtain⟨as,i⟩:=DVs.reads I c r;obtain⟨D,w⟩:=A.reads I j;refine call_meets F.slot_list_count ⟨_,e,rfl⟩ F.entry_list_count (F.args_list_count_2 _ _) (SeqAt.list_countAt l a.toArray n none #[] u (λy=>PyData.eqv (SeqAt.readOf s.heap y) d)) ⟨e,SeqAt.items_eqAt (xs:=b) (as:=as) (by simpa using i) w g m ?_,?_⟩
 .have:min (PyData.depthAll b) d.depth<=d.depth:=Nat.min_le_right _ _
  lia
 .have o:a.toArray.toList.countP (λy=>PyData.eqv (SeqAt.readOf s.heap y) d)=b.countP λz=>PyData.eqv z d:=by
   rw[<- SeqAt.readsAll_map b a as g i,countP_map];rfl
  rw[o];exact⟨.int _,H,I.tok _,⟨_,rfl⟩,q⟩
variable {o e:Expr}{es:List Expr}{to:TE}{t:TA}{apos cpos:Pos}
theorem pe_m.count(h:X.A.units+64<cLine)(g:PE X o to)(i:PA X (e::es) t)(b:attributeBase o "count" X.env (eval o X.env)=eval o X.env:=by rfl)
  (d:((backTo cpos (starEach (e::es) X.env)).all (λx=>!x.1) && (backToKw cpos (keywordEach [] X.env)).all (λx=>x.1.isSome) && decide ((e::es).length+([]:List Keyword).length+(if ([]:List Keyword).isEmpty then 0 else 1)<30))=true:=by rfl)
  (c:(apos.endLine == cpos.line)=true:=by rfl) (f:starEach (e::es) X.env=(false,eval e X.env)::starEach es X.env:=by rfl) (a:(backTo cpos (starEach es X.env)).any (·.1)=false:=by rfl) :
  PE X (.Call (.Attribute o "count" apos) (e::es) [] cpos) (tBM X.K "list" (rCount X.K) to t):=rF F.plainAttrs_list F.slot_list_count F.type_list_count (rV h) g i b d c f a
def kT(xs:List V)(lo:Option Int)(c:Int):List V:=(sliceRange (sliceBounds lo none (some c) xs.length).1 (sliceBounds lo none (some c) xs.length).2.1 (sliceBounds lo none (some c) xs.length).2.2).filterMap (xs[·]?)
theorem Vals.picks{xs:List V}{us:List Value}(r:Vals xs us):∀(ps:List Nat),Vals (ps.filterMap (xs[·]?)) (ps.filterMap (us[·]?))
 | []=>.nil
 | p::ps=>by
  rw[filterMap_cons,filterMap_cons];cases h:xs[p]? with
  | none =>
   have c:xs.length<=p:=List.getElem?_eq_none_iff.mp h;rw[List.getElem?_eq_none (by rw[<- r.length];exact c)];exact Vals.picks r ps
  | some x =>
   obtain⟨u,a,b⟩:=r.get h;rw[a];exact .cons b (Vals.picks r ps)
theorem qr(xs:List V)(lo:Option Int){c:Int}(a:0<c):(kT xs lo c).length<=xs.length:=by
 unfold kT;refine Nat.le_trans (List.length_filterMap_le _ _) ?_;refine sliceRange_length_le _ _ _ _ (λ_=>?_) (λh=>?_)
 .unfold sliceBounds
  simp only[Option.getD_some,a,if_true];cases lo with
  | none=>simp
  | some i =>
   simp only;refine⟨?_,Int.le_refl _⟩
   split <;> lia
 .have e:(sliceBounds lo none (some c) xs.length).2.2=c:=rfl
  rw[e]at h;exact absurd a h
theorem pW{lo:Option Expr}{C:Expr}{D:TE}{tl w:TO}{j J:Pos}(F:PE X e D)(hl:PO X lo tl)(m:PO X (some C) w):PE X (.Subscript e (.Slice lo none (some C) J) j)
  (λσ H Q=>D σ H λx H1=>tl σ H1 λl H2=>w σ H2 λu H3=>∃(a:Addr) (xs:List V) (c:Int),x=.ref a/\SqL X.K H3 a xs/\u=some c/\0<c/\∀ p,H3 p=none->Q (.ref p) (upd H3 p (.lst (kT xs l c)))):=by
 intro d s σ H Q I h;refine Subscript_ (thn (F d s σ H _ I h) λv Z ⟨x,H1,K,T,S⟩=>?_);refine wpAny_Slice (thn (hl d Z σ H1 _ K S) λA O ⟨l,H2,G,R,q2⟩=>?_);rw[evalPart_none];refine wpAny_pure (thn (m d O σ H2 _ G q2) λB f ⟨u,H3,N,M,a,xs,c,ex,E,L,P,q⟩=>?_);subst ex;subst L;have k:Inv X d σ H3 { f with heap:=f.heap.push { cls:=.type "slice",data:=.fields #[A,.none,B] } }:=N.kept (t':=f.toks) λb ob q=>Heap.get?_push_of_some _ q
 obtain rfl:v=Value.ref a:=T;obtain⟨i,r,y,Y⟩:=k.list E;have g:=r.length
 have W:wpAny (model X.prog X.w) X.A (getItem (.ref a) (.ref f.heap.objs.size)) (EP X d σ Q) X.xe { f with heap:=f.heap.push { cls:=.type "slice",data:=.fields #[A,.none,B] } }:=by
  refine wpAny_getItem_list_slice y.isList (Heap.IsSliceOf.new ..) R .none M (by intro z;cases z;lia) ?_ (by rw[size_toArray];lia)
  have ep:slicePick i.toArray l none (some c)=((sliceRange (sliceBounds l none (some c) xs.length).1 (sliceBounds l none (some c) xs.length).2.1 (sliceBounds l none (some c) xs.length).2.2).filterMap (i[·]?)).toArray:=by
   unfold slicePick;rw[size_toArray,<- g];simp
  rw[ep];refine⟨.ref _,_,k.laid (t':=f.toks) (o:=.lst (kT xs l c)) (λb ob q=>Heap.get?_push_of_some _ q) (Nat.le_refl _) ?_,rfl,q _ (k.hok.fresh (Nat.le_refl _))⟩;exact⟨Nat.le_trans (qr xs l P) Y,_,0,r.picks _,Heap.get?_push_size _ rfl⟩
 exact tail_any (ops:=[.ref a,.ref f.heap.objs.size]) y.isList.typeIs slot_list_getitem.lookup W (by with_unfolding_all rfl)
end
abbrev md(h:Heap)(z TI TO:Addr)(f0:Value)(b:Bool):Prop :=
 h.get? z=some { cls:=.type "zip",dict:=none,data:=.fields #[f0,.bool b,.bool false,.ref TI,.ref TO],slots:=#[] }
section
variable {prog:Program}{w:World}{A:Around}{E:Value->Shared->Prop}{s:Shared}
theorem vY{a:Addr}{o:Obj}{Q:Option Obj->Shared->Prop}(h:s.heap.get? a=some o)(c:Q (some o) s):wpAny (model prog w) A (loadIfAlive a) Q E s:=by
 intro b p hb;unfold loadIfAlive;rw[Sem.wp_loadIfAlive,h];exact(wpAny_pure (M:=model prog w) (A:=A) (E:=E) c) b p hb
theorem gR{z f g T:Addr}{b:Bool}{o:Obj}{Q:Bool->Shared->Prop}(hz:md s.heap z f g (rawInt T) b)(h:s.heap.get? T=some o)
  (e:∀ h',md h' z f g (rawInt T) true->Heap.SameBut z s.heap h'->Q false { s with heap:=h' }):wpAny (model prog w) A (Builtin.SmallTypes.ownedTupleIsFree (.ref z)) Q E s:=by
 unfold Builtin.SmallTypes.ownedTupleIsFree;refine wpAny_bind (wpAny_field hz rfl (x:=rawInt T) rfl ?_);show wpAny _ _ (loadIfAlive (Int.toNat (T:Int)) >>= _) _ _ s;rw[Int.toNat_natCast];refine wpAny_bind (vY h ?_);show wpAny _ _ (if (false=true) then _ else _) _ _ s;rw[if_neg Bool.false_ne_true];refine wpAny_bind (wpAny_field hz rfl (x:=.bool b) rfl ?_);cases b with
 | true =>
  rw[if_neg (by decide)];exact wpAny_pure (e _ hz ⟨rfl,λ_ _=>rfl⟩)
 | false =>
  rw[if_pos (by decide)];exact wpAny_bind (wpAny_setField_rec hz (by simp) λd c a=>wpAny_pure (e d c a))
theorem ke{z p u i j B C T:Addr}{b:Bool}{o:Obj}{K L:Nat}{xs ys:Array Value}{x y:Value}{Q:Value->Shared->Prop}(D:ZipApart z p u i j B C)
  (hz:md s.heap z p u (rawInt T) b) (O:s.heap.get? T=some o) (J:IsPair s.heap p (.ref i) (.ref j))
  (X:s.heap.IsListIter i B K) (Z:s.heap.IsListIter j C L) (I:s.heap.IsList B xs) (H:s.heap.IsList C ys) (S:xs[K]? = some x) (hy:ys[L]? = some y)
  (W:∀ h',md h' z p u (rawInt T) true->h'.IsListIter i B (K+1)->h'.IsListIter j C (L+1)->IsPair h' s.heap.objs.size x y->h'.objs.size=s.heap.objs.size+1 ->
   (∀ c o,c≠z->c≠i->c≠j->s.heap.get? c=some o->h'.get? c=some o)->(∃ o,h'.get? T=some o)->Q (.ref s.heap.objs.size) { s with heap:=h' }) :
  wpAny (model prog w) A (Builtin.«zip.__next__» ⟨[.ref z],[]⟩) (λfin s'=>∃ v,fin=.done (.ret v)/\Q v s') E s:=by
 show wpAny _ _ (field (.ref z) 2 >>= _) _ _ _;refine wpAny_bind (wpAny_field hz rfl (x:=.bool false) rfl ?_);show wpAny _ _ (field (.ref z) 3 >>= _) _ _ _;refine wpAny_bind (wpAny_field hz rfl (x:=.ref p) rfl ?_);refine wpAny_bind (wpAny_seqItems J rfl ?_);show wpAny _ _ (Builtin.SmallTypes.ownedTupleIsFree (.ref z) >>= _) _ _ _;refine wpAny_bind (gR hz O λP k a=>?_);simp only[Bool.false_eq_true,if_false];refine wpAny_bind ?_;rw[<- Array.forIn_toList];simp only[forIn_cons,List.forIn_nil];have a1:=X.extBut a.extBut D.i1z;have Y:=Z.extBut a.extBut D.i2z;have b1:=I.extBut a.extBut D.l1z;have b2:=H.extBut a.extBut D.l2z;refine wpAny_bind (wpAny_bind (wpAny_holding ?_));show wpAny _ _ (Builtin.SmallTypes.nextOf (.ref i) >>= _) _ _ _;refine wpAny_bind (wpAny_nextOf_list_item a1 b1 S λN G d=>wpAny_pure (wpAny_pure ?_));refine wpAny_bind (wpAny_bind (wpAny_holding ?_));show wpAny _ _ (Builtin.SmallTypes.nextOf (.ref j) >>= _) _ _ _;refine wpAny_bind (wpAny_nextOf_list_item (Y.extBut d.extBut D.i12.symm) (b2.extBut d.extBut D.l2i1) hy λf r g=>wpAny_pure (wpAny_pure (wpAny_pure ?_)));show wpAny _ _ (newTuple [x,y] >>= λv=>ret v) _ _ _;refine wpAny_bind (wpAny_newTuple (wpAny_pure ⟨_,rfl,?_⟩));have m:f.objs.size=s.heap.objs.size:=by rw[g.1,d.1,a.1]
 have R:∀ c o,c≠z->c≠i->c≠j->s.heap.get? c=some o->f.get? c=some o:=λc o G r c3 e=>g.extBut _ _ c3 (d.extBut _ _ r (a.extBut _ _ G e))
 have h:md f z p u (rawInt T) true:=g.extBut _ _ D.i2z.symm (d.extBut _ _ D.i1z.symm k);have q:=G.extBut g.extBut D.i12;show Q (.ref f.objs.size) _;rw[m]
 have l:∃ o,f.get? T=some o:=by
  by_cases e1:T=z
  .rw[e1];exact⟨_,h⟩
  by_cases e2:T=i
  .obtain⟨o,F,_⟩:=q;rw[e2];exact⟨o,F⟩
  by_cases e3:T=j
  .obtain⟨o,F,_⟩:=r;rw[e3];exact⟨o,F⟩
  exact⟨_,R _ _ e1 e2 e3 O⟩
 obtain⟨oT,M⟩:=l;refine W _ (Heap.get?_push_of_some _ h) (q.at λo e=>Heap.get?_push_of_some _ e) (r.at λo e=>Heap.get?_push_of_some _ e) ?_ ?_ (λc o n1 n2 n3 e=>Heap.get?_push_of_some _ (R c o n1 n2 n3 e)) ⟨oT,Heap.get?_push_of_some _ M⟩
 .have:=Heap.get?_push_size f (o:={ cls:=.type "tuple",data:=.seq #[x,y] }) rfl
  rw[m]at this;exact this
 .rw[Heap.size_push,m]
theorem lM{z h p f q l I T:Addr}{b:Bool}{o:Obj}{r:Nat}{xs:Array Value}{Q:Fin->Shared->Prop}(G:A.handled=none)(D:ZipApart z h p f q l I)
  (hz:md s.heap z h p (rawInt T) b) (F:s.heap.get? T=some o) (k:IsPair s.heap h (.ref f) (.ref q))
  (y:s.heap.IsListIter f l r) (j:s.heap.IsList l xs) (u:xs[r]? = none)
  (H:∀ h' e,(∀ c o,c≠z->c≠f->s.heap.get? c=some o->h'.get? c=some o)->(∃ o,h'.get? e=some o/\o.cls=.type "StopIteration")->E (.ref e) { s with heap:=h' }) :
  wpAny (model prog w) A (Builtin.«zip.__next__» ⟨[.ref z],[]⟩) Q E s:=by
 show wpAny _ _ (field (.ref z) 2 >>= _) _ _ _;refine wpAny_bind (wpAny_field hz rfl (x:=.bool false) rfl ?_);show wpAny _ _ (field (.ref z) 3 >>= _) _ _ _;refine wpAny_bind (wpAny_field hz rfl (x:=.ref h) rfl ?_);refine wpAny_bind (wpAny_seqItems k rfl ?_);show wpAny _ _ (Builtin.SmallTypes.ownedTupleIsFree (.ref z) >>= _) _ _ _;refine wpAny_bind (gR hz F λm i a=>?_);simp only[Bool.false_eq_true,if_false];refine wpAny_bind ?_;rw[<- Array.forIn_toList];simp only[forIn_cons,List.forIn_nil];refine wpAny_bind (wpAny_bind (wpAny_holding ?_));show wpAny _ _ (Builtin.SmallTypes.nextOf (.ref f) >>= _) _ _ _;refine wpAny_bind (wpAny_nextOf_list_end G (y.extBut a.extBut D.i1z) (j.extBut a.extBut D.l1z) u λg e d v=>?_);exact H g e (λc o B C x=>d _ _ C (a.extBut _ _ B x)) v
structure ZS(h:Heap)(z TI TO i1 i2 l1 l2:Addr)(xs ys:Array Value)(i:Nat):Prop where
 zo:(md h z TI TO .none false)\/∃(T:Addr) (o:Obj) (b:Bool),md h z TI TO (rawInt (T:Nat)) b/\h.get? T=some o
 ti:IsPair h TI (.ref i1) (.ref i2)
 to:∃ a b,IsPair h TO a b
 j1:h.IsListIter i1 l1 i
 j2:h.IsListIter i2 l2 i
 q1:h.IsList l1 xs
 q2:h.IsList l2 ys
theorem tK{z r k h l G H:Addr}{i:Nat}{xs ys:Array Value}{x y:Value}{Q:Option Value->Shared->Prop}(D:ZipApart z r k h l G H)(Z:ZS s.heap z r k h l G H xs ys i)(I:xs[i]? = some x)(L:ys[i]? = some y)
  (J:∀ h',ZS h' z r k h l G H xs ys (i+1)->IsPair h' s.heap.objs.size x y->(∀ c o,c≠z->c≠k->c≠h->c≠l->s.heap.get? c=some o->h'.get? c=some o)->Q (some (.ref s.heap.objs.size)) { s with heap:=h' }) :
  wpAny (model prog w) A (pyNext (.ref z)) Q E s:=by
 obtain⟨O,g,⟨a,b,N⟩,M,K,m,q⟩:=Z
 rcases O with p | ⟨T,o,Y,p,R⟩
 .refine wpAny_pyNext_zip_item D p g N M K m q I L λh' u W v C j P d=>J h' ⟨.inr ⟨_,_,_,u,j⟩,d _ _ D.TIz D.TITO D.TIi1 D.TIi2 g,⟨_,_,W⟩,v,C,m.at λo e=>d _ o D.l1z D.l1TO D.l1i1 D.l1i2 e,q.at λo e=>d _ o D.l2z D.l2TO D.l2i1 D.l2i2 e⟩ j d
 .have f:s.TypeIs (.ref z) "zip" := ⟨_,p,rfl⟩
  unfold pyNext
  refine wpAny_bind (wpAny_attempt (wpAny_callSpecial?_slot (name:=Str.ofString "__next__") f F.slot_zip_next
   (wpAny_call_entry F.slot_zip_next f F.entry_zip_next
    (ke D p R g M K m q I L λh' u v C j P d S=>wpAny_pure (J h' ?_ j λc o c1 c2 c3 c4 e=>d c o c1 c3 c4 e)) (F.args_zip_next_1 _))))
  obtain⟨X,B⟩:=S;exact⟨.inr ⟨_,_,_,u,B⟩,d _ _ D.TIz D.TIi1 D.TIi2 g,⟨_,_,d _ _ D.TOz D.TOi1 D.TOi2 N⟩,v,C,m.at λo e=>d _ o D.l1z D.l1i1 D.l1i2 e,q.at λo e=>d _ o D.l2z D.l2i1 D.l2i2 e⟩
theorem wx{z m h g j v x:Addr}{i:Nat}{xs ys:Array Value}{Q:Option Value->Shared->Prop}(u:A.handled=none)(D:ZipApart z m h g j v x)(Z:ZS s.heap z m h g j v x xs ys i)(k:xs[i]? = none)
  (l:∀ h',(∀ c o,c≠z->c≠h->c≠g->c≠j->s.heap.get? c=some o->h'.get? c=some o)->Q none { s with heap:=h' }):wpAny (model prog w) A (pyNext (.ref z)) Q E s:=by
 obtain⟨H,p,⟨a,b,L⟩,q,G,r,N⟩:=Z
 rcases H with f | ⟨T,o,O,f,J⟩
 .exact wpAny_pyNext_zip_end u D f p L q G r N (.inl k) l
 .have d:s.TypeIs (.ref z) "zip" := ⟨_,f,rfl⟩
  unfold pyNext
  refine wpAny_bind (wpAny_attempt (wpAny_callSpecial?_slot (name:=Str.ofString "__next__") d F.slot_zip_next
   (wpAny_call_entry F.slot_zip_next d F.entry_zip_next (lM u D f J p q r k λh' e I y=>?_) (F.args_zip_next_1 _))))
  obtain⟨o,B,K⟩:=y;refine wpAny_bind (wpAny_isInstance (T := "StopIteration") (b:=true) ⟨o,B,K⟩ isSubtype_stop ?_);exact wpAny_pure (l _ λc o C _ M _ e=>I c o C M e)
theorem ZS.on{h h':Heap}{z c d f l g j:Addr}{xs ys:Array Value}{i:Nat}(Z:ZS h z c d f l g j xs ys i)(k:∀ b∈[z,c,d,f,l,g,j],∀ o,h.get? b=some o->h'.get? b=some o)(s:∀ b o,h.get? b=some o->∃ o',h'.get? b=some o'):ZS h' z c d f l g j xs ys i:=by
 obtain⟨p,v,⟨a,b,w⟩,r,x,u,q⟩:=Z;refine⟨p.imp (λh=>k z (by simp) _ h) (λ⟨T,o,b',hz,hT⟩=>?_),k c (by simp) _ v,⟨a,b,k d (by simp) _ w⟩,r.at λo e=>k f (by simp) o e,x.at λo e=>k l (by simp) o e,u.at λo e=>k g (by simp) o e,q.at λo e=>k j (by simp) o e⟩;obtain⟨o',m⟩:=s T o hT;exact⟨T,o',b',k z (by simp) _ hz,m⟩
end
theorem FpOk.on{X:Cx}{a:List (Addr×Obj)}{H c:Hp}{b:Addr}(h:FpOk X a H b)(e:c b=none):FpOk X a c b:=⟨e,h.2⟩
def Zp(H:Hp)(xs ys ps:List V):Prop:=∀(j:Nat) p x y,ps[j]? = some p->xs[j]? = some x->ys[j]? = some y->∃ q,p=.ref q/\H q=some (.tup [x,y])
theorem uQ{X:Cx}{A:Around}{R:Result->Shared->Prop}{d:List (Addr×Obj)}{M:St}{z Q m l r Y l2 S:Addr}{xs ys:List V}{us ws:List Value}{L:Value}{H0:Hp}(hh:A.in1.handled=none)(D:ZipApart z Q m l r Y l2)(hS:S ∉ [z,Q,m,l,r,Y,l2])(r1:Vals xs us)(r2:Vals ys ws)(hl:xs.length=ys.length)(hn:xs.length<=1000)(fS:H0 S=none) :
  ∀(k i:Nat) (s:Shared) (H:Hp) (ps:List V),xs.length - i=k->i<=xs.length->ZS s.heap z Q m l r Y l2 us.toArray ws.toArray i->Inv X d M H s->(∀ b∈[z,m,l,r],FpOk X d H b)->Same H0 H->H S=some (.lst ps)->ps.length=i->Zp H xs ys ps ->
   (∀ s' H' ps',Inv X d M H' s'->Same H0 H'->H' S=some (.lst ps')->ps'.length=xs.length->Zp H' xs ys ps'->R (.ok (.ret L)) s') ->
   codeAny (model X.prog X.w) A (.builtin "list.extend.loop" ⟨[.ref S,.ref z,L],[]⟩) R s:=by
 have sl:sizeLine=16777216:=sizeLine_eq;have e1:=r1.length;have e2:=r2.length;intro k
 induction k with
 | zero =>
  intro i s H ps hk hi T I P Z g K hp hR;have as:i=xs.length:=by lia
  subst as;refine codeAny_builtin F.entry_extend_loop ?_;rw[Around.under_plainId F.plain_extend_loop _];show wpAny _ A.in1 (pyNext (.ref z) >>= _) _ _ s;refine wpAny_bind (wx hh D T (by simp;lia) λN B=>?_);have J:Inv X d M H { s with heap:=N }:=I.turnedN (t':=s.toks) (ch:=[z,m,l,r]) (λc o f q=>B c o (λw=>f (by simp[w])) (λw=>f (by simp[w])) (λw=>f (by simp[w])) (λw=>f (by simp[w])) q) P;exact wpAny_pure (hR _ H ps J Z g K hp)
 | succ k ih =>
  intro i s H ps hk hi T I P Z g K hp hR;have u:i<xs.length:=by lia
  obtain⟨ux,ap,ah⟩:=r1.get (List.getElem?_eq_getElem u);obtain⟨uy,al,ab⟩:=r2.get (List.getElem?_eq_getElem (show i<ys.length by lia));refine codeAny_builtin F.entry_extend_loop ?_;rw[Around.under_plainId F.plain_extend_loop _];show wpAny _ A.in1 (pyNext (.ref z) >>= _) _ _ s;refine wpAny_bind (tK D T (by simpa using ap) (by simpa using al) λN ad hT B=>?_);have C:H s.heap.objs.size=none:=I.hok.fresh (Nat.le_refl _)
  have J:Inv X d M (upd H s.heap.objs.size (.tup [xs[i],ys[i]])) { s with heap:=N } :=
   I.turnedNew (t':=s.toks) (ch:=[z,m,l,r]) (λc o f q=>B c o (λw=>f (by simp[w])) (λw=>f (by simp[w])) (λw=>f (by simp[w])) (λw=>f (by simp[w])) q) P (Nat.le_refl _) ⟨by rw[sl];show 2<=16777216;decide,[ux,uy],.cons ah (.cons ab .nil),_,hT,rfl,0,rfl⟩
  have nS:S≠s.heap.objs.size:=ar g C;have O:(upd H s.heap.objs.size (.tup [xs[i],ys[i]])) S=some (.lst ps):=by rw[au nS];exact g
  obtain⟨_,its,n,rv,aS,eo⟩:=J.lstM O;show wpAny _ A.in1 (updateSeq S (·.push (.ref s.heap.objs.size)) >>= _) _ _ _;refine wpAny_bind ?_
  have J2:Inv X d M (upd (upd H s.heap.objs.size (.tup [xs[i],ys[i]])) S (.lst (ps++[.ref s.heap.objs.size]))) { s with heap:=N.update S (Obj.mapSeq (·.push (.ref s.heap.objs.size))) } :=
   J.lset (s:={ s with heap:=N }) (t':=s.toks) (its:=its) (its':=its++[.ref s.heap.objs.size]) O eo (by simp) (rv.append (.cons (show RelV (V.ref s.heap.objs.size) (.ref s.heap.objs.size) from rfl) .nil)) (by rw[length_append,length_singleton];lia)
  have an:∀ c∈[z,m,l,r],c≠s.heap.objs.size:=λc f q=>by
   have:∃ o,s.heap.get? c=some o:=by
    obtain⟨zo,ti,⟨a,b,to⟩,⟨o1,j1,_⟩,⟨o2,j2,_⟩,_⟩:=T;simp only[mem_cons,not_mem_nil,or_false]at f
    rcases f with rfl | rfl | rfl | rfl
    .rcases zo with h | ⟨_,_,_,h,_⟩
     .exact⟨_,h⟩
     .exact⟨_,h⟩
    .exact⟨_,to⟩
    .exact⟨_,j1⟩
    .exact⟨_,j2⟩
   obtain⟨o,ho⟩:=this;exact absurd (Heap.lt_size ho) (by rw[q];exact Nat.lt_irrefl _)
  have G:∀ c∈[z,Q,m,l,r,Y,l2],c≠S:=λc f q=>hS (by rw[<- q];exact f)
  refine wpAny_updateSeq eo rfl (wpAny_pure ⟨plainId_quiet F.plain_extend_loop _,ih (i+1) _ _ _ (by lia) u (ad.on (λb E o e=>(Heap.get?_update_other _ _ (G b E).symm).trans e) λb o e=>?_) J2 (λb E=>(P b E).on ?_) ((Z.put (Z.free C)).put fS) ac (by rw[length_append,length_singleton];lia) ?_ hR⟩) (by rw[size_toArray];lia) (by rw[Array.size_push,size_toArray];lia)
  .by_cases eb:b=S
   .subst eb
    exact⟨_,Heap.get?_update_self _ eo rfl⟩
   .exact⟨o,(Heap.get?_update_other _ _ (Ne.symm eb)).trans e⟩
  .rw[au (G b (by simp at E ⊢;rcases E with rfl | rfl | rfl | rfl <;> simp)),au (an b E)]
   exact(P b E).1
  .intro j p x y v h2 h3
   by_cases hj:j<ps.length
   .rw[List.getElem?_append_left hj]at v
    obtain⟨q,rfl,W⟩:=hp j p x y v h2 h3;refine⟨q,rfl,?_⟩;have nq:q≠S:=λe=>by rw[e,g]at W;cases W
    rw[au nq,au (ar W C)];exact W
   .rw[List.getElem?_append_right (by lia)]at v
    have:j=i:=by
     by_cases e:j - ps.length=0
     .lia
     .rw[List.getElem?_eq_none (by simp;lia)]at v;cases v
    subst this;rw[show j - ps.length=0 by lia]at v;cases v;rw[List.getElem?_eq_getElem u]at h2;cases h2;rw[List.getElem?_eq_getElem (by lia)]at h3;cases h3;exact⟨_,rfl,by rw[au nS.symm];exact ac⟩
theorem qA(n a b:Nat)(c:a<n)(d:b<n):ZipApart (n+4) (n+2) (n+3) n (n+1) a b:=by
 constructor <;> exact(show(_:Nat)≠(_:Nat) by lia)
theorem ue(n a b c:Nat)(d:a<n)(e:b<n)(h:c∈[n+4,n+2,n+3,n,n+1,a,b]):c≠n+5:=by
 simp only[mem_cons,not_mem_nil,or_false]at h;lia
theorem jL(n c:Nat)(h:c∈[n+4,n+3,n,n+1]):n<=c/\c≠n+5:=by
 simp only[mem_cons,not_mem_nil,or_false]at h;lia
theorem ox:typeLookup (.type "zip") (Str.ofString "__len__")=pure none:=by rw[typeLookup_type,builtinLookup_eq_fast];kernel_rfl
theorem m4:typeLookup (.type "zip") (Str.ofString "__length_hint__")=pure none:=by rw[typeLookup_type,builtinLookup_eq_fast];kernel_rfl
section
variable {prog:Program}{w:World}{A:Around}{E:Value->Shared->Prop}{s:Shared}{I:Addr}
theorem sO{Q:Bool->Shared->Prop}(a:s.TypeIs (.ref I) "zip")(h:Q true s):wpAny (model prog w) A (Builtin.List.listLengthHint (.ref I)) Q E s:=by
 unfold Builtin.List.listLengthHint;refine wpAny_bind (wpAny_specialOf a ox ?_);show wpAny _ A (specialOf (Value.ref I) (Str.ofString "__length_hint__") >>= _) _ _ _;refine wpAny_bind (wpAny_specialOf a m4 ?_);exact wpAny_pure h
end
section
variable {X:Cx}{e f:Expr}{ta:TA}{p1 p2 pos pos2:Pos}
def tLZ(ta:TA):TE:=λσ H Q=>ta σ H λvs H1=>∃(a b:Addr) (xs ys:List V),vs=[.ref a,.ref b]/\H1 a=some (.lst xs)/\H1 b=some (.lst ys)/\xs.length=ys.length/\xs.length<=1000 /\
 ∀ H' l ps,Same H1 H'->H1 l=none->H' l=some (.lst ps)->ps.length=xs.length->Zp H' xs ys ps->Q (.ref l) H'
theorem oP(hc:X.calm=true)(ab:Gl X "list")(aS:X.mg "list" = none)(ap:Gl X "zip")(as:X.mg "zip" = none)(ha:PA X [e,f] ta)
  (he:starEach [Expr.Call (.Name "zip" p2) [e,f] [] pos2] X.env=[(false,eval (.Call (.Name "zip" p2) [e,f] [] pos2) X.env)]:=by rfl) (hs:starEach [e,f] X.env=(false,eval e X.env)::starEach [f] X.env:=by rfl)
  (ah:(backTo pos2 (starEach [f] X.env)).any (·.1)=false:=by rfl) :
  PE X (.Call (.Name "list" p1) [.Call (.Name "zip" p2) [e,f] [] pos2] [] pos) (tLZ ta):=by
 intro i s W H Q I h;have sl:sizeLine=16777216:=sizeLine_eq;refine wpAny_Call_Name_kw (fO I ab aS gB ?_ (by decide) (by decide));refine PyProof.Rows.callWith_type1 (Calls.spliced_cons ?_) he rfl;refine wpAny_Call_Name_kw (fO I ap as sK ?_ (by decide) (by decide));refine PyProof.Rows.callWith_type1 (thn (ha pos2 i s W H _ I h) λus d ⟨vs,K,B,r1,a,b,xs,ys,O,hl,an,Z,hx,q⟩=>?_) hs ah;subst O;obtain⟨u,v,rfl,ru,rv⟩:=kQ r1;cases ru;cases rv;obtain⟨_,its,n,r,a1,eo⟩:=B.lstM hl;obtain⟨_,E,m,r2,Y,J⟩:=B.lstM an;refine call_zip_2 (xs:=its.toArray) (ys:=E.toArray) ⟨_,eo,rfl,_,rfl⟩ ⟨_,J,rfl,_,rfl⟩ λw O e2 e3 e4 e5 e6 e7=>?_
 refine Calls.spliced_nil ?_;have I2:Inv X i W K { d with heap:=w }:=B.kept (t':=d.toks) e7;have L:a<d.heap.objs.size:=Heap.lt_size eo;have R:b<d.heap.objs.size:=Heap.lt_size J
 have Z2:ZS w (d.heap.objs.size+4) (d.heap.objs.size+2) (d.heap.objs.size+3) d.heap.objs.size (d.heap.objs.size+1) a b its.toArray E.toArray 0:=⟨.inl O,e2,⟨_,_,e3⟩,e4,e5,⟨_,e7 _ _ eo,rfl,_,rfl⟩,⟨_,e7 _ _ J,rfl,_,rfl⟩⟩
 have D:ZipApart (d.heap.objs.size+4) (d.heap.objs.size+2) (d.heap.objs.size+3) d.heap.objs.size (d.heap.objs.size+1) a b:=qA _ _ _ L R;have al:∀ c,d.heap.objs.size<=c->FpOk X i K c:=λc g=>B.fpOk g (B.hok.fresh g)
 obtain⟨S,hS⟩:∃ S,S=w.objs.size:=⟨_,rfl⟩
 have P:S=d.heap.objs.size+5:=by rw[hS,e6]
 refine callType_codes (Q₁:=λN C=>N=.ref w.objs.size/\C={ d with heap:=w.push { cls:=.type "list",data:=.seq #[] } }) F.called_list (F.typeCall_list_1 _) F.entry_list_init (code_list_new _ ⟨rfl,rfl⟩) λN C h₁=>?_
 obtain⟨rfl,rfl⟩:=h₁;rw[<- hS]
 have I3:Inv X i W (upd K S (.lst [])) { d with heap:=w.push { cls:=.type "list",data:=.seq #[] } }:=by
  have:=I2.lnew (t':=d.toks) (ys:=[]) (its:=[]) .nil (Nat.zero_le _);rw[hS];exact this
 have fS:K S=none:=B.hok.fresh (by lia);obtain⟨_,a2,n3,r3,_,A⟩:=I3.lstM (l:=S) (xs:=[]) ac;cases r3;refine⟨⟨_,A,rfl⟩,F.args_list_init_2 _ _,?_⟩;show wpAny _ _ (do let old <- Builtin.List.listItems (.ref S);Builtin.List.listUpdate (.ref S) (λ_=>#[]);letGo old.toList.reverse;Builtin.List.listExtendWith (.ref S) (.ref (d.heap.objs.size+4)) .none) _ _ _;refine wpAny_bind ?_;unfold Builtin.List.listItems;refine wpAny_bind (wpAny_seqItems A rfl (wpAny_pure ?_));show wpAny _ _ (updateSeq S (λ_=>#[]) >>= λ_=>letGo (#[]:Array Value).toList.reverse >>= λ_=>Builtin.List.listExtendWith (.ref S) (.ref (d.heap.objs.size+4)) .none) _ _ _;refine wpAny_bind (wpAny_updateSeq A rfl ?_);refine wpAny_bind (wpAny_letGo ?_)
 have I4:Inv X i W (upd (upd K S (.lst [])) S (.lst [])) { d with heap:=(w.push { cls:=.type "list",data:=.seq #[] }).update S (Obj.mapSeq (λ_=>#[])) } :=
  I3.lset (s:={ d with heap:=w.push { cls:=.type "list",data:=.seq #[] } }) (t':=d.toks) (its:=[]) (its':=[]) ac A rfl .nil (Nat.zero_le _)
 rw[eP]at I4;have T:∀ c o,w.get? c=some o->((w.push { cls:=.type "list",data:=.seq #[] }).update S (Obj.mapSeq (λ_=>(#[]:Array Value)))).get? c=some o:=λc o g=>(Heap.get?_update_other _ _ (by rw[hS];exact Nat.ne_of_gt (Heap.lt_size g))).trans (Heap.get?_push_of_some _ g)
 have Z4:=Z2.on (λc _ o g=>T c o g) (λc o g=>⟨o,T c o g⟩);have ti:Shared.TypeIs { d with heap:=(w.push { cls:=.type "list",data:=.seq #[] }).update S (Obj.mapSeq (λ_=>(#[]:Array Value))) } (.ref (d.heap.objs.size+4)) "zip" := ⟨_,T _ _ O,rfl⟩;unfold Builtin.List.listExtendWith;refine wpAny_bind (wpAny_typeOf ti ?_)
 have g1:Builtin.List.listSameRef (.ref S) (.ref (d.heap.objs.size+4))=false:=by
  have:(S:Nat)≠d.heap.objs.size+4:=by lia
  simpa[Builtin.List.listSameRef] using this
 have g2:(Value.type "zip" == Value.type "list")=false:=by decide
 have g3:(Value.type "zip" == Value.type "tuple")=false:=by decide
 simp only[g1,g2,g3,Bool.or_false,Bool.false_eq_true,if_false];refine wpAny_bind ?_;have pz:∀{A':Around}{Q':Value->Shared->Prop}{E':Value->Shared->Prop}{s':Shared},md s'.heap (d.heap.objs.size+4) (d.heap.objs.size+2) (d.heap.objs.size+3) .none false->Q' (.ref (d.heap.objs.size+4)) s'->wpAny (model X.prog X.w) A' (pyIter (.ref (d.heap.objs.size+4))) Q' E' s':=λh h'=>wpAny_pyIter_zip h h'
 refine pz (T _ _ O) ?_;refine wpAny_bind (wpAny_holding (sO ti ?_));rw[if_pos (by rfl)];refine wpAny_bind (wpAny_rule ?_);obtain⟨_,a3,n4,r4,_,M⟩:=I4.lstM (l:=S) (xs:=[]) ac;cases r4;unfold Builtin.List.listTouch;refine wpAny_bind (wpAny_bind ?_);show wpAny _ _ (updateSeq S (·.push .none)) _ _ _;refine wpAny_updateSeq M rfl ?_ (by simp) (by simp);have I5:=I4.lset (s:={ d with heap:=(w.push { cls:=.type "list",data:=.seq #[] }).update S (Obj.mapSeq (λ_=>#[])) }) (t':=d.toks) (its:=[]) (its':=[.none]) (f:=(·.push .none)) (ys:=[.non]) ac M rfl (.cons rfl .nil) (by rw[sl];show 1<=16777216;decide);rw[eP]at I5;obtain⟨_,a0,n5,r5,_,k⟩:=I5.lstM (l:=S) (xs:=[.non]) ac;obtain⟨u5,rfl,ad⟩:=r5.one;cases ad;show wpAny _ _ (updateSeq S (·.pop)) _ _ _;refine wpAny_updateSeq k rfl ?_ (by simp[sl]) (by simp);have I6:=I5.lset (s:={ d with heap:=((w.push { cls:=.type "list",data:=.seq #[] }).update S (Obj.mapSeq (λ_=>#[]))).update S (Obj.mapSeq (·.push .none)) }) (t':=d.toks) (its:=[.none]) (its':=[]) (f:=(·.pop)) (ys:=[]) ac k (by simp) .nil (Nat.zero_le _);rw[eP]at I6
 have G:∀ c∈[d.heap.objs.size+4,d.heap.objs.size+2,d.heap.objs.size+3,d.heap.objs.size,d.heap.objs.size+1,a,b],c≠S:=λc g=>by
  rw[P];exact ue _ _ _ _ L R g
 have Z6:=(Z4.on (λc g o e=>(Heap.get?_update_other _ (Obj.mapSeq (·.push .none)) (G c g).symm).trans e) (λc o e=>by
  by_cases ec:c=S
  .exact⟨_,by rw[ec];exact k⟩
  .exact⟨o,(Heap.get?_update_other _ _ (Ne.symm ec)).trans e⟩)).on (λc g o e=>(Heap.get?_update_other _ (Obj.mapSeq (·.pop)) (G c g).symm).trans e) (λc o e=>by
  by_cases ec:c=S
  .exact⟨_,by rw[ec];exact Heap.get?_update_self _ k rfl⟩
  .exact⟨o,(Heap.get?_update_other _ _ (Ne.symm ec)).trans e⟩)
 refine wpAny_pure ⟨plainId_quiet F.plain_extend_loop _,uQ (H0:=K) (by simpa using B.ok.hd hc) D ?_ r r2 Z hx fS xs.length 0 _ _ _ rfl (Nat.zero_le _) Z6 I6 (λc g=>(al c ?_).on ?_) (Same.new fS) ac rfl (λj p x y h=>by cases h) λs' H' ps' I' sm hS' hps hz=>⟨rfl,?_⟩⟩
 .exact λz=>G _ z rfl
 .exact(jL _ _ g).1
 .rw[au (by rw[P];exact(jL _ _ g).2)]
  exact B.hok.fresh (jL _ _ g).1
 .exact⟨.ref S,H',I',rfl,q H' S ps' sm fS hS' hps hz⟩
end
section
variable {X:Cx}
def xV(K:Frag):R2:=λx y H Q=>∃(l b:Addr) (xs:List V),x=.ref l/\y=.ref b/\SqL K H l xs/\SqL K H b xs/\(∀ v∈xs,∃ p,v=.ref p)/\Q (.bl false) H
theorem kZ:∀{xs:List V}{us us':List Value},(∀ v∈xs,∃ p,v=.ref p)->Vals xs us->Vals xs us'->us=us'
 | [],_,_,_,h1,h2=>by cases h1;cases h2;rfl
 | x::xs,_,_,h,h1,h2=>by
  cases h1 with
  | cons r1 t1 =>
   cases h2 with
   | cons r2 t2 =>
    obtain⟨p,rfl⟩:=h x (mem_cons_self ..);cases r1;cases r2;rw[kZ (λv a=>h v (mem_cons_of_mem _ a)) t1 t2]
theorem xp(C:X.A.units+64<cLine):OpR X (compareOp .NotEq) (xV X.K):=by
 intro d s B H x y v u Q I z w h;obtain⟨l,b,D,rfl,rfl,c,g,o,q⟩:=h;cases z;cases w;obtain⟨a,p,r,_⟩:=I.list c;obtain⟨f,k,i,_⟩:=I.list g;have e:=kZ o p k;subst e;have L:=SeqAt.RcNeAt.lists (A:=X.A) (e:=λ_=>true) r.isList i.isList rfl (by lia) (λj c g=>SeqAt.EqAt.same _);refine PySem.W.cmp_ofNotEq (L _ _ _ _ ?_);have m:(List.range a.toArray.size).all (λ_=>true)=true:=by simp
 rw[m];exact⟨.bl false,H,I,rfl,q⟩
theorem dW{K:Frag}{e:Expr}{f:Str}{a:Pos}{b:TE}(h:X.K=K)(c:PE X e b)(d:attributeBase e f X.env (eval e X.env)=eval e X.env):PE X (.Attribute e f a) (wM K b f):=h ▸ bV c d
end
end L2
namespace L2
open PySem PySem.Calls PySem.Spec PyProof.Rows PySem.W
section
variable {prog:Program}{w:World}{s:Shared}{A:Around}{E:Value->Shared->Prop}
theorem sS{t:Addr}{us:List Value}{ns:List Int}{R:Value->Shared->Prop}(h:IsTup s.heap t us.toArray)(r:IntsAre us ns)(a:us.length<64)
  (d:∀(out:Array Value) (ns':List Int),IntsAre out.toList ns'->ns'.Perm ns->ns'.Pairwise (·<=·)->R (.ref (s.heap.objs.size+1)) { s with heap:=sortedAll s.heap us out }) :
  wpAny (model prog w) A (call (.builtin "sorted") [.ref t]) R E s:=by
 obtain⟨o,j,q,n,v⟩:=id h;have l:us.length<=sizeLine:=by rw[sizeLine_eq];lia
 refine call_function_entry kind_sorted plain_sorted entry_sorted (args_sorted1 _) ?_;unfold Builtin.«sorted»;refine wpAny_bind (m:=checkCount "sorted" 1 1 _) (wpAny_pure (wpAny_bind ?_));unfold collect;refine wpAny_bind (wpAny_runValue (codeAny_builtin entry_proto_collect' ?_));show wpAny _ _ (do again (.builtin "list.__iadd__" ⟨[<- newList [],.ref t],[]⟩)) _ _ s;refine wpAny_bind (wpAny_newList (wpAny_pure ⟨Code.quiet_builtin _ (by decide +kernel),codeAny_builtin entry_list_iadd' ?_⟩));show wpAny _ _ (Builtin.List.listExtendWith (.ref s.heap.objs.size) (.ref t) (.ref s.heap.objs.size)) _ _ { s with heap:=s.heap.push (seqObj "list" #[] 0) };unfold Builtin.List.listExtendWith;have b:(s.heap.push (seqObj "list" #[] 0)).get? t=some o:=Heap.get?_push_of_some _ j;have c:(s.heap.push (seqObj "list" #[] 0)).get? s.heap.objs.size=some (seqObj "list" #[] 0):=Heap.get?_push_size _ rfl;refine wpAny_bind (wpAny_typeOf (T := "tuple") ⟨o,b,q⟩ ?_);have e:(Value.type "tuple" == Value.type "tuple")=true:=rfl;rw[if_pos (by rw[e];simp)];refine wpAny_bind (listItems_at b v (wpAny_bind (listItems_at (xs:=#[]) (n:=0) c rfl ?_)));rw[if_neg (by simp)];refine wpAny_bind (listUpdate_at (xs:=#[]) (n:=0) c rfl (wpAny_pure ?_) (Nat.zero_le _) (by show(#[]++us.toArray).size<=sizeLine+1;simp only[Array.size_append,size_toArray,length_nil];lia));show wpAny (model prog w) _ (do let o <- load s.heap.objs.size;match o.data with | .seq xs _=>pure xs.toList | _=>unsupported "internal:collect") _ E { s with heap:=(s.heap.push (seqObj "list" #[] 0)).update s.heap.objs.size (Obj.mapSeq (· ++ us.toArray)) };refine wpAny_bind (wpAny_load (get?_update_seq c _) ?_);show wpAny _ _ (pure ((#[]:Array Value)++us.toArray).toList) _ E _;have p:((#[]:Array Value)++us.toArray).toList=us:=by simp
 rw[p];refine wpAny_pure (wpAny_bind (wpAny_newList ?_));have f:((s.heap.push (seqObj "list" #[] 0)).update s.heap.objs.size (Obj.mapSeq (· ++ us.toArray))).objs.size=s.heap.objs.size+1:=by rw[Heap.size_update,size_push']
 have g:(((s.heap.push (seqObj "list" #[] 0)).update s.heap.objs.size (Obj.mapSeq (· ++ us.toArray))).push (seqObj "list" us.toArray 0)).get? (s.heap.objs.size+1)=some (seqObj "list" us.toArray 0):=by rw[<- f];exact Heap.get?_push_size _ rfl
 show wpAny _ _ _ _ _ { s with heap:=((s.heap.push (seqObj "list" #[] 0)).update s.heap.objs.size (Obj.mapSeq (· ++ us.toArray))).push (seqObj "list" us.toArray 0) };rw[f];exact wpAny_bind (wpAny_holding (wpAny_call_entry slot_list_sort ⟨_,g,rfl⟩ entry_list_sort (list_sort_tree g r a λout ns' i k u=>⟨_,rfl,wpAny_pure ⟨_,rfl,d out ns' i k u⟩⟩) (args_list_sort _)))
end
theorem ka{X:Cx}:CallR X (.builtin "sorted") (λxs H Q=>∃(p:Addr) (ns:List Int),xs=[.ref p]/\(SqL X.K H p (ns.map V.int)\/SqT X.K H p (ns.map V.int))/\ns.length<64/\∀ q (ns':List Int),ns'.Perm ns->ns'.Pairwise (·<=·)->H q=none->Q (.ref q) (upd H q (.lst (ns'.map V.int)))):=by
 intro f s v H xs x Q I r h;obtain⟨p,ns,rfl,hq,w,q⟩:=h
 rcases hq with hq | hq
 .exact eA f s v H _ x Q I r ⟨p,ns,rfl,hq,w,q⟩
 obtain⟨u,rfl,D⟩:=fX r;cases D;obtain⟨d,k,y,E⟩:=I.tuple hq;have A:=ge k;have j:d.length=ns.length:=by have:=k.length;rw[length_map]at this;exact this.symm
 refine sS y A (by lia) λc ns' m i C=>?_
 obtain⟨e,l⟩:=sortedAll_at s.heap d c;have B:H (s.heap.objs.size+1)=none:=I.hok.fresh (Nat.le_succ _);have g:sizeLine=16777216:=sizeLine_eq;refine⟨.ref (s.heap.objs.size+1),_,I.laid (a:=s.heap.objs.size+1) (o:=.lst (ns'.map V.int)) (t':=s.toks) (λb u z=>sortedAll_old z) (Nat.le_succ _) ⟨?_,c.toList,e,ej m,?_⟩,rfl,q _ ns' i C B⟩
 .rw[length_map,i.length_eq];lia
 .rw[l,Array.toArray_toList]
end L2
namespace L2
open PySem PySem.Spec PyProof.Rows
theorem mE{X:Cx}:OpR X (compareOp .IsNot) (λx y H Q=>∃ b c,x=.bl b/\y=.bl c/\Q (.bl (!(b == c))) H):=by
 intro a s f H x y v u Q I e d h;obtain⟨b,c,rfl,rfl,q⟩:=h;cases e;cases d;show wpAny _ _ (do return Value.bool (!(<- isSame (.bool b) (.bool c)))) _ _ _;refine wpAny_bind (wpAny_pure (wpAny_pure ?_));exact bn I q (by cases b <;> cases c <;> rfl)
end L2
namespace FrM
theorem jV(z:List Int)(p:Nat->Bool):∀ l:List Nat,aU z l=aU z (l.filter p)+aU z (l.filter λk=>!p k)/\l.length=(l.filter p).length+(l.filter λk=>!p k).length
 | []=>by simp[aU]
 | a::l=>by
  obtain⟨b,c⟩:=jV z p l;have e:∀ r:List Nat,aU z (a::r)=sz z a+aU z r:=λr=>by unfold aU;rw[map_cons,sum_cons]
  cases h:p a with
  | true =>
   rw[filter_cons_of_pos (by exact h),filter_cons_of_neg (by simp[h]),e,e,length_cons,length_cons];lia
  | false =>
   rw[filter_cons_of_neg (by simp[h]),filter_cons_of_pos (by simp[h]),e,e,length_cons,length_cons];lia
theorem sh{z:List Int}{l:List Nat}{w:Int}(hz:∀ k∈l,1<=sz z k)(h:w<l.length)(m:0<w):0<w - ((l.length:Int) - ((stay z l w).length:Int)):=by
 have p:=mP hz h (by lia);obtain⟨c,f⟩:=jV z (λk=>decide (sz z k*w<aU z l)) l;have b:l.filter (λk=>decide (sz z k*w<aU z l))=stay z l w:=rfl;rw[b]at c f;have i:=eM z (stay z l w) λk a=>hz k (mem_filter.mp a).1
 have q:=fK z w (aU z l) (l.filter λk=>!decide (sz z k*w<aU z l)) λk a=>by
  have:=(mem_filter.mp a).2;simpa using this
 generalize (l.filter λk=>!decide (sz z k*w<aU z l))=hi at *;have d:aU z hi<=aU z l - 1:=by lia
 have g:aU z hi*w<=(aU z l - 1)*w:=Int.mul_le_mul_of_nonneg_right d (by lia);rw[Int.sub_mul,Int.one_mul]at g;have e:(hi.length:Int)*aU z l<w*aU z l:=by rw[Int.mul_comm w];lia
 have j:=eM z l hz;have o:=Int.lt_of_mul_lt_mul_right e (by lia);lia
theorem pE{z:List Int}{n:Nat}{m:Int}(hz:∀ k,k<n->1<=sz z k):∀(c:Nat) (l:List Nat) (w:Int),l.length<=c->Rnd z n m l w->0<w->0<(fin z l w).2/\∀ k∈(fin z l w).1,sz z k*(fin z l w).2<aU z (fin z l w).1
 | 0,l,w,hc,h,_=>absurd h.pos (by lia)
 | c+1,l,w,hc,h,w0=>by
  by_cases e:(stay z l w).length=l.length
  .rw[iB e]
   refine⟨w0,λk a=>?_⟩;have:=List.length_filter_eq_length_iff.mp e k a;simpa using this
  .rw[lQ e]
   have:=iw z l w;exact pE hz c _ _ (by lia) (h.step hz) (sh (λk a=>hz k (h.sub k a)) h.lt w0)
structure FrOk(f:Int×Int):Prop where
 pos:0<f.2
 lo:0<=f.1
 hi:f.1<=f.2
 bd:f.2<=576000000
 ends:¬(0<f.1/\f.1<f.2)->f=(1,1)\/f=(0,1)
theorem wd{T B:Int}(k:0<T)(i:T<B)(m:B<=576000000):FrOk (hX T B):=by
 have h:=m6 (t:=T) (b:=B) (by lia);generalize hX T B=f at h;obtain⟨t,b⟩:=f;have a:0<b:=h.pos;have o:b<=B:=(ww (by lia) h).1;have e:t*B=T*b:=h.eq;have l:0<T*b:=Int.mul_pos k a
 have d:0<t:=by
  rcases Int.lt_or_le 0 t with g | g
  .exact g
  .exact absurd (Int.mul_nonpos_of_nonpos_of_nonneg g (show 0<=B by lia)) (by lia)
 have j:t<b:=by
  have c:T*b<B*b:=Int.mul_lt_mul_of_pos_right i a;rw[<- e,Int.mul_comm B b]at c;exact Int.lt_of_mul_lt_mul_right c (by lia)
 exact⟨a,by show 0<=t;lia,by show t<=b;lia,by show b<=576000000;lia,λg=>absurd ⟨d,j⟩ g⟩
theorem wF{z:List Int}{m:Int}(hz:∀ k,k<z.length->1<=sz z k)(i:∀ k,k<z.length->sz z k<=24000000)(o:z.length<=24)(j:0<=m):∀ f∈due z m,FrOk f:=by
 have d:FrOk (1,1):=⟨by decide,by decide,by decide,by decide,λ_=>.inl rfl⟩
 have e:FrOk (0,1):=⟨by decide,by decide,by decide,by decide,λ_=>.inr rfl⟩
 intro f a;unfold due at a
 by_cases h1:(z.length:Int)<=m
 .rw[if_pos h1]at a
  obtain⟨_,_,rfl⟩:=mem_map.mp a;exact d
 .rw[if_neg h1]at a
  by_cases h2:m=0
  .rw[if_pos h2]at a
   obtain⟨_,_,rfl⟩:=mem_map.mp a;exact e
  .rw[if_neg h2]at a
   obtain⟨k,g,rfl⟩:=mem_map.mp a;have S:=Rnd.start (z:=z) (n:=z.length) (m:=m) (by lia) (by lia);have R:=Rnd.fin hz _ _ _ (Nat.le_refl _) S;obtain⟨h,c⟩:=pE hz _ _ _ (Nat.le_refl _) S (by lia)
   by_cases hd:decide (k∈(FrM.fin z (List.range z.length) m).1)=true
   .rw[if_pos hd]
    have b:=of_decide_eq_true hd;have l:=ju z 24000000 _ λk g=>i k (R.sub k g)
    have q:=R.len;have p:=hz k (R.sub k b);exact wd (Int.mul_pos (by lia) h) (c k b) (by lia)
   .rw[if_neg hd]
    exact d
end FrM
namespace Tb
open FrM
inductive Tr where
 | leaf (ns:List Int)
 | die (ps:List (Int×Tr))
def tot(ps:List (Int×Tr)):Int:=(ps.map (·.1)).sum
mutual
def lv:Tr->Nat
 | .leaf _=>1
 | .die ps=>lvs ps
def lvs:List (Int×Tr)->Nat
 | []=>0
 | (_,u)::r=>lv u+lvs r
end
mutual
def sz:Tr->Nat
 | .leaf _=>1
 | .die ps=>szs ps+1
def szs:List (Int×Tr)->Nat
 | []=>0
 | (_,u)::r=>sz u+szs r
end
mutual
def Ok:Tr->Prop
 | .leaf ns=>ns.Nodup/\ns.length<=24
 | .die ps=>ps≠[]/\Oks ps
def Oks:List (Int×Tr)->Prop
 | []=>True
 | (m,u)::r=>1<=m/\Ok u/\Oks r
end
abbrev Way:=List Int×(Int×Int)
mutual
def wl:Tr->Int->Int->List Way
 | .leaf ns,t,b=>[(ns,(t,b))]
 | .die ps,t,b=>wls ps t b (tot ps)
def wls:List (Int×Tr)->Int->Int->Int->List Way
 | [],_,_,_=>[]
 | (m,u)::r,t,b,S=>wls r t b S++wl u (t*m) (b*S)
end
abbrev Ent:=Tr×(Int×Int)
def st:List Ent->List Way
 | []=>[]
 | (u,(t,b))::r=>st r++wl u t b
end Tb
namespace Tb
open FrM
def so(l:List Int):List Int:=l.mergeSort (λa b=>decide (a<=b))
theorem so_perm(l:List Int):(so l).Perm l:=List.mergeSort_perm l _
theorem wa(l:List Int):(so l).Pairwise (·<=·):=by
 have h:=List.pairwise_mergeSort (le:=λ(a b:Int)=>decide (a<=b)) (by intro a b c h1 h2;simp at *;lia) (by intro a b;simp;lia) l;exact h.imp λh=>by simpa using h
theorem pG:∀{a b:List Int},a.Perm b->a.Pairwise (·<=·)->b.Pairwise (·<=·)->a=b
 | [],b,p,_,_=>(List.nil_perm.mp p).symm ▸ rfl
 | x::a,[],p,_,_=>absurd p.length_eq (by simp)
 | x::a,y::b,p,h1,h2=>by
  rw[pairwise_cons]at h1 h2
  have e:x=y:=by
   have c:x∈y::b:=p.mem_iff.mp mem_cons_self;have d:y∈x::a:=p.mem_iff.mpr mem_cons_self
   rcases mem_cons.mp c with z | z
   .exact z
   .rcases mem_cons.mp d with z' | z'
    .exact z'.symm
    .have:=h2.1 x z
     have:=h1.1 y z';lia
  subst e;rw[pG (List.perm_cons x |>.mp p) h1.2 h2.2]
theorem so_uniq{a l:List Int}(h:a.Perm l)(s:a.Pairwise (·<=·)):a=so l:=pG (h.trans (so_perm l).symm) s (wa l)
mutual
def bnd:Tr->(List Int->Tr)->Tr
 | .leaf ns,g=>g (so ns)
 | .die ps,g=>.die (d7 ps g)
def d7:List (Int×Tr)->(List Int->Tr)->List (Int×Tr)
 | [],_=>[]
 | (m,u)::r,g=>(m,bnd u g)::d7 r g
end
theorem bnds_map(g:List Int->Tr):∀ ps:List (Int×Tr),d7 ps g=ps.map λp=>(p.1,bnd p.2 g)
 | []=>by rw[d7];rfl
 | (m,u)::r=>by rw[d7,bnds_map g r];rfl
theorem iE(ps:List (Int×Tr))(g:List Int->Tr):tot (d7 ps g)=tot ps:=by unfold tot;rw[bnds_map,map_map];rfl
mutual
def Dq:Nat->Tr->Prop
 | _,.leaf ns=>ns.Nodup/\ns.length<=12
 | 0,.die _=>False
 | d+1,.die ps=>1<=ps.length/\ps.length<=4/\Dqs d ps
def Dqs:Nat->List (Int×Tr)->Prop
 | _,[]=>True
 | d,(m,u)::r=>1<=m/\m<=1000000000/\Dq d u/\Dqs d r
end
mutual
def Lb:Tr->Prop
 | .leaf ns=>ns.length<=12
 | .die ps=>Lbs ps
def Lbs:List (Int×Tr)->Prop
 | []=>True
 | (_,u)::r=>Lb u/\Lbs r
end
mutual
def Par(o:Int):Tr->Prop
 | .leaf ns=>(∀ x∈ns,x % 2=o)/\ns.length<=6/\ns.Nodup
 | .die ps=>wL o ps
def wL(o:Int):List (Int×Tr)->Prop
 | []=>True
 | (_,u)::r=>Par o u/\wL o r
end
mutual
def Lq:Tr->Prop
 | .leaf ns=>ns.length<=6
 | .die ps=>Lqs ps
def Lqs:List (Int×Tr)->Prop
 | []=>True
 | (_,u)::r=>Lq u/\Lqs r
end
def fT:List Int->Nat->List Int->Tr
 | [],_,t=>.leaf t
 | x::r,w,t=>if w=0 then .leaf t else if r.length+1<=w then .leaf (t++x::r) else .die [((w:Int),fT r (w - 1) (t++[x])),((r.length:Int)+1 - (w:Int),fT r w t)]
def lT:List (Int×(Int×Int))->List Int->Tr
 | [],t=>.leaf t
 | (p,c)::r,t=>.die [(c.1,lT r (t++[p])),(c.2 - c.1,lT r t)]
def ba(places:List Int)(first step:Nat):List Int:=((List.range places.length).filter λk=>decide (k % step=first)).filterMap (places[·]?)
def sT(ps:List Int)(st:Nat):Tr:=.die ((List.range st).map λf=>(1,.leaf (ba ps f st)))
theorem fT_zero(l t:List Int):fT l 0 t=.leaf t:=by cases l <;> rfl
theorem fT_all{l t:List Int}{w:Nat}(h:l.length<=w):fT l w t=.leaf (if w=0 then t else t++l):=by
 cases l with
 | nil=>unfold fT;split <;> simp
 | cons x r =>
  unfold fT
  by_cases c:w=0
  .rw[if_pos c,if_pos c]
  .rw[if_neg c,if_neg c,if_pos (by rw[length_cons]at h;exact h)]
theorem fT_die{l t:List Int}{w:Nat}(a:0<w)(h:w<l.length):fT l w t=.die [((w:Int),fT (l.drop 1) (w - 1) (t++l.take 1)),((l.length:Int) - (w:Int),fT (l.drop 1) w t)]:=by
 cases l with
 | nil=>exact absurd h (Nat.not_lt_zero w)
 | cons x r =>
  rw[length_cons]at h
  conv=>lhs;unfold fT
  rw[if_neg (by lia),if_neg (by lia),length_cons];rfl
end Tb
namespace Nst
open FrM Tb
abbrev Mb:=Int×Int×List PySem.Str
def plc(ms:List Mb):List Int:=ms.map (·.1)
def szs(ms:List Mb):List Int:=ms.map (·.2.1)
def hd(m:Mb):PySem.Str:=m.2.2.headD ⟨#[]⟩
def tl(m:Mb):Mb:=(m.1,m.2.1,m.2.2.tail)
def dR:List (PySem.Str×List Mb)->PySem.Str->Mb->List (PySem.Str×List Mb)
 | [],n,m=>[(n,[m])]
 | (k,l)::r,n,m=>if k=n then (k,l++[m])::r else (k,l)::dR r n m
def groups(ms:List Mb):List (PySem.Str×List Mb):=ms.foldl (λgs m=>dR gs (hd m) (tl m)) []
theorem gz(a:List Mb)(m:Mb):groups (a++[m])=dR (groups a) (hd m) (tl m):=by
 unfold groups;rw[List.foldl_append];rfl
def parts(ms:List Mb):List (List Mb):=(groups ms).map (·.2)
inductive Lf:Tr->List Int->Prop
 | leaf (ns:List Int):Lf (.leaf ns) ns
 | die {ps:List (Int×Tr)}{m:Int}{u:Tr}{ns:List Int}:(m,u)∈ps->Lf u ns->Lf (.die ps) ns
def dM:List (Int×Tr)->Int->Option Tr
 | [],_=>none
 | (m,t)::r,k=>if k<m then some t else dM r (k - m)
theorem ku:∀{ps:List (Int×Tr)}{t:Int}{u:Tr},dM ps t=some u->∃ m,(m,u)∈ps
 | [],_,_,h=>by cases h
 | (m,v)::r,t,u,h=>by
  unfold dM at h
  by_cases c:t<m
  .rw[if_pos c]at h
   cases h;exact⟨m,mem_cons_self⟩
  .rw[if_neg c]at h
   obtain⟨a,b⟩:=ku h;exact⟨a,mem_cons_of_mem _ b⟩
theorem j5(g:List Int->Tr):∀{ps:List (Int×Tr)}{t:Int}{u:Tr},dM ps t=some u->dM (d7 ps g) t=some (bnd u g)
 | [],_,_,h=>by cases h
 | (m,v)::r,t,u,h=>by
  unfold dM at h;rw[d7];unfold dM
  by_cases c:t<m
  .rw[if_pos c]at h ⊢
   cases h;rfl
  .rw[if_neg c]at h ⊢
   exact j5 g h
inductive Rn:Tr->Int->List Int->List (Int×Int)->Int->Prop
 | leaf (ns:List Int) (r:Int):Rn (.leaf ns) r ns [] r
 | die {ps:List (Int×Tr)}{u:Tr}{r r':Int}{ns:List Int}{th:List (Int×Int)}:0<tot ps->dM ps (r % tot ps)=some u->Rn u (r/tot ps) ns th r'->Rn (.die ps) r ns ((r % tot ps,tot ps)::th) r'
theorem Rn.lf{t:Tr}{r r':Int}{ns:List Int}{th:List (Int×Int)}(h:Rn t r ns th r'):Lf t ns:=by
 induction h with
 | leaf ns r=>exact .leaf ns
 | die _ hp _ ih =>
  obtain⟨m,a⟩:=ku hp;exact .die a ih
theorem Rn.bnd{t:Tr}{r c d:Int}{ns a:List Int}{th b:List (Int×Int)}{g:List Int->Tr}(h:Rn t r ns th c)(k:Rn (g (so ns)) c a b d):Rn (bnd t g) r a (th++b) d:=by
 induction h with
 | leaf ns r=>rw[Tb.bnd];exact k
 | @die ps u r r' ns th h0 hp _ ih =>
  rw[Tb.bnd,cons_append,<- iE ps g];refine .die (by rw[iE];exact h0) (j5 g (by rw[iE];exact hp)) ?_;rw[iE];exact ih k
theorem Rn.cons{t:Tr}{r r' x s:Int}{ns:List Int}{th:List (Int×Int)}(h:Rn t r ns ((x,s)::th) r'):∃ ps u,t=.die ps/\s=tot ps/\0<=x/\x<tot ps/\dM ps x=some u/\Rn u (r/tot ps) ns th r':=by
 cases h with
 | @die ps u _ _ _ _ h0 hp h2=>exact⟨ps,u,rfl,rfl,Int.emod_nonneg _ (by lia),Int.emod_lt_of_pos _ h0,hp,h2⟩
theorem Rn.nil{t:Tr}{r r':Int}{ns:List Int}(h:Rn t r ns [] r'):t=.leaf ns:=by cases h;rfl
theorem lH{t':Tr}{b:List Int}(h:Lf t' b):∀{t:Tr}{g:List Int->Tr},t'=bnd t g->∃ ns,Lf t ns/\Lf (g (so ns)) b:=by
 induction h with
 | leaf ns =>
  intro t g e;cases t with
  | leaf a=>rw[bnd]at e;exact⟨a,.leaf a,by rw[<- e];exact .leaf ns⟩
  | die ps=>rw[bnd]at e;cases e
 | @die ps m u ns hm hu ih =>
  intro t g e;cases t with
  | leaf a=>rw[bnd]at e;exact⟨a,.leaf a,by rw[<- e];exact .die hm hu⟩
  | die qs =>
   rw[bnd]at e;cases e;rw[bnds_map]at hm;obtain⟨⟨j,f⟩,d,e⟩:=mem_map.mp hm;cases e;obtain⟨a,c,i⟩:=ih (t:=f) (g:=g) rfl;exact⟨a,.die d c,i⟩
inductive Pl
 | few (m:Nat)
 | start (s:Nat)
 | loose (m:Nat)
 | each (p:Pl)
 | first (p q:Pl)
def uns(f:Int×Int):Bool:=decide (0<f.1/\f.1<f.2)
abbrev Tl:=List (Int×(Int×Int))
def lsL(ms:List Mb)(m:Nat):Tl:=(plc ms).zip (due (szs ms) (m:Nat))
def cO(L:Tl):List Int:=(L.filter λx=>decide (x.2=(1,1))).map (·.1)
def dk(L:Tl):Tl:=L.filter λx=>uns x.2
def stT(places:List Int)(st:Nat):Tr:=if st=1\/places=[] then .leaf places else sT places st
def outer(gs:List (List Mb)):List Mb:=gs.zipIdx.map λg=>((g.2:Int),(szs g.1).sum,[])
def gT(f:List Mb->Tr):List (List Mb)->List Int->Tr
 | [],tk=>.leaf tk
 | g::gs,tk=>bnd (f g) λks=>gT f gs (tk++ks)
def sel(gs:List (List Mb))(ks:List Int):List (List Mb):=ks.map λk=>gs.getD k.toNat []
def nT:Pl->List Mb->Tr
 | .few m,ms=>fT (plc ms) m []
 | .start s,ms=>stT (plc ms) s
 | .loose m,ms=>lT (dk (lsL ms m)) (cO (lsL ms m))
 | .each p,ms=>gT (nT p) (parts ms) []
 | .first p q,ms=>bnd (nT p (outer (parts ms))) λks=>gT (nT q) (sel (parts ms) ks) []
def jH:Pl->Prop
 | .few m=>m<=24
 | .start s=>1<=s/\s<=100
 | .loose m=>m<=24
 | _=>False
def ht:Nat->Pl->Prop
 | _,.few m=>m<=24
 | _,.start s=>1<=s/\s<=100
 | _,.loose m=>m<=24
 | n+1,.each p=>ht n p
 | n+1,.first p q=>jH p/\ht n q
 | 0,_=>False
theorem lV{n:Nat}{p:Pl}(h:jH p):ht n p:=by
 cases p <;> first | exact h.elim | (cases n <;> exact h)
end Nst
namespace Nst
open FrM Tb PySem
def nms:List Str:=["north","n","south","no","z"]
structure Cok(n:Nat)(ms:List Mb):Prop where
 len:1<=ms.length/\ms.length<=24
 sz:∀ m∈ms,1<=m.2.1
 sum:(szs ms).sum<=24000000
 path:∀ m∈ms,n<=m.2.2.length/\m.2.2.length<=3
 few:∀ m∈ms,∀ s∈m.2.2,s∈nms
structure Gok(n g:Nat)(gs:List (List Mb))(t:Nat):Prop where
 each:∀ c∈gs,Cok n c
 len:gs.length<=g
 all:t+(gs.map List.length).sum<=24
theorem Gok.up{n g g' t:Nat}{a:List (List Mb)}(b:g<=g')(h:Gok n g a t):Gok n g' a t:=⟨h.each,by have:=h.len;lia,h.all⟩
theorem gy{z:List Int}(h:∀ x∈z,0<=x):0<=z.sum:=by
 induction z with
 | nil=>simp
 | cons x r ih =>
  rw[sum_cons];have:=h x mem_cons_self;have:=ih λy a=>h y (mem_cons_of_mem _ a)
  lia
theorem mq{z:List Int}(h:∀ x∈z,0<=x){x:Int}(hx:x∈z):x<=z.sum:=by
 induction z with
 | nil=>cases hx
 | cons y r ih =>
  rw[sum_cons];have b:=h y mem_cons_self;have c:=gy λy a=>h y (mem_cons_of_mem _ a)
  rcases mem_cons.mp hx with rfl | hx
  .lia
  .have:=ih (λy a=>h y (mem_cons_of_mem _ a)) hx
   lia
theorem Cok.pos{n:Nat}{a:List Mb}(h:Cok n a):∀ x∈szs a,0<=x:=λx b=>by
 obtain⟨m,c,rfl⟩:=mem_map.mp b;have:=h.sz m c;lia
theorem Cok.hi{n:Nat}{b:List Mb}(h:Cok n b):∀ x∈szs b,1<=x/\x<=24000000:=λx a=>by
 have d:=mq h.pos a;have e:=h.sum;obtain⟨m,c,rfl⟩:=mem_map.mp a;have:=h.sz m c;lia
theorem mJ{n:Str}{m:Mb}{p:Mb->Prop}(b:p m):∀{gs:List (Str×List Mb)},(∀ e∈gs,e.2≠[]/\∀ x∈e.2,p x)->∀ e∈dR gs n m,e.2≠[]/\∀ x∈e.2,p x
 | [],_,e,he=>by
  rw[mem_singleton.mp he];exact⟨by simp,λx a=>by rw[mem_singleton.mp a];exact b⟩
 | (k,l)::r,h,e,he=>by
  unfold dR at he
  by_cases c:k=n
  .rw[if_pos c]at he
   rcases mem_cons.mp he with rfl | he
   .refine⟨by simp,λx a=>?_⟩
    rcases mem_append.mp a with h1 | h1
    .exact(h _ (mem_cons_self ..)).2 x h1
    .rw[mem_singleton.mp h1];exact b
   .exact h e (mem_cons_of_mem _ he)
  .rw[if_neg c]at he
   rcases mem_cons.mp he with rfl | he
   .exact h _ (mem_cons_self ..)
   .exact mJ b (λe he=>h e (mem_cons_of_mem _ he)) e he
def lU(f:Mb->Int)(gs:List (Str×List Mb)):Int:=(gs.map λe=>(e.2.map f).sum).sum
theorem nB(f:Mb->Int){n:Str}{m:Mb}:∀(gs:List (Str×List Mb)),lU f (dR gs n m)=lU f gs+f m
 | []=>by simp[dR,lU]
 | (k,l)::r=>by
  unfold dR
  by_cases c:k=n
  .rw[if_pos c];simp[lU];lia
  .rw[if_neg c]
   have:=nB f (n:=n) (m:=m) r;simp only[lU,map_cons,sum_cons]at *;lia
theorem kq{n:Str}{m:Mb}:∀{gs:List (Str×List Mb)},(gs.map (·.1)).Nodup->(∀ k∈gs.map (·.1),k∈nms)->n∈nms->((dR gs n m).map (·.1)).Nodup/\(∀ k∈(dR gs n m).map (·.1),k∈nms)/\∀ k∈(dR gs n m).map (·.1),k=n\/k∈gs.map (·.1)
 | [],_,_,hn=>⟨by simp[dR],(λk a=>by simp[dR]at a;rw[a];exact hn),λk a=>by simp[dR]at a;exact .inl a⟩
 | (k,l)::r,nd,a,hn=>by
  unfold dR
  by_cases c:k=n
  .rw[if_pos c]
   exact⟨nd,a,λk a=>.inr a⟩
  .rw[if_neg c]
   rw[map_cons,nodup_cons]at nd;obtain⟨e,f,d⟩:=kq (m:=m) nd.2 (λb hk'=>a b (by rw[map_cons];exact mem_cons_of_mem _ hk')) hn;refine⟨?_,λb hk'=>?_,λb hk'=>?_⟩
   .rw[map_cons,nodup_cons]
    refine⟨λz=>?_,e⟩
    rcases d k z with z | z
    .exact c z
    .exact nd.1 z
   .rw[map_cons]at hk'
    rcases mem_cons.mp hk' with rfl | hk'
    .exact a _ (by simp)
    .exact f b hk'
   .rw[map_cons]at hk'
    rcases mem_cons.mp hk' with rfl | hk'
    .exact .inr (by simp)
    .exact(d b hk').imp id λz=>by rw[map_cons];exact mem_cons_of_mem _ z
theorem oZ(a:List Mb){p:Mb->Prop}(l:∀ m∈a,p (tl m))(s:∀ m∈a,hd m∈nms):(∀ e∈groups a,e.2≠[]/\∀ x∈e.2,p x)/\(∀ f:Mb->Int,lU f (groups a)=(a.map λm=>f (tl m)).sum)/\((groups a).map (·.1)).Nodup/\∀ k∈(groups a).map (·.1),k∈nms:=by
 have b:∀ i,i<=a.length->(∀ e∈groups (a.take i),e.2≠[]/\∀ x∈e.2,p x)/\(∀ f:Mb->Int,lU f (groups (a.take i))=((a.take i).map λm=>f (tl m)).sum)/\((groups (a.take i)).map (·.1)).Nodup/\∀ k∈(groups (a.take i)).map (·.1),k∈nms:=by
  intro i
  induction i with
  | zero=>exact λ_=>⟨(λe he=>by cases he),λf=>rfl,nodup_nil,λk hk=>by cases hk⟩
  | succ i ih =>
   intro u;obtain⟨j,r,d,o⟩:=ih (by lia);have e:a[i]? = some (a[i]'(by lia)):=List.getElem?_eq_getElem _;generalize a[i]'(by lia)=m at e;have g:a.take (i+1)=a.take i++[m]:=by rw[take_add_one,e];rfl
   have c:=List.mem_of_getElem? e;rw[g,gz];obtain⟨h,q,_⟩:=kq (m:=tl m) d o (s m c);refine⟨mJ (l m c) j,λf=>?_,h,q⟩;rw[nB,r,map_append,List.sum_append];simp
 have:=b a.length (Nat.le_refl _);rw[take_length]at this;exact this
theorem vk{a:Type}[DecidableEq a]:∀{l m:List a},l.Nodup->(∀ x∈l,x∈m)->l.length<=m.length
 | [],_,_,_=>Nat.zero_le _
 | x::r,m,nd,h=>by
  rw[nodup_cons]at nd;have b:=h x mem_cons_self;have:=vk (l:=r) (m:=m.erase x) nd.2 λy c=>(List.mem_erase_of_ne (λz=>nd.1 (by rw[<- z];exact c))).mpr (h y (mem_cons_of_mem _ c))
  rw[List.length_erase_of_mem b]at this;have:=List.length_pos_of_mem b;rw[length_cons];lia
theorem me:∀ gs:List (List Mb),(((gs.map List.length).sum:Nat):Int)=(gs.map λc=>(c.map λ_:Mb=>(1:Int)).sum).sum
 | []=>rfl
 | c::gs=>by
  have:=me gs
  have a:(c.map λ_:Mb=>(1:Int)).sum=(c.length:Int):=by
   clear this
   induction c with
   | nil=>rfl
   | cons x r ih=>rw[map_cons,sum_cons,ih,length_cons];lia
  rw[map_cons,sum_cons,map_cons,sum_cons,<- this,a];lia
theorem rz{z:List Nat}{x:Nat}(hx:x∈z):x<=z.sum:=by
 induction z with
 | nil=>cases hx
 | cons y r ih =>
  rw[sum_cons]
  rcases mem_cons.mp hx with rfl | hx
  .lia
  .have:=ih hx
   lia
structure Pok(n:Nat)(ms:List Mb):Prop where
 each:∀ c∈parts ms,Cok n c
 len:(parts ms).length<=5
 pos:1<=(parts ms).length
 all:((parts ms).map List.length).sum=ms.length
 sum:((parts ms).map λc=>(szs c).sum).sum=(szs ms).sum
theorem dw{n:Nat}{a:List Mb}(h:Cok (n+1) a):Pok n a:=by
 have E:∀ m∈a,1<=(tl m).2.1/\(n<=(tl m).2.2.length/\(tl m).2.2.length<=3)/\∀ s∈(tl m).2.2,s∈nms:=λm b=>by
  have d:=h.path m b;refine⟨h.sz m b,?_,λs j=>h.few m b s (List.mem_of_mem_tail j)⟩;show n<=m.2.2.tail.length/\m.2.2.tail.length<=3;rw[List.length_tail];lia
 have I:∀ m∈a,hd m∈nms:=λm b=>by
  have d:=h.path m b;have i:=h.few m b;unfold hd;cases e:m.2.2 with
  | nil=>rw[e]at d;simp at d
  | cons s r=>exact i s (by rw[e];exact mem_cons_self)
 obtain⟨d,i,A,w⟩:=oZ a (p:=λm=>1<=m.2.1/\(n<=m.2.2.length/\m.2.2.length<=3)/\∀ s∈m.2.2,s∈nms) E I
 have j:((parts a).map λc=>(szs c).sum).sum=(szs a).sum:=by
  have:=i λm=>m.2.1
  unfold lU at this;unfold parts szs;rw[map_map];exact this
 have k:((parts a).map List.length).sum=a.length:=by
  have e:=i λ_=>1
  have l:=me (parts a);have u:=me [a];unfold lU at e
  have B:((parts a).map λc=>(c.map λ_:Mb=>(1:Int)).sum).sum=(a.map λ_:Mb=>(1:Int)).sum:=by
   unfold parts;rw[map_map];exact e
  rw[B]at l;simp only[map_cons,map_nil,sum_cons,sum_nil]at u;generalize (a.map λ_:Mb=>(1:Int)).sum=z at l u;generalize ((parts a).map List.length).sum=y at l;omega
 have H:(parts a).length<=5:=by
  have:=vk A w;rw[length_map]at this;unfold parts;rw[length_map];exact this
 have G:∀ x∈(parts a).map λc=>(szs c).sum,0<=x:=λx hx=>by
  obtain⟨c,f,rfl⟩:=mem_map.mp hx;obtain⟨e,g,rfl⟩:=mem_map.mp f;refine gy λy D=>?_
  obtain⟨m,b,rfl⟩:=mem_map.mp D;have:=((d e g).2 m b).1;lia
 have F:∀ c∈parts a,c.length<=((parts a).map List.length).sum:=λc f=>rz (mem_map.mpr ⟨c,f,rfl⟩)
 refine⟨λc f=>?_,H,?_,k,j⟩
 .have q:=F c f
  have o:=mq G (mem_map.mpr ⟨c,f,rfl⟩);rw[j]at o;rw[k]at q;obtain⟨e,g,rfl⟩:=mem_map.mp f;have J:=h.len.2;have K:=h.sum;have v:=(d e g).1
  have C:1<=e.2.length:=by
   cases e9:e.2 with
   | nil=>exact absurd e9 v
   | cons=>simp
  exact⟨⟨C,by lia⟩,λm b=>((d e g).2 m b).1,by lia,λm b=>((d e g).2 m b).2.1,λm b=>((d e g).2 m b).2.2⟩
 .cases e:parts a with
  | nil =>
   rw[e]at k;have:=h.len.1;simp at k;lia
  | cons=>simp
theorem dS(a:List (List Mb)):(outer a).length=a.length:=by unfold outer;rw[length_map,List.length_zipIdx]
theorem kE(a:List (List Mb)):szs (outer a)=a.map λc=>(szs c).sum:=by
 unfold szs outer;rw[map_map];show(a.zipIdx.map λg=>(g.1.map λm=>m.2.1).sum)=_;rw[show(λg:List Mb×Nat=>(g.1.map λm=>m.2.1).sum)=(λc:List Mb=>(c.map λm=>m.2.1).sum) ∘ Prod.fst from rfl,<- map_map,List.zipIdx_map_fst]
theorem iL(a:List (List Mb)):plc (outer a)=(List.range a.length).map λk:Nat=>(k:Int):=by
 unfold plc outer;rw[map_map];show(a.zipIdx.map λg=>((g.2:Nat):Int))=_;rw[show(λg:List Mb×Nat=>((g.2:Nat):Int))=(λk:Nat=>(k:Int)) ∘ Prod.snd from rfl,<- map_map,List.zipIdx_map_snd,List.range_eq_range']
theorem jT{n:Nat}{b:List Mb}(h:Cok (n+1) b):Cok 0 (outer (parts b)):=by
 have p:=dw h;refine⟨by rw[dS];exact⟨p.pos,by have:=p.len;lia⟩,λm a=>?_,by rw[kE,p.sum];exact h.sum,λm a=>?_,λm a s hs=>?_⟩
 .have:m.2.1∈szs (outer (parts b)):=mem_map.mpr ⟨m,a,rfl⟩
  rw[kE]at this;obtain⟨c,j,e⟩:=mem_map.mp this;rw[<- e];have d:=p.each c j;have i:=d.len.1;cases ec:c with
  | nil=>rw[ec]at i;simp at i
  | cons x r =>
   have f:x.2.1∈szs c:=by rw[ec];exact mem_map.mpr ⟨x,mem_cons_self,rfl⟩
   have:=mq d.pos f;have:=d.hi _ f;rw[<- ec];lia
 .obtain⟨g,_,rfl⟩:=mem_map.mp a
  exact⟨Nat.zero_le _,by show 0<=3;decide⟩
 .obtain⟨g,_,rfl⟩:=mem_map.mp a
  cases hs
end Nst
namespace My
open PySem L2 FrM Nst
def top(i:Nat):Stmt:=PySem.Challenge.pw_fewspeak_k43_whole_nested_throws.main.body.getD i (.Pass ⟨0,0,0,0⟩)
abbrev bS:Stmt:=bh (top 3) 0
abbrev bL:Stmt:=bh (top 5) 0
abbrev aN:Stmt:=top 7
abbrev dX:Stmt:=top 8
abbrev cx:Stmt:=top 10
abbrev bc:Stmt:=bh (top 13) 0
abbrev bw:Stmt:=bh (top 13) 1
abbrev cb:Stmt:=bh (top 13) 2
abbrev bR:Stmt:=bh (top 13) 3
abbrev bq:Stmt:=bh (top 14) 0
abbrev bF:Stmt:=bh (top 14) 1
abbrev cE:Stmt:=bh (top 14) 2
abbrev ce:Stmt:=bh (top 14) 3
abbrev bX:Stmt:=bh (top 14) 5
abbrev bG:Stmt:=bh (top 14) 6
abbrev bb:Stmt:=top 15
abbrev be:Stmt:=top 16
abbrev dY:Stmt:=top 17
abbrev de:Stmt:=top 18
abbrev b8:Stmt:=top 20
abbrev dv:Stmt:=top 26
abbrev aV:Stmt:=top 27
abbrev b7:Stmt:=top 28
abbrev cf:Stmt:=top 29
abbrev bE:Stmt:=top 30
abbrev bx:Stmt:=bh (top 32) 0
abbrev cz:Stmt:=bh (top 32) 1
abbrev bQ:Stmt:=bh (top 32) 3
abbrev bT:Stmt:=top 33
abbrev aY:Stmt:=bh (top 34) 0
abbrev bM:Stmt:=bh (top 34) 1
abbrev bu:Stmt:=bh (top 34) 3
abbrev bH:Stmt:=top 35
abbrev aW:Stmt:=bh (top 36) 0
abbrev bN:Stmt:=bh (top 36) 1
abbrev br:Stmt:=bh (top 36) 3
abbrev bZ:Stmt:=top 37
abbrev bz:Stmt:=top 38
abbrev dA:Stmt:=top 40
abbrev aQ:Stmt:=top 41
abbrev bv:Stmt:=top 42
abbrev bf:Stmt:=bh (top 43) 0
abbrev bY:Stmt:=bh (top 43) 1
abbrev bD:Stmt:=bh (top 43) 3
abbrev aX:Stmt:=bh (top 44) 0
abbrev bI:Stmt:=bh (top 44) 1
abbrev bp:Stmt:=bh (top 44) 3
abbrev dq:Stmt:=top 46
abbrev da:Stmt:=top 47
abbrev dz:Stmt:=top 48
abbrev cv:Stmt:=top 49
abbrev cy:Stmt:=top 50
abbrev cB:Stmt:=top 51
abbrev cV:Stmt:=top 52
abbrev cZ:Stmt:=top 53
abbrev cI:Stmt:=top 54
abbrev dC:Stmt:=top 55
abbrev cU:Stmt:=top 56
abbrev cH:Stmt:=top 57
abbrev dZ:Stmt:=top 58
abbrev dB:Stmt:=top 59
abbrev cX:Stmt:=top 60
abbrev iC:Stmt:=top 61
theorem fS{N P:List Str}{e:Scope}(a:e.kind=.function)(b:e.isCoroutine=false)(c:e.isGenerator=false)(d:N.take P.length=P)(h:N.Nodup/\(∀ x∈P,e.names.lookup x = some .local \/ e.names.lookup x = some .cell)/\∀ y∈e.names,y.2≠.free):FnScope N P e:=⟨a,b,c,h.1,d,h.2.1,h.2.2⟩
theorem sc_B:FnScope ["one","other"] ["one","other"] (af aN):=fS rfl rfl rfl rfl (by decide +kernel)
theorem sc_ag:FnScope ["top","bottom","divisor"] ["top","bottom"] (af dX):=fS rfl rfl rfl rfl (by decide +kernel)
theorem my:FnScope ["thing","low","high"] ["thing","low","high"] (af cx):=fS rfl rfl rfl rfl (by decide +kernel)
theorem iZ:FnScope ["self","kept"] ["self","kept"] (af bc):=fS rfl rfl rfl rfl (by decide +kernel)
theorem jf:FnScope ["self"] ["self"] (af bw):=fS rfl rfl rfl rfl (by decide +kernel)
theorem lA:FnScope ["self"] ["self"] (af cb):=fS rfl rfl rfl rfl (by decide +kernel)
theorem kn:FnScope ["self"] ["self"] (af bR):=fS rfl rfl rfl rfl (by decide +kernel)
theorem jn:FnScope ["self","parts"] ["self","parts"] (af bq):=fS rfl rfl rfl rfl (by decide +kernel)
theorem j9:FnScope ["self"] ["self"] (af bF):=fS rfl rfl rfl rfl (by decide +kernel)
theorem mW:FnScope ["self"] ["self"] (af cE):=fS rfl rfl rfl rfl (by decide +kernel)
theorem lG:FnScope ["self"] ["self"] (af ce):=fS rfl rfl rfl rfl (by decide +kernel)
theorem sc_H:FnScope ["self","throw","number","last","many","make"] ["self","throw"] (af bX):=fS rfl rfl rfl rfl (by decide +kernel)
theorem j6:FnScope ["self","carry"] ["self","carry"] (af bG):=fS rfl rfl rfl rfl (by decide +kernel)
abbrev eQ:Expr:=(lN (lD bb 0))
def aZ:LamD:=iD ((("carried_make" : Str) ++ ".<locals>.") ++ "<lambda>") eQ
theorem jl:FnScope ["make","carry"] ["make","carry"] (af bb):=fS rfl rfl rfl rfl (by decide +kernel)
theorem iV:FnScope ["node","throw"] ["node","throw"] (af be):=fS rfl rfl rfl rfl (by decide +kernel)
theorem sc_al:FnScope ["node","throws","here","place","throw"] ["node","throws"] (af dY):=fS rfl rfl rfl rfl (by decide +kernel)
abbrev je:Expr:=(om (lN (lD de 1)) 0)
def ld_behind_1:LamD:=iD ((("behind" : Str) ++ ".<locals>.") ++ "<lambda>") je
theorem qf:FnScope ["node","go"] ["node","go"] (af de):=fS rfl rfl rfl rfl (by decide +kernel)
theorem sc_W:FnScope ["crowd","groups","place","size","path"] ["crowd"] (af b8):=fS rfl rfl rfl rfl (by decide +kernel)
theorem qt:FnScope ["sizes","many"] ["sizes","many"] (af dv):=fS rfl rfl rfl rfl (by decide +kernel)
theorem sc_y:FnScope ["sizes","many","left","wanted","whole","staying"] ["sizes","many"] (af aV):=fS rfl rfl rfl rfl (by decide +kernel)
theorem mt:FnScope ["crowd","many"] ["crowd","many"] (af b7):=fS rfl rfl rfl rfl (by decide +kernel)
theorem lP:FnScope ["crowd"] ["crowd"] (af cf):=fS rfl rfl rfl rfl (by decide +kernel)
theorem jw:FnScope ["thing","low","high"] ["thing","low","high"] (af bE):=fS rfl rfl rfl rfl (by decide +kernel)
theorem ji:FnScope ["self","many"] ["self","many"] (af bx):=fS rfl rfl rfl rfl (by decide +kernel)
theorem mH:FnScope ["self","crowd"] ["self","crowd"] (af cz):=fS rfl rfl rfl rfl (by decide +kernel)
theorem sc_A:FnScope ["self","crowd","wanted"] ["self","crowd"] (af bQ):=fS rfl rfl rfl rfl (by decide +kernel)
abbrev gL:Expr:=(uD (uC (om (lN (lD bT 3)) 0) 0) 1)
def dr:LamD:=iD ((("few_node" : Str) ++ ".<locals>.") ++ "<lambda>") gL
abbrev gK:Expr:=(uD (uC (om (lN (lD bT 3)) 0) 1) 1)
def dn:LamD:=iD ((("few_node" : Str) ++ ".<locals>.") ++ "<lambda>") gK
theorem sc_m:FnScope ["ahead","wanted","taken","rest"] ["ahead","wanted","taken"] (af bT):=fS rfl rfl rfl rfl (by decide +kernel)
theorem il:FnScope ["self","step"] ["self","step"] (af aY):=fS rfl rfl rfl rfl (by decide +kernel)
theorem sc_r:FnScope ["self","crowd","places","step"] ["self","crowd"] (af bM):=fS rfl rfl rfl rfl (by decide +kernel)
theorem jo:FnScope ["self","crowd"] ["self","crowd"] (af bu):=fS rfl rfl rfl rfl (by decide +kernel)
abbrev fR:Expr:=(lN (lD bH 0))
def bW:LamD:=iD ((("start_make" : Str) ++ ".<locals>.") ++ "<lambda>") fR
theorem ki:FnScope ["places","step","first"] ["places","step","first"] (af bH):=fS rfl rfl rfl rfl (by decide +kernel)
theorem iF:FnScope ["self","many"] ["self","many"] (af aW):=fS rfl rfl rfl rfl (by decide +kernel)
theorem sc_s:FnScope ["self","crowd","told","sure"] ["self","crowd"] (af bN):=fS rfl rfl rfl rfl (by decide +kernel)
theorem sc_q:FnScope ["self","crowd","told"] ["self","crowd"] (af br):=fS rfl rfl rfl rfl (by decide +kernel)
theorem lx:FnScope ["chance"] ["chance"] (af bZ):=fS rfl rfl rfl rfl (by decide +kernel)
abbrev fQ:Expr:=(uD (uC (om (lN (lD bz 3)) 0) 0) 1)
def cS:LamD:=iD ((("loose_node" : Str) ++ ".<locals>.") ++ "<lambda>") fQ
abbrev fY:Expr:=(uD (uC (om (lN (lD bz 3)) 0) 1) 1)
def cQ:LamD:=iD ((("loose_node" : Str) ++ ".<locals>.") ++ "<lambda>") fY
theorem sc_h:FnScope ["ahead","taken","place","chance","rest"] ["ahead","taken"] (af bz):=fS rfl rfl rfl rfl (by decide +kernel)
theorem qg:FnScope ["crowd"] ["crowd"] (af dA):=fS rfl rfl rfl rfl (by decide +kernel)
theorem gY:FnScope ["groups"] ["groups"] (af aQ):=fS rfl rfl rfl rfl (by decide +kernel)
abbrev fE:Expr:=(om (lN (lD bv 1)) 1)
def ci:LamD:=iD ((("groups_node" : Str) ++ ".<locals>.") ++ "<lambda>") fE
theorem sc_b:FnScope ["plan","groups","taken"] ["plan","groups","taken"] (af bv):=fS rfl rfl rfl rfl (by decide +kernel)
theorem iN:FnScope ["self","inside"] ["self","inside"] (af bf):=fS rfl rfl rfl rfl (by decide +kernel)
theorem lj:FnScope ["self","crowd"] ["self","crowd"] (af bY):=fS rfl rfl rfl rfl (by decide +kernel)
theorem sc_o:FnScope ["self","crowd","told"] ["self","crowd"] (af bD):=fS rfl rfl rfl rfl (by decide +kernel)
theorem ij:FnScope ["self","outside","inside"] ["self","outside","inside"] (af aX):=fS rfl rfl rfl rfl (by decide +kernel)
abbrev fU:Expr:=(om (lN (lD bI 3)) 1)
def cm:LamD:=iD ((("First.node" : Str) ++ ".<locals>.") ++ "<lambda>") fU
theorem sc_a:FnScope ["self","crowd","groups","inside","outer"] ["self","crowd"] (af bI):=fS rfl rfl rfl rfl (by decide +kernel)
theorem sc_k:FnScope ["self","crowd","groups","fewest","most","told","lows","highs"] ["self","crowd"] (af bp):=fS rfl rfl rfl rfl (by decide +kernel)
theorem qi:FnScope ["_law_script","_law_k"] ["_law_script","_law_k"] (af dq):=fS rfl rfl rfl rfl (by decide +kernel)
theorem sc_E:FnScope ["_law_cell_here","_law_k","_law_number"] ["_law_cell_here","_law_k"] (af da):=fS rfl rfl rfl rfl (by decide +kernel)
theorem sc_V:FnScope ["_law_number","_law_deep","_law_wide","_law_way","_law_one","_law_other"] ["_law_number","_law_deep","_law_wide"] (af dz):=fS rfl rfl rfl rfl (by decide +kernel)
theorem sc_ad:FnScope ["_law_top","_law_bottom","_law_one","_law_other"] ["_law_top","_law_bottom"] (af cv):=fS rfl rfl rfl rfl (by decide +kernel)
theorem sc_J:FnScope ["_law_sizes","_law_many","_law_aside","_law_more","_law_total","_law_found","_law_shares","_law_k","_law_size"] ["_law_sizes","_law_many"] (af cy):=fS rfl rfl rfl rfl (by decide +kernel)
theorem sc_aa:FnScope ["_law_crowd_here","_law_names","_law_member","_law_found","_law_name"] ["_law_crowd_here"] (af cB):=fS rfl rfl rfl rfl (by decide +kernel)
theorem oG:FnScope ["_law_groups_here"] ["_law_groups_here"] (af cV):=fS rfl rfl rfl rfl (by decide +kernel)
theorem jB:FnScope ["_law_tree_here"] ["_law_tree_here"] (af cZ):=fS rfl rfl rfl rfl (by decide +kernel)
theorem sc_C:FnScope ["_law_tree_here","_law_outer_here"] ["_law_tree_here"] (af cI):=fS rfl rfl rfl rfl (by decide +kernel)
theorem kI:FnScope ["_law_tree_here"] ["_law_tree_here"] (af dC):=fS rfl rfl rfl rfl (by decide +kernel)
theorem sc_Z:FnScope ["_law_cell_here","_law_crowd_here","_law_turns","_law_k","_law_number","_law_size","_law_path","_law_j"] ["_law_cell_here"] (af cU):=fS rfl rfl rfl rfl (by decide +kernel)
theorem sc_U:FnScope ["_law_state","_law_sides","_law_throw"] ["_law_state","_law_sides"] (af cH):=fS rfl rfl rfl rfl (by decide +kernel)
theorem sc_ak:FnScope ["_law_many","_law_crowd_here","_law_state","_law_found","_law_k","_law_member"] ["_law_many","_law_crowd_here","_law_state"] (af dZ):=fS rfl rfl rfl rfl (by decide +kernel)
theorem sc_Q:FnScope ["_law_tree_here","_law_crowd_here","_law_state","_law_places","_law_start","_law_found","_law_place","_law_much","_law_groups_here","_law_turned_to","_law_k"] ["_law_tree_here","_law_crowd_here","_law_state"] (af dB):=fS rfl rfl rfl rfl (by decide +kernel)
theorem sc_X:FnScope ["_law_tree_here","_law_crowd_here","_law_rest","_law_plan_here","_law_state","_law_due","_law_handed","_law_node","_law_throw","_law_sides","_law_least","_law_most"] ["_law_tree_here","_law_crowd_here","_law_rest"] (af cX):=fS rfl rfl rfl rfl (by decide +kernel)
theorem sc_ap:FnScope ["_law_script","_law_k","_law_cell_here","_law_number","_law_tree_here","_law_rest","_law_j"] ["_law_script"] (af iC):=fS rfl rfl rfl rfl (by decide +kernel)
set_option genInjectivity false in
set_option genSizeOf false in
structure Ad where
 f_B:Addr
 d_B:FuncData
 f_ag:Addr
 d_ag:FuncData
 f_ac:Addr
 d_ac:FuncData
 f_j:Addr
 d_j:FuncData
 f_I:Addr
 d_I:FuncData
 f_al:Addr
 d_al:FuncData
 f_u:Addr
 d_u:FuncData
 f_W:Addr
 d_W:FuncData
 f_an:Addr
 d_an:FuncData
 f_y:Addr
 d_y:FuncData
 f_Y:Addr
 d_Y:FuncData
 f_R:Addr
 d_R:FuncData
 f_F:Addr
 d_F:FuncData
 f_m:Addr
 d_m:FuncData
 f_n:Addr
 d_n:FuncData
 f_af:Addr
 d_af:FuncData
 f_h:Addr
 d_h:FuncData
 f_ab:Addr
 d_ab:FuncData
 f_d:Addr
 d_d:FuncData
 f_b:Addr
 d_b:FuncData
 f_ao:Addr
 d_ao:FuncData
 f_E:Addr
 d_E:FuncData
 f_V:Addr
 d_V:FuncData
 f_ad:Addr
 d_ad:FuncData
 f_J:Addr
 d_J:FuncData
 f_aa:Addr
 d_aa:FuncData
 f_ah:Addr
 d_ah:FuncData
 f_D:Addr
 d_D:FuncData
 f_C:Addr
 d_C:FuncData
 f_N:Addr
 d_N:FuncData
 f_Z:Addr
 d_Z:FuncData
 f_U:Addr
 d_U:FuncData
 f_ak:Addr
 d_ak:FuncData
 f_Q:Addr
 d_Q:FuncData
 f_X:Addr
 d_X:FuncData
 f_ap:Addr
 d_ap:FuncData
 c_ae:Addr
 c_S:Addr
 i_S:Addr
 e_S:FuncData
 c_am:Addr
 c_L:Addr
 i_L:Addr
 e_L:FuncData
 c_ai:Addr
 c_i:Addr
 i_i:Addr
 e_i:FuncData
 c_p:Addr
 i_p:Addr
 e_p:FuncData
 c_aj:Addr
 c_x:Addr
 i_x:Addr
 e_x:FuncData
 c_f:Addr
 i_f:Addr
 e_f:FuncData
 c_g:Addr
 i_g:Addr
 e_g:FuncData
 c_l:Addr
 i_l:Addr
 e_l:FuncData
 c_c:Addr
 i_c:Addr
 e_c:FuncData
 x_v:Addr
 y_v:FuncData
 x_z:Addr
 y_z:FuncData
 x_K:Addr
 y_K:FuncData
 x_O:Addr
 y_O:FuncData
 x_M:Addr
 y_M:FuncData
 x_T:Addr
 y_T:FuncData
 x_H:Addr
 y_H:FuncData
 x_P:Addr
 y_P:FuncData
 x_G:Addr
 y_G:FuncData
 x_r:Addr
 y_r:FuncData
 x_s:Addr
 y_s:FuncData
 x_t:Addr
 y_t:FuncData
 x_a:Addr
 y_a:FuncData
 x_A:Addr
 y_A:FuncData
 x_w:Addr
 y_w:FuncData
 x_q:Addr
 y_q:FuncData
 x_o:Addr
 y_o:FuncData
 x_k:Addr
 y_k:FuncData
 k_NOUGHT:Addr
 k_WHOLE:Addr
 lc_a:Addr
 lp_a:Addr
 lc_u:Addr
 lp_u:Addr
 lc_b:Addr
 lp_b:Addr
 lc_h:Addr
 lp_h:Addr
 lc_n:Addr
 lp_n:Addr
 lc_j:Addr
 lp_j:Addr
 lc_m:Addr
 lp_m:Addr
abbrev fc:List (Pos×Str):=[(lB fU,((("First.node" : Str) ++ ".<locals>.") ++ "<lambda>"))]
theorem kh:(fc).Pairwise λx y=>¬(x.1.line=y.1.line/\x.1.col=y.1.col):=by decide +kernel
abbrev iR:List (Pos×Str):=[(lB je,((("behind" : Str) ++ ".<locals>.") ++ "<lambda>"))]
theorem qk:(iR).Pairwise λx y=>¬(x.1.line=y.1.line/\x.1.col=y.1.col):=by decide +kernel
abbrev eG:List (Pos×Str):=[(lB fE,((("groups_node" : Str) ++ ".<locals>.") ++ "<lambda>"))]
theorem gb:(eG).Pairwise λx y=>¬(x.1.line=y.1.line/\x.1.col=y.1.col):=by decide +kernel
abbrev fg:List (Pos×Str):=[(lB fQ,((("loose_node" : Str) ++ ".<locals>.") ++ "<lambda>")),(lB fY,((("loose_node" : Str) ++ ".<locals>.") ++ "<lambda>"))]
theorem gX:(fg).Pairwise λx y=>¬(x.1.line=y.1.line/\x.1.col=y.1.col):=by decide +kernel
abbrev ff:List (Pos×Str):=[(lB fR,((("start_make" : Str) ++ ".<locals>.") ++ "<lambda>"))]
theorem kg:(ff).Pairwise λx y=>¬(x.1.line=y.1.line/\x.1.col=y.1.col):=by decide +kernel
abbrev ei:List (Pos×Str):=[(lB eQ,((("carried_make" : Str) ++ ".<locals>.") ++ "<lambda>"))]
theorem jk:(ei).Pairwise λx y=>¬(x.1.line=y.1.line/\x.1.col=y.1.col):=by decide +kernel
abbrev gw:List (Pos×Str):=[(lB gL,((("few_node" : Str) ++ ".<locals>.") ++ "<lambda>")),(lB gK,((("few_node" : Str) ++ ".<locals>.") ++ "<lambda>"))]
theorem i8:(gw).Pairwise λx y=>¬(x.1.line=y.1.line/\x.1.col=y.1.col):=by decide +kernel
def tabs(a:Ad):oF:=[(a.lp_a,fc),(a.lp_u,iR),(a.lp_b,eG),(a.lp_h,fg),(a.lp_n,ff),(a.lp_j,ei),(a.lp_m,gw)]
theorem kf(a:Ad):(a.lp_a,fc)∈tabs a:=(.head _)
theorem qp(a:Ad):(a.lp_u,iR)∈tabs a:=(.tail _ (.head _))
theorem gp(a:Ad):(a.lp_b,eG)∈tabs a:=(.tail _ (.tail _ (.head _)))
theorem gO(a:Ad):(a.lp_h,fg)∈tabs a:=(.tail _ (.tail _ (.tail _ (.head _))))
theorem kc(a:Ad):(a.lp_n,ff)∈tabs a:=(.tail _ (.tail _ (.tail _ (.tail _ (.head _)))))
theorem jh(a:Ad):(a.lp_j,ei)∈tabs a:=(.tail _ (.tail _ (.tail _ (.tail _ (.tail _ (.head _))))))
theorem i7(a:Ad):(a.lp_m,gw)∈tabs a:=(.tail _ (.tail _ (.tail _ (.tail _ (.tail _ (.tail _ (.head _)))))))
structure Txt(K:Frag)(mg:Str->Option Value)(a:Ad):Prop where
 lcd_a:a.y_a.code=.ref a.lc_a
 lch_a:codeHdIn K a.lc_a a.lp_a=true
 lcd_u:a.d_u.code=.ref a.lc_u
 lch_u:codeHdIn K a.lc_u a.lp_u=true
 lcd_b:a.d_b.code=.ref a.lc_b
 lch_b:codeHdIn K a.lc_b a.lp_b=true
 lcd_h:a.d_h.code=.ref a.lc_h
 lch_h:codeHdIn K a.lc_h a.lp_h=true
 lcd_n:a.d_n.code=.ref a.lc_n
 lch_n:codeHdIn K a.lc_n a.lp_n=true
 lcd_j:a.d_j.code=.ref a.lc_j
 lch_j:codeHdIn K a.lc_j a.lp_j=true
 lcd_m:a.d_m.code=.ref a.lc_m
 lch_m:codeHdIn K a.lc_m a.lp_m=true
 tnd:((tabs a).map (·.1)).Nodup
 F_B:Fun K "greatest_divisor" "greatest_divisor" aN a.f_B a.d_B
 B_B:Binds K a.d_B ["one","other"] []
 m_B:mg "greatest_divisor" = some (.ref a.f_B)
 F_ag:Fun K "share" "share" dX a.f_ag a.d_ag
 B_ag:Binds K a.d_ag ["top","bottom"] []
 m_ag:mg "share" = some (.ref a.f_ag)
 F_ac:Fun K "is_whole" "is_whole" cx a.f_ac a.d_ac
 B_ac:Binds K a.d_ac ["thing","low","high"] []
 m_ac:mg "is_whole" = some (.ref a.f_ac)
 F_j:Fun K "carried_make" "carried_make" bb a.f_j a.d_j
 B_j:Binds K a.d_j ["make","carry"] []
 m_j:mg "carried_make" = some (.ref a.f_j)
 F_I:Fun K "can_be_thrown" "can_be_thrown" be a.f_I a.d_I
 B_I:Binds K a.d_I ["node","throw"] []
 m_I:mg "can_be_thrown" = some (.ref a.f_I)
 F_al:Fun K "drawn" "drawn" dY a.f_al a.d_al
 B_al:Binds K a.d_al ["node","throws"] []
 m_al:mg "drawn" = some (.ref a.f_al)
 F_u:Fun K "behind" "behind" de a.f_u a.d_u
 B_u:Binds K a.d_u ["node","go"] []
 m_u:mg "behind" = some (.ref a.f_u)
 F_W:Fun K "groups_of" "groups_of" b8 a.f_W a.d_W
 B_W:Binds K a.d_W ["crowd"] []
 m_W:mg "groups_of" = some (.ref a.f_W)
 F_an:Fun K "wished" "wished" dv a.f_an a.d_an
 B_an:Binds K a.d_an ["sizes","many"] []
 m_an:mg "wished" = some (.ref a.f_an)
 F_y:Fun K "wished_of_some" "wished_of_some" aV a.f_y a.d_y
 B_y:Binds K a.d_y ["sizes","many"] []
 m_y:mg "wished_of_some" = some (.ref a.f_y)
 F_Y:Fun K "wished_by" "wished_by" b7 a.f_Y a.d_Y
 B_Y:Binds K a.d_Y ["crowd","many"] []
 m_Y:mg "wished_by" = some (.ref a.f_Y)
 F_R:Fun K "places_of" "places_of" cf a.f_R a.d_R
 B_R:Binds K a.d_R ["crowd"] []
 m_R:mg "places_of" = some (.ref a.f_R)
 F_F:Fun K "need_number" "need_number" bE a.f_F a.d_F
 B_F:Binds K a.d_F ["thing","low","high"] []
 m_F:mg "need_number" = some (.ref a.f_F)
 F_m:Fun K "few_node" "few_node" bT a.f_m a.d_m
 B_m:Binds K a.d_m ["ahead","wanted","taken"] []
 m_m:mg "few_node" = some (.ref a.f_m)
 F_n:Fun K "start_make" "start_make" bH a.f_n a.d_n
 B_n:Binds K a.d_n ["places","step","first"] []
 m_n:mg "start_make" = some (.ref a.f_n)
 F_af:Fun K "is_unsure" "is_unsure" bZ a.f_af a.d_af
 B_af:Binds K a.d_af ["chance"] []
 m_af:mg "is_unsure" = some (.ref a.f_af)
 F_h:Fun K "loose_node" "loose_node" bz a.f_h a.d_h
 B_h:Binds K a.d_h ["ahead","taken"] []
 m_h:mg "loose_node" = some (.ref a.f_h)
 F_ab:Fun K "parted" "parted" dA a.f_ab a.d_ab
 B_ab:Binds K a.d_ab ["crowd"] []
 m_ab:mg "parted" = some (.ref a.f_ab)
 F_d:Fun K "crowd_of_groups" "crowd_of_groups" aQ a.f_d a.d_d
 B_d:Binds K a.d_d ["groups"] []
 m_d:mg "crowd_of_groups" = some (.ref a.f_d)
 F_b:Fun K "groups_node" "groups_node" bv a.f_b a.d_b
 B_b:Binds K a.d_b ["plan","groups","taken"] []
 m_b:mg "groups_node" = some (.ref a.f_b)
 F_ao:Fun K "_law_cell" "_law_cell" dq a.f_ao a.d_ao
 B_ao:Binds K a.d_ao ["_law_script","_law_k"] []
 m_ao:mg "_law_cell" = some (.ref a.f_ao)
 F_E:Fun K "_law_mixed" "_law_mixed" da a.f_E a.d_E
 B_E:Binds K a.d_E ["_law_cell_here","_law_k"] []
 m_E:mg "_law_mixed" = some (.ref a.f_E)
 F_V:Fun K "_law_tree" "_law_tree" dz a.f_V a.d_V
 B_V:Binds K a.d_V ["_law_number","_law_deep","_law_wide"] []
 m_V:mg "_law_tree" = some (.ref a.f_V)
 F_ad:Fun K "_law_lowest" "_law_lowest" cv a.f_ad a.d_ad
 B_ad:Binds K a.d_ad ["_law_top","_law_bottom"] []
 m_ad:mg "_law_lowest" = some (.ref a.f_ad)
 F_J:Fun K "_law_wished" "_law_wished" cy a.f_J a.d_J
 B_J:Binds K a.d_J ["_law_sizes","_law_many"] []
 m_J:mg "_law_wished" = some (.ref a.f_J)
 F_aa:Fun K "_law_groups" "_law_groups" cB a.f_aa a.d_aa
 B_aa:Binds K a.d_aa ["_law_crowd_here"] []
 m_aa:mg "_law_groups" = some (.ref a.f_aa)
 F_ah:Fun K "_law_outer" "_law_outer" cV a.f_ah a.d_ah
 B_ah:Binds K a.d_ah ["_law_groups_here"] []
 m_ah:mg "_law_outer" = some (.ref a.f_ah)
 F_D:Fun K "_law_needs" "_law_needs" cZ a.f_D a.d_D
 B_D:Binds K a.d_D ["_law_tree_here"] []
 m_D:mg "_law_needs" = some (.ref a.f_D)
 F_C:Fun K "_law_fitted" "_law_fitted" cI a.f_C a.d_C
 B_C:Binds K a.d_C ["_law_tree_here"] []
 m_C:mg "_law_fitted" = some (.ref a.f_C)
 F_N:Fun K "_law_plan" "_law_plan" dC a.f_N a.d_N
 B_N:Binds K a.d_N ["_law_tree_here"] []
 m_N:mg "_law_plan" = some (.ref a.f_N)
 F_Z:Fun K "_law_crowd" "_law_crowd" cU a.f_Z a.d_Z
 B_Z:Binds K a.d_Z ["_law_cell_here"] []
 m_Z:mg "_law_crowd" = some (.ref a.f_Z)
 F_U:Fun K "_law_thrown" "_law_thrown" cH a.f_U a.d_U
 B_U:Binds K a.d_U ["_law_state","_law_sides"] []
 m_U:mg "_law_thrown" = some (.ref a.f_U)
 F_ak:Fun K "_law_few" "_law_few" dZ a.f_ak a.d_ak
 B_ak:Binds K a.d_ak ["_law_many","_law_crowd_here","_law_state"] []
 m_ak:mg "_law_few" = some (.ref a.f_ak)
 F_Q:Fun K "_law_draw" "_law_draw" dB a.f_Q a.d_Q
 B_Q:Binds K a.d_Q ["_law_tree_here","_law_crowd_here","_law_state"] []
 m_Q:mg "_law_draw" = some (.ref a.f_Q)
 F_X:Fun K "_law_right" "_law_right" cX a.f_X a.d_X
 B_X:Binds K a.d_X ["_law_tree_here","_law_crowd_here","_law_rest"] []
 m_X:mg "_law_right" = some (.ref a.f_X)
 F_ap:Fun K "law" "law" iC a.f_ap a.d_ap
 m_ap:mg "law" = some (.ref a.f_ap)
 g_MOST_MANY:∃ u,mg "MOST_MANY" = some u/\RelV (.int 24) u
 g_MOST_STEP:∃ u,mg "MOST_STEP" = some u/\RelV (.int 100) u
 g_NOUGHT:∃ u,mg "NOUGHT" = some u/\RelV (.ref a.k_NOUGHT) u
 t_NOUGHT:jy K a.k_NOUGHT [(.int 0),(.int 1)]=true
 g_WHOLE:∃ u,mg "WHOLE" = some u/\RelV (.ref a.k_WHOLE) u
 t_WHOLE:jy K a.k_WHOLE [(.int 1),(.int 1)]=true
 mc_i:mg "Told" = some (.ref a.c_i)
 cl_i:Cls K a.c_i
 mk_i:Mk K a.c_i a.i_i
 Fi_i:Fun K "__init__" "Told.__init__" bc a.i_i a.e_i
 Bi_i:Binds K a.e_i ["self","kept"] []
 na_Told_rising:NoAttr K a.c_i "rising"
 mt_v:Meth K a.c_i "is_told" a.x_v
 mt_K:Meth K a.c_i "kept" a.x_K
 mt_M:Meth K a.c_i "sides" a.x_M
 mc_p:mg "Die" = some (.ref a.c_p)
 cl_p:Cls K a.c_p
 mk_p:Mk K a.c_p a.i_p
 Fi_p:Fun K "__init__" "Die.__init__" bq a.i_p a.e_p
 Bi_p:Binds K a.e_p ["self","parts"] []
 na_Die_makes:NoAttr K a.c_p "makes"
 mt_z:Meth K a.c_p "is_told" a.x_z
 mt_O:Meth K a.c_p "kept" a.x_O
 mt_T:Meth K a.c_p "sides" a.x_T
 mt_H:Meth K a.c_p "after" a.x_H
 mt_P:Meth K a.c_p "carried" a.x_P
 mc_x:mg "Few" = some (.ref a.c_x)
 cl_x:Cls K a.c_x
 mk_x:Mk K a.c_x a.i_x
 Fi_x:Fun K "__init__" "Few.__init__" bx a.i_x a.e_x
 Bi_x:Binds K a.e_x ["self","many"] []
 na_Few_many:NoAttr K a.c_x "many"
 mt_G:Meth K a.c_x "node" a.x_G
 mt_A:Meth K a.c_x "bounds" a.x_A
 mc_f:mg "Start" = some (.ref a.c_f)
 cl_f:Cls K a.c_f
 mk_f:Mk K a.c_f a.i_f
 Fi_f:Fun K "__init__" "Start.__init__" aY a.i_f a.e_f
 Bi_f:Binds K a.e_f ["self","step"] []
 na_Start_step:NoAttr K a.c_f "step"
 mt_r:Meth K a.c_f "node" a.x_r
 mt_w:Meth K a.c_f "bounds" a.x_w
 mc_g:mg "Loose" = some (.ref a.c_g)
 cl_g:Cls K a.c_g
 mk_g:Mk K a.c_g a.i_g
 Fi_g:Fun K "__init__" "Loose.__init__" aW a.i_g a.e_g
 Bi_g:Binds K a.e_g ["self","many"] []
 na_Loose_many:NoAttr K a.c_g "many"
 mt_s:Meth K a.c_g "node" a.x_s
 mt_q:Meth K a.c_g "bounds" a.x_q
 mc_l:mg "Each" = some (.ref a.c_l)
 cl_l:Cls K a.c_l
 mk_l:Mk K a.c_l a.i_l
 Fi_l:Fun K "__init__" "Each.__init__" bf a.i_l a.e_l
 Bi_l:Binds K a.e_l ["self","inside"] []
 na_Each_inside:NoAttr K a.c_l "inside"
 mt_t:Meth K a.c_l "node" a.x_t
 mt_o:Meth K a.c_l "bounds" a.x_o
 mc_c:mg "First" = some (.ref a.c_c)
 cl_c:Cls K a.c_c
 mk_c:Mk K a.c_c a.i_c
 Fi_c:Fun K "__init__" "First.__init__" aX a.i_c a.e_c
 Bi_c:Binds K a.e_c ["self","outside","inside"] []
 na_First_outside:NoAttr K a.c_c "outside"
 na_First_inside:NoAttr K a.c_c "inside"
 mt_a:Meth K a.c_c "node" a.x_a
 mt_k:Meth K a.c_c "bounds" a.x_k
 F_v:Fun K "is_told" "Told.is_told" bw a.x_v a.y_v
 B_v:Binds K a.y_v ["self"] []
 F_z:Fun K "is_told" "Die.is_told" bF a.x_z a.y_z
 B_z:Binds K a.y_z ["self"] []
 F_K:Fun K "kept" "Told.kept" cb a.x_K a.y_K
 B_K:Binds K a.y_K ["self"] []
 F_O:Fun K "kept" "Die.kept" cE a.x_O a.y_O
 B_O:Binds K a.y_O ["self"] []
 F_M:Fun K "sides" "Told.sides" bR a.x_M a.y_M
 B_M:Binds K a.y_M ["self"] []
 F_T:Fun K "sides" "Die.sides" ce a.x_T a.y_T
 B_T:Binds K a.y_T ["self"] []
 F_H:Fun K "after" "Die.after" bX a.x_H a.y_H
 B_H:Binds K a.y_H ["self","throw"] []
 F_P:Fun K "carried" "Die.carried" bG a.x_P a.y_P
 B_P:Binds K a.y_P ["self","carry"] []
 F_G:Fun K "node" "Few.node" cz a.x_G a.y_G
 B_G:Binds K a.y_G ["self","crowd"] []
 F_r:Fun K "node" "Start.node" bM a.x_r a.y_r
 B_r:Binds K a.y_r ["self","crowd"] []
 F_s:Fun K "node" "Loose.node" bN a.x_s a.y_s
 B_s:Binds K a.y_s ["self","crowd"] []
 F_t:Fun K "node" "Each.node" bY a.x_t a.y_t
 B_t:Binds K a.y_t ["self","crowd"] []
 F_a:Fun K "node" "First.node" bI a.x_a a.y_a
 B_a:Binds K a.y_a ["self","crowd"] []
 F_A:Fun K "bounds" "Few.bounds" bQ a.x_A a.y_A
 B_A:Binds K a.y_A ["self","crowd"] []
 F_w:Fun K "bounds" "Start.bounds" bu a.x_w a.y_w
 B_w:Binds K a.y_w ["self","crowd"] []
 F_q:Fun K "bounds" "Loose.bounds" br a.x_q a.y_q
 B_q:Binds K a.y_q ["self","crowd"] []
 F_o:Fun K "bounds" "Each.bounds" bD a.x_o a.y_o
 B_o:Binds K a.y_o ["self","crowd"] []
 F_k:Fun K "bounds" "First.bounds" bp a.x_k a.y_k
 B_k:Binds K a.y_k ["self","crowd"] []
 z_abs:mg "abs" = none
 z_bool:mg "bool" = none
 z_enumerate:mg "enumerate" = none
 z_int:mg "int" = none
 z_isinstance:mg "isinstance" = none
 z_len:mg "len" = none
 z_list:mg "list" = none
 z_max:mg "max" = none
 z_min:mg "min" = none
 z_range:mg "range" = none
 z_sorted:mg "sorted" = none
 z_sum:mg "sum" = none
 z_tuple:mg "tuple" = none
 z_zip:mg "zip" = none
 bl:∀(s:Shared) (u:Value),BindsTo s a.d_ap ⟨[u],[]⟩ [("_law_script",u)]
inductive spLaw(K:Frag)(ts:List Addr)(vs:List V)(H:Hp)(Q:VK)(_E:XK):Prop
 | mk(p:Addr)(ns:List Int)(h0:vs=[.ref p])(h1:SqL K H p (ns.map V.int))(h2:ns.length<=63)(h3:(∀ P∈ts,H P=some (.tbl #[])))(h4:∀ H',Q (.bl true) H'):spLaw K ts vs H Q _E
theorem law_start{K:Frag}{b:List Addr}{H:Hp}{a:Addr}{ns:List Int}(c:ns.length<=63)(e:∀ P∈b,H P=some (.tbl #[]))(d:SqL K H a (ns.map V.int)):spLaw K b [.ref a] H (λv _=>v=.bl true) λ_ _ _=>False:=⟨a,ns,rfl,d,c,e,λ_=>rfl⟩
inductive spCell(K:Frag)(vs:List V)(H:Hp)(Q:VK)(_E:XK):Prop
 | mk(p:Addr)(ns:List Int)(k:Int)(h0:vs=[.ref p,.int k])(h1:SqL K H p (ns.map V.int))(h2:ns.length<=63)(h3:0<=k)(h4:k<=1000)(h5:Q (.int (oJ ns k)) H):spCell K vs H Q _E
inductive spMixed(vs:List V)(H:Hp)(Q:VK)(_E:XK):Prop
 | mk(c k:Int)(h0:vs=[.int c,.int k])(h1:0<=k)(h2:k<=1000)(h3:∀ r:Int,0<=r->r<1099511627776->Q (.int r) H):spMixed vs H Q _E
inductive spGcd(vs:List V)(H:Hp)(Q:VK)(_E:XK):Prop
 | mk(x y:Int)(h0:vs=[.int x,.int y])(h1:0<=x)(h2:0<=y)(h3:Q (.int (Int.gcd x y)) H):spGcd vs H Q _E
def wY(H:Hp)(Q:VK)(T B:Int):Prop:=∀ H' p,Same H H'->H' p=some (.tup [.int (hX T B).1,.int (hX T B).2])->Q (.ref p) H'
inductive spLow(vs:List V)(H:Hp)(Q:VK)(_E:XK):Prop
 | mk(T B:Int)(h0:vs=[.int T,.int B])(h1:0<B)(h2:Bt 3000 T)(h3:Bt 3000 B)(h4:wY H Q T B):spLow vs H Q _E
def jj:Sp:=λ_ _ _ _=>False
def PT(K:Frag)(H:Hp)(p:Addr)(f:Int×Int):Prop:=H p=some (.tup [.int f.1,.int f.2])\/jy K p [.int f.1,.int f.2]=true
theorem PT.sq{K:Frag}{H:Hp}{p:Addr}{f:Int×Int}(h:PT K H p f):SqT K H p [.int f.1,.int f.2]:=h.elim SqT.of lm
def IsF(K:Frag)(H:Hp)(f:Int×Int)(x:V):Prop:=∃ p,x=.ref p/\PT K H p f
theorem IsF.tk{K:Frag}{H a:Hp}{f:Int×Int}{x:V}(k:TK H a)(h:IsF K H f x):IsF K a f x:=let ⟨p,e,q⟩:=h;⟨p,e,q.imp (λz=>k _ _ z) id⟩
abbrev AllF(K:Frag)(H:Hp):List (Int×Int)->List V->Prop:=PySem.Paired (IsF K H)
theorem IsF.same{K:Frag}{H a:Hp}{f:Int×Int}{x:V}(s:Same H a)(h:IsF K H f x):IsF K a f x:=h.tk s.tk
theorem AllF.same{K:Frag}{H a:Hp}(s:Same H a):∀{fs:List (Int×Int)}{xs:List V},AllF K H fs xs->AllF K a fs xs
 | _,_,.nil=>.nil
 | _,_,.cons r t=>.cons (r.same s) (AllF.same s t)
theorem AllF.tk{K:Frag}{H a:Hp}(k:TK H a):∀{fs:List (Int×Int)}{xs:List V},AllF K H fs xs->AllF K a fs xs
 | _,_,.nil=>.nil
 | _,_,.cons r t=>.cons (r.tk k) (AllF.tk k t)
theorem AllF.get{K:Frag}{H:Hp}:∀{fs:List (Int×Int)}{xs:List V}{i:Nat}{x:V},AllF K H fs xs->xs[i]? = some x->∃ f,fs[i]? = some f/\IsF K H f x
 | _,_,_,_,.nil,h=>by cases h
 | _,_,0,_,.cons r _,h=>⟨_,rfl,by cases h;exact r⟩
 | _,_,i+1,_,.cons _ t,h=>AllF.get (i:=i) t h
theorem AllF.snoc{K:Frag}{H:Hp}{f:Int×Int}{x:V}(r:IsF K H f x):∀{fs:List (Int×Int)}{xs:List V},AllF K H fs xs->AllF K H (fs++[f]) (xs++[x])
 | _,_,.nil=>.cons r .nil
 | _,_,.cons q t=>.cons q (AllF.snoc r t)
theorem AllF.len{K:Frag}{H:Hp}{fs:List (Int×Int)}{xs:List V}(h:AllF K H fs xs):fs.length=xs.length:=Paired.length h
theorem tQ(T B:Int):Int.gcd (if T<0 then -T else T) B=Int.gcd T B:=by
 split
 .exact Int.neg_gcd
 .rfl
theorem px0{K:Frag}{H:Hp}{p:Addr}{x y:V}{Q:VK}(h:SqT K H p [x,y])(q:Q x H):rIx K (.ref p) (.int 0) H Q:=.inr (.inl ⟨p,_,_,x,rfl,rfl,h,fG (j:=0) rfl,q⟩)
theorem px1{K:Frag}{H:Hp}{p:Addr}{x y:V}{Q:VK}(h:SqT K H p [x,y])(q:Q y H):rIx K (.ref p) (.int 1) H Q:=.inr (.inl ⟨p,_,_,y,rfl,rfl,h,fG (j:=1) rfl,q⟩)
theorem ee(x y:V):[x,y].length<=sizeLine:=by show 2<=sizeLine;decide
structure Szs(z:List Int):Prop where
 len:z.length<=24
 lo:∀ x∈z,1<=x
 hi:∀ x∈z,x<=24000000
inductive spWished(K:Frag)(vs:List V)(H:Hp)(Q:VK)(_E:XK):Prop
 | mk(l:Addr)(z:List Int)(m:Int)(h0:vs=[.ref l,.int m])(h1:H l=some (.lst (z.map V.int)))(h2:Szs z)(h3:0<=m)(h4:m<=24)(h5:∀ H' r xs,Same H H'->H r=none->H' r=some (.lst xs)->AllF K H' (due z m) xs->Q (.ref r) H'):spWished K vs H Q _E
inductive spSome(K:Frag)(vs:List V)(H:Hp)(Q:VK)(_E:XK):Prop
 | mk(l:Addr)(z:List Int)(m:Int)(h0:vs=[.ref l,.int m])(h1:H l=some (.lst (z.map V.int)))(h2:Szs z)(h3:0<m)(h4:m<z.length)(h5:∀ H' r xs,Same H H'->H r=none->H' r=some (.lst xs)->AllF K H' (due z m) xs->Q (.ref r) H'):spSome K vs H Q _E
inductive spUns(K:Frag)(vs:List V)(H:Hp)(Q:VK)(_E:XK):Prop
 | mk(x:V)(f:Int×Int)(h0:vs=[x])(h1:IsF K H f x)(h2:Q (.bl (uns f)) H):spUns K vs H Q _E
inductive spLowest(vs:List V)(H:Hp)(Q:VK)(_E:XK):Prop
 | mk(T B:Int)(h0:vs=[.int T,.int B])(h1:0<=T)(h2:0<B)(h3:Bt 3000 T)(h4:Bt 3000 B)(h5:wY H Q T B):spLowest vs H Q _E
section
variable {P:Program}{w:World}{K:Frag}{mg:Str->Option Value}{base:Heap}{a:Ad}
theorem gq{k:Nat}{f:Addr}{a:FuncData}{ps:List Str}:FnOk P w K mg base CX0 k f a ps jj:=⟨λ_ _ _ _ h=>h.elim,λ_ _ _ _ _ _ _ _ _ _ _ _ _ h=>h.elim⟩
theorem uB(T:Txt K mg a):FnOk P w K mg base CX0 1 a.f_ao a.d_ao ["_law_script","_law_k"] (spCell K):=by
 refine T.F_ao.ok qi (λj H Q E h=>?_) (λcdv A outer s H j Q E hr h=>?_)
 .obtain⟨p,b,k,rfl,_⟩:=h;rfl
 .obtain⟨p,b,k,rfl,f,m,o,l,q⟩:=h
  refine⟨_,(ai (aR (aK ln (vr 1) (aG aP rfl T.z_len cj (aa (vr 0) ae)) (aI _)) (aj (ay (aB ax (vr 0) (vr 1) (λ_ _=>rfl)))) aH) (aj (ay (aD di (aD dI ag (vr 1)) ag)))),gI ?_⟩;intro i;refine⟨b.map V.int,.inl f,?_⟩;rw[length_map];unfold oJ at q;refine sE (λc=>?_) (λc=>?_)
  .have d:k<(b.length:Int):=of_decide_eq_true c
   rw[if_pos d]at q;refine .inl ⟨p,_,k,.int (b.getD k.toNat 0),rfl,rfl,f,?_,q⟩;have e:((k.toNat:Nat):Int)=k:=by omega
   rw[<- e];refine fG ?_;have g:k.toNat<b.length:=by omega
   rw[e];simp[List.getElem?_map,List.getD,g]
  .have d:¬k<(b.length:Int):=λz=>c (decide_eq_true z)
   rw[if_neg d]at q;exact⟨clB,q⟩
theorem mY(T:Txt K mg a):FnOk P w K mg base CX0 1 a.f_E a.d_E ["_law_cell_here","_law_k"] spMixed:=by
 refine T.F_E.ok sc_E (λd H Q E h=>?_) (λcdv A outer s H d Q E hr h=>?_)
 .obtain⟨c,k,rfl,_⟩:=h;rfl
 .obtain⟨c,k,rfl,m,l,q⟩:=h
  refine⟨_,(ai (aR (aK dm (aD dD (vr 0) ag) ag (aI _)) (aj (ay (aD dD (aD xA (vr 0) (aD di ag (aD dI ag (vr 1)))) (aD kB ag ag)))) aH) (ai (aF (i:=2) sc_E.nd rfl (Or.inl rfl) (aD dD (aD di (vr 0) (aD dI ag (vr 1))) ag)) (ai (aF (i:=2) sc_E.nd rfl (Or.inl rfl) (aD dD (aD di (aD dI (vr 2) ag) (vr 1)) ag)) (ai (aF (i:=2) sc_E.nd rfl (Or.inl rfl) (aD dD (aD dI (vr 2) (aD di (vr 2) ag)) ag)) (aj (ay (aD dD (aD dI (vr 2) (aD di (vr 2) ag)) ag))))))),pO ?_⟩;intro f j g b;refine⟨cp,?_⟩;refine sE (λe=>?_) (λe=>?_)
  .exact⟨clB,cn (by omega),cw,cp,q _ (Int.emod_nonneg _ (by decide +kernel)) (Int.lt_of_lt_of_le (Int.emod_lt_of_pos _ (by decide +kernel)) (by decide +kernel))⟩
  .exact⟨clB,cp,crB,cp,clB (by omega) (by omega),cp,clB (by omega) (by omega),cp,q _ (by omega) (by omega)⟩
theorem wp(T:Txt K mg a):FnOk P w K mg base CX0 1 a.f_B a.d_B ["one","other"] spGcd:=by
 refine T.F_B.ok sc_B (λv H Q E h=>?_) (λcdv A outer s H v Q E hr h=>?_)
 .obtain⟨x,y,rfl,_⟩:=h;rfl
 .obtain⟨k,g,rfl,z,u,q⟩:=h
  refine⟨_,(ai (eF PassesOwn.never (fq (vr 1) (λ_=>rfl)) (aj (oe rfl sc_B.nd (i:=0) (j:=1) rfl rfl (by decide) rfl rfl (aa (vr 1) (aa (aD dD (vr 0) (vr 1)) ae)) rfl))) (aj (ay (vr 0)))),gI ?_⟩;intro r;refine⟨λm l f=>f=H/\∃ x y:Int,0<=x/\0<=y/\m=y.toNat/\Int.gcd x y=Int.gcd k g/\l=[some (.int x),some (.int y)],⟨_,rfl,k,g,z,u,rfl,rfl,rfl⟩,?_⟩;rintro m l f ⟨rfl,x,y,B,p,rfl,o,rfl⟩;refine⟨_,rfl,?_⟩;refine ifB (λc=>?_) (λc=>?_)
  .have e:y≠0:=by simpa using c
   let Pw1:St->Hp->Prop:=λd b=>b=f/\d=[some (.int y),some (.int (x % y))]
   refine⟨Pw1,?_,?_⟩
   .rintro d b ⟨rfl,rfl⟩
    exact⟨(x % y).toNat,by have:=Int.emod_lt_of_pos x (show 0<y by omega);have:=Int.emod_nonneg x e;omega,rfl,y,x % y,p,Int.emod_nonneg x e,rfl,by rw[mw,o],rfl⟩
   .exact⟨cp (by omega),_,_,rfl,rfl,rfl⟩
  .have e:y=0:=by simpa using c
   subst e;rw[Int.gcd_zero_right]at o;have:x=(Int.gcd k g:Int):=by omega
   rw[<- this]at q;exact q
theorem rK(T:Txt K mg a):FnOk P w K mg base CX0 2 a.f_ag a.d_ag ["top","bottom"] spLow:=by
 have d:FnOk P w K mg base CX0 1 a.f_ag a.d_ag ["top","bottom"] jj:=gq;have e:FnOk P w K mg base CX0 1 _ _ _ spGcd:=wp T;refine T.F_ag.ok sc_ag (λm H Q E h=>?_) (λcdv A outer s H m Q E hr h=>?_)
 .obtain⟨x,y,rfl,_⟩:=h;rfl
 .obtain⟨t,b,rfl,j,v,k,q⟩:=h
  refine⟨_,(ai (aR (aK ln (vr 1) ag (aI _)) (aj (ay (av d hr rfl T.m_ag T.F_ag.kp T.B_ag .nil ao (aa (sk sg (vr 0)) (aa (sk sg (vr 1)) ae))))) aH) (ai (aF (i:=2) sc_ag.nd rfl (Or.inl rfl) (av e hr rfl T.m_B T.F_B.kp T.B_B .nil ao (aa (aG sR rfl T.z_abs wo (aa (vr 0) ae)) (aa (vr 1) ae)))) (aj (ay (aT (aa (aD cL (vr 0) (vr 2)) (aa (aD cL (vr 1) (vr 2)) ae))))))),gM ?_⟩;intro r l;obtain⟨f,B,C,u,z⟩:=low t b j;refine ifC (λc=>absurd c (by omega)) (λ_=>?_);refine⟨t,rfl,⟨_,_,rfl,by split <;> omega,by omega,?_⟩⟩;rw[tQ];have g:Bt 3000 (Int.gcd t b:Int):=k.le (by omega);refine⟨cdB f g,cdB f g,ee _ _,λp o=>?_⟩;exact q _ p (Same.new o) ac
theorem qM(T:Txt K mg a):FnOk P w K mg base CX0 1 a.f_ad a.d_ad ["_law_top","_law_bottom"] spLowest:=by
 refine T.F_ad.ok sc_ad (λG H Q E h=>?_) (λcdv A outer s H G Q E hr h=>?_)
 .obtain⟨x,y,rfl,_⟩:=h;rfl
 .obtain⟨t,b,rfl,v,I,L,z,q⟩:=h
  refine⟨_,(ai (oe rfl sc_ad.nd (i:=2) (j:=3) rfl rfl (by decide) rfl rfl (aa (vr 0) (aa (vr 1) ae)) rfl) (ai (eF PassesOwn.never (aK w5 (vr 3) ag (aI _)) (aj (oe rfl sc_ad.nd (i:=2) (j:=3) rfl rfl (by decide) rfl rfl (aa (vr 3) (aa (aD dD (vr 2) (vr 3)) ae)) rfl))) (aj (ay (aT (aa (aD cL (vr 0) (vr 2)) (aa (aD cL (vr 1) (vr 2)) ae))))))),gM ?_⟩;intro D F;obtain⟨u,O,R,N,M⟩:=low t b I;have r:Bt 3000 (Int.gcd t b:Int):=z.le (by omega);refine⟨_,_,rfl,?_⟩;refine⟨λm l k=>k=H/\∃ x y:Int,0<=x/\0<=y/\m=y.toNat/\Int.gcd x y=Int.gcd t b/\l=[some (.int t),some (.int b),some (.int x),some (.int y)],⟨_,rfl,t,b,v,by omega,rfl,rfl,rfl⟩,?_⟩;rintro m l k ⟨rfl,x,y,J,B,rfl,o,rfl⟩;refine sE (λc=>?_) (λc=>?_)
  .have g:y≠0:=by simpa using c
   let Pw2:St->Hp->Prop:=λd f=>f=k/\d=[some (.int t),some (.int b),some (.int y),some (.int (x % y))]
   refine⟨Pw2,?_,?_⟩
   .rintro d f ⟨rfl,rfl⟩
    exact⟨(x % y).toNat,by have:=Int.emod_lt_of_pos x (show 0<y by omega);have:=Int.emod_nonneg x g;omega,rfl,y,x % y,B,Int.emod_nonneg x g,rfl,by rw[mw,o],rfl⟩
   .exact⟨cp (by omega),_,_,rfl,rfl,rfl⟩
  .have g:y=0:=by simpa using c
   subst g;rw[Int.gcd_zero_right]at o;have e:x=(Int.gcd t b:Int):=by omega
   subst e;refine⟨cdB u r,cdB u r,ee _ _,λp C=>?_⟩;exact q _ p (Same.new C) ac
theorem gA{H:Hp}{p:Addr}{t b:Int}(h:SqT K H p [.int t,.int b]):DV K H (.tuple [.int t,.int b]) (.ref p):=by
 rw[DV];refine⟨p,_,rfl,h,?_⟩;rw[DVs];refine⟨_,_,rfl,by simp[DV],?_⟩;rw[DVs];exact⟨_,_,rfl,by simp[DV],by simp[DVs]⟩
theorem eW(t b:Int):SeqAt.shaped (.tuple [.int t,.int b])=true:=rfl
theorem wt(T:Txt K mg a):FnOk P w K mg base CX0 1 a.f_af a.d_af ["chance"] (spUns K):=by
 refine T.F_af.ok lx (λd H Q E h=>?_) (λcdv A outer s H d Q E hr h=>?_)
 .obtain⟨x,f,rfl,_⟩:=h;rfl
 .obtain⟨x,f,rfl,⟨p,rfl,b⟩,q⟩:=h
  refine⟨_,(aj (ay (pJ ln ln ag (aB ax (vr 0) ag (λ_ _=>rfl)) (aB ax (vr 0) ag (λ_ _=>rfl))))),?_⟩;refine px0 b.sq ?_;refine ifC (λc=>px1 b.sq ?_) (λc=>?_)
  .have c:0<f.1:=c
   have e:uns f=decide (f.1<f.2):=by unfold uns;simp[c]
   rw[e]at q;exact q
  .have c:¬0<f.1:=c
   have e:uns f=false:=by unfold uns;simp[c]
   rw[e]at q;exact q
end
def nV(L:List Nat):List V:=L.map λ(k:Nat)=>V.int (k:Int)
theorem tj{L:List Nat}{j:Nat}{x:V}(h:(nV L)[j]? = some x):∃ k,L[j]? = some k/\x=.int (k:Int):=by
 unfold nV at h;rw[List.getElem?_map]at h;cases hk:L[j]? with
 | none=>rw[hk]at h;cases h
 | some k=>rw[hk]at h;cases h;exact⟨k,rfl,rfl⟩
theorem vz{z:List Int}{k:Nat}(a:k<z.length):atI (z.map V.int) (k:Int)=some (.int (sz z k)):=fG (by simp[sz,List.getElem?_map,List.getD,a])
theorem iU{z:List Int}{k:Nat}(a:k<z.length):sz z k∈z:=by
 unfold sz;rw[List.getD,List.getElem?_eq_getElem a];exact List.getElem_mem a
theorem jF(L:List Nat):(nV L).all gN=true:=by
 rw[all_eq_true];intro x a;obtain⟨k,_,rfl⟩:=mem_map.mp a;rfl
theorem tF(L:List Nat)(k:Nat):inV (.int (k:Int)) (nV L)=decide (k∈L):=by
 rw[Bool.eq_iff_iff];unfold inV nV;rw[List.any_map,List.any_eq_true,decide_eq_true_eq]
 constructor
 .rintro⟨j,a,e⟩
  have:(j:Int)=(k:Int):=by simpa[eqV] using e
  have:j=k:=by lia
  rw[<- this];exact a
 .intro h
  exact⟨k,h,by simp[eqV]⟩
section
variable {P:Program}{w:World}{K:Frag}{mg:Str->Option Value}{base:Heap}{a:Ad}
theorem tZ(T:Txt K mg a):FnOk P w K mg base CX0 3 a.f_y a.d_y ["sizes","many"] (spSome K):=by
 have a0:FnOk P w K mg base CX0 2 _ _ _ spLow:=rK T;refine T.F_y.ok sc_y (λvs H Q E h=>?_) (λcdv A outer s H vs Q E hr h=>?_)
 .obtain⟨l,z,m,rfl,_⟩:=h;rfl
 .obtain⟨l,z,m,rfl,hl,hz,m0,m1,q⟩:=h
  refine⟨_,(ai (aF (i:=2) sc_y.nd rfl (Or.inr rfl) (cY (iA rfl) rfl T.z_list gB (aa (cY kD rfl T.z_range mC (aa (aG aP rfl T.z_len cj (aa (vr 0) ae)) ae)) ae))) (ai (aF (i:=3) sc_y.nd rfl (Or.inr rfl) (vr 1)) (ai (eF PassesOwn.never (gU fW) (ai (aF (i:=4) sc_y.nd rfl (Or.inr rfl) (aG (dh rfl) rfl T.z_sum eX (aa (bj rfl (N:=["place","sizes"]) (ix:=[none,some 0]) ⟨rfl,rfl,rfl,rfl,⟨rfl,rfl,rfl,trivial⟩⟩ (bJ (vr 2)) ⟨λC s H W=>aw (i:=0) (show List.Nodup (["place","sizes"]:List Str) by decide +kernel) rfl (Or.inl rfl),λC s H W=>bC,λC s H W=>(aB (cu (K:=K) rfl) (vr 1) (vr 0) (λ_ _=>rfl))⟩) ae))) (ai (im rfl (i:=5) sc_y.nd rfl rfl (by with_unfolding_all rfl) (N:=["place","whole","wanted","sizes"]) (ix:=[none,some 4,some 3,some 0]) ⟨rfl,rfl,rfl,rfl,⟨rfl,rfl,rfl,⟨rfl,rfl,rfl,⟨rfl,rfl,rfl,trivial⟩⟩⟩⟩ (bJ (vr 2)) ⟨λC s H W=>aw (i:=0) (show List.Nodup (["place","whole","wanted","sizes"]:List Str) by decide +kernel) rfl (Or.inl rfl),λC s H W=>eV (aK ln (aD dI (aB (cu (K:=K) rfl) (vr 3) (vr 0) (λ_ _=>rfl)) (vr 2)) (vr 1) (aI _)),λC s H W=>(vr 0)⟩) (ai (aR (aK dm (aG aP rfl T.z_len cj (aa (vr 5) ae)) (aG aP rfl T.z_len cj (aa (vr 2) ae)) (aI _)) (aj ri) aH) (ai (nZ (i:=3) sc_y.nd rfl (Or.inr rfl) (aD eO (aG aP rfl T.z_len cj (aa (vr 2) ae)) (aG aP rfl T.z_len cj (aa (vr 5) ae))) wG) (aj (aF (i:=2) sc_y.nd rfl (Or.inr rfl) (vr 5)))))))) (aj (ay (bj rfl (N:=["place","size","left","whole","wanted"]) (ix:=[none,none,some 2,some 4,some 3]) ⟨rfl,rfl,rfl,rfl,⟨rfl,rfl,rfl,⟨rfl,rfl,rfl,⟨rfl,rfl,rfl,trivial⟩⟩⟩⟩ (eR rfl T.z_enumerate (aa (vr 0) ae)) ⟨λC s H W=>(cN (K:=K) (n:=2) rfl rfl (az (aw (i:=0) (show List.Nodup (["place","size","left","whole","wanted"]:List Str) by decide +kernel) rfl (Or.inl rfl)) (az (aw (i:=1) (show List.Nodup (["place","size","left","whole","wanted"]:List Str) by decide +kernel) rfl (Or.inl rfl)) bi))),λC s H W=>bC,λC s H W=>(rM (aK (oW (K:=K) rfl) (vr 0) (vr 2) (by with_unfolding_all rfl)) (av a0 hr rfl T.m_ag T.F_ag.kp T.B_ag .nil ao (aa (aD dI (vr 1) (vr 4)) (aa (vr 3) ae))) (ii rfl T.g_WHOLE))⟩)))))),ny ?_⟩
  intro a9 a7 a8;have sl:sizeLine=16777216:=sizeLine_eq;have zl:=hz.len;have al:∀ k,k<z.length->1<=sz z k:=λk g=>hz.lo _ (iU g)
  have as:∀ k,k<z.length->sz z k<=24000000:=λk g=>hz.hi _ (iU g)
  refine⟨_,.inl (SqL.of hl),⟨_,rfl,λp hp=>⟨p,z.length,rfl,by lia,by rw[ac,length_map],λO r=>?_⟩⟩⟩;have s1:Same H (upd (upd H p (.rng 0 ((z.map V.int).length:Int))) O (.lst (nV (List.range z.length)))):=(Same.new hp).trans (Same.new r)
  let Pw5:PvS:=λc σ H'=>∃(O:Addr) (L:List Nat) (w:Int) (x4 x5:Option V),c=L.length/\Same H H'/\H' O=some (.lst (nV L))/\Rnd z z.length m L w/\FrM.fin z L w=FrM.fin z (List.range z.length) m/\σ=[some (.ref l),some (.int m),some (.ref O),some (.int w),x4,x5]
  refine⟨Pw5,⟨_,O,List.range z.length,m,none,none,rfl,s1,ac,Rnd.start (by lia) (by lia),rfl,rfl⟩,?_⟩;rintro c σ H' ⟨O,L,w,x4,x5,rfl,sm,r,R,hf,rfl⟩;have Z:=sm _ _ hl;have Ll:=R.len;have wb:-24<=w/\w<=24:=by have:=R.dif;have:=R.lt;lia
  let Pw6:St->Hp->Prop:=λaS ah=>∃(B:Addr) (x4 x5:Option V),Same H ah/\ah B=some (.lst (nV (stay z L w)))/\(stay z L w).length≠L.length/\aS=[some (.ref l),some (.int m),some (.ref B),some (.int (w - ((L.length:Int) - ((stay z L w).length:Int)))),x4,x5]
  refine⟨Pw6,?_,?_⟩
  .rintro aS ah ⟨B,x4,x5,a4,h',a3,rfl⟩
   have:=iw z L w;exact⟨_,by lia,B,_,_,x4,x5,rfl,a4,h',R.step al,by rw[<- hf];exact(lQ a3).symm,rfl⟩
  .refine .inl ⟨⟨_,SqL.of r⟩,λD hD=>?_⟩
   let Pw1:PvL:=λi f d=>i<=L.length/\d=upd H' D (.lst f)/\f=(L.take i).map λk=>V.int (sz z k)
   refine aO (K:=K) (a:=O) (xs:=nV L) Pw1 ⟨Nat.zero_le _,rfl,rfl⟩ (λi f d h=>by rw[h.2.1];exact SqL.of (by rw[au (ar r hD)];exact r)) (λi f d h=>by rw[h.2.1];exact ac) ?_ ?_
   .rintro i x f d P' hx ⟨hi,rfl,rfl⟩ hP
    obtain⟨k,g,rfl⟩:=tj hx;have b:i<L.length:=(List.getElem?_eq_some_iff.mp g).1;have ad:=R.sub k (List.mem_of_getElem? g);refine⟨⟨rfl,trivial⟩,.inl ⟨l,_,_,_,rfl,rfl,SqL.of (by rw[au (ar Z hD)];exact Z),vz ad,ac,?_,hP _ _ ⟨b,eP,?_⟩⟩⟩
    .rw[length_map,length_take];lia
    .rw[take_add_one,g,map_append];rfl
   rintro f d ⟨_,rfl,rfl⟩
   have eS:((L.take (nV L).length).map λk=>V.int (sz z k))=(L.map (sz z)).map V.int:=by
    rw[show(nV L).length=L.length by unfold nV;rw[length_map],take_of_length_le (Nat.le_refl _),map_map];rfl
   refine⟨D,L.map (sz z),rfl,SqL.of (by rw[ac,eS]),?_⟩;rw[eS];have sD:Same H' (upd H' D (.lst ((L.map (sz z)).map V.int))):=Same.new hD;generalize upd H' D (.lst ((L.map (sz z)).map V.int))=H3 at sD;have ab:=sD _ _ Z;have o:=sD _ _ r;refine .inl ⟨⟨_,SqL.of o⟩,λD2 X=>?_⟩
   let Pw2:PvL:=λi f d=>i<=L.length/\d=upd H3 D2 (.lst f)/\f=nV ((L.take i).filter λk=>decide (sz z k*w<aU z L))
   refine aO (K:=K) (a:=O) (xs:=nV L) Pw2 ⟨Nat.zero_le _,rfl,rfl⟩ (λi f d h=>by rw[h.2.1];exact SqL.of (by rw[au (ar o X)];exact o)) (λi f d h=>by rw[h.2.1];exact ac) ?_ ?_
   .rintro i x f d P' hx ⟨hi,rfl,rfl⟩ hP
    obtain⟨k,g,rfl⟩:=tj hx;have b:i<L.length:=(List.getElem?_eq_some_iff.mp g).1;have ad:=R.sub k (List.mem_of_getElem? g)
    have I:(L.take (i+1)).filter (λk=>decide (sz z k*w<aU z L))=(L.take i).filter (λk=>decide (sz z k*w<aU z L))++if sz z k*w<aU z L then [k] else []:=by
     rw[take_add_one,g,filter_append]
     by_cases c:sz z k*w<aU z L <;> simp[c]
    refine⟨⟨rfl,rfl,rfl,trivial⟩,.inl ⟨l,_,_,_,rfl,rfl,SqL.of (by rw[au (ar ab X)];exact ab),vz ad,crB (by lia) (by lia),?_⟩⟩;refine ifC (λc=>?_) (λc=>?_)
    .have v:sz z k*w<aU z L:=c
     rw[if_pos v]at I;refine⟨ac,?_,hP _ _ ⟨b,eP,?_⟩⟩
     .unfold nV
      rw[length_map];have:=length_filter_le (λk=>decide (sz z k*w<aU z L)) (L.take i);rw[length_take]at this;lia
     .rw[I];unfold nV;rw[map_append];rfl
    .have v:¬sz z k*w<aU z L:=c
     rw[if_neg v,append_nil]at I;exact hP _ _ ⟨b,rfl,by rw[I]⟩
   rintro f d ⟨_,rfl,rfl⟩
   have eT:nV ((L.take (nV L).length).filter λk=>decide (sz z k*w<aU z L))=nV (stay z L w):=by
    rw[show(nV L).length=L.length by unfold nV;rw[length_map],take_of_length_le (Nat.le_refl _)];rfl
   rw[eT];have M:Same H3 (upd H3 D2 (.lst (nV (stay z L w)))):=Same.new X;have J:(upd H3 D2 (.lst (nV (stay z L w)))) D2=some (.lst (nV (stay z L w))):=ac;generalize upd H3 D2 (.lst (nV (stay z L w)))=H4 at M J;have a2:=M _ _ ab;have y:=M _ _ o;have s4:Same H H4:=sm.trans (sD.trans M);have j:∀ L:List Nat,(nV L).length=L.length:=λL=>by unfold nV;rw[length_map]
   refine⟨_,.inl (SqL.of J),⟨_,.inl (SqL.of y),?_⟩⟩;rw[j,j];refine ifC (λc=>?_) (λc=>?_)
   .have v:(stay z L w).length=L.length:=by have z:((stay z L w).length:Int)=(L.length:Int):=c;lia
    have S:=iB v;rw[hf]at S;have hS:0<aU z L:=by have:=eM z L λk g=>al k (R.sub k g);have:=R.pos;lia
    have a6:Bt 40 (aU z L):=by
     have:=ju z 24000000 L λk g=>as k (R.sub k g)
     unfold Bt;have a5:(2:Nat) ^ 40=1099511627776:=by decide
     rw[a5];lia
    refine⟨l,_,rfl,a2,λD3 u=>?_⟩
    have ap:due z m=(List.range z.length).map λk=>if decide (k∈L)=true then hX (sz z k*w) (aU z L) else (1,1):=by
     unfold due;rw[if_neg (by lia),if_neg (by lia),S]
    have Y:H D3=none:=s4.free u;refine fD (a:=l) (xs:=z.map V.int) (λi f d=>i<=z.length/\Same H d/\Same H4 d/\d D3=some (.lst f)/\AllF K d ((due z m).take i) f) ⟨Nat.zero_le _,s4.trans (Same.new u),Same.new u,ac,by rw[take_zero];exact .nil⟩ (λi f d h=>h.2.1 _ _ hl) (λi f d h=>h.2.2.2.1) ?_ ?_
    .rintro i x f d p P' hx ⟨hi,t1,t4,an,hA⟩ hp hP
     have b:i<z.length:=by have:=(List.getElem?_eq_some_iff.mp hx).1;rw[length_map]at this;exact this
     have ex:x=.int (sz z i):=by
      rw[List.getElem?_map,List.getElem?_eq_getElem b]at hx;cases hx;simp[sz,List.getD,b]
     subst ex;have F:Same d (upd d p (.tup [.int (i:Nat),.int (sz z i)])):=Same.new hp;refine⟨p,_,rfl,SqT.of ac,rfl,_,_,rfl,_,_,rfl,rfl,⟨rfl,rfl,rfl,trivial⟩,?_⟩;generalize upd d p (.tup [.int (i:Nat),.int (sz z i)])=H5 at F;have G:=F _ _ an;have yl:f.length=i:=by rw[<- hA.len,length_take,dc];lia
     have I:(due z m).take (i+1)=(due z m).take i++[if decide (i∈L)=true then hX (sz z i*w) (aU z L) else (1,1)]:=by
      rw[take_add_one]
      congr 1
      rw[ap,List.getElem?_map,List.getElem?_range b];rfl
     refine⟨O,_,rfl,.inl (SqL.of ((t4.trans F) _ _ y)),rfl,jF L,?_⟩;rw[tF];refine ifB (λc=>?_) (λc=>?_)
     .have v:decide (i∈L)=true:=c
      rw[if_pos v]at I;refine⟨crB (by lia) (by lia),⟨_,_,rfl,hS,((show Bt 30 (sz z i) by have:=al i b;have:=as i b;unfold Bt;lia).mul (show Bt 5 w by unfold Bt;lia)).mono (by decide),a6.mono (by decide),λH6 p6 s6 e6=>?_⟩⟩;refine⟨s6 _ _ G,by lia,hP _ _ ⟨b,((t1.trans F).trans s6).put Y,?_,ac,?_⟩⟩
      .exact((t4.trans F).trans s6).put u
      .rw[I]
       have a1:=s6 _ _ G;exact AllF.snoc ⟨p6,rfl,.inl (TK.lst a1 _ _ e6)⟩ (hA.tk ((F.trans s6).tk.trans (TK.lst a1)))
     .have v:decide (i∈L)=false:=c
      rw[if_neg (by rw[v];exact Bool.false_ne_true)]at I;refine⟨G,by lia,hP _ _ ⟨b,(t1.trans F).put Y,(t4.trans F).put u,ac,?_⟩⟩;rw[I];exact AllF.snoc ⟨a.k_WHOLE,rfl,.inr T.t_WHOLE⟩ (hA.tk (F.tk.trans (TK.lst G)))
    .rintro f d ⟨_,t1,t4,an,hA⟩
     rw[take_of_length_le (by rw[dc,length_map];exact Nat.le_refl _)]at hA;exact q d D3 f t1 Y an hA
   .have v:(stay z L w).length≠L.length:=λe=>c (by show((stay z L w).length:Int)=(L.length:Int);lia)
    refine⟨_,rfl,⟨_,.inl (SqL.of y),⟨_,.inl (SqL.of J),⟨_,_,rfl,rfl,⟨D2,some (.int (L.map (sz z)).sum),some (.ref D2),s4,J,v,?_⟩⟩⟩⟩⟩;rw[j,j];rfl
theorem pX(T:Txt K mg a):FnOk P w K mg base CX0 4 a.f_an a.d_an ["sizes","many"] (spWished K):=by
 have B:FnOk P w K mg base CX0 3 _ _ _ (spSome K):=tZ T;refine T.F_an.ok qt (λM H Q E h=>?_) (λcdv A outer s H M Q E hr h=>?_)
 .obtain⟨l,z,m,rfl,_⟩:=h;rfl
 .obtain⟨l,z,m,rfl,j,F,R,S,q⟩:=h
  refine⟨_,(ai (aR (aK sC (aG aP rfl T.z_len cj (aa (vr 0) ae)) (vr 1) (aI _)) (aj (ay (bj rfl (N:=["size"]) (ix:=[none]) ⟨rfl,rfl,rfl,rfl,trivial⟩ (bJ (vr 0)) ⟨λC s H p=>aw (i:=0) (show List.Nodup (["size"]:List Str) by decide +kernel) rfl (Or.inl rfl),λC s H p=>bC,λC s H p=>(ii rfl T.g_WHOLE)⟩))) aH) (ai (aR (aK dm (vr 1) ag (aI _)) (aj (ay (bj rfl (N:=["size"]) (ix:=[none]) ⟨rfl,rfl,rfl,rfl,trivial⟩ (bJ (vr 0)) ⟨λC s H p=>aw (i:=0) (show List.Nodup (["size"]:List Str) by decide +kernel) rfl (Or.inl rfl),λC s H p=>bC,λC s H p=>(ii rfl T.g_NOUGHT)⟩))) aH) (aj (ay (av B hr rfl T.m_y T.F_y.kp T.B_y .nil ao (aa (vr 0) (aa (vr 1) ae))))))),gM ?_⟩;intro J L;have W:sizeLine=16777216:=sizeLine_eq;have X:=F.len;refine⟨_,.inl (SqL.of j),?_⟩;rw[length_map];refine ifC (λc=>?_) (λc=>ifC (λc2=>?_) (λc2=>?_))
  .have r:(z.length:Int)<=m:=c
   have g:due z m=z.map λ_=>(1,1):=by unfold due;rw[if_pos r]
   refine .inl ⟨⟨_,SqL.of j⟩,λD k=>?_⟩
   let Pw3:PvL:=λi b d=>i<=z.length/\d=upd H D (.lst b)/\AllF K d ((due z m).take i) b
   refine aO (K:=K) (a:=l) (xs:=z.map V.int) Pw3 ⟨Nat.zero_le _,rfl,by rw[take_zero];exact .nil⟩ (λi b d h=>by rw[h.2.1];exact SqL.of (by rw[au (ar j k)];exact j)) (λi b d h=>by rw[h.2.1];exact ac) ?_ ?_
   .rintro i x b d O u ⟨G,rfl,f⟩ y
    have e:i<z.length:=by have:=(List.getElem?_eq_some_iff.mp u).1;rw[length_map]at this;exact this
    have I:b.length=i:=by rw[<- f.len,length_take,dc];lia
    refine⟨trivial,ac,by lia,y _ _ ⟨e,eP,?_⟩⟩
    have v:(due z m).take (i+1)=(due z m).take i++[(1,1)]:=by
     rw[take_add_one]
     congr 1
     rw[g,List.getElem?_map,List.getElem?_eq_getElem e];rfl
    rw[v];exact AllF.snoc ⟨a.k_WHOLE,rfl,.inr T.t_WHOLE⟩ (f.tk (TK.lst ac))
   .rintro b d ⟨_,rfl,f⟩
    rw[take_of_length_le (by rw[dc,length_map];exact Nat.le_refl _)]at f;exact q _ D b (Same.new k) k ac f
  .have r:¬(z.length:Int)<=m:=c
   have o:m=0:=c2;have g:due z m=z.map λ_=>(0,1):=by unfold due;rw[if_neg r,if_pos o]
   refine .inl ⟨⟨_,SqL.of j⟩,λD k=>?_⟩
   let Pw4:PvL:=λi b d=>i<=z.length/\d=upd H D (.lst b)/\AllF K d ((due z m).take i) b
   refine aO (K:=K) (a:=l) (xs:=z.map V.int) Pw4 ⟨Nat.zero_le _,rfl,by rw[take_zero];exact .nil⟩ (λi b d h=>by rw[h.2.1];exact SqL.of (by rw[au (ar j k)];exact j)) (λi b d h=>by rw[h.2.1];exact ac) ?_ ?_
   .rintro i x b d O u ⟨G,rfl,f⟩ y
    have e:i<z.length:=by have:=(List.getElem?_eq_some_iff.mp u).1;rw[length_map]at this;exact this
    have I:b.length=i:=by rw[<- f.len,length_take,dc];lia
    refine⟨trivial,ac,by lia,y _ _ ⟨e,eP,?_⟩⟩
    have v:(due z m).take (i+1)=(due z m).take i++[(0,1)]:=by
     rw[take_add_one]
     congr 1
     rw[g,List.getElem?_map,List.getElem?_eq_getElem e];rfl
    rw[v];exact AllF.snoc ⟨a.k_NOUGHT,rfl,.inr T.t_NOUGHT⟩ (f.tk (TK.lst ac))
   .rintro b d ⟨_,rfl,f⟩
    rw[take_of_length_le (by rw[dc,length_map];exact Nat.le_refl _)]at f;exact q _ D b (Same.new k) k ac f
  .have r:¬(z.length:Int)<=m:=c
   have o:¬m=0:=c2;exact⟨l,z,m,rfl,j,F,by lia,by lia,q⟩
end
end My
namespace L2
open PySem PySem.Spec PyProof.Rows
def uP(d:LamD)(fv:List Str)(sp:List (Str×Addr)->List V->Sp)(tf:TE)(t:TA):TE:=λσ H Q=>tf σ H λv H1=>(∃ f d' clos c,v=.ref f/\H1 f=some (.ext (fZ f d' clos c)))/\t σ H1 λvs H2=>(∀ f d' clos c,v=.ref f->H1 f=some (.ext (fZ f d' clos c))->H2 f=some (.ext (fZ f d' clos c)))/\io d fv sp v vs H2 Q
section
variable {X:Cx}{d:LamD}{fv ps:List Str}{k:Nat}{x:Str}{p pos:Pos}{tf:TE}{t:TA}{e:Expr}{es:List Expr}
theorem iH{sp:List (Str×Addr)->List V->Sp}(E:PE X (.Name x p) tf)(L:LamOkC X.prog X.w X.K X.mg X.base k d fv ps sp)(D:Room k X.A)(B:PA X (e::es) t)
  (w:starEach (e::es) X.env=(false,eval e X.env)::starEach es X.env:=by rfl) (b:(backTo pos (starEach es X.env)).any (·.1)=false:=by rfl):PE X (.Call (.Name x p) (e::es) [] pos) (uP d fv sp tf t):=by
 intro a s l H Q I h;refine wpAny_Call_Name_kw (thn (E a s l H _ I h) λu C ⟨v,z,i,y,⟨f,J,j,c,A,o⟩,q⟩=>?_);subst A;obtain rfl:u=Value.ref f:=y;refine PySem.W.callWith_F (lO i.hok o) (thn (B pos a C l z _ i q) λM F ⟨K,G,g,r,m⟩=>⟨lO g.hok (m.1 _ _ _ _ rfl o),?_⟩) w b;exact pT L D g (v:=.ref f) rfl r m.2
end
end L2
namespace My
open PySem L2 FrM Nst
open Tb (Tr fT lT sT ba bnd d7 tot so)
theorem aA{c d:Type}{r r':c->d->Prop}(h:∀ a b,r a b->r' a b):∀{as:List c}{bs:List d},Paired r as bs->Paired r' as bs
 | _,_,.nil=>.nil
 | _,_,.cons x t=>.cons (h _ _ x) (aA h t)
theorem cM{c d:Type}{r:c->d->Prop}{a:c}{b:d}(h:r a b):∀{as:List c}{bs:List d},Paired r as bs->Paired r (as++[a]) (bs++[b])
 | _,_,.nil=>.cons h .nil
 | _,_,.cons x t=>.cons x (cM h t)
theorem aL{b a:Type}{r:b->a->Prop}:∀{as:List b}{bs:List a}{i:Nat}{y:a},Paired r as bs->bs[i]? = some y->∃ x,as[i]? = some x/\r x y
 | _,_,_,_,.nil,h=>by cases h
 | _,_,0,_,.cons r _,h=>⟨_,rfl,by cases h;exact r⟩
 | _,_,i+1,_,.cons _ t,h=>aL (i:=i) t h
def Srt(ns kept:List Int):Prop:=ns.Perm kept/\ns.Pairwise (·<=·)
def IsTold(a:Ad)(H:Hp)(v:V)(kept:List Int):Prop:=∃ x dx t ns,v=.ref x/\H x=some (.ins a.c_i dx [("rising",.ref t)])/\H t=some (.tup (ns.map V.int))/\Srt ns kept
def IsLam(H:Hp)(d:LamD)(fv:List Str)(v:V)(vals:List V):Prop:=∃ f c clos,v=.ref f/\H f=some (.ext (fZ f d clos c))/\H c=some (.ext (eE c d.qual))/\clos.map (·.1)=fv/\(clos.map (·.2)).Nodup/\CellsAt H clos vals
theorem dH{H a:Hp}(s:SameT H a):∀{clos:List (Str×Addr)}{vals:List V},CellsAt H clos vals->CellsAt a clos vals
 | _,_,.nil=>.nil
 | _,_,.cons r t=>.cons (s.at r) (dH s t)
theorem IsLam.t{H e:Hp}{d:LamD}{g:List Str}{v:V}{a:List V}(s:SameT H e)(h:IsLam H d g v a):IsLam e d g v a:=by
 obtain⟨f,c,b,j,m,l,i,k,o⟩:=h;exact⟨f,c,b,j,s.at m,s.at l,i,k,dH s o⟩
theorem IsTold.t{a:Ad}{H c:Hp}{v:V}{b:List Int}(s:SameT H c)(h:IsTold a H v b):IsTold a c v b:=by
 obtain⟨x,d,t,g,f,j,e,i⟩:=h;exact⟨x,d,t,g,f,s.at j,s.at e,i⟩
inductive spToldI(a:Ad)(vs:List V)(H:Hp)(Q:VK)(_E:XK):Prop
 | mk(x dx l:Addr)(ns:List Int)(h0:vs=[.ref x,.ref l])(h1:H x=some (.ins a.c_i dx []))(h2:(H l=some (.lst (ns.map V.int))\/H l=some (.tup (ns.map V.int))))(h3:ns.length<64)(h4:∀ H' t ns',(∀ b o,b≠x->H b=some o->H' b=some o)->H' x=some (.ins a.c_i dx [("rising",.ref t)])->H' t=some (.tup (ns'.map V.int))->Srt ns' ns->Q .non H'):spToldI a vs H Q _E
inductive spDieI(a:Ad)(vs:List V)(H:Hp)(Q:VK)(_E:XK):Prop
 | mk(x dx l:Addr)(xs:List V)(h0:vs=[.ref x,.ref l])(h1:H x=some (.ins a.c_p dx []))(h2:H l=some (.lst xs))(h3:∀ H' t,H t=none->(∀ b o,b≠x->H b=some o->H' b=some o)->H' x=some (.ins a.c_p dx [("makes",.ref t)])->H' t=some (.lst xs)->Q .non H'):spDieI a vs H Q _E
theorem mI{a b:Type}{r:a->b->Prop}{as:List a}{x:a}{i:Nat}{ys:List b}{y:b}(h:Paired r (as.take i) ys)(e:as[i]? = some x)(q:r x y):Paired r (as.take (i+1)) (ys++[y]):=by
 rw[take_add_one,e];exact cM q h
def Bad(H:Hp)(Bd:List Addr):Prop:=∀ b∈Bd,∃ v,H b=some (.ext (dF b v))
theorem Bad.t{H a:Hp}{Bd:List Addr}(s:SameT H a)(h:Bad H Bd):Bad a Bd:=λb c=>let ⟨v,e⟩:=h b c;⟨v,s.at e⟩
theorem ml(H:Hp):Bad H []:=λb a=>by cases a
theorem bg{H a:Hp}{es:List Addr}(s:SameT H a):SameT (untrs H es) (untrs a es):=λb o e=>by
 by_cases hb:b∈es
 .rw[eD hb]at e;cases e
 .rw[aE hb]at e ⊢;exact s b o e
theorem aC{H:Hp}{es:List Addr}{b:Addr}{o:HO}(e:untrs H es b=some o):b ∉ es/\H b=some o:=by
 by_cases hb:b∈es
 .rw[eD hb]at e;cases e
 .rw[aE hb]at e;exact⟨hb,e⟩
theorem cuts_sub{H:Hp}{es:List Addr}:SameT (untrs H es) H:=λb o e=>⟨λ_=>(aC e).2,o,(aC e).2⟩
theorem ck{H:Hp}{Bd:List Addr}{b:Addr}{o:HO}(a:Bad H Bd)(e:H b=some o)(n:∀ v,o≠.ext (dF b v)):untrs H Bd b=some o:=by
 rw[aE λz=>?_]
 .exact e
 .obtain⟨v,c⟩:=a b z
  rw[e]at c;exact n v (Option.some.inj c)
theorem dJ{a:Ad}{H:Hp}{Bd:List Addr}(b:Bad H Bd){u:V}{ns:List Int}(h:IsTold a H u ns):IsTold a (untrs H Bd) u ns:=by
 obtain⟨x,d,t,c,f,i,e,g⟩:=h;exact⟨x,d,t,c,f,ck b i (λ_ z=>nomatch z),ck b e (λ_ z=>nomatch z),g⟩
theorem hJ(H:Hp)(es fs:List Addr):untrs (untrs H es) fs=untrs (untrs H fs) es:=by
 funext b
 unfold untrs
 split <;> split <;> rfl
theorem fB(H:Hp):untrs H []=H:=by funext b;exact aE (by simp)
theorem TabsOk.untrs{a:oF}{H:Hp}{b:List (Str×Addr)}{d:List V}(g:TabsOk a H)(e:CellsAt H b d):TabsOk a (untrs H (b.map (·.2))):=λq i=>by
 obtain⟨j,h,k,f⟩:=g q i;exact⟨j,du e h (λv z=>nomatch z),k,λl hl=>(f l hl).imp id λ⟨c,x,y⟩=>⟨c,x,du e y λv=>eC⟩⟩
theorem jm{H d c:Hp}{a:List (Str×Addr)}(s:SameT (untrs H (a.map (·.2))) d)(h:Same d c)(g:∀ p∈a,c p.2=H p.2):SameT H c:=λb o e=>by
 by_cases hb:b∈a.map (·.2)
 .obtain⟨p,f,rfl⟩:=mem_map.mp hb
  rw[g p f,e];exact⟨λ_=>rfl,o,rfl⟩
 .exact(s.trans h.t) b o (by rw[aE hb];exact e)
theorem gE{H:Hp}{Bd:List Addr}{b:Addr}{o:HO}(a:Bad H Bd)(f:H b=none){c:Hp}(h:c b=some o):untrs c Bd b=some o:=by
 rw[aE λz=>?_]
 .exact h
 .obtain⟨d,e⟩:=a b z
  rw[f]at e;cases e
theorem fH{H:Hp}{Bd:List Addr}:∀{clos:List (Str×Addr)}{vals:List V},(∀ b∈Bd,b ∉ clos.map (·.2))->CellsAt H clos vals->CellsAt (untrs H Bd) clos vals
 | _,_,_,.nil=>.nil
 | _,_,dj,.cons r t=>.cons (by rw[aE λz=>dj _ z (by simp)];exact r) (fH (λb hb z=>dj b hb (by rw[map_cons];exact mem_cons_of_mem _ z)) t)
theorem dL{H:Hp}{Bd:List Addr}{a:List (Str×Addr)}{c:List V}(d:CellsAt (untrs H Bd) a c):∀ b∈Bd,b ∉ a.map (·.2):=λb f z=>by
 obtain⟨v,e⟩:=d.at z;rw[eD f]at e;cases e
theorem fL{H:Hp}{Bd:List Addr}{a:List (Str×Addr)}(f:∀ b∈Bd,b ∉ a.map (·.2))(c:Bad H Bd):Bad (untrs H (a.map (·.2))) Bd:=λb d=>let ⟨v,e⟩:=c b d;⟨v,by rw[aE (f b d)];exact e⟩
def IsLamC(H:Hp)(d:LamD)(fv:List Str)(v:V)(clos:List (Str×Addr))(vals:List V):Prop:=∃ f c,v=.ref f/\H f=some (.ext (fZ f d clos c))/\H c=some (.ext (eE c d.qual))/\clos.map (·.1)=fv/\(clos.map (·.2)).Nodup/\CellsAt H clos vals
theorem IsLamC.t{H e:Hp}{d:LamD}{g:List Str}{v:V}{b:List (Str×Addr)}{a:List V}(s:SameT H e)(h:IsLamC H d g v b a):IsLamC e d g v b a:=by
 obtain⟨f,c,j,m,l,i,k,o⟩:=h;exact⟨f,c,j,s.at m,s.at l,i,k,dH s o⟩
theorem ik{j i:Hp}{Bd:List Addr}{d:LamD}{k:List Str}{f c:Addr}{a:List (Str×Addr)}{g:List V}(h:Bad j Bd)(s:Same j i)(o:i f=some (.ext (fZ f d a c)))(p:i c=some (.ext (eE c d.qual)))(l:a.map (·.1)=k)(q:(a.map (·.2)).Nodup)(m:CellsAt i a g)(n:∀ b∈a.map (·.2),j b=none):IsLamC (untrs i Bd) d k (.ref f) a g :=
 ⟨f,c,rfl,ck (h.t s.t) o (λ_=>gj),ck (h.t s.t) p (λ_=>eC),l,q,fH (λb hb z=>by
  obtain⟨v,e⟩:=h b hb;rw[n b z]at e
  cases e) m⟩
theorem ig{j g:Hp}{Bd:List Addr}{d:LamD}{k:List Str}{f c:Addr}{a:List (Str×Addr)}{e:List V}(i:Bad j Bd)(s:Same j g)(o:g f=some (.ext (fZ f d a c)))(p:g c=some (.ext (eE c d.qual)))(l:a.map (·.1)=k)(q:(a.map (·.2)).Nodup)(m:CellsAt g a e)(n:∀ b∈a.map (·.2),j b=none):IsLam (untrs g Bd) d k (.ref f) e :=
 let ⟨f',c',h⟩:=ik i s o p l q m n
 ⟨f',c',a,h⟩
theorem LamOkC.mono{P:Program}{w:World}{K:Frag}{mg:Str->Option Value}{a:Heap}{j k:Nat}{d:LamD}{i ps:List Str}{sp:List (Str×Addr)->List V->Sp}(L:LamOkC P w K mg a j d i ps sp)(h:j<=k):LamOkC P w K mg a k d i ps sp:=λA b s H f c e o m g Q E l=>L A b s H f c e o m g Q E (l.mono h)
def dO:HO->Bool
 | .lst _=>true
 | .tup _=>true
 | .ins _ _ _=>true
 | _=>false
def NC(H H':Hp):Prop:=∀ b o,dO o=true->H b=some o->H' b=some o
theorem NC.trans{H a c:Hp}(s:NC H a)(t:NC a c):NC H c:=λb o d e=>t b o d (s b o d e)
theorem cK{H a:Hp}(s:SameT H a):NC H a:=λb o d e=>(s b o e).1 (by cases o <;> first | rfl | cases d)
theorem fP{H:Hp}{a:List (Str×Addr)}{c:List V}(f:CellsAt H a c):NC H (untrs H (a.map (·.2))):=λb o d e=>du f e (by rintro v rfl;cases d)
theorem g9{H:Hp}{Bd:List Addr}(a:Bad H Bd):NC H (untrs H Bd):=λb o d e=>ck a e (by rintro v rfl;cases d)
theorem nc_cut{H:Hp}{Bd:List Addr}:NC (untrs H Bd) H:=cK cuts_sub
abbrev fv1:List Str:=["wanted","taken","rest","ahead"]
abbrev fv2:List Str:=["wanted","taken","rest"]
abbrev fvS:List Str:=["step","places","first"]
abbrev fvA:List Str:=["taken","rest","place"]
abbrev fvB:List Str:=["taken","rest"]
abbrev fvC:List Str:=["make","carry"]
abbrev fvH:List Str:=["go"]
abbrev fvG:List Str:=["taken","plan","groups"]
abbrev fvF:List Str:=["inside","groups"]
def PrAt(K:Frag)(H:Hp)(x:Int×(Int×Int))(v:V):Prop:=∃ q y,v=.ref q/\H q=some (.tup [.int x.1,y])/\IsF K H x.2 y
theorem IsF.t{K:Frag}{H a:Hp}{f:Int×Int}{x:V}(s:SameT H a)(h:IsF K H f x):IsF K a f x:=let ⟨p,e,q⟩:=h;⟨p,e,q.imp (λz=>s.at z) id⟩
theorem PrAt.t{K:Frag}{H a:Hp}(s:SameT H a)(x:Int×(Int×Int))(v:V)(h:PrAt K H x v):PrAt K a x v:=let ⟨q,y,h1,h2,h3⟩:=h;⟨q,y,h1,s.at h2,h3.t s⟩
def LsT(H:Hp)(v:V)(ps:List Int):Prop:=∃ l,v=.ref l/\H l=some (.lst (ps.map V.int))
theorem LsT.t{H a:Hp}{v:V}{ps:List Int}(s:SameT H a)(h:LsT H v ps):LsT a v ps:=let ⟨l,e,h1⟩:=h;⟨l,e,s.at h1⟩
def LsP(K:Frag)(H:Hp)(v:V)(L:Tl):Prop:=∃ l xs,v=.ref l/\H l=some (.lst xs)/\Paired (PrAt K H) L xs
theorem LsP.t{K:Frag}{H a:Hp}{v:V}{L:Tl}(s:SameT H a)(h:LsP K H v L):LsP K a v L:=let ⟨l,xs,e,h1,h2⟩:=h;⟨l,xs,e,s.at h1,aA (PrAt.t s) h2⟩
def WfL(ahead:Tl)(taken:List Int):Prop:=ahead.length+taken.length<=24/\∀ x∈ahead,uns x.2=true
theorem IsF.n{K:Frag}{H a:Hp}{f:Int×Int}{x:V}(s:NC H a)(h:IsF K H f x):IsF K a f x:=let ⟨p,e,q⟩:=h;⟨p,e,q.imp (λz=>s _ _ rfl z) id⟩
theorem PrAt.n{K:Frag}{H a:Hp}(s:NC H a)(x:Int×(Int×Int))(v:V)(h:PrAt K H x v):PrAt K a x v:=let ⟨q,y,h1,h2,h3⟩:=h;⟨q,y,h1,s _ _ rfl h2,h3.n s⟩
theorem LsT.n{H a:Hp}{v:V}{ps:List Int}(s:NC H a)(h:LsT H v ps):LsT a v ps:=let ⟨l,e,h1⟩:=h;⟨l,e,s _ _ rfl h1⟩
theorem LsP.n{K:Frag}{H a:Hp}{v:V}{L:Tl}(s:NC H a)(h:LsP K H v L):LsP K a v L:=let ⟨l,xs,e,h1,h2⟩:=h;⟨l,xs,e,s _ _ rfl h1,aA (PrAt.n s) h2⟩
def MbAt(H:Hp)(m:Mb)(x:V):Prop:=∃ q pt,x=.ref q/\H q=some (.tup [.int m.1,.int m.2.1,.ref pt])/\H pt=some (.tup (m.2.2.map V.str))
abbrev CrAt(H:Hp):List Mb->List V->Prop:=Paired (MbAt H)
theorem MbAt.n{H a:Hp}(s:NC H a)(m:Mb)(x:V)(h:MbAt H m x):MbAt a m x:=let ⟨q,pt,h1,h2,h3⟩:=h;⟨q,pt,h1,s _ _ rfl h2,s _ _ rfl h3⟩
def CrL(H:Hp)(g:List Mb)(v:V):Prop:=∃ l ys,v=.ref l/\H l=some (.lst ys)/\CrAt H g ys
theorem CrL.n{H a:Hp}(s:NC H a)(g:List Mb)(v:V)(h:CrL H g v):CrL a g v:=let ⟨l,ys,h1,h2,h3⟩:=h;⟨l,ys,h1,s _ _ rfl h2,aA (MbAt.n s) h3⟩
def GsL(H:Hp)(v:V)(gs:List (List Mb)):Prop:=∃ l ys,v=.ref l/\H l=some (.lst ys)/\Paired (CrL H) gs ys
theorem GsL.n{H a:Hp}{v:V}{b:List (List Mb)}(s:NC H a)(h:GsL H v b):GsL a v b:=let ⟨l,ys,h1,h2,h3⟩:=h;⟨l,ys,h1,s _ _ rfl h2,aA (CrL.n s) h3⟩
def TpT(H:Hp)(v:V)(ps:List Int):Prop:=∃ l,v=.ref l/\H l=some (.tup (ps.map V.int))
theorem TpT.n{H a:Hp}{v:V}{ps:List Int}(s:NC H a)(h:TpT H v ps):TpT a v ps:=let ⟨l,e,h1⟩:=h;⟨l,e,s _ _ rfl h1⟩
def IsPn(a:Ad)(H:Hp):V->Pl->Prop
 | v,.few m=>∃ x dx,v=.ref x/\H x=some (.ins a.c_x dx [("many",.int (m:Nat))])
 | v,.start m=>∃ x dx,v=.ref x/\H x=some (.ins a.c_f dx [("step",.int (m:Nat))])
 | v,.loose m=>∃ x dx,v=.ref x/\H x=some (.ins a.c_g dx [("many",.int (m:Nat))])
 | v,.each p=>∃ x dx u,v=.ref x/\H x=some (.ins a.c_l dx [("inside",u)])/\IsPn a H u p
 | v,.first p q=>∃ x dx u z,v=.ref x/\H x=some (.ins a.c_c dx [("outside",u),("inside",z)])/\IsPn a H u p/\IsPn a H z q
theorem IsPn.n{a:Ad}{H b:Hp}(s:NC H b):∀{pl:Pl}{v:V},IsPn a H v pl->IsPn a b v pl
 | .few _,_,⟨x,dx,h1,h2⟩=>⟨x,dx,h1,s _ _ rfl h2⟩
 | .start _,_,⟨x,dx,h1,h2⟩=>⟨x,dx,h1,s _ _ rfl h2⟩
 | .loose _,_,⟨x,dx,h1,h2⟩=>⟨x,dx,h1,s _ _ rfl h2⟩
 | .each _,_,⟨x,dx,u,h1,h2,h3⟩=>⟨x,dx,u,h1,s _ _ rfl h2,IsPn.n s h3⟩
 | .first _ _,_,⟨x,dx,u,z,h1,h2,h3,h4⟩=>⟨x,dx,u,z,h1,s _ _ rfl h2,IsPn.n s h3,IsPn.n s h4⟩
def IsGo(a:Ad)(n g:Nat)(H:Hp)(go:V)(gf:List Int->Tr)(ok:List Int->Prop):Prop :=
 (∃ vp vg vt clos pl c gs tk,IsLamC H ci fvG go clos [vt,vp,vg]/\IsPn a H vp pl/\ht n pl/\GsL H vg (c::gs)/\TpT H vt tk/\(gf=λks=>gT (nT pl) gs (tk++ks))/\ok=λks=>Gok n g gs (tk.length+ks.length)) \/
 ∃ vi vg clos pl gs,5<=g/\IsLamC H cm fvF go clos [vi,vg]/\IsPn a H vi pl/\ht n pl/\GsL H vg gs/\(gf=λks=>gT (nT pl) (sel gs ks) [])/\ok=λks=>Gok n 5 (sel gs ks) 0/\ks.length<=24/\∀ k∈ks,0<=k/\k<gs.length
theorem IsGo.t{a:Ad}{n g:Nat}{H m:Hp}{q:V}{p:List Int->Tr}{o:List Int->Prop}(s:SameT H m)(h:IsGo a n g H q p o):IsGo a n g m q p o:=by
 rcases h with⟨v,l,y,b,i,c,f,u,e,k,d,j,x,r⟩ | ⟨w,l,b,i,f,z,e,k,d,j,r⟩
 .exact .inl ⟨v,l,y,b,i,c,f,u,e.t s,k.n (cK s),d,j.n (cK s),x.n (cK s),r⟩
 .exact .inr ⟨w,l,b,i,f,z,e.t s,k.n (cK s),d,j.n (cK s),r⟩
def IsMk0(K:Frag)(H:Hp)(f:V)(t:Tr):Prop :=
 (∃ va vt vr ahead taken,∃ m:Nat,IsLam H dr fv1 f [.int (m:Nat),vt,vr,va]/\LsT H va ahead/\LsT H vt taken/\LsT H vr (ahead.drop 1)/\0<m/\m<ahead.length/\ahead.length+taken.length<=24/\t=fT (ahead.drop 1) (m - 1) (taken++ahead.take 1)) \/
 (∃ vt vr rest taken,∃ m:Nat,IsLam H dn fv2 f [.int (m:Nat),vt,vr]/\LsT H vt taken/\LsT H vr rest/\rest.length+taken.length<=24/\t=fT rest m taken) \/
 (∃ vp ps,∃ st fi:Nat,IsLam H bW fvS f [.int (st:Nat),vp,.int (fi:Nat)]/\LsT H vp ps/\ps.length<=24/\fi<st/\t=.leaf (ba ps fi st)) \/
 (∃ vt vr rest taken,∃ p:Int,IsLam H cS fvA f [vt,vr,.int p]/\LsT H vt taken/\LsP K H vr rest/\WfL rest (taken++[p])/\t=lT rest (taken++[p])) \/
 ∃ vt vr rest taken,IsLam H cQ fvB f [vt,vr]/\LsT H vt taken/\LsP K H vr rest/\WfL rest taken/\t=lT rest taken
theorem IsMk0.t{K:Frag}{H j:Hp}{f:V}{t:Tr}(s:SameT H j)(h:IsMk0 K H f t):IsMk0 K j f t:=by
 rcases h with⟨w,g,e,o,d,m,a,b,c,u,r⟩ | ⟨g,e,i,d,m,a,b,c,r⟩ | ⟨k,v,q,l,a,b,r⟩ | ⟨g,e,i,d,p,a,b,c,r⟩ | ⟨g,e,i,d,a,b,c,r⟩
 .exact .inl ⟨w,g,e,o,d,m,a.t s,b.t s,c.t s,u.t s,r⟩
 .exact .inr (.inl ⟨g,e,i,d,m,a.t s,b.t s,c.t s,r⟩)
 .exact .inr (.inr (.inl ⟨k,v,q,l,a.t s,b.t s,r⟩))
 .exact .inr (.inr (.inr (.inl ⟨g,e,i,d,p,a.t s,b.t s,c.t s,r⟩)))
 .exact .inr (.inr (.inr (.inr ⟨g,e,i,d,a.t s,b.t s,c.t s,r⟩)))
def IsMk(K:Frag)(a:Ad):Nat->Hp->V->Tr->Prop
 | 0,H,f,t=>IsMk0 K H f t
 | n+1,H,f,t=>IsMk K a n H f t\/∃ clos clos2 m cr go t0 gf ok,IsLamC H aZ fvC f clos [m,cr]/\IsLamC (untrs H (clos.map (·.2))) ld_behind_1 fvH cr clos2 [go]/\IsGo a n 5 (untrs (untrs H (clos.map (·.2))) (clos2.map (·.2))) go gf ok/\IsMk K a n (untrs (untrs H (clos.map (·.2))) (clos2.map (·.2))) m t0/\(∀ ks,Lf t0 ks->ok (so ks))/\t=bnd t0 gf
theorem IsMk.t{K:Frag}{a:Ad}:∀{n:Nat}{H H':Hp}{f:V}{t:Tr},SameT H H'->IsMk K a n H f t->IsMk K a n H' f t
 | 0,_,_,_,_,s,h=>IsMk0.t s h
 | n+1,_,_,_,_,s,h=>by
  rcases h with h | ⟨c,b,m,i,j,o,k,g,e,p,d,l,r⟩
  .exact .inl (IsMk.t s h)
  .exact .inr ⟨c,b,m,i,j,o,k,g,e.t s,p.t (bg s),d.t (bg (bg s)),IsMk.t (bg (bg s)) l,r⟩
theorem IsMk.zero{K:Frag}{a:Ad}{H:Hp}{f:V}{t:Tr}(h:IsMk0 K H f t):IsMk K a 0 H f t:=h
theorem IsMk.up{K:Frag}{a:Ad}{H:Hp}{f:V}{t:Tr}:∀{n m:Nat},n<=m->IsMk K a n H f t->IsMk K a m H f t
 | n,0,h,k=>by
  obtain rfl:n=0:=by lia
  exact k
 | n,m+1,h,k=>by
  by_cases c:n=m+1
  .subst c;exact k
  .exact .inl (IsMk.up (by lia) k)
def NdR(K:Frag)(a:Ad)(n:Nat)(H:Hp)(pt:Int×Tr)(y:V):Prop:=∃ q f,y=.ref q/\H q=some (.tup [.int pt.1,f])/\1<=pt.1/\IsMk K a n H f pt.2
theorem NdR.t{K:Frag}{a:Ad}{n:Nat}{H b:Hp}(s:SameT H b)(c:Int×Tr)(y:V)(h:NdR K a n H c y):NdR K a n b c y:=by
 obtain⟨q,f,e,i,g,d⟩:=h;exact⟨q,f,e,s.at i,g,d.t s⟩
def IsNd(K:Frag)(a:Ad)(n:Nat)(H:Hp)(v:V):Tr->Prop
 | .leaf ns=>IsTold a H v ns
 | .die ps=>∃ x dx l ys,v=.ref x/\H x=some (.ins a.c_p dx [("makes",.ref l)])/\H l=some (.lst ys)/\Paired (NdR K a n H) ps ys/\1<=ps.length/\ps.length<=100
theorem IsNd.t{K:Frag}{a:Ad}{n:Nat}{H b:Hp}{v:V}(s:SameT H b):∀{t:Tr},IsNd K a n H v t->IsNd K a n b v t
 | .leaf _,h=>IsTold.t s h
 | .die _,h=>by
  obtain⟨x,c,l,g,e,j,d,i,f⟩:=h;exact⟨x,c,l,g,e,s.at j,s.at d,aA (NdR.t s) i,f⟩
theorem IsNd.up{K:Frag}{a:Ad}{n m:Nat}{H:Hp}{v:V}(r:n<=m):∀{t:Tr},IsNd K a n H v t->IsNd K a m H v t
 | .leaf _,h=>h
 | .die _,h=>by
  obtain⟨x,b,l,j,g,p,c,k,i⟩:=h;exact⟨x,b,l,j,g,p,c,aA (λu y ⟨q,f,e,o,s,d⟩=>⟨q,f,e,o,s,d.up r⟩) k,i⟩
def Res(K:Frag)(a:Ad)(n:Nat)(H:Hp)(Bd:List Addr)(t:Tr)(Q:VK):Prop:=∀ H' u,SameT H H'->TabsOk (tabs a) H'->IsNd K a n (untrs H' Bd) u t->Q u H'
theorem Res.up{K:Frag}{a:Ad}{n m:Nat}{H:Hp}{Bd:List Addr}{t:Tr}{Q:VK}(d:n<=m)(h:Res K a m H Bd t Q):Res K a n H Bd t Q:=λb u s e c=>h b u s e (c.up d)
theorem ls1:LamScope dr fv1 []:=⟨rfl,rfl,rfl,by decide +kernel,by decide +kernel,by decide +kernel,by decide +kernel,by decide +kernel⟩
theorem ls2:LamScope dn fv2 []:=⟨rfl,rfl,rfl,by decide +kernel,by decide +kernel,by decide +kernel,by decide +kernel,by decide +kernel⟩
theorem lsS:LamScope bW fvS []:=⟨rfl,rfl,rfl,by decide +kernel,by decide +kernel,by decide +kernel,by decide +kernel,by decide +kernel⟩
theorem lsA:LamScope cS fvA []:=⟨rfl,rfl,rfl,by decide +kernel,by decide +kernel,by decide +kernel,by decide +kernel,by decide +kernel⟩
theorem lsB:LamScope cQ fvB []:=⟨rfl,rfl,rfl,by decide +kernel,by decide +kernel,by decide +kernel,by decide +kernel,by decide +kernel⟩
theorem lsC:LamScope aZ fvC []:=⟨rfl,rfl,rfl,by decide +kernel,by decide +kernel,by decide +kernel,by decide +kernel,by decide +kernel⟩
theorem lsH:LamScope ld_behind_1 fvH ["after"]:=⟨rfl,rfl,rfl,by decide +kernel,by decide +kernel,by decide +kernel,by decide +kernel,by decide +kernel⟩
theorem lsG:LamScope ci fvG ["kept"]:=⟨rfl,rfl,rfl,by decide +kernel,by decide +kernel,by decide +kernel,by decide +kernel,by decide +kernel⟩
theorem lsF:LamScope cm fvF ["kept"]:=⟨rfl,rfl,rfl,by decide +kernel,by decide +kernel,by decide +kernel,by decide +kernel,by decide +kernel⟩
theorem nd4(n:Nat):([n+1+1,n+1+1+1,n+1+1+1+1,n+1]:List Nat).Nodup:=by
 simp only[nodup_cons,mem_cons,not_mem_nil,or_false,not_or,not_false_eq_true,nodup_nil,and_true];lia
theorem nd3(n:Nat):([n+1+1,n+1+1+1,n+1+1+1+1]:List Nat).Nodup:=by
 simp only[nodup_cons,mem_cons,not_mem_nil,or_false,not_or,not_false_eq_true,nodup_nil,and_true];lia
section
variable {P:Program}{w:World}{K:Frag}{mg:Str->Option Value}{base:Heap}{a:Ad}
theorem gC(T:Txt K mg a):FnOk P w K mg base CX0 1 a.i_i a.e_i ["self","kept"] (spToldI a):=by
 refine T.Fi_i.ok iZ (λr H Q E h=>?_) (λcdv A outer s H r Q E hr h=>?_)
 .obtain⟨x,i,l,j,rfl,_⟩:=h;rfl
 .obtain⟨x,i,l,j,rfl,g,v,u,q⟩:=h
  refine⟨_,(aj (gm (vr 0) (cY eZ rfl T.z_tuple jY (aa (aG ka rfl T.z_sorted fm (aa (vr 1) ae)) ae)) rfl)),?_⟩;refine⟨l,j,rfl,v.imp SqL.of SqT.of,u,λp c C m D=>?_⟩;have k:=Same.new (o:=.lst (c.map V.int)) D;refine⟨p,_,rfl,.inl ⟨SqL.of ac,λt f=>?_⟩⟩;have B:=Same.new (o:=.tup (c.map V.int)) f;have d:=k.trans B;have y:t≠x:=λz=>by rw[z,k _ _ g]at f;cases f
  refine⟨x,a.c_i,i,[],rfl,d _ _ g,T.cl_i,T.na_Told_rising,(by decide),?_⟩;exact q _ t c (λb o n e=>by rw[au n];exact d _ _ e) ac (by rw[au y];exact ac) ⟨C,m⟩
theorem lI(T:Txt K mg a):FnOk P w K mg base CX0 1 a.i_p a.e_p ["self","parts"] (spDieI a):=by
 refine T.Fi_p.ok jn (λj H Q E h=>?_) (λcdv A outer s H j Q E hr h=>?_)
 .obtain⟨x,f,l,d,rfl,_⟩:=h;rfl
 .obtain⟨x,f,l,d,rfl,g,k,q⟩:=h
  refine⟨_,(aj (gm (vr 0) (cY iq rfl T.z_list gB (aa (vr 1) ae)) rfl)),?_⟩;refine⟨l,d,rfl,.inl (SqL.of k),λt c=>?_⟩;have i:=Same.new (o:=.lst d) c;have m:t≠x:=λz=>by rw[z,g]at c;cases c
  refine⟨x,a.c_p,f,[],rfl,i _ _ g,T.cl_p,T.na_Die_makes,(by decide),?_⟩;exact q _ t c (λb o n e=>by rw[au n];exact i _ _ e) ac (by rw[au m];exact ac)
theorem made{a c:Hp}{x d:Addr}{h g:HO}(f:a x=none)(i:a d=none)(k:∀ b o,b≠x->(upd (upd a d h) x g) b=some o->c b=some o):Same a c:=λb o e=>by
 refine k b o (ar e f) ?_;rw[au (ar e f),au (ar e i)];exact e
end
open Tb (Tr fT lT sT ba bnd d7 tot so)
inductive spFN(K:Frag)(a:Ad)(vs:List V)(H:Hp)(Q:VK)(_E:XK):Prop
 | mk(va vt:V)(ahead taken:List Int)(m:Nat)(Bd:List Addr)(h0:vs=[va,.int (m:Nat),vt])(h1:Bad H Bd)(h2:LsT H va ahead)(h3:LsT H vt taken)(h4:ahead.length+taken.length<=24)(h5:TabsOk (tabs a) H)(h6:Res K a 0 H Bd (fT ahead m taken) Q):spFN K a vs H Q _E
inductive spSM(a:Ad)(vs:List V)(H:Hp)(Q:VK)(_E:XK):Prop
 | mk(vp:V)(st fi:Nat)(Bd:List Addr)(h0:vs=[vp,.int (st:Nat),.int (fi:Nat)])(h1:Bad H Bd)(h2:TabsOk (tabs a) H)(h3:∀ H' f,SameT H H'->TabsOk (tabs a) H'->IsLam (untrs H' Bd) bW fvS f [.int (st:Nat),vp,.int (fi:Nat)]->Q f H'):spSM a vs H Q _E
inductive spLN(K:Frag)(a:Ad)(vs:List V)(H:Hp)(Q:VK)(_E:XK):Prop
 | mk(va vt:V)(ahead:Tl)(taken:List Int)(Bd:List Addr)(h0:vs=[va,vt])(h1:Bad H Bd)(h2:LsP K H va ahead)(h3:LsT H vt taken)(h4:WfL ahead taken)(h5:TabsOk (tabs a) H)(h6:Res K a 0 H Bd (lT ahead taken) Q):spLN K a vs H Q _E
theorem vS{c:Int×Int}(h:uns c=true):0<c.1/\c.1<c.2:=of_decide_eq_true h
section
variable {P:Program}{w:World}{K:Frag}{mg:Str->Option Value}{base:Heap}{a:Ad}
theorem sU(T:Txt K mg a)(hB:Bm mg base):FnOk P w K mg base CX0 3 a.f_m a.d_m ["ahead","wanted","taken"] (spFN K a):=by
 have ad:FnOk P w K mg base CX0 1 _ _ _ (spToldI a):=gC T;have a9:FnOk P w K mg base CX0 1 _ _ _ (spDieI a):=lI T;refine T.F_m.okF T.lcd_m sc_m (by decide +kernel) (λvs H Q E h=>?_) (λA outer s H vs Q E hr h=>?_)
 .obtain⟨va,vt,c,f,m,Bd,rfl,_⟩:=h;rfl
 .obtain⟨va,vt,c,f,m,Bd,rfl,u,hA,an,X,hT,q⟩:=h
  have bm:sizeLine=16777216:=sizeLine_eq;obtain⟨la,rfl,ca⟩:=id hA;obtain⟨lt,rfl,ct⟩:=id an;have ha:=ca;have ht:=ct;refine⟨_,(dG (aR (aK dm (vr 1) ag (aI _)) (aj (ay (bP T.mk_i ad hr rfl T.mc_i T.Bi_i .nil ao (aa (vr 2) ae)))) aH) (dG (aR (aK qZ (vr 1) (aG aP rfl T.z_len cj (aa (vr 0) ae)) (aI _)) (aj (ay (bP T.mk_i ad hr rfl T.mc_i T.Bi_i .nil ao (aa (aD jS (vr 2) (vr 0)) ae)))) aH) (dG (aF (i:=3) sc_m.nd rfl (Or.inr rfl) (d6 gg (vr 0) (d0 ag) eK)) (jZ (bP T.mk_p a9 hr rfl T.mc_p T.Bi_p .nil ao (aa (cC (aa (aT (aa (vr 1) (aa (eY (d:=dr) rfl T.lch_m hB rfl (by with_unfolding_all rfl) rfl (i7 a) (.head _) T.tnd i8) ae))) (aa (aT (aa (aD eO (aG aP rfl T.z_len cj (aa (vr 0) ae)) (vr 1)) (aa (eY (d:=dn) rfl T.lch_m hB rfl (by with_unfolding_all rfl) rfl (i7 a) (.tail _ (.head _)) T.tnd i8) ae))) ae))) ae)))))),?_⟩;refine ifC (λh0=>?_) λh0=>?_
  .have m0:m=0:=by lia
   subst m0;intro x p F j Y;have N:Same H (upd (upd H p (.own x)) x (.ins a.c_i p [])):=λb o e=>by rw[au (ar e F),au (ar e j)];exact e
   refine⟨x,p,lt,f,rfl,ac,.inl (N _ _ ht),by lia,λH' t L k v h2 h3=>⟨rfl,?_⟩⟩;have M:=made F j k;refine q _ _ M.t (hT.same M) ?_;rw[Tb.fT_zero];exact dJ (u.t M.t) ⟨x,p,t,L,rfl,v,h2,h3⟩
  have m1:0<m:=by lia
  refine⟨_,.inl (SqL.of ha),?_⟩;refine ifC (λv=>?_) λv=>?_
  .have v:c.length<=m:=by rw[length_map]at v;lia
   refine⟨lt,la,_,_,rfl,rfl,ht,ha,(by rw[length_map,length_map];lia),λr fr=>?_⟩;rw[<- map_append];have y:=Same.new (o:=.lst ((f++c).map V.int)) fr;have ap:(upd H r (.lst ((f++c).map V.int))) r=some (.lst ((f++c).map V.int)):=ac;generalize upd H r (.lst ((f++c).map V.int))=H1 at y ap;intro x p F j Y;have N:Same H1 (upd (upd H1 p (.own x)) x (.ins a.c_i p [])):=λb o e=>by rw[au (ar e F),au (ar e j)];exact e
   refine⟨x,p,r,f++c,rfl,ac,.inl (N _ _ ap),(by rw[length_append];lia),λH' t L k g1 g2 g3=>⟨rfl,?_⟩⟩;have M:=y.trans (made F j k);refine q _ _ M.t (hT.same M) ?_;rw[Tb.fT_all v,if_neg (by lia)];exact dJ (u.t M.t) ⟨x,p,t,L,rfl,g1,g2,g3⟩
  have v:m<c.length:=by rw[length_map]at v;lia
  refine⟨_,rfl,.inl ⟨_,SqL.of ha,λlr fr=>?_⟩⟩;have er:dQ (c.map V.int) (some 1) none=(c.drop 1).map V.int:=by rw[List.map_drop];exact fA _ 1
  rw[er];have y:=Same.new (o:=.lst ((c.drop 1).map V.int)) fr;have a0:(upd H lr (.lst ((c.drop 1).map V.int))) lr=some (.lst ((c.drop 1).map V.int)):=ac;generalize upd H lr (.lst ((c.drop 1).map V.int))=H1 at y a0;refine⟨hT.same y,λf1 c1 H2 S a3 n1 a5 a4=>?_⟩;refine⟨(by decide:2<=sizeLine),λI a'=>?_⟩;have O:=Same.new (o:=.tup [.int (m:Nat),.ref f1]) a';have al:(upd H2 I (.tup [.int (m:Nat),.ref f1])) I=some (.tup [.int (m:Nat),.ref f1]):=ac;generalize upd H2 I (.tup [.int (m:Nat),.ref f1])=H3 at O al;have t3:=(y.t.trans S).trans O.t;refine⟨_,.inl (SqL.of (t3.at ha)),?_⟩;refine⟨a3.same O,λZ c2 H4 t4 a8 n2 a7 a2=>?_⟩;refine⟨(by decide:2<=sizeLine),λJ bd=>?_⟩;rw[length_map];have s5:=Same.new (o:=.tup [.int ((c.length:Int) - (m:Nat)),.ref Z]) bd;have W:(upd H4 J (.tup [.int ((c.length:Int) - (m:Nat)),.ref Z])) J=some (.tup [.int ((c.length:Int) - (m:Nat)),.ref Z]):=ac;generalize upd H4 J (.tup [.int ((c.length:Int) - (m:Nat)),.ref Z])=H5 at s5 W;refine⟨(by decide:2<=sizeLine),λl0 a6=>?_⟩;have s6:=Same.new (o:=.lst [.ref I,.ref J]) a6;have aS:(upd H5 l0 (.lst [.ref I,.ref J])) l0=some (.lst [.ref I,.ref J]):=ac;generalize upd H5 l0 (.lst [.ref I,.ref J])=H6 at s6 aS;intro x p F j Y;have N:Same H6 (upd (upd H6 p (.own x)) x (.ins a.c_p p [])):=λb o e=>by rw[au (ar e F),au (ar e j)];exact e
  refine⟨x,p,l0,_,rfl,ac,N _ _ aS,λH7 l g3 k g1 g2=>⟨rfl,λH8 s8 hc hn=>?_⟩⟩;have s7:=made F j k;have a1:=s7.trans s8;have ab:=s6.trans a1;have C:=s5.trans ab;have ah:=t4.trans C.t;have B:=O.t.trans ah;have D:=y.t.trans (S.trans B);have cA:=hc 0 _ _ _ rfl rfl (by with_unfolding_all rfl);have cW:=hc 1 _ _ _ rfl rfl (by with_unfolding_all rfl);have cT:=hc 2 _ _ _ rfl rfl (by with_unfolding_all rfl);have cR:=hc 3 _ _ _ rfl rfl (by with_unfolding_all rfl);have g:=u.t D;have G:Bad H7 Bd:=u.t (y.t.trans (S.trans (O.t.trans (t4.trans (s5.trans (s6.trans s7)).t))));have nA:=hn "ahead" _ (by with_unfolding_all rfl);have nW:=hn "wanted" _ (by with_unfolding_all rfl);have nT:=hn "taken" _ (by with_unfolding_all rfl);have nR:=hn "rest" _ (by with_unfolding_all rfl);have fl:H l=none:=(y.t.trans (S.trans (O.t.trans (t4.trans (s5.t.trans s6.t))))).free (N.free g3);have bl:=(hA.t D).n (g9 g);have as:=(an.t D).n (g9 g)
  have R:LsT (untrs H8 Bd) (.ref lr) (c.drop 1):=⟨lr,rfl,gE u fr ((S.trans B).at a0)⟩
  refine q _ _ D (a8.same C) ?_;rw[Tb.fT_die m1 v];refine⟨x,p,l,_,rfl,ck g (s8 _ _ g1) (λ_ z=>nomatch z),gE u fl (s8 _ _ g2),.cons ⟨I,.ref f1,rfl,ck g (ah.at al) (λ_ z=>nomatch z),by show(1:Int)<=(m:Nat);lia,IsMk.zero (.inl ⟨_,_,_,c,f,m,?_,bl,as,R,m1,v,X,rfl⟩)⟩ (.cons ⟨J,.ref Z,rfl,ck g (ab _ _ W) (λ_ z=>nomatch z),by show(1:Int)<=(c.length:Int) - (m:Nat);lia,IsMk.zero (.inr (.inl ⟨_,_,c.drop 1,f,m,?_,as,R,by rw[length_drop];lia,rfl⟩))⟩ .nil),by show 1<=2;decide,by show 2<=100;decide⟩
  .refine ig G s8 (B.at a5) (B.at a4) rfl (nd4 _) (.cons cW (.cons cT (.cons cR (.cons cA .nil)))) λb hb=>?_
   rcases mem_cons.mp hb with rfl | hb;exact nW
   rcases mem_cons.mp hb with rfl | hb;exact nT
   rcases mem_cons.mp hb with rfl | hb;exact nR
   rw[mem_singleton.mp hb];exact nA
  .refine ig G s8 (C _ _ a7) (C _ _ a2) rfl (nd3 _) (.cons cW (.cons cT (.cons cR .nil))) λb hb=>?_
   rcases mem_cons.mp hb with rfl | hb;exact nW
   rcases mem_cons.mp hb with rfl | hb;exact nT
   rw[mem_singleton.mp hb];exact nR
theorem wJ(T:Txt K mg a)(k:Bm mg base):FnOk P w K mg base CX0 1 a.f_n a.d_n ["places","step","first"] (spSM a):=by
 refine T.F_n.okF T.lcd_n ki (by decide +kernel) (λo H Q E h=>?_) (λA outer s H o Q E hr h=>?_)
 .obtain⟨v,n,m,u,rfl,_⟩:=h;rfl
 .obtain⟨v,n,m,u,rfl,g,l,q⟩:=h
  refine⟨_,(jZ (eY (d:=bW) rfl T.lch_n k rfl (by with_unfolding_all rfl) rfl (kc a) (.head _) T.tnd kg)),?_⟩;refine⟨l,λy z x i f B c e=>λH3 s3 hc hn=>?_⟩;have j:=hn "step" _ (by with_unfolding_all rfl);have r:=hn "places" _ (by with_unfolding_all rfl);have p:=hn "first" _ (by with_unfolding_all rfl);refine q _ _ (i.trans s3.t) (f.same s3) (ig (g.t i) s3 (s3 _ _ c) (s3 _ _ e) rfl (by simp) (.cons (hc 1 _ _ _ rfl rfl (by with_unfolding_all rfl)) (.cons (hc 0 _ _ _ rfl rfl (by with_unfolding_all rfl)) (.cons (hc 2 _ _ _ rfl rfl (by with_unfolding_all rfl)) .nil))) λb hb=>?_)
  rcases mem_cons.mp hb with rfl | hb;exact j
  rcases mem_cons.mp hb with rfl | hb;exact r
  rw[mem_singleton.mp hb];exact p
theorem qW(T:Txt K mg a)(hB:Bm mg base):FnOk P w K mg base CX0 3 a.f_h a.d_h ["ahead","taken"] (spLN K a):=by
 have a7:FnOk P w K mg base CX0 1 _ _ _ (spToldI a):=gC T;have a':FnOk P w K mg base CX0 1 _ _ _ (spDieI a):=lI T;refine T.F_h.okF T.lcd_h sc_h (by decide +kernel) (λvs H Q E h=>?_) (λA outer s H vs Q E hr h=>?_)
 .obtain⟨va,vt,L,f,Bd,rfl,_⟩:=h;rfl
 .obtain⟨va,vt,L,f,Bd,rfl,r,hA,ah,J,hT,q⟩:=h
  have bo:sizeLine=16777216:=sizeLine_eq;obtain⟨la,xs,rfl,ca,hP⟩:=id hA;obtain⟨lt,rfl,ct⟩:=id ah;have ha:=ca;have ht:=ct;refine⟨_,(dG (aR (d9 (fq (vr 0) (λ_=>rfl))) (aj (ay (bP T.mk_i a7 hr rfl T.mc_i T.Bi_i .nil ao (aa (vr 1) ae)))) aH) (dG (i6 (aB ax (vr 0) ag (λ_ _=>rfl)) (dN rfl (az (aw (i:=2) sc_h.nd rfl (Or.inr rfl)) (az (aw (i:=3) sc_h.nd rfl (Or.inl rfl)) bi)))) (dG (aF (i:=4) sc_h.nd rfl (Or.inr rfl) (d6 gg (vr 0) (d0 ag) eK)) (jZ (bP T.mk_p a' hr rfl T.mc_p T.Bi_p .nil ao (aa (cC (aa (aT (aa (aB ax (vr 3) ag (λ_ _=>rfl)) (aa (eY (d:=cS) rfl T.lch_h hB rfl (by with_unfolding_all rfl) rfl (gO a) (.head _) T.tnd gX) ae))) (aa (aT (aa (aD eO (aB ax (vr 3) ag (λ_ _=>rfl)) (aB ax (vr 3) ag (λ_ _=>rfl))) (aa (eY (d:=cQ) rfl T.lch_h hB rfl (by with_unfolding_all rfl) rfl (gO a) (.tail _ (.head _)) T.tnd gX) ae))) ae))) ae)))))),?_⟩;cases hP with
  | nil =>
   refine⟨_,.inl ⟨_,SqL.of ha,rfl⟩,?_⟩;intro x u O m a2;have s0:Same H (upd (upd H u (.own x)) x (.ins a.c_i u [])):=λb o e=>by rw[au (ar e O),au (ar e m)];exact e
   have:=J.1;refine⟨x,u,lt,f,rfl,ac,.inl (s0 _ _ ht),by simp at this;lia,λH' t aS k h1 h2 h3=>⟨rfl,?_⟩⟩;have sm:=made O m k;exact q _ _ sm.t (hT.same sm) (dJ (r.t sm.t) ⟨x,u,t,aS,rfl,h1,h2,h3⟩)
  | @cons r1 v1 rest xs1 g1 hP1 =>
   obtain⟨p,c⟩:=r1;obtain⟨q0,y,rfl,a3,bd⟩:=g1;have hc:IsF K H c y:=bd;refine⟨_,.inl ⟨_,SqL.of ha,rfl⟩,?_⟩;refine .inl ⟨la,_,_,_,rfl,rfl,SqL.of ha,bK 0 rfl rfl,q0,_,rfl,SqT.of a3,rfl,_,_,rfl,_,_,rfl,rfl,?_⟩;refine⟨_,rfl,.inl ⟨_,SqL.of ha,λlr fr=>?_⟩⟩;have er:dQ (.ref q0::xs1) (some 1) none=xs1:=fA _ 1;rw[er];have G:=Same.new (o:=.lst xs1) fr;have ap:(upd H lr (.lst xs1)) lr=some (.lst xs1):=ac;generalize upd H lr (.lst xs1)=H1 at G ap;obtain⟨pc,rfl,bt⟩:=id hc;have j:∀{H':Hp},SameT H H'->PT K H' pc c:=λs=>by obtain⟨_,z,h⟩:=hc.t s;cases z;exact h
   refine px0 (j G.t).sq ?_;refine⟨hT.same G,λf1 c1 H2 t2 a1 n1 a5 a4=>?_⟩;refine⟨(by decide:2<=sizeLine),λD bl=>?_⟩;have N:=Same.new (o:=.tup [.int c.1,.ref f1]) bl;have ab:(upd H2 D (.tup [.int c.1,.ref f1])) D=some (.tup [.int c.1,.ref f1]):=ac;generalize upd H2 D (.tup [.int c.1,.ref f1])=H3 at N ab;have t3:=G.t.trans (t2.trans N.t);refine px1 (j t3).sq (px0 (j t3).sq ?_);refine⟨a1.same N,λW c2 H4 t4 a9 n2 a8 a0=>?_⟩;refine⟨(by decide:2<=sizeLine),λF bm=>?_⟩;have s5:=Same.new (o:=.tup [.int (c.2 - c.1),.ref W]) bm;have S:(upd H4 F (.tup [.int (c.2 - c.1),.ref W])) F=some (.tup [.int (c.2 - c.1),.ref W]):=ac;generalize upd H4 F (.tup [.int (c.2 - c.1),.ref W])=H5 at s5 S;refine⟨(by decide:2<=sizeLine),λl0 a6=>?_⟩;have s6:=Same.new (o:=.lst [.ref D,.ref F]) a6;have an:(upd H5 l0 (.lst [.ref D,.ref F])) l0=some (.lst [.ref D,.ref F]):=ac;generalize upd H5 l0 (.lst [.ref D,.ref F])=H6 at s6 an;intro x u O m a2;have s0:Same H6 (upd (upd H6 u (.own x)) x (.ins a.c_p u [])):=λb o e=>by rw[au (ar e O),au (ar e m)];exact e
   refine⟨x,u,l0,_,rfl,ac,s0 _ _ an,λH7 l gl k g1 g2=>⟨rfl,λH8 s8 hc' hn=>?_⟩⟩;have s7:=made O m k;have as:=s7.trans s8;have X:=s6.trans as;have v:=s5.trans X;have Y:=t4.trans v.t;have I:=N.t.trans Y;have Z:=t2.trans I;have B:=G.t.trans Z;have cT:=hc' 1 _ _ _ rfl rfl (by with_unfolding_all rfl);have cP:=hc' 2 _ _ _ rfl rfl (by with_unfolding_all rfl);have cR:=hc' 4 _ _ _ rfl rfl (by with_unfolding_all rfl);have fl:H l=none:=(G.t.trans (t2.trans (N.t.trans (t4.trans (s5.trans s6).t)))).free (s0.free gl);have ad:=J.1;have M:=J.2;have hu:=vS (M _ mem_cons_self);have g:=r.t B;have C:Bad H7 Bd:=r.t (G.t.trans (t2.trans (N.t.trans (t4.trans (s5.trans (s6.trans s7)).t))));have nT:=hn "taken" _ (by with_unfolding_all rfl);have nP:=hn "place" _ (by with_unfolding_all rfl);have nR:=hn "rest" _ (by with_unfolding_all rfl);have al:=(ah.t B).n (g9 g)
   have R:LsP K (untrs H8 Bd) (.ref lr) rest:=⟨lr,xs1,rfl,gE r fr (Z.at ap),aA (PrAt.n ((cK B).trans (g9 g))) hP1⟩
   refine q _ _ B (a9.same v) ?_;show IsNd K a 0 (untrs H8 Bd) (.ref x) (.die [(c.1,lT rest (f++[p])),(c.2 - c.1,lT rest f)]);refine⟨x,u,l,_,rfl,ck g (s8 _ _ g1) (λ_ z=>nomatch z),gE r fl (s8 _ _ g2),.cons ⟨D,.ref f1,rfl,ck g (Y.at ab) (λ_ z=>nomatch z),by show 1<=c.1;lia,IsMk.zero (.inr (.inr (.inr (.inl ⟨_,_,rest,f,p,?_,al,R,⟨?_,λz hz=>M z (mem_cons_of_mem _ hz)⟩,rfl⟩))))⟩ (.cons ⟨F,.ref W,rfl,ck g (X _ _ S) (λ_ z=>nomatch z),by show 1<=c.2 - c.1;lia,IsMk.zero (.inr (.inr (.inr (.inr ⟨_,_,rest,f,?_,al,R,⟨?_,λz hz=>M z (mem_cons_of_mem _ hz)⟩,rfl⟩))))⟩ .nil),by show 1<=2;decide,by show 2<=100;decide⟩
   .refine ig C s8 (I.at a5) (I.at a4) rfl (by simp) (.cons cT (.cons cR (.cons cP .nil))) λb hb=>?_
    rcases mem_cons.mp hb with rfl | hb;exact nT
    rcases mem_cons.mp hb with rfl | hb;exact nR
    rw[mem_singleton.mp hb];exact nP
   .rw[length_append,length_singleton];rw[length_cons]at ad;lia
   .refine ig C s8 (v _ _ a8) (v _ _ a0) rfl (by simp) (.cons cT (.cons cR .nil)) λb hb=>?_
    rcases mem_cons.mp hb with rfl | hb;exact nT
    rw[mem_singleton.mp hb];exact nR
   .rw[length_cons]at ad;lia
end
open Tb (Tr fT lT sT ba bnd d7 tot so)
def cnt(n a c:Nat):Nat:=(n - a+c - 1)/c
theorem li{n a c:Nat}(b:0<c)(h:n<=a):cnt n a c=0:=by
 unfold cnt;rw[show n - a=0 by lia];exact Nat.div_eq_of_lt (by lia)
theorem iQ{x c k:Nat}(a:0<c)(b:c*k<=x)(d:x<c*k+c):x/c=k:=by
 rw[Nat.div_eq_iff a];rw[Nat.mul_comm k c];lia
theorem tL{n a c:Nat}(b:0<c)(g:a<c)(h:n % c=a):cnt (n+1) a c=cnt n a c+1/\n=a+c*cnt n a c:=by
 have e:=Nat.div_add_mod n c;rw[h]at e
 have d:cnt n a c=n/c:=by
  unfold cnt;exact iQ b (by lia) (by lia)
 have f:cnt (n+1) a c=n/c+1:=by
  unfold cnt
  refine iQ b ?_ ?_ <;> rw[Nat.mul_add] <;> lia
 rw[f,d];lia
theorem sM{n a c:Nat}(b:0<c)(i:a<c)(h:n % c≠a):cnt (n+1) a c=cnt n a c:=by
 have e:=Nat.div_add_mod n c;have l:=Nat.mod_lt n b
 rcases Nat.lt_or_ge a (n % c) with g | g
 .have d:cnt n a c=n/c+1:=by
   unfold cnt
   refine iQ b ?_ ?_ <;> rw[Nat.mul_add] <;> lia
  have f:cnt (n+1) a c=n/c+1:=by
   unfold cnt
   refine iQ b ?_ ?_ <;> rw[Nat.mul_add] <;> lia
  rw[d,f]
 .by_cases z:n/c=0
  .rw[z,Nat.mul_zero]at e
   rw[li b (show n+1<=a by lia),li b (show n<=a by lia)]
  .obtain⟨m,hm⟩:∃ m,n/c=m+1:=Nat.exists_eq_succ_of_ne_zero z
   rw[hm,Nat.mul_add]at e
   have d:cnt n a c=m+1:=by
    unfold cnt
    refine iQ b ?_ ?_ <;> rw[Nat.mul_add] <;> lia
   have f:cnt (n+1) a c=m+1:=by
    unfold cnt
    refine iQ b ?_ ?_ <;> rw[Nat.mul_add] <;> lia
   rw[d,f]
theorem gh{a c:Nat}(b:0<c)(d:a<c):∀ n,(List.range n).filter (λk=>decide (k % c=a))=(List.range (cnt n a c)).map λk=>a+c*k
 | 0=>by rw[li b (Nat.zero_le _)];rfl
 | n+1=>by
  rw[range_succ,filter_append,gh b d n]
  by_cases h:n % c=a
  .obtain⟨e,f⟩:=tL b d h
   rw[e,range_succ,map_append]
   congr 1
   simp[h];exact f
  .rw[sM b d h]
   simp[h]
theorem mL{n a c:Nat}(d:0<c)(g:a<c):sliceRange (sliceBounds (some (a:Int)) none (some (c:Int)) n).1 (sliceBounds (some (a:Int)) none (some (c:Int)) n).2.1 (sliceBounds (some (a:Int)) none (some (c:Int)) n).2.2=(List.range n).filter λk=>decide (k % c=a):=by
 rw[gh d g n];have b:(c:Int) > 0:=by lia
 have f:(sliceBounds (some (a:Int)) none (some (c:Int)) n).1=((min a n:Nat):Int):=by
  unfold sliceBounds;simp only[Option.getD_some,b,if_true];rw[if_neg (by lia)];lia
 have i:(sliceBounds (some (a:Int)) none (some (c:Int)) n).2.1=(n:Int):=by
  unfold sliceBounds;simp only[Option.getD_some,b,if_true]
 have e:(sliceBounds (some (a:Int)) none (some (c:Int)) n).2.2=(c:Int):=rfl;rw[f,i,e];unfold sliceRange;simp only[b,if_true]
 by_cases h:a<n
 .rw[if_pos (by lia),show min a n=a by lia]
  have:(((n:Int) - (a:Int)+(c:Int) - 1)/(c:Int)).toNat=cnt n a c:=by
   unfold cnt;rw[show(n:Int) - (a:Int)+(c:Int) - 1=((n - a+c - 1:Nat):Int) by lia,<- Int.natCast_ediv,Int.toNat_natCast]
  rw[this];refine List.map_congr_left λk _=>?_
  rw[show(a:Int)+(c:Int)*(k:Int)=((a+c*k:Nat):Int) by push_cast;rfl,Int.toNat_natCast]
 .rw[if_neg (by lia),li d (by lia)]
  rfl
theorem ol{ps:List Int}{a c:Nat}(d:0<c)(b:a<c):kT (ps.map V.int) (some (a:Int)) (c:Int)=(ba ps a c).map V.int:=by
 unfold kT ba;rw[length_map,mL d b,List.map_filterMap]
 congr 1
 funext k
 rw[List.getElem?_map]
theorem qh(ps:List Int)(a c:Nat):(ba ps a c).length<=ps.length:=by
 unfold ba;refine Nat.le_trans (List.length_filterMap_le _ _) (Nat.le_trans (length_filter_le _ _) ?_);rw[length_range];exact Nat.le_refl _
def tU(K:Frag)(a:Ad):List (Str×Addr)->List V->Sp:=λclos vals vs H Q _=>∃(va vt vr:V) (ahead taken:List Int) (m:Nat) (Bd:List Addr),vals=[.int (m:Nat),vt,vr,va]/\vs=[]/\Bad H Bd/\(∀ b∈Bd,b ∉ clos.map (·.2))/\LsT H va ahead/\LsT H vt taken/\LsT H vr (ahead.drop 1)/\0<m/\m<ahead.length/\ahead.length+taken.length<=24/\TabsOk (tabs a) H/\Res K a 0 H Bd (fT (ahead.drop 1) (m - 1) (taken++ahead.take 1)) Q
def tX(K:Frag)(a:Ad):List (Str×Addr)->List V->Sp:=λclos vals vs H Q _=>∃(vt vr:V) (rest taken:List Int) (m:Nat) (Bd:List Addr),vals=[.int (m:Nat),vt,vr]/\vs=[]/\Bad H Bd/\(∀ b∈Bd,b ∉ clos.map (·.2))/\LsT H vt taken/\LsT H vr rest/\rest.length+taken.length<=24/\TabsOk (tabs a) H/\Res K a 0 H Bd (fT rest m taken) Q
def uv(K:Frag)(a:Ad):List (Str×Addr)->List V->Sp:=λclos vals vs H Q _=>∃(vp:V) (ps:List Int) (st fi:Nat) (Bd:List Addr),vals=[.int (st:Nat),vp,.int (fi:Nat)]/\vs=[]/\Bad H Bd/\(∀ b∈Bd,b ∉ clos.map (·.2))/\LsT H vp ps/\ps.length<=24/\fi<st/\TabsOk (tabs a) H/\Res K a 0 H Bd (.leaf (ba ps fi st)) Q
def ug(K:Frag)(a:Ad):List (Str×Addr)->List V->Sp:=λclos vals vs H Q _=>∃(vt vr:V) (rest:Tl) (taken:List Int) (p:Int) (Bd:List Addr),vals=[vt,vr,.int p]/\vs=[]/\Bad H Bd/\(∀ b∈Bd,b ∉ clos.map (·.2))/\LsT H vt taken/\LsP K H vr rest/\WfL rest (taken++[p])/\TabsOk (tabs a) H/\Res K a 0 H Bd (lT rest (taken++[p])) Q
def tT(K:Frag)(a:Ad):List (Str×Addr)->List V->Sp:=λclos vals vs H Q _=>∃(vt vr:V) (rest:Tl) (taken:List Int) (Bd:List Addr),vals=[vt,vr]/\vs=[]/\Bad H Bd/\(∀ b∈Bd,b ∉ clos.map (·.2))/\LsT H vt taken/\LsP K H vr rest/\WfL rest taken/\TabsOk (tabs a) H/\Res K a 0 H Bd (lT rest taken) Q
def mD(K:Frag)(a:Ad)(N:Nat):List (Str×Addr)->List V->Sp:=λclos vals vs H Q _=>∃(n:Nat) (m cr go:V) (clos2:List (Str×Addr)) (t0:Tr) (gf:List Int->Tr) (ok:List Int->Prop) (Bd:List Addr),n<N/\vals=[m,cr]/\vs=[]/\Bad H Bd/\(∀ b∈Bd,b ∉ clos.map (·.2))/\IsLamC (untrs (untrs H Bd) (clos.map (·.2))) ld_behind_1 fvH cr clos2 [go]/\IsGo a n 5 (untrs (untrs (untrs H Bd) (clos.map (·.2))) (clos2.map (·.2))) go gf ok/\IsMk K a n (untrs (untrs (untrs H Bd) (clos.map (·.2))) (clos2.map (·.2))) m t0/\(∀ ks,Lf t0 ks->ok (so ks))/\TabsOk (tabs a) H/\Res K a (n+1) H Bd (bnd t0 gf) Q
def rMk(K:Frag)(a:Ad)(N:Nat)(f:V)(H:Hp)(Q:VK):Prop:=io dr fv1 (tU K a) f [] H Q\/io dn fv2 (tX K a) f [] H Q\/io bW fvS (uv K a) f [] H Q\/io cS fvA (ug K a) f [] H Q\/io cQ fvB (tT K a) f [] H Q\/io aZ fvC (mD K a N) f [] H Q
theorem rm{K:Frag}{a:Ad}{N:Nat}{H:Hp}{Bd:List Addr}{f:V}{t:Tr}{Q:VK}(h:IsMk0 K (untrs H Bd) f t)(d:Bad H Bd)(y:TabsOk (tabs a) H)(q:Res K a 0 H Bd t Q):rMk K a N f H Q:=by
 have e:NC (untrs H Bd) H:=nc_cut
 rcases h with⟨D,x,v,A,w,m,⟨k,c,o,rfl,s,r,l,u,b⟩,j,g,i,E,I,B,rfl⟩ | ⟨x,v,z,w,m,⟨k,c,o,rfl,s,r,l,u,b⟩,j,g,i,rfl⟩ | ⟨F,C,J,G,⟨k,c,o,rfl,s,r,l,u,b⟩,j,g,i,rfl⟩ | ⟨x,v,z,w,p,⟨k,c,o,rfl,s,r,l,u,b⟩,j,g,i,rfl⟩ | ⟨x,v,z,w,⟨k,c,o,rfl,s,r,l,u,b⟩,j,g,i,rfl⟩
 .exact .inl ⟨k,c,o,_,rfl,(aC s).2,(aC r).2,l,u,dH cuts_sub b,D,x,v,A,w,m,Bd,rfl,rfl,d,dL b,j.n e,g.n e,i.n e,E,I,B,y,q⟩
 .exact .inr (.inl ⟨k,c,o,_,rfl,(aC s).2,(aC r).2,l,u,dH cuts_sub b,x,v,z,w,m,Bd,rfl,rfl,d,dL b,j.n e,g.n e,i,y,q⟩)
 .exact .inr (.inr (.inl ⟨k,c,o,_,rfl,(aC s).2,(aC r).2,l,u,dH cuts_sub b,F,C,J,G,Bd,rfl,rfl,d,dL b,j.n e,g,i,y,q⟩))
 .exact .inr (.inr (.inr (.inl ⟨k,c,o,_,rfl,(aC s).2,(aC r).2,l,u,dH cuts_sub b,x,v,z,w,p,Bd,rfl,rfl,d,dL b,j.n e,g.n e,i,y,q⟩)))
 .exact .inr (.inr (.inr (.inr (.inl ⟨k,c,o,_,rfl,(aC s).2,(aC r).2,l,u,dH cuts_sub b,x,v,z,w,Bd,rfl,rfl,d,dL b,j.n e,g.n e,i,y,q⟩))))
theorem ma{K:Frag}{a:Ad}{N:Nat}{H:Hp}{Bd:List Addr}{f:V}{t:Tr}{Q:VK}(d:Bad H Bd)(g:TabsOk (tabs a) H):∀{n:Nat},n<=N->IsMk K a n (untrs H Bd) f t->Res K a n H Bd t Q->rMk K a N f H Q
 | 0,_,h,q=>rm h d g q
 | n+1,hn,h,q=>by
  rcases h with h | ⟨e,b,m,x,v,u,s,j,⟨p,c,rfl,z,y,w,A,i⟩,o,l,k,r,rfl⟩
  .exact ma d g (n:=n) (by lia) h (q.up (by lia))
  .exact .inr (.inr (.inr (.inr (.inr ⟨p,c,e,_,rfl,(aC z).2,(aC y).2,w,A,dH cuts_sub i,n,m,x,v,b,u,s,j,Bd,by lia,rfl,rfl,d,dL i,o,l,k,r,g,q⟩))))
def spV(u:V):Sp:=λvs H Q _=>∃ v,vs=[v]/\Q u H
def ua(a:Ad):Sp:=λvs H Q _=>∃ x dx t,vs=[.ref x]/\H x=some (.ins a.c_i dx [("rising",.ref t)])/\Q (.ref t) H
def RawR(H:Hp)(pt:Int×V)(y:V):Prop:=∃ q,y=.ref q/\H q=some (.tup [.int pt.1,pt.2])/\1<=pt.1
theorem RawR.t{H a:Hp}(s:SameT H a)(b:Int×V)(y:V)(h:RawR H b y):RawR a b y:=by
 obtain⟨q,c,e,d⟩:=h;exact⟨q,c,s.at e,d⟩
def IsRaw(a:Ad)(H:Hp)(v:V)(rs:List (Int×V)):Prop:=∃ x dx l ys,v=.ref x/\H x=some (.ins a.c_p dx [("makes",.ref l)])/\H l=some (.lst ys)/\Paired (RawR H) rs ys/\1<=rs.length/\rs.length<=100
theorem IsRaw.t{a:Ad}{H b:Hp}{v:V}{c:List (Int×V)}(s:SameT H b)(h:IsRaw a H v c):IsRaw a b v c:=by
 obtain⟨x,d,l,i,f,k,e,j,g,m⟩:=h;exact⟨x,d,l,i,f,s.at k,s.at e,aA (RawR.t s) j,g,m⟩
def pZ(rs:List (Int×V)):Int:=(rs.map (·.1)).sum
def v5(a:Ad):Sp:=λvs H Q _=>∃ v rs,vs=[v]/\IsRaw a H v rs/\∀ H',Same H H'->Q (.int (pZ rs)) H'
def PrR(K:Frag)(a:Ad)(n:Nat)(H:Hp)(p:Int×Tr)(r:Int×V):Prop:=p.1=r.1/\1<=p.1/\IsMk K a n H r.2 p.2
theorem lE{K:Frag}{a:Ad}{n:Nat}{H:Hp}{v:V}{ps:List (Int×Tr)}(h:IsNd K a n H v (.die ps)):∃ rs,IsRaw a H v rs/\Paired (PrR K a n H) ps rs:=by
 obtain⟨x,i,l,b,rfl,g,o,w,p,j⟩:=h
 have c:∀{ps:List (Int×Tr)}{b:List V},Paired (NdR K a n H) ps b->∃ rs:List (Int×V),Paired (RawR H) rs b/\Paired (PrR K a n H) ps rs:=by
  intro ps b h
  induction h with
  | nil=>exact⟨[],.nil,.nil⟩
  | @cons pt y ps b r _ ih =>
   obtain⟨rs,s,A⟩:=ih;obtain⟨u,f,q,z,d,k⟩:=r;exact⟨(pt.1,f)::rs,.cons ⟨u,q,z,d⟩ s,.cons ⟨rfl,d,k⟩ A⟩
 obtain⟨rs,m,e⟩:=c w;have:rs.length=ps.length:=e.length.symm;exact⟨rs,⟨x,i,l,b,rfl,g,o,m,by lia,by lia⟩,e⟩
theorem lw{K:Frag}{a:Ad}{n:Nat}{H:Hp}{ps:List (Int×Tr)}{b:List (Int×V)}(h:Paired (PrR K a n H) ps b):pZ b=Tb.tot ps:=by
 induction h with
 | nil=>rfl
 | cons r _ ih =>
  unfold pZ Tb.tot at *;rw[map_cons,map_cons,sum_cons,sum_cons,ih,r.1]
section
variable {P:Program}{w:World}{K:Frag}{mg:Str->Option Value}{base:Heap}{a:Ad}
theorem vj(T:Txt K mg a)(hB:Bm mg base):LamOkC P w K mg base 4 dr fv1 [] (tU K a):=by
 have J:FnOk P w K mg base CX0 3 _ _ _ (spFN K a):=sU T hB;refine eB ls1 (λpm W e c us hl=>match us,hl with | [],_=>rfl) (λe vals vs H Q E h=>?_) (λA outer s H f c e vals vs Q E hr hfv ca h=>?_)
 .obtain⟨Y,vt,k,b,d,m,R,rfl,rfl,_⟩:=h;rfl
 .obtain⟨Y,vt,k,b,d,m,R,rfl,rfl,G,dj,hA,v,hR,m0,m1,N,Z,q⟩:=h
  have x:sizeLine=16777216:=sizeLine_eq;refine⟨_,(av J hr rfl T.m_m T.F_m.kp T.B_m .nil ao (aa (vr 2) (aa (aD eO (vr 0) ag) (aa (aD jS (vr 1) (d6 gg (vr 3) eK (d0 ag))) ae)))),?_⟩;have D:=hA.n (fP ca);have y:=v.n (fP ca);have F:=hR.n (fP ca);have j:=fL dj G;have l:=TabsOk.untrs Z ca;obtain⟨la,rfl,z⟩:=D;obtain⟨S,rfl,p⟩:=id y;refine⟨_,rfl,.inl ⟨_,SqL.of z,λI f1=>?_⟩⟩;have e1:dQ (b.map V.int) none (some 1)=(b.take 1).map V.int:=by rw[map_take];exact qB _ 1 (by rw[length_map];lia)
  rw[e1];have C:=Same.new (o:=.lst ((b.take 1).map V.int)) f1;have L:=ac (H:=untrs H (e.map (·.2))) (a:=I) (o:=.lst ((b.take 1).map V.int));generalize upd (untrs H (e.map (·.2))) I (.lst ((b.take 1).map V.int))=H1 at C L;refine⟨S,I,_,_,rfl,rfl,C _ _ p,L,(by rw[length_map,length_map,length_take];lia),λi f2=>?_⟩;rw[<- map_append];have O:=Same.new (o:=.lst ((d++b.take 1).map V.int)) f2;have M:=ac (H:=H1) (a:=i) (o:=.lst ((d++b.take 1).map V.int));generalize upd H1 i (.lst ((d++b.take 1).map V.int))=H2 at O M;have g:=C.trans O;refine⟨k,.ref i,b.drop 1,d++b.take 1,m - 1,R,?_,j.t g.t,F.n (cK g.t),⟨i,rfl,M⟩,?_,l.same g,λH' u X r B=>λH3 s3 hc=>?_⟩
  .show [k,V.int ((m:Int) - 1),V.ref i]=[k,V.int ((m - 1:Nat):Int),V.ref i]
   rw[show((m:Int) - 1)=((m - 1:Nat):Int) by lia]
  .rw[length_append,length_drop,length_take];lia
  .exact q _ _ (jm (g.t.trans X) s3 hc) (r.same s3) (B.t (bg s3.t))
theorem vD(T:Txt K mg a)(F:Bm mg base):LamOkC P w K mg base 4 dn fv2 [] (tX K a):=by
 have r:FnOk P w K mg base CX0 3 _ _ _ (spFN K a):=sU T F;refine eB ls2 (λL B e c I G=>match I,G with | [],_=>rfl) (λe vals vs H Q E h=>?_) (λA outer s H f c e vals vs Q E hr hfv ca h=>?_)
 .obtain⟨y,v,d,b,m,x,rfl,rfl,_⟩:=h;rfl
 .obtain⟨y,v,d,b,m,x,rfl,rfl,p,J,j,D,g,C,q⟩:=h
  refine⟨_,(av r hr rfl T.m_m T.F_m.kp T.B_m .nil ao (aa (vr 2) (aa (vr 0) (aa (vr 1) ae)))),?_⟩;have k:=j.n (fP ca);have o:=D.n (fP ca);exact⟨v,y,d,b,m,x,rfl,fL J p,o,k,g,TabsOk.untrs C ca,λM u z i l=>λH3 s3 hc=>q _ _ (jm z s3 hc) (i.same s3) (l.t (bg s3.t))⟩
theorem vc(T:Txt K mg a)(hB:Bm mg base):LamOkC P w K mg base 4 bW fvS [] (uv K a):=by
 have z:FnOk P w K mg base CX0 2 _ _ _ _:=(gC T).mono (by decide);refine eB lsS (λpm L d c us hl=>match us,hl with | [],_=>rfl) (λd vals vs H Q E h=>?_) (λA outer s H f c d vals vs Q E hr hfv ca h=>?_)
 .obtain⟨X,g,j,i,S,rfl,rfl,_⟩:=h;rfl
 .obtain⟨X,g,j,i,S,rfl,rfl,C,dj,N,I,y,O,q⟩:=h
  refine⟨_,(bP T.mk_i z hr rfl T.mc_i T.Bi_i .nil ao (aa (pW (vr 1) (d0 (vr 2)) (d0 (vr 0))) ae)),?_⟩;have B:=N.n (fP ca);have p:=fL dj C;have u:=TabsOk.untrs O ca;obtain⟨lp,rfl,Z⟩:=B;refine⟨_,rfl,_,rfl,lp,_,_,rfl,SqL.of Z,rfl,by lia,λl fl=>?_⟩;rw[ol (by lia) y];have J:=Same.new (o:=.lst ((ba g i j).map V.int)) fl;have G:=ac (H:=untrs H (d.map (·.2))) (a:=l) (o:=.lst ((ba g i j).map V.int));generalize upd (untrs H (d.map (·.2))) l (.lst ((ba g i j).map V.int))=H1 at J G;intro x r F m Y;have W:Same H1 (upd (upd H1 r (.own x)) x (.ins a.c_i r [])):=λb o e=>by rw[au (ar e F),au (ar e m)];exact e
  refine⟨x,r,l,ba g i j,rfl,ac,.inl (W _ _ G),by have:=qh g i j;lia,λH' t v k g1 R M=>⟨rfl,λH3 s3 hc=>?_⟩⟩;have D:=J.trans (made F m k);exact q _ _ (jm D.t s3 hc) ((u.same D).same s3) (dJ ((p.t D.t).t s3.t) ⟨x,r,t,v,rfl,s3 _ _ g1,s3 _ _ R,M⟩)
theorem vG(T:Txt K mg a)(hB:Bm mg base):LamOkC P w K mg base 4 cS fvA [] (ug K a):=by
 have m:FnOk P w K mg base CX0 3 _ _ _ (spLN K a):=qW T hB;refine eB lsA (λpm S d c us hl=>match us,hl with | [],_=>rfl) (λd vals vs H Q E h=>?_) (λA outer s H f c d vals vs Q E hr hfv ca h=>?_)
 .obtain⟨Z,J,g,b,p,O,rfl,rfl,_⟩:=h;rfl
 .obtain⟨Z,J,g,b,p,O,rfl,rfl,G,dj,z,Y,j,X,q⟩:=h
  have i:sizeLine=16777216:=sizeLine_eq;refine⟨_,(av m hr rfl T.m_h T.F_h.kp T.B_h .nil ao (aa (vr 1) (aa (aD jS (vr 0) (cC (aa (vr 2) ae))) ae))),?_⟩;have B:=z.n (fP ca);have F:=Y.n (fP ca);have k:=fL dj G;have r:=TabsOk.untrs X ca;obtain⟨R,rfl,v⟩:=B;have y:=j.1;rw[length_append,length_singleton]at y;refine⟨by rw[i];exact show(1:Nat)<=_ by decide,λI f1=>?_⟩;have D:=Same.new (o:=.lst [.int p]) f1;have L:=ac (H:=untrs H (d.map (·.2))) (a:=I) (o:=.lst [.int p]);generalize upd (untrs H (d.map (·.2))) I (.lst [.int p])=H1 at D L;refine⟨R,I,_,_,rfl,rfl,D _ _ v,L,(by rw[length_map];show _+1<=_;lia),λl f2=>?_⟩;rw[show b.map V.int++[V.int p]=(b++[p]).map V.int by rw[map_append];rfl];have N:=Same.new (o:=.lst ((b++[p]).map V.int)) f2;have M:=ac (H:=H1) (a:=l) (o:=.lst ((b++[p]).map V.int));generalize upd H1 l (.lst ((b++[p]).map V.int))=H2 at N M;have e:=D.trans N;exact⟨J,.ref l,g,b++[p],O,rfl,k.t e.t,F.n (cK e.t),⟨l,rfl,M⟩,j,r.same e,λH' u W x C=>λH3 s3 hc=>q _ _ (jm (e.t.trans W) s3 hc) (x.same s3) (C.t (bg s3.t))⟩
theorem u9(T:Txt K mg a)(D:Bm mg base):LamOkC P w K mg base 4 cQ fvB [] (tT K a):=by
 have g:FnOk P w K mg base CX0 3 _ _ _ (spLN K a):=qW T D;refine eB lsB (λJ z e c G F=>match G,F with | [],_=>rfl) (λe vals vs H Q E h=>?_) (λA outer s H f c e vals vs Q E hr hfv ca h=>?_)
 .obtain⟨x,r,d,b,v,rfl,rfl,_⟩:=h;rfl
 .obtain⟨x,r,d,b,v,rfl,rfl,p,I,j,C,l,B,q⟩:=h
  refine⟨_,(av g hr rfl T.m_h T.F_h.kp T.B_h .nil ao (aa (vr 1) (aa (vr 0) ae))),?_⟩;have k:=j.n (fP ca);have o:=C.n (fP ca);exact⟨r,x,d,b,v,rfl,fL I p,o,k,l,TabsOk.untrs B ca,λL u y i m=>λH3 s3 hc=>q _ _ (jm y s3 hc) (i.same s3) (m.t (bg s3.t))⟩
theorem tD(T:Txt K mg a):FnOk P w K mg base CX0 1 a.x_v a.y_v ["self"] (spV (.bl true)):=by
 refine T.F_v.ok jf (λb H Q E h=>?_) (λcdv A outer s H b Q E hr h=>?_)
 .obtain⟨v,rfl,_⟩:=h;rfl
 .obtain⟨v,rfl,q⟩:=h
  exact⟨_,(aj (ay fW)),q⟩
theorem u6(T:Txt K mg a):FnOk P w K mg base CX0 1 a.x_M a.y_M ["self"] (spV (.int 0)):=by
 refine T.F_M.ok kn (λb H Q E h=>?_) (λcdv A outer s H b Q E hr h=>?_)
 .obtain⟨v,rfl,_⟩:=h;rfl
 .obtain⟨v,rfl,q⟩:=h
  exact⟨_,(aj (ay ag)),q⟩
theorem sj(T:Txt K mg a):FnOk P w K mg base CX0 1 a.x_K a.y_K ["self"] (ua a):=by
 refine T.F_K.ok lA (λd H Q E h=>?_) (λcdv A outer s H d Q E hr h=>?_)
 .obtain⟨x,b,t,rfl,_⟩:=h;rfl
 .obtain⟨x,b,t,rfl,c,q⟩:=h
  exact⟨_,(aj (ay (bV (vr 0) rfl))),x,_,b,_,_,rfl,c,T.cl_i,T.na_Told_rising,rfl,q⟩
theorem rL(T:Txt K mg a):FnOk P w K mg base CX0 1 a.x_z a.y_z ["self"] (spV (.bl false)):=by
 refine T.F_z.ok j9 (λb H Q E h=>?_) (λcdv A outer s H b Q E hr h=>?_)
 .obtain⟨v,rfl,_⟩:=h;rfl
 .obtain⟨v,rfl,q⟩:=h
  exact⟨_,(aj (ay fW)),q⟩
theorem sW(T:Txt K mg a):FnOk P w K mg base CX0 1 a.x_O a.y_O ["self"] (spV .non):=by
 refine T.F_O.ok mW (λb H Q E h=>?_) (λcdv A outer s H b Q E hr h=>?_)
 .obtain⟨v,rfl,_⟩:=h;rfl
 .obtain⟨v,rfl,q⟩:=h
  exact⟨_,(aj (ay vR)),q⟩
theorem vb(T:Txt K mg a):FnOk P w K mg base CX0 1 a.x_T a.y_T ["self"] (v5 a):=by
 refine T.F_T.ok lG (λR H Q E h=>?_) (λcdv A outer s H R Q E hr h=>?_)
 .obtain⟨v,d,rfl,_⟩:=h;rfl
 .obtain⟨v,d,rfl,⟨x,J,l,f,rfl,G,B,z,O,L⟩,q⟩:=h
  have o:sizeLine=16777216:=sizeLine_eq;refine⟨_,(aj (ay (aG (dh rfl) rfl T.z_sum eX (aa (bj rfl (N:=["many","make"]) (ix:=[none,none]) ⟨rfl,rfl,rfl,rfl,trivial⟩ (bJ (bV (vr 0) rfl)) ⟨λC s H F=>(cN (K:=K) (n:=2) rfl rfl (az (aw (i:=0) (show List.Nodup (["many","make"]:List Str) by decide +kernel) rfl (Or.inl rfl)) (az (aw (i:=1) (show List.Nodup (["many","make"]:List Str) by decide +kernel) rfl (Or.inl rfl)) bi))),λC s H F=>bC,λC s H F=>(vr 0)⟩) ae)))),?_⟩;refine⟨x,_,J,_,_,rfl,G,T.cl_p,T.na_Die_makes,rfl,.inl ⟨⟨_,SqL.of B⟩,λD r=>?_⟩⟩
  let Pw1:PvL:=λi g c=>Same H c/\c D=some (.lst g)/\i<=d.length/\g=((d.take i).map (·.1)).map V.int
  refine aO (K:=K) (a:=l) (xs:=f) Pw1 ⟨Same.new r,ac,Nat.zero_le _,rfl⟩ (λi f c h=>SqL.of (h.1 _ _ B)) (λi f c h=>h.2.1) ?_ ?_
  .rintro i y g c W I ⟨j,b,S,rfl⟩ p
   obtain⟨⟨u,t⟩,e,M,rfl,m,_⟩:=aL z I;have k:i<d.length:=(List.getElem?_eq_some_iff.mp e).1;refine⟨M,_,rfl,SqT.of (j _ _ m),rfl,_,_,rfl,_,_,rfl,rfl,trivial,b,by rw[length_map,length_map,length_take];lia,p _ _ ⟨j.put r,ac,k,?_⟩⟩;rw[take_add_one,e];simp
  .rintro g c ⟨j,b,_,rfl⟩
   rw[show f.length=d.length from z.length.symm,take_length]at b;exact⟨D,_,rfl,SqL.of b,q _ j⟩
end
open Tb (Tr fT lT sT ba bnd d7 tot so)
theorem CrAt.tk{H a:Hp}(k:TK H a):∀{ms:List Mb}{xs:List V},CrAt H ms xs->CrAt a ms xs
 | _,_,.nil=>.nil
 | _,_,.cons ⟨q,pt,h1,h2,h3⟩ t=>.cons ⟨q,pt,h1,k _ _ h2,k _ _ h3⟩ (CrAt.tk k t)
theorem SameT.tk{H b:Hp}(s:SameT H b):TK H b:=λa c h=>s.at h
theorem CrAt.get{H:Hp}:∀{ms:List Mb}{xs:List V}{i:Nat}{x:V},CrAt H ms xs->xs[i]? = some x->∃ r,ms[i]? = some r/\MbAt H r x
 | _,_,_,_,.nil,h=>by cases h
 | _,_,0,_,.cons r _,h=>⟨_,rfl,by cases h;exact r⟩
 | _,_,i+1,_,.cons _ t,h=>CrAt.get (i:=i) t h
theorem CrAt.len{H:Hp}{a:List Mb}{xs:List V}(h:CrAt H a xs):a.length=xs.length:=Paired.length h
inductive spPlaces(vs:List V)(H:Hp)(Q:VK)(_E:XK):Prop
 | mk(l:Addr)(xs:List V)(ms:List Mb)(h0:vs=[.ref l])(h1:H l=some (.lst xs))(h2:CrAt H ms xs)(h3:ms.length<=24)(h4:∀ H' r,Same H H'->H r=none->H' r=some (.lst ((plc ms).map V.int))->Q (.ref r) H'):spPlaces vs H Q _E
inductive spNeedN(vs:List V)(H:Hp)(Q:VK)(_E:XK):Prop
 | mk(i lo hi:Int)(h0:vs=[.int i,.int lo,.int hi])(h1:lo<=i)(h2:i<=hi)(h3:Q .non H):spNeedN vs H Q _E
def pD(fs:List (Int×Int)):List PyData:=fs.map λf=>.tuple [.int f.1,.int f.2]
inductive spWBy(K:Frag)(vs:List V)(H:Hp)(Q:VK)(_E:XK):Prop
 | mk(l:Addr)(xs:List V)(ms:List Mb)(m:Int)(h0:vs=[.ref l,.int m])(h1:H l=some (.lst xs))(h2:CrAt H ms xs)(h3:Szs (szs ms))(h4:0<=m)(h5:m<=24)(h6:∀ H' r ys,Same H H'->H r=none->H' r=some (.lst ys)->AllF K H' (due (szs ms) m) ys->Q (.ref r) H'):spWBy K vs H Q _E
def pH(a:Ad)(H:Hp)(v:V)(m:Nat):Prop:=∃ x dx,v=.ref x/\H x=some (.ins a.c_f dx [("step",.int (m:Nat))])
def pM(a:Ad)(H:Hp)(v:V)(m:Nat):Prop:=∃ x dx,v=.ref x/\H x=some (.ins a.c_g dx [("many",.int (m:Nat))])
inductive spStartI(a:Ad)(vs:List V)(H:Hp)(Q:VK)(_E:XK):Prop
 | mk(x dx:Addr)(m:Nat)(h0:vs=[.ref x,.int (m:Nat)])(h1:H x=some (.ins a.c_f dx []))(h2:1<=m)(h3:m<=100)(h4:Q .non (upd H x (.ins a.c_f dx [("step",.int (m:Nat))]))):spStartI a vs H Q _E
inductive spLooseI(a:Ad)(vs:List V)(H:Hp)(Q:VK)(_E:XK):Prop
 | mk(x dx:Addr)(m:Nat)(h0:vs=[.ref x,.int (m:Nat)])(h1:H x=some (.ins a.c_g dx []))(h2:m<=24)(h3:Q .non (upd H x (.ins a.c_g dx [("many",.int (m:Nat))]))):spLooseI a vs H Q _E
inductive spFewI(a:Ad)(vs:List V)(H:Hp)(Q:VK)(_E:XK):Prop
 | mk(x dx:Addr)(m:Nat)(h0:vs=[.ref x,.int (m:Nat)])(h1:H x=some (.ins a.c_x dx []))(h2:m<=24)(h3:Q .non (upd H x (.ins a.c_x dx [("many",.int (m:Nat))]))):spFewI a vs H Q _E
def rJ(a:Ad)(H:Hp)(v:V)(m:Nat):Prop:=∃ x dx,v=.ref x/\H x=some (.ins a.c_x dx [("many",.int (m:Nat))])
inductive spBounds(a:Ad)(vs:List V)(H:Hp)(Q:VK)(_E:XK):Prop
 | mk(v:V)(m:Nat)(l:Addr)(xs:List V)(h0:vs=[v,.ref l])(h1:rJ a H v m)(h2:H l=some (.lst xs))(h3:∀ p,H p=none->Q (.ref p) (upd H p (.tup [.int ((min m xs.length:Nat):Int),.int ((min m xs.length:Nat):Int)]))):spBounds a vs H Q _E
inductive spFNode(K:Frag)(a:Ad)(vs:List V)(H:Hp)(Q:VK)(_E:XK):Prop
 | mk(v:V)(m:Nat)(l:Addr)(xs:List V)(ms:List Mb)(Bd:List Addr)(h0:vs=[v,.ref l])(h1:rJ a H v m)(h2:H l=some (.lst xs))(h3:CrAt H ms xs)(h4:ms.length<=24)(h5:Bad H Bd)(h6:TabsOk (tabs a) H)(h7:Res K a 0 H Bd (fT (plc ms) m []) Q):spFNode K a vs H Q _E
inductive spSNode(K:Frag)(a:Ad)(vs:List V)(H:Hp)(Q:VK)(_E:XK):Prop
 | mk(v:V)(m:Nat)(l:Addr)(xs:List V)(ms:List Mb)(Bd:List Addr)(h0:vs=[v,.ref l])(h1:pH a H v m)(h2:H l=some (.lst xs))(h3:CrAt H ms xs)(h4:ms.length<=24)(h5:1<=m)(h6:m<=100)(h7:Bad H Bd)(h8:TabsOk (tabs a) H)(h9:Res K a 0 H Bd (stT (plc ms) m) Q):spSNode K a vs H Q _E
inductive spLNode(K:Frag)(a:Ad)(vs:List V)(H:Hp)(Q:VK)(_E:XK):Prop
 | mk(v:V)(m:Nat)(l:Addr)(xs:List V)(ms:List Mb)(Bd:List Addr)(h0:vs=[v,.ref l])(h1:pM a H v m)(h2:H l=some (.lst xs))(h3:CrAt H ms xs)(h4:Szs (szs ms))(h5:m<=24)(h6:Bad H Bd)(h7:TabsOk (tabs a) H)(h8:Res K a 0 H Bd (lT (dk (lsL ms m)) (cO (lsL ms m))) Q):spLNode K a vs H Q _E
inductive spSBo(a:Ad)(vs:List V)(H:Hp)(Q:VK)(_E:XK):Prop
 | mk(v:V)(m:Nat)(l:Addr)(xs:List V)(h0:vs=[v,.ref l])(h1:pH a H v m)(h2:1<=m)(h3:m<=100)(h4:H l=some (.lst xs))(h5:xs.length<=24)(h6:∀ H' p,Same H H'->H' p=some (.tup [.int ((xs.length:Int)/(m:Int)),.int (((xs.length:Int)+(m:Int) - 1)/(m:Int))])->Q (.ref p) H'):spSBo a vs H Q _E
def cF(fs:List (Int×Int))(t b:Int):Int:=(((pD fs).countP λz=>PyData.eqv z (.tuple [.int t,.int b]):Nat):Int)
inductive spLBo(a:Ad)(vs:List V)(H:Hp)(Q:VK)(_E:XK):Prop
 | mk(v:V)(m:Nat)(l:Addr)(xs:List V)(ms:List Mb)(h0:vs=[v,.ref l])(h1:pM a H v m)(h2:m<=24)(h3:H l=some (.lst xs))(h4:CrAt H ms xs)(h5:Szs (szs ms))(h6:∀ H' p,Same H H'->H' p=some (.tup [.int (cF (due (szs ms) (m:Nat)) 1 1),.int (((due (szs ms) (m:Nat)).length:Int) - cF (due (szs ms) (m:Nat)) 0 1)])->Q (.ref p) H'):spLBo a vs H Q _E
theorem ld{H:Hp}{b q:Addr}{o c:HO}{a:List V}(d:H q=some (.lst a))(h:H b=some o)(n:∀ ys,o≠.lst ys):(upd H q c) b=some o:=by
 rw[au (λz=>by rw[z,d]at h;exact n a (Option.some.inj h).symm)];exact h
theorem iT{H:Hp}{q:Addr}{c:List V}{b:HO}(a:H q=some (.lst c)):∀{clos:List (Str×Addr)}{vals:List V},CellsAt H clos vals->CellsAt (upd H q b) clos vals
 | _,_,.nil=>.nil
 | _,_,.cons r t=>.cons (ld a r (λd z=>nomatch z)) (iT a t)
theorem IsLam.put{H:Hp}{d:LamD}{g:List Str}{v:V}{a:List V}{q:Addr}{i:List V}{o:HO}(e:H q=some (.lst i))(h:IsLam H d g v a):IsLam (upd H q o) d g v a:=by
 obtain⟨f,c,b,k,r,p,j,l,s⟩:=h;exact⟨f,c,b,k,ld e r (λm z=>nomatch z),ld e p (λm z=>nomatch z),j,l,iT e s⟩
theorem PrAt.put{K:Frag}{H:Hp}{q:Addr}{b:List V}{i:HO}(a:H q=some (.lst b))(x:Int×(Int×Int))(v:V)(h:PrAt K H x v):PrAt K (upd H q i) x v:=by
 obtain⟨p,y,f,k,d,c,j⟩:=h;exact⟨p,y,f,ld a k (λg z=>nomatch z),d,c,j.imp (λe=>ld a e (λg z=>nomatch z)) id⟩
theorem jO{a b:Type}{r:a->b->Prop}{c:List a}{d:List b}(e:Paired r c d):∀{as:List a}{bs:List b},Paired r as bs->Paired r (as++c) (bs++d)
 | _,_,.nil=>e
 | _,_,.cons x t=>.cons x (jO e t)
def SRow(H:Hp)(r:Addr)(st f:Nat)(y:V):Prop:=∃ q fv,y=.ref q/\H q=some (.tup [.int 1,fv])/\IsLam H bW fvS fv [.int (st:Nat),.ref r,.int (f:Nat)]
theorem SRow.t{H a:Hp}{r:Addr}{st:Nat}(s:SameT H a)(f:Nat)(y:V)(h:SRow H r st f y):SRow a r st f y:=let ⟨q,fv,h1,h2,h3⟩:=h;⟨q,fv,h1,s.at h2,h3.t s⟩
theorem SRow.put{H:Hp}{r D:Addr}{st:Nat}{b:List V}{c:HO}(a:H D=some (.lst b))(f:Nat)(y:V)(h:SRow H r st f y):SRow (upd H D c) r st f y:=let ⟨q,fv,h1,h2,h3⟩:=h;⟨q,fv,h1,ld a h2 (λd z=>nomatch z),h3.put a⟩
theorem jU{c e d:Type}{r:d->e->Prop}{g:c->d}:∀{as:List c}{bs:List e},Paired (λa b=>r (g a) b) as bs->Paired r (as.map g) bs
 | _,_,.nil=>.nil
 | _,_,.cons x t=>.cons x (jU t)
theorem nK{K:Frag}{H:Hp}:∀{ps:List Int}{fs:List (Int×Int)}{ys zs:List V},ps.length=fs.length->zs.length=ps.length->AllF K H fs ys->Zp H (ps.map V.int) ys zs->Paired (PrAt K H) (ps.zip fs) zs
 | [],[],_,[],_,_,_,_=>.nil
 | [],[],_,_::_,_,h,_,_=>by cases h
 | [],_::_,_,_,h,_,_,_=>by cases h
 | _::_,[],_,_,h,_,_,_=>by cases h
 | _::_,_::_,_,[],_,h,_,_=>by cases h
 | p::ps,f::fs,y::ys,z::zs,h1,h2,.cons hf t,hz=>by
  obtain⟨q,e,i⟩:=hz 0 z (.int p) y rfl rfl rfl;exact .cons ⟨q,y,e,i,hf⟩ (nK (by simpa using h1) (by simpa using h2) t λj a b c g d k=>hz (j+1) a b c g d k)
theorem pL:∀ L:Tl,(dk L).length+(cO L).length<=L.length
 | []=>Nat.le_refl _
 | (p,c)::L=>by
  have d:=pL L;unfold dk cO at *
  by_cases hu:uns c=true
  .have a:0<c.1/\c.1<c.2:=of_decide_eq_true hu
   have b:¬decide (c=(1,1))=true:=λz=>by
    rw[of_decide_eq_true z]at a;simp at a
   rw[filter_cons_of_pos (by exact hu),filter_cons_of_neg (by exact b),length_cons,length_cons];lia
  .rw[filter_cons_of_neg (by exact hu)]
   by_cases h1:decide (c=(1,1))=true
   .rw[filter_cons_of_pos (by exact h1),map_cons,length_cons,length_cons]
    lia
   .rw[filter_cons_of_neg (by exact h1),length_cons]
    lia
theorem mj(a:List Mb)(m:Nat):(lsL a m).length=a.length:=by
 unfold lsL;rw[List.length_zip,dc];unfold plc szs;rw[length_map,length_map];exact Nat.min_self _
theorem si{H:Hp}{x a:Addr}{f c:HO}(d:H x=none)(g:H a=none):Same H (upd (upd H a f) x c):=λb o e=>by rw[au (ar e d),au (ar e g)];exact e
inductive spIsW(vs:List V)(H:Hp)(Q:VK)(_E:XK):Prop
 | mk(i lo hi:Int)(h0:vs=[.int i,.int lo,.int hi])(h1:Q (.bl (decide (lo<=i/\i<=hi))) H):spIsW vs H Q _E
section
variable {P:Program}{w:World}{K:Frag}{mg:Str->Option Value}{base:Heap}{a:Ad}
theorem tG(T:Txt K mg a):FnOk P w K mg base CX0 1 a.f_ac a.d_ac ["thing","low","high"] spIsW:=by
 refine T.F_ac.ok my (λb H Q E h=>?_) (λcdv A outer s H b Q E hr h=>?_)
 .obtain⟨i,d,c,rfl,_⟩:=h;rfl
 .obtain⟨i,d,c,rfl,q⟩:=h
  refine⟨_,(aj (ay (uZ (aG m5 rfl T.z_isinstance gJ (aa (vr 0) (aa (pF (v:=.ty "int") rfl T.z_int wz rfl) ae))) (uZ (xf (aG m5 rfl T.z_isinstance gJ (aa (vr 0) (aa (pF (v:=.ty "bool") rfl T.z_bool tR rfl) ae)))) (vN (pJ sC sC (vr 1) (vr 0) (vr 2))))))),?_⟩;refine⟨_,_,_,true,rfl,rfl,.int i,rfl,?_⟩;refine⟨_,_,_,false,rfl,rfl,.int i,rfl,?_⟩;exact wn (Q:=λv=>Q v H) q
theorem iS(T:Txt K mg a):FnOk P w K mg base CX0 1 a.f_R a.d_R ["crowd"] spPlaces:=by
 refine T.F_R.ok lP (λI H Q E h=>?_) (λcdv A outer s H I Q E hr h=>?_)
 .obtain⟨l,xs,p,rfl,_⟩:=h;rfl
 .obtain⟨l,xs,p,rfl,v,u,r,q⟩:=h
  have k:sizeLine=16777216:=sizeLine_eq;have f:=u.len;refine⟨_,(aj (ay (bj rfl (N:=["member"]) (ix:=[none]) ⟨rfl,rfl,rfl,rfl,trivial⟩ (bJ (vr 0)) ⟨λC s H y=>aw (i:=0) (show List.Nodup (["member"]:List Str) by decide +kernel) rfl (Or.inl rfl),λC s H y=>bC,λC s H y=>(aB (cu (K:=K) rfl) (vr 0) ag (λ_ _=>rfl))⟩))),?_⟩;refine .inl ⟨⟨_,SqL.of v⟩,λD j=>?_⟩
  let Pw1:PvL:=λi c d=>i<=xs.length/\Same H d/\d D=some (.lst c)/\c=(plc (p.take i)).map V.int
  refine aO (K:=K) (a:=l) (xs:=xs) Pw1 ⟨Nat.zero_le _,Same.new j,ac,rfl⟩ (λi c d h=>SqL.of (h.2.1 _ _ v)) (λi c d h=>h.2.2.1) ?_ ?_
  .rintro i x c d O o ⟨L,e,b,rfl⟩ B
   obtain⟨m,F,z,J,rfl,G,M⟩:=(u.tk e.tk).get o;have g:i<xs.length:=(List.getElem?_eq_some_iff.mp o).1;refine⟨trivial,.inr (.inl ⟨z,_,_,_,rfl,rfl,SqT.of G,bK 0 rfl rfl,b,?_,B _ _ ⟨g,e.put j,ac,?_⟩⟩)⟩
   .unfold plc;rw[length_map,length_map,length_take];lia
   .unfold plc;rw[take_add_one,F,map_append,map_append];rfl
  .rintro c d ⟨_,e,b,rfl⟩
   rw[<- f,take_of_length_le (Nat.le_refl _)]at b;exact q _ D e j b
theorem jR(T:Txt K mg a):FnOk P w K mg base CX0 2 a.f_F a.d_F ["thing","low","high"] spNeedN:=by
 have b:FnOk P w K mg base CX0 1 _ _ _ spIsW:=tG T;refine T.F_F.ok jw (λf H Q E h=>?_) (λcdv A outer s H f Q E hr h=>?_)
 .obtain⟨i,c,d,rfl,_⟩:=h;rfl
 .obtain⟨i,c,d,rfl,e,g,q⟩:=h
  refine⟨_,(aj (aR (d9 (gU (av b hr rfl T.m_ac T.F_ac.kp T.B_ac .nil ao (aa (vr 0) (aa (vr 1) (aa (vr 2) ae)))))) (aj gx) aH)),?_⟩;refine⟨i,c,d,rfl,?_⟩;rw[decide_eq_true (And.intro e g)];exact q
theorem vd{H:Hp}:∀{fs:List (Int×Int)}{xs:List V},AllF K H fs xs->DVs K H (pD fs) xs
 | _,_,.nil=>by simp[DVs,pD]
 | _,_,.cons ⟨p,e,r⟩ t=>by
  unfold pD;rw[map_cons,DVs];exact⟨_,_,rfl,by rw[e];exact gA r.sq,vd t⟩
theorem vy:∀(fs:List (Int×Int)),PyData.canLayAll0 (pD fs)=true/\PyData.depthAll (pD fs)<=3
 | []=>by simp[PyData.canLayAll0,PyData.depthAll,pD]
 | t::l=>by
  obtain⟨a,b⟩:=vy l;unfold pD at *;rw[map_cons,PyData.canLayAll0,PyData.depthAll,a];refine⟨by simp[PyData.canLay0,PyData.canLayAll0],?_⟩;simp only[PyData.depth,PyData.depthAll];lia
theorem jM(a b c d:Int):PyData.eqv (.tuple [.int a,.int b]) (.tuple [.int c,.int d])=decide ((a,b)=(c,d)):=by
 simp[PyData.eqv,PyData.eqvAll];rfl
theorem rD(T:Txt K mg a):FnOk P w K mg base CX0 5 a.f_Y a.d_Y ["crowd","many"] (spWBy K):=by
 have e:FnOk P w K mg base CX0 4 _ _ _ (spWished K):=pX T;refine T.F_Y.ok mt (λZ H Q E h=>?_) (λcdv A outer s H Z Q E u h=>?_)
 .obtain⟨l,xs,g,m,rfl,_⟩:=h;rfl
 .obtain⟨l,xs,g,m,rfl,G,B,F,J,L,q⟩:=h
  have p:sizeLine=16777216:=sizeLine_eq;have j:=B.len;have z:g.length<=24:=by have:=F.len;unfold szs at this;rw[length_map]at this;exact this
  refine⟨_,(aj (ay (av e u rfl T.m_an T.F_an.kp T.B_an .nil ao (aa (bj rfl (N:=["member"]) (ix:=[none]) ⟨rfl,rfl,rfl,rfl,trivial⟩ (bJ (vr 0)) ⟨λC s H I=>aw (i:=0) (show List.Nodup (["member"]:List Str) by decide +kernel) rfl (Or.inl rfl),λC s H I=>bC,λC s H I=>(aB (cu (K:=K) rfl) (vr 0) ag (λ_ _=>rfl))⟩) (aa (vr 1) ae))))),?_⟩;refine .inl ⟨⟨_,SqL.of G⟩,λD y=>?_⟩
  let Pw2:PvL:=λi c d=>i<=xs.length/\Same H d/\d D=some (.lst c)/\c=(szs (g.take i)).map V.int
  refine aO (K:=K) (a:=l) (xs:=xs) Pw2 ⟨Nat.zero_le _,Same.new y,ac,rfl⟩ (λi c d h=>SqL.of (h.2.1 _ _ G)) (λi c d h=>h.2.2.1) ?_ ?_
  .rintro i x c d P' v ⟨hi,f,b,rfl⟩ W
   obtain⟨mm,X,S,pt,rfl,Y,g2⟩:=(B.tk f.tk).get v;have k:i<xs.length:=(List.getElem?_eq_some_iff.mp v).1;refine⟨trivial,.inr (.inl ⟨S,_,_,_,rfl,rfl,SqT.of Y,bK 1 rfl rfl,b,?_,W _ _ ⟨k,f.put y,ac,?_⟩⟩)⟩
   .unfold szs;rw[length_map,length_map,length_take];lia
   .unfold szs;rw[take_add_one,X,map_append,map_append];rfl
  .rintro c d ⟨_,f,b,rfl⟩
   rw[<- j,take_of_length_le (Nat.le_refl _)]at b;exact⟨D,szs g,m,rfl,b,F,J,L,λR r c O o u M=>q R r c (f.trans O) (f.free o) u M⟩
theorem nY(T:Txt K mg a):FnOk P w K mg base CX0 3 a.i_f a.e_f ["self","step"] (spStartI a):=by
 have b:FnOk P w K mg base CX0 2 _ _ _ spNeedN:=jR T;refine T.Fi_f.ok il (λf H Q E h=>?_) (λcdv A outer s H f Q E hr h=>?_)
 .obtain⟨x,c,m,rfl,_⟩:=h;rfl
 .obtain⟨x,c,m,rfl,d,i,g,q⟩:=h
  refine⟨_,(ai (db (av b hr rfl T.m_F T.F_F.kp T.B_F .nil ao (aa (vr 1) (aa ag (aa (ii rfl T.g_MOST_STEP) ae))))) (aj (gm (vr 0) (vr 1) rfl))),gI ?_⟩;intro e;refine⟨_,1,100,rfl,by lia,by lia,?_⟩;exact⟨x,a.c_f,c,[],rfl,d,T.cl_f,T.na_Start_step,(by decide),q⟩
theorem nv(T:Txt K mg a):FnOk P w K mg base CX0 3 a.i_g a.e_g ["self","many"] (spLooseI a):=by
 have b:FnOk P w K mg base CX0 2 _ _ _ spNeedN:=jR T;refine T.Fi_g.ok iF (λf H Q E h=>?_) (λcdv A outer s H f Q E hr h=>?_)
 .obtain⟨x,c,m,rfl,_⟩:=h;rfl
 .obtain⟨x,c,m,rfl,d,g,q⟩:=h
  refine⟨_,(ai (db (av b hr rfl T.m_F T.F_F.kp T.B_F .nil ao (aa (vr 1) (aa ag (aa (ii rfl T.g_MOST_MANY) ae))))) (aj (gm (vr 0) (vr 1) rfl))),gI ?_⟩;intro e;refine⟨_,0,24,rfl,by lia,by lia,?_⟩;exact⟨x,a.c_g,c,[],rfl,d,T.cl_g,T.na_Loose_many,(by decide),q⟩
theorem rS(T:Txt K mg a):FnOk P w K mg base CX0 3 a.i_x a.e_x ["self","many"] (spFewI a):=by
 have b:FnOk P w K mg base CX0 2 _ _ _ spNeedN:=jR T;refine T.Fi_x.ok ji (λf H Q E h=>?_) (λcdv A outer s H f Q E hr h=>?_)
 .obtain⟨x,c,m,rfl,_⟩:=h;rfl
 .obtain⟨x,c,m,rfl,d,g,q⟩:=h
  refine⟨_,(ai (db (av b hr rfl T.m_F T.F_F.kp T.B_F .nil ao (aa (vr 1) (aa ag (aa (ii rfl T.g_MOST_MANY) ae))))) (aj (gm (vr 0) (vr 1) rfl))),gI ?_⟩;intro e;refine⟨_,0,24,rfl,by lia,by lia,?_⟩;exact⟨x,a.c_x,c,[],rfl,d,T.cl_x,T.na_Few_many,(by decide),q⟩
theorem j0(T:Txt K mg a)(O:Bm mg base):FnOk P w K mg base CX0 4 a.x_G a.y_G ["self","crowd"] (spFNode K a):=by
 have u:FnOk P w K mg base CX0 3 _ _ _ (spFN K a):=sU T O;have k:FnOk P w K mg base CX0 3 _ _ _ _:=(iS T).mono (by decide);refine T.F_G.ok mH (λR H Q E h=>?_) (λcdv A outer s H R Q E hr h=>?_)
 .obtain⟨v,m,l,y,e,z,rfl,_⟩:=h;rfl
 .obtain⟨v,m,l,y,e,z,rfl,⟨x,N,rfl,F⟩,S,M,c,p,J,q⟩:=h
  refine⟨_,(aj (ay (av u hr rfl T.m_m T.F_m.kp T.B_m .nil ao (aa (av k hr rfl T.m_R T.F_R.kp T.B_R .nil ao (aa (vr 1) ae)) (aa (bV (vr 0) rfl) (aa (cC ae) ae)))))),?_⟩;refine⟨l,y,e,rfl,S,M,c,λB r C L g=>?_⟩;refine⟨x,_,N,_,_,rfl,C _ _ F,T.cl_x,T.na_Few_many,rfl,?_⟩;refine⟨Nat.zero_le _,λd I=>?_⟩;have f:=Same.new (o:=.lst []) I;have D:=ac (H:=B) (a:=d) (o:=.lst []);generalize upd B d (.lst [])=H2 at f D;have b:=C.trans f;refine⟨.ref r,.ref d,plc e,[],m,z,rfl,p.t b.t,⟨r,rfl,f _ _ g⟩,⟨d,rfl,D⟩,?_,J.same b,λX W G i j=>q _ _ (b.t.trans G) i j⟩;unfold plc;rw[length_map,length_nil];lia
theorem dg{H:Hp}{Bd:List Addr}{D:Addr}{o:HO}(n:D ∉ Bd):untrs (upd H D o) Bd=upd (untrs H Bd) D o:=by
 funext b
 by_cases e:b=D
 .rw[e,aE n,ac,ac]
 .rw[au e]
  unfold untrs
  split
  .rfl
  .exact au e
theorem jz(T:Txt K mg a)(hB:Bm mg base):FnOk P w K mg base CX0 3 a.x_r a.y_r ["self","crowd"] (spSNode K a):=by
 have a2:FnOk P w K mg base CX0 1 _ _ _ (spToldI a):=gC T;have a4:FnOk P w K mg base CX0 1 _ _ _ (spDieI a):=lI T;have a7:FnOk P w K mg base CX0 2 _ _ _ _:=(iS T).mono (by decide);have a5:FnOk P w K mg base CX0 2 _ _ _ _:=(wJ T hB).mono (by decide);refine T.F_r.ok sc_r (λvs H Q E h=>?_) (λcdv A outer s H vs Q E hr h=>?_)
 .obtain⟨v,m,l,xs,ms,Z,rfl,_⟩:=h;rfl
 .obtain⟨v,m,l,xs,ms,Z,rfl,⟨x,dx,rfl,hx⟩,hl,hc,M,m1,m2,L,hT,q⟩:=h
  have a6:sizeLine=16777216:=sizeLine_eq;have al:(plc ms).length<=24:=by unfold plc;rw[length_map];exact M
  refine⟨_,(ai (aF (i:=2) sc_r.nd rfl (Or.inr rfl) (av a7 hr rfl T.m_R T.F_R.kp T.B_R .nil ao (aa (vr 1) ae))) (ai (aF (i:=3) sc_r.nd rfl (Or.inr rfl) (bV (vr 0) rfl)) (ai (aR (PW.pt (nQ (aK dm (vr 3) ag (aI _)) (lL (d9 (fq (vr 2) (λ_=>rfl)))))) (aj (ay (bP T.mk_i a2 hr rfl T.mc_i T.Bi_i .nil ao (aa (vr 2) ae)))) aH) (aj (ay (bP T.mk_p a4 hr rfl T.mc_p T.Bi_p .nil ao (aa (bj rfl (N:=["first","places","step"]) (ix:=[none,some 2,some 3]) ⟨rfl,rfl,rfl,rfl,⟨rfl,rfl,rfl,⟨rfl,rfl,rfl,trivial⟩⟩⟩ (dP rfl T.z_range (aa (vr 3) ae)) ⟨λC s H fp=>aw (i:=0) (show List.Nodup (["first","places","step"]:List Str) by decide +kernel) rfl (Or.inl rfl),λC s H fp=>bC,λC s H fp=>(aT (aa ag (aa (av a5 hr rfl T.m_n T.F_n.kp T.B_n .nil ao (aa (vr 1) (aa (vr 2) (aa (vr 0) ae)))) ae)))⟩) ae))))))),ny ?_⟩;intro bl a9 bd;refine⟨l,xs,ms,rfl,hl,hc,M,λH1 r s1 a' p=>?_⟩;refine⟨x,_,dx,_,_,rfl,s1 _ _ hx,T.cl_f,T.na_Start_step,rfl,?_⟩;have a3:=hT.same s1;generalize plc ms=places at p q al;refine ifC (λc=>?_) λc=>?_
  .have aS:m=1\/places=[]:=.inl (by lia)
   intro O g d b X;refine⟨O,g,r,places,rfl,ac,.inl (si d b _ _ p),by lia,λu t R k h1 h2 h3=>⟨rfl,?_⟩⟩;have Y:=s1.trans (made d b k);refine q _ _ Y.t (hT.same Y) ?_;unfold stT;rw[if_pos aS];exact dJ (L.t Y.t) ⟨O,g,t,R,rfl,h1,h2,h3⟩
  have c1:¬m=1:=by lia
  cases hpe:places with
  | nil =>
   rw[hpe]at p q;refine⟨_,.inl ⟨_,SqL.of p,rfl⟩,?_⟩;intro O g d b X;refine⟨O,g,r,[],rfl,ac,.inl (si d b _ _ p),by decide,λu t R k h1 h2 h3=>⟨rfl,?_⟩⟩;have Y:=s1.trans (made d b k);refine q _ _ Y.t (hT.same Y) ?_;unfold stT;rw[if_pos (.inr rfl)];exact dJ (L.t Y.t) ⟨O,g,t,R,rfl,h1,h2,h3⟩
  | cons p0 pr =>
   have X:places≠[]:=by rw[hpe];simp
   refine⟨_,.inl ⟨_,SqL.of (by rw[hpe]at p;exact p),rfl⟩,?_⟩;refine⟨(m:Int),rfl,by lia,by lia,λD hD=>?_⟩;have F:=L.t s1.t;have nD:D ∉ Z:=λz=>by obtain⟨v9,e9⟩:=F D z;rw[hD]at e9;cases e9
   have a0:TabsOk (tabs a) (upd H1 D (.lst [])):=a3.same (Same.new hD);have ext:∀{u:Hp},TabsOk (tabs a) u->∀{B:List V}{ad:List V},u D=some (.lst B)->TabsOk (tabs a) (upd u D (.lst ad)):=λG B ad e=>G.put (λps z=>by rw[e]at z;cases z) λφ z=>by rw[e]at z;cases z
   let Pw3:PvL:=λj B u=>j<=m/\SameT H1 u/\TabsOk (tabs a) u/\u D=some (.lst B)/\Paired (SRow (untrs u Z) r m) (List.range j) B
   refine jC (lo:=0) (n:=m) Pw3 ⟨Nat.zero_le _,(Same.new hD).t,a0,ac,.nil⟩ (λj B u h=>h.2.2.2.1) ?_ ?_
   .rintro j B u P' hj ⟨_,t1,G,S,hP⟩ an
    have yl:B.length=j:=by rw[<- hP.length,length_range]
    refine⟨⟨rfl,rfl,trivial⟩,.ref r,m,j,Z,?_,F.t t1,G,λH2 f t2 as hf=>?_⟩
    .show [V.ref r,V.int (m:Int),V.int (0+(j:Int))]=_
     rw[Int.zero_add]
    refine⟨ee _ _,λp1 J=>?_⟩;have s3:=Same.new (o:=.tup [.int 1,f]) J;have ab:=t2.at S;have W:=s3 _ _ ab;have n1:p1≠D:=λz=>by rw[z,ab]at J;cases J
    refine⟨W,by lia,an _ _ ⟨hj,((t1.trans t2).trans s3.t).put hD,ext (as.same s3) W,ac,?_⟩⟩;rw[range_succ];have cD:untrs (upd H2 p1 (.tup [.int 1,f])) Z D=some (.lst B):=by rw[aE nD];exact W
    rw[dg nD];exact cM (SRow.put cD _ _ ⟨p1,f,rfl,gE (F.t (t1.trans t2)) J ac,hf.t (bg s3.t)⟩) (aA (λf y h=>SRow.put cD _ _ (SRow.t (bg (t2.trans s3.t)) _ _ h)) hP)
   .rintro B u ⟨_,t1,G,S,hP⟩
    intro O g d b a8;refine⟨O,g,D,B,rfl,ac,si d b _ _ S,λH2 l' gl k g1 g2=>⟨rfl,?_⟩⟩;have s2:=made d b k;have ah:=s1.t.trans (t1.trans s2.t);have a1:=(t1.trans s2.t).at p;refine q _ _ ah (G.same s2) ?_;unfold stT;rw[if_neg (by simp[c1,X])];have rl:((List.range m).map λf=>((1:Int),Tr.leaf (ba places f m))).length=m:=by rw[length_map,length_range]
    have I:=L.t ah;refine⟨O,g,l',B,rfl,ck I g1 (λ_ z=>nomatch z),ck I g2 (λ_ z=>nomatch z),?_,by rw[rl];lia,by rw[rl];lia⟩
    have ap:∀{js:List Nat},(∀ j∈js,j<m)->∀{zs:List V},Paired (SRow (untrs H2 Z) r m) js zs->Paired (λ(f:Nat) z=>NdR K a 0 (untrs H2 Z) ((1:Int),Tr.leaf (ba places f m)) z) js zs:=λ{js}=>by
     induction js with
     | nil=>intro _ zs h;cases h;exact .nil
     | cons j js ih =>
      intro hj zs h;cases h with
      | cons h1 h2 =>
       obtain⟨q',fv,e1,e2,e3⟩:=h1;exact .cons ⟨q',fv,e1,e2,Int.le_refl 1,IsMk.zero (.inr (.inr (.inl ⟨_,places,m,j,e3,⟨r,rfl,ck I a1 (λ_ z=>nomatch z)⟩,al,hj j (mem_cons_self ..),rfl⟩)))⟩ (ih (λj hj'=>hj j (mem_cons_of_mem _ hj')) h2)
    exact jU (ap (λj hj=>mem_range.mp hj) (aA (SRow.t (bg s2.t)) hP))
theorem j4(T:Txt K mg a)(hB:Bm mg base):FnOk P w K mg base CX0 6 a.x_s a.y_s ["self","crowd"] (spLNode K a):=by
 have a2:FnOk P w K mg base CX0 5 _ _ _ _:=(iS T).mono (by decide);have ah:FnOk P w K mg base CX0 5 _ _ _ (spWBy K):=rD T;have ab:FnOk P w K mg base CX0 5 _ _ _ _:=(wt T).mono (by decide);have ad:FnOk P w K mg base CX0 5 _ _ _ _:=(qW T hB).mono (by decide);refine T.F_s.ok sc_s (λvs H Q E h=>?_) (λcdv A outer s H vs Q E hr h=>?_)
 .obtain⟨v,m,l,xs,F,Bd,rfl,_⟩:=h;rfl
 .obtain⟨v,m,l,xs,F,Bd,rfl,⟨x,dx,rfl,hx⟩,hl,S,hz,m2,a3,hT,q⟩:=h
  have a1:sizeLine=16777216:=sizeLine_eq;have G:F.length<=24:=by have:=hz.len;unfold szs at this;rw[length_map]at this;exact this
  refine⟨_,(ai (aF (i:=2) sc_s.nd rfl (Or.inl rfl) (oP rfl rfl T.z_list rfl T.z_zip (aa (av a2 hr rfl T.m_R T.F_R.kp T.B_R .nil ao (aa (vr 1) ae)) (aa (av ah hr rfl T.m_Y T.F_Y.kp T.B_Y .nil ao (aa (vr 1) (aa (bV (vr 0) rfl) ae))) ae)))) (ai (im rfl (i:=3) sc_s.nd rfl rfl (by with_unfolding_all rfl) (N:=["place","chance"]) (ix:=[none,none]) ⟨rfl,rfl,rfl,rfl,trivial⟩ (bJ (vr 2)) ⟨λC s H fp=>(cN (K:=K) (n:=2) rfl rfl (az (aw (i:=0) (show List.Nodup (["place","chance"]:List Str) by decide +kernel) rfl (Or.inl rfl)) (az (aw (i:=1) (show List.Nodup (["place","chance"]:List Str) by decide +kernel) rfl (Or.inl rfl)) bi))),λC s H fp=>eV (aK (wj (K:=K) rfl hr.units) (vr 1) (ii rfl T.g_WHOLE) (aI _)),λC s H fp=>(vr 0)⟩) (aj (ay (av ad hr rfl T.m_h T.F_h.kp T.B_h .nil ao (aa (bj rfl (N:=["place","chance"]) (ix:=[none,none]) ⟨rfl,rfl,rfl,rfl,trivial⟩ (bJ (vr 2)) ⟨λC s H fp=>(cN (K:=K) (n:=2) rfl rfl (az (aw (i:=0) (show List.Nodup (["place","chance"]:List Str) by decide +kernel) rfl (Or.inl rfl)) (az (aw (i:=1) (show List.Nodup (["place","chance"]:List Str) by decide +kernel) rfl (Or.inl rfl)) bi))),λC s H fp=>eV (gU (av ab hr rfl T.m_af T.F_af.kp T.B_af .nil ao (aa (vr 1) ae))),λC s H fp=>(aT (aa (vr 0) (aa (vr 1) ae)))⟩) (aa (vr 3) ae))))))),gM ?_⟩;intro a5 a8;refine⟨l,xs,F,rfl,hl,S,G,λH1 r B a6 a0=>?_⟩;refine⟨x,_,dx,_,_,rfl,B _ _ hx,T.cl_g,T.na_Loose_many,rfl,?_⟩;refine⟨l,xs,F,(m:Nat),rfl,B _ _ hl,S.tk B.tk,hz,by lia,by lia,λL w' ys s2 a9 Z hF=>?_⟩;have yl:ys.length=F.length:=by rw[<- hF.len,dc];unfold szs;rw[length_map]
  have pl:(plc F).length=F.length:=by unfold plc;rw[length_map]
  refine⟨r,w',_,_,rfl,s2 _ _ a0,Z,by rw[length_map];lia,by rw[length_map];lia,λH3 lt ps s3 a7 k I as=>?_⟩;rw[length_map]at I;have hP:Paired (PrAt K H3) (lsL F m) ps:=nK (by rw[pl,dc];unfold szs;rw[length_map]) I (hF.same s3) as
  obtain⟨tl,etl⟩:∃ tl,tl=lsL F m:=⟨_,rfl⟩
  have a4:tl.length<=24:=by rw[etl,mj];exact G
  have al:WfL (dk tl) (cO tl):=⟨by have:=pL tl;lia,λx hx=>(mem_filter.mp hx).2⟩
  have q':Res K a 0 H Bd (lT (dk tl) (cO tl)) Q:=by rw[etl];exact q
  rw[<- etl]at hP;have aS:=B.trans (s2.trans s3);refine .inl ⟨⟨_,SqL.of k⟩,λD hD=>?_⟩
  let Pw4:PvL:=λi j J=>Same H3 J/\J D=some (.lst j)/\i<=tl.length/\j=(((tl.take i).filter λx=>decide (x.2=(1,1))).map (·.1)).map V.int
  refine aO (K:=K) (a:=lt) (xs:=ps) Pw4 ⟨Same.new hD,ac,Nat.zero_le _,rfl⟩ (λi ys J h=>SqL.of (h.1 _ _ k)) (λi ys J h=>h.2.1) ?_ ?_
  .rintro i y j J P' hy ⟨B,b,hi,rfl⟩ g
   obtain⟨⟨p,c⟩,d,q1,yc,rfl,R,S⟩:=aL hP hy;have f:i<tl.length:=(List.getElem?_eq_some_iff.mp d).1;refine⟨q1,_,rfl,SqT.of (B _ _ R),rfl,_,_,rfl,_,_,rfl,rfl,?_⟩;obtain⟨pc,rfl,ap⟩:=S.same B;refine⟨trivial,.tuple [.int c.1,.int c.2],.tuple [.int 1,.int 1],gA ap.sq,gA (lm T.t_WHOLE),eW _ _,eW _ _,?_⟩;rw[jM];refine ifC (λhh=>?_) λhh=>?_
   .have Z:decide (c=(1,1))=true:=decide_eq_true (show c=(1,1) from hh)
    refine⟨b,?_,g _ _ ⟨B.put hD,ac,f,?_⟩⟩
    .rw[length_map,length_map]
     have:=length_filter_le (λx:Int×(Int×Int)=>decide (x.2=(1,1))) (tl.take i);rw[length_take]at *;lia
    .rw[take_add_one,d,filter_append,map_append,map_append]
     congr 1
     show _=(([(p,c)].filter λx:Int×(Int×Int)=>decide (x.2=(1,1))).map (·.1)).map V.int;rw[filter_cons_of_pos (by exact Z)];rfl
   .have Z:¬decide (c=(1,1))=true:=λz=>hh (of_decide_eq_true z)
    refine g _ _ ⟨B,b,f,?_⟩;rw[take_add_one,d,filter_append];show _=(((_++[(p,c)].filter λx:Int×(Int×Int)=>decide (x.2=(1,1)))).map (·.1)).map V.int;rw[filter_cons_of_neg (by exact Z)];simp
  .rintro j J ⟨s4,b,_,rfl⟩
   rw[show ps.length=tl.length from hP.length.symm,take_length]at b;have b:J D=some (.lst ((cO tl).map V.int)):=b;refine .inl ⟨⟨_,SqL.of (s4 _ _ k)⟩,λD2 Y=>?_⟩
   let Pw5:PvL:=λi j L=>Same J L/\L D2=some (.lst j)/\i<=tl.length/\Paired (PrAt K L) ((tl.take i).filter λx=>uns x.2) j
   refine aO (K:=K) (a:=lt) (xs:=ps) Pw5 ⟨Same.new Y,ac,Nat.zero_le _,.nil⟩ (λi ys L h=>SqL.of (h.1 _ _ (s4 _ _ k))) (λi ys L h=>h.2.1) ?_ ?_
   .rintro i y j L P' hy ⟨X,u,hi,e⟩ g
    obtain⟨⟨p,c⟩,d,q1,yc,rfl,R,S⟩:=aL hP hy;have f:i<tl.length:=(List.getElem?_eq_some_iff.mp d).1;have M:=s4.trans X;refine⟨q1,_,rfl,SqT.of (M _ _ R),rfl,_,_,rfl,_,_,rfl,rfl,trivial,?_⟩;refine⟨yc,c,rfl,S.same M,?_⟩
    have zl:j.length<=24:=by
     rw[<- e.length];have:=length_filter_le (λx:Int×(Int×Int)=>uns x.2) (tl.take i);rw[length_take]at *;lia
    refine ifB (λhu=>?_) λhu=>?_
    .refine⟨ee _ _,λq3 f3=>?_⟩
     have s6:=Same.new (o:=.tup [.int p,yc]) f3;have W:=s6 _ _ u;refine⟨W,by lia,g _ _ ⟨(X.trans s6).put Y,ac,f,?_⟩⟩;rw[take_add_one,d,filter_append];refine jO ?_ (aA (λx v h=>PrAt.put W _ _ (h.t s6.t)) e);show Paired _ ([(p,c)].filter λx:Int×(Int×Int)=>uns x.2) _;rw[filter_cons_of_pos (by exact hu)];exact .cons (PrAt.put W _ _ ⟨q3,yc,rfl,ac,S.same (M.trans s6)⟩) .nil
    .refine g _ _ ⟨X,u,f,?_⟩
     rw[take_add_one,d,filter_append];show Paired _ (_++[(p,c)].filter λx:Int×(Int×Int)=>uns x.2) _;rw[filter_cons_of_neg (by rw[hu];decide)];simpa using e
   .rintro j L ⟨X,u,_,e⟩
    rw[show ps.length=tl.length from hP.length.symm,take_length]at e;have O:=aS.trans (s4.trans X);exact⟨.ref D2,.ref D,dk tl,cO tl,Bd,rfl,a3.t O.t,⟨D2,j,rfl,u,e⟩,⟨D,rfl,X _ _ b⟩,al,hT.same O,λH4 v' t4 an nd=>q' _ _ (O.t.trans t4) an nd⟩
theorem oa(T:Txt K mg a):FnOk P w K mg base CX0 1 a.x_w a.y_w ["self","crowd"] (spSBo a):=by
 refine T.F_w.ok jo (λi H Q E h=>?_) (λcdv A outer s H i Q E hr h=>?_)
 .obtain⟨v,m,l,d,rfl,_⟩:=h;rfl
 .obtain⟨v,m,l,d,rfl,⟨x,c,rfl,b⟩,r,u,f,g,q⟩:=h
  refine⟨_,(aj (ay (aT (aa (aD cL (aG aP rfl T.z_len cj (aa (vr 1) ae)) (bV (vr 0) rfl)) (aa (aD cL (aD eO (aD di (aG aP rfl T.z_len cj (aa (vr 1) ae)) (bV (vr 0) rfl)) ag) (bV (vr 0) rfl)) ae))))),?_⟩;have e:Bt 3000 (m:Int):=(show Bt 10 (m:Int) by unfold Bt;lia).mono (by decide);refine⟨_,.inl (SqL.of f),⟨x,_,c,_,_,rfl,b,T.cl_f,T.na_Start_step,rfl,cdB (by lia) e,?_⟩⟩;refine⟨_,.inl (SqL.of f),⟨x,_,c,_,_,rfl,b,T.cl_f,T.na_Start_step,rfl,⟨x,_,c,_,_,rfl,b,T.cl_f,T.na_Start_step,rfl,cdB (by lia) e,?_⟩⟩⟩;refine⟨ee _ _,λp k=>?_⟩;have j:=Same.new (o:=.tup [.int ((d.length:Int)/(m:Int)),.int (((d.length:Int)+(m:Int) - 1)/(m:Int))]) k;exact q _ p j ac
theorem rN{H:Hp}{l k:Addr}{xs:List V}{fs:List (Int×Int)}{t b:Int}{Q:VK}(d:H l=some (.lst xs))(a:AllF K H fs xs)(c:SqT K H k [.int t,.int b])(q:Q (.int (cF fs t b)) H):rCount K (.ref l) [.ref k] H Q :=
 ⟨l,xs,pD fs,.ref k,.tuple [.int t,.int b],rfl,rfl,d,vd a,gA c,(vy fs).1,by simp[PyData.canLay0,PyData.canLayAll0],by simp[PyData.depth,PyData.depthAll],q⟩
theorem oY(T:Txt K mg a):FnOk P w K mg base CX0 6 a.x_q a.y_q ["self","crowd"] (spLBo a):=by
 have e:FnOk P w K mg base CX0 5 _ _ _ (spWBy K):=rD T;refine T.F_q.ok sc_q (λG H Q E h=>?_) (λcdv A outer s H G Q E hr h=>?_)
 .obtain⟨v,m,l,g,b,rfl,_⟩:=h;rfl
 .obtain⟨v,m,l,g,b,rfl,⟨x,C,rfl,j⟩,L,I,z,D,q⟩:=h
  refine⟨_,(ai (aF (i:=2) sc_q.nd rfl (Or.inl rfl) (av e hr rfl T.m_Y T.F_Y.kp T.B_Y .nil ao (aa (vr 1) (aa (bV (vr 0) rfl) ae)))) (aj (ay (aT (aa (pe_m.count hr.units (vr 2) (aa (ii rfl T.g_WHOLE) ae)) (aa (aD eO (aG aP rfl T.z_len cj (aa (vr 2) ae)) (pe_m.count hr.units (vr 2) (aa (ii rfl T.g_NOUGHT) ae))) ae)))))),gI ?_⟩;intro F;refine⟨x,_,C,_,_,rfl,j,T.cl_g,T.na_Loose_many,rfl,?_⟩;refine⟨l,g,b,(m:Nat),rfl,I,z,D,by lia,by lia,λM N k y u c d=>?_⟩;have B:k.length=(due (szs b) (m:Nat)).length:=d.len.symm;refine⟨.inl ⟨rfl,_,SqL.of c⟩,rN c d (lm T.t_WHOLE) ?_⟩;refine⟨_,.inl (SqL.of c),⟨.inl ⟨rfl,_,SqL.of c⟩,rN c d (lm T.t_NOUGHT) ?_⟩⟩;rw[B];refine⟨ee _ _,λp J=>?_⟩;have r:=Same.new (o:=.tup [.int (cF (due (szs b) (m:Nat)) 1 1),.int (((due (szs b) (m:Nat)).length:Int) - cF (due (szs b) (m:Nat)) 0 1)]) J;have f:=y.trans r;exact q _ p f ac
theorem i4(T:Txt K mg a):FnOk P w K mg base CX0 1 a.x_A a.y_A ["self","crowd"] (spBounds a):=by
 refine T.F_A.ok sc_A (λg H Q E h=>?_) (λcdv A outer s H g Q E hr h=>?_)
 .obtain⟨v,m,l,b,rfl,_⟩:=h;rfl
 .obtain⟨v,m,l,b,rfl,⟨x,c,rfl,d⟩,j,q⟩:=h
  refine⟨_,(ai (aF (i:=2) sc_A.nd rfl (Or.inl rfl) (aG (kJ rfl) rfl T.z_min rQ (aa (bV (vr 0) rfl) (aa (aG aP rfl T.z_len cj (aa (vr 1) ae)) ae)))) (aj (ay (aT (aa (vr 2) (aa (vr 2) ae)))))),gI ?_⟩;intro f;refine⟨x,_,c,_,_,rfl,d,T.cl_x,T.na_Few_many,rfl,⟨_,.inl (SqL.of j),?_⟩⟩;refine⟨_,_,rfl,?_⟩
  have e:(if ((b.length:Int)<(m:Int)) then (b.length:Int) else (m:Int))=((min m b.length:Nat):Int):=by split <;> lia
  rw[e];exact⟨(show 2<=sizeLine by decide),q⟩
end
end My
namespace L2
open PySem PySem.Spec PyProof.Rows
section
variable {X:Cx}{x:Str}{sc:Scope}{N:List Str}{ix:List (Option Nat)}{pins:List (Addr×Obj)}{σ:St}{H:Hp}{s:Shared}
end
section
variable {X:Cx}{x:Str}{sc:Scope}{N:List Str}{ix:List (Option Nat)}{elt tg iter:Expr}{ifs:List Expr}{pos:Pos}{wi:TI}{g:TG}{tt:TT}{te:TE}
end
theorem pA{X:Cx}{K:Frag}{tg l:Expr}{tl:TE}(e:X.K=K)(a:PE X l tl):PI X tg l (w6 K tl):=by subst e;exact bJ a
section
variable {X:Cx}{K:Frag}
theorem jK(a:X.K=K)(b:X.calm=true):CallR X (.builtin "sum") (rSumI K):=by
 subst a;exact dh b
end
end L2
namespace My
open PySem L2 FrM Nst
open Tb (Tr fT lT sT ba bnd d7 tot so)
theorem CrAt.snoc{H:Hp}{m:Mb}{x:V}(r:MbAt H m x):∀{ms:List Mb}{xs:List V},CrAt H ms xs->CrAt H (ms++[m]) (xs++[x])
 | _,_,.nil=>.cons r .nil
 | _,_,.cons q t=>.cons q (CrAt.snoc r t)
def xX(H:Hp)(g:Str×List Mb)(kv:Key×V):Prop:=kv.1=.inr g.1/\∃ l ys,kv.2=.ref l/\H l=some (.lst ys)/\CrAt H g.2 ys
abbrev GR(H:Hp):List (Str×List Mb)->List (Key×V)->Prop:=PySem.Paired (xX H)
theorem GR.move{H a:Hp}(k:TK H a):∀{gs:List (Str×List Mb)}{kvs:List (Key×V)},(∀ l ys,V.ref l∈kvs.map (·.2)->H l=some (.lst ys)->a l=some (.lst ys))->GR H gs kvs->GR a gs kvs
 | _,_,_,.nil=>.nil
 | _,_,h,.cons ⟨r1,l,ys,r2,r3,r4⟩ t=>.cons ⟨r1,l,ys,r2,h l ys (by rw[<- r2];exact mem_cons_self) r3,r4.tk k⟩ (GR.move k (λl ys b=>h l ys (mem_cons_of_mem _ b)) t)
theorem GR.miss{H:Hp}{n:Str}{m:Mb}{l:Addr}{x:V}(d:H l=some (.lst [x]))(b:MbAt H m x):∀{gs:List (Str×List Mb)}{kvs:List (Key×V)},GR H gs kvs->fh kvs (.inr n)=none->GR H (dR gs n m) (kvs++[(.inr n,.ref l)])
 | _,_,.nil,_=>.cons ⟨rfl,l,_,rfl,d,.cons b .nil⟩ .nil
 | (k,ms)::gs,(kk,y)::kvs,.cons ⟨r1,r2⟩ t,h=>by
  have c:¬kk=.inr n:=λz=>by
   rw[d8 z]at h;cases h
  rw[eI c]at h;have a:k≠n:=λz=>c (by rw[<- z];exact r1)
  unfold dR;rw[if_neg a];exact .cons ⟨r1,r2⟩ (GR.miss d b t h)
theorem GR.hit{H:Hp}{n:Str}{y:V}:∀{gs:List (Str×List Mb)}{kvs:List (Key×V)},GR H gs kvs->(kvs.map (·.2)).Nodup->fh kvs (.inr n)=some y ->
  ∃ l ys,y=.ref l/\V.ref l∈kvs.map (·.2)/\H l=some (.lst ys)/\∀(H':Hp) (m:Mb) (x:V),TK H H'->(∀ b zs,b≠l->V.ref b∈kvs.map (·.2)->H b=some (.lst zs)->H' b=some (.lst zs))->H' l=some (.lst (ys++[x]))->MbAt H' m x->GR H' (dR gs n m) kvs
 | _,_,.nil,_,h=>by cases h
 | (k,ms)::gs,(kk,y0)::kvs,.cons ⟨r1,l0,ys0,r2,r3,r4⟩ t,nd,h=>by
  rw[map_cons,nodup_cons]at nd;have a:y0=V.ref l0:=r2
  by_cases hk:kk=.inr n
  .rw[d8 hk]at h
   have e:y0=y:=Option.some.inj h
   have j:k=n:=by
    have:(Sum.inr k:Key)=.inr n:=by rw[<- hk];exact r1.symm
    exact Sum.inr.inj this
   refine⟨l0,ys0,by rw[<- e];exact a,by rw[<- a];exact mem_cons_self,r3,λH' m x c d p f=>?_⟩;unfold dR;rw[if_pos j];refine .cons ⟨r1,l0,_,r2,p,CrAt.snoc f (r4.tk c)⟩ (GR.move c (λb zs g A=>d b zs (λz=>?_) (mem_cons_of_mem _ g) A) t);rw[z,<- a]at g;exact nd.1 g
  .rw[eI hk]at h
   obtain⟨l,ys,u,q,r,v⟩:=GR.hit t nd.2 h;have i:k≠n:=λz=>hk (by rw[<- z];exact r1)
   refine⟨l,ys,u,mem_cons_of_mem _ q,r,λH' m x c d p f=>?_⟩;have o:l0≠l:=λz=>nd.1 (by rw[a,z];exact q)
   unfold dR;rw[if_neg i];exact .cons ⟨r1,l0,ys0,r2,d l0 ys0 o (by rw[<- a];exact mem_cons_self) r3,r4.tk c⟩ (v H' m x c (λb zs s w=>d b zs s (mem_cons_of_mem _ w)) p f)
theorem GR.has{H:Hp}{b:Addr}:∀{gs:List (Str×List Mb)}{kvs:List (Key×V)},GR H gs kvs->V.ref b∈kvs.map (·.2)->∃ ys,H b=some (.lst ys)
 | _,_,.nil,h=>by cases h
 | _,_,.cons ⟨_,l,ys,r2,r3,_⟩ t,h=>by
  rw[map_cons,mem_cons]at h
  rcases h with h | h
  .rw[r2]at h
   cases h;exact⟨ys,r3⟩
  .exact GR.has t h
structure GT(H0 H:Hp)(r:Addr)(gs:List (Str×List Mb))(as:List Addr)(kvs:List (Key×V)):Prop where
 top:H r=some (.lst (as.map V.ref))
 new:H0 r=none
 len:as.length=kvs.length
 row:∀(j:Nat) (b:Addr) (k:Key) (y:V),as[j]? = some b->kvs[j]? = some (k,y)->H b=some (.tup [kV k,y])
 gr:GR H gs kvs
 nd:(kvs.map (·.2)).Nodup
 fresh:∀ l,V.ref l∈kvs.map (·.2)->H0 l=none/\l≠r
inductive spGroups(vs:List V)(H:Hp)(Q:VK)(_E:XK):Prop
 | mk(l:Addr)(ms:List Mb)(xs:List V)(h0:vs=[.ref l])(h1:H l=some (.lst xs))(h2:CrAt H ms xs)(h3:xs.length<=24)(h4:(∀ m∈ms,m.2.2≠[]/\m.2.2.length<=3))(h5:∀ H' r as kvs,Same H H'->GT H H' r (groups ms) as kvs->Q (.ref r) H'):spGroups vs H Q _E
inductive spParted(vs:List V)(H:Hp)(Q:VK)(_E:XK):Prop
 | mk(l:Addr)(ms:List Mb)(xs:List V)(h0:vs=[.ref l])(h1:H l=some (.lst xs))(h2:CrAt H ms xs)(h3:xs.length<=24)(h4:(∀ m∈ms,m.2.2≠[]/\m.2.2.length<=3))(h5:∀ H' r ys,Same H H'->H' r=some (.lst ys)->Paired (CrL H') (parts ms) ys->Q (.ref r) H'):spParted vs H Q _E
inductive spOuter(vs:List V)(H:Hp)(Q:VK)(_E:XK):Prop
 | mk(v:V)(gs:List (List Mb))(h0:vs=[v])(h1:GsL H v gs)(h2:gs.length<=24)(h3:(∀ c∈gs,c.length<=24))(h4:∀ H' r ys,Same H H'->H r=none->H' r=some (.lst ys)->CrAt H' (outer gs) ys->Q (.ref r) H'):spOuter vs H Q _E
theorem m7{n:Str}{m:Mb}:∀(gs:List (Str×List Mb)),(dR gs n m).length<=gs.length+1
 | []=>Nat.le_refl _
 | (k,l)::r=>by
  unfold dR
  by_cases c:k=n
  .rw[if_pos c];exact Nat.le_succ _
  .rw[if_neg c,length_cons,length_cons]
   exact Nat.succ_le_succ (m7 r)
theorem kx(b:List Mb):(parts b).length<=b.length:=by
 have c:∀(b:List Mb) (a:List (Str×List Mb)),(b.foldl (λa m=>dR a (hd m) (tl m)) a).length<=a.length+b.length:=by
  intro b
  induction b with
  | nil=>intro a;exact Nat.le_refl _
  | cons m r ih =>
   intro a;rw[foldl_cons,length_cons];have:=ih (dR a (hd m) (tl m));have:=m7 (n:=hd m) (m:=tl m) a;lia
 unfold parts groups;rw[length_map];have:=c b [];rw[length_nil]at this;lia
section
variable {P:Program}{w:World}{K:Frag}{mg:Str->Option Value}{base:Heap}{a:Ad}
theorem qJ(T:Txt K mg a):FnOk P w K mg base CX0 1 a.f_W a.d_W ["crowd"] spGroups:=by
 refine T.F_W.ok sc_W (λvs H Q E h=>?_) (λcdv A outer s H vs Q E hr h=>?_)
 .obtain⟨l,ms,xs,rfl,_⟩:=h;rfl
 .obtain⟨l,ms,xs,rfl,hl,hm,hz,hn,q⟩:=h
  refine⟨_,(ai (aF (i:=1) sc_W.nd rfl (Or.inl rfl) rE) (ai (dU PassesOwn.never rfl (bJ (vr 0)) (dN rfl (az (aw (i:=2) sc_W.nd rfl (Or.inl rfl)) (az (aw (i:=3) sc_W.nd rfl (Or.inl rfl)) (az (aw (i:=4) sc_W.nd rfl (Or.inl rfl)) bi)))) (ai (aR (d9 (fq (vr 4) (λ_=>rfl))) (aj gx) aH) (aj (db (pe_m.append (pe_m.setdefault (vr 1) (aa (aB ax (vr 4) ag (λ_ _=>rfl)) (aa (cC ae) ae))) (aa (aT (aa (vr 2) (aa (vr 3) (aa (d6 gg (vr 4) (d0 ag) eK) ae)))) ae)))))) (aj (ay (cY (oB rfl) rfl T.z_list gB (aa (pe_m.items (vr 1)) ae)))))),gM ?_⟩;intro b2 b5;intro g hg;have s0:Same H (upd H g (.dK [])):=Same.new hg;have b0:sizeLine=16777216:=sizeLine_eq
  .refine .inl ⟨⟨xs,SqL.of (s0 _ _ hl)⟩,fw (K:=K) (a:=l) (xs:=xs) (λi σ F=>∃(c:List (Key×V)) (x2 x3 x4:Option V),σ=[some (.ref l),some (.ref g),x2,x3,x4]/\Same H F/\F g=some (.dK c)/\GR F (groups (ms.take i)) c /\
    (c.map (·.2)).Nodup/\(∀ b,V.ref b∈c.map (·.2)->H b=none/\b≠g)/\c.length<=i/\∀ b M,V.ref b∈c.map (·.2)->F b=some (.lst M)->M.length<=i)
    ⟨[],none,none,none,rfl,s0,ac,.nil,nodup_nil,(λb hb=>by cases hb),Nat.le_refl _,λb M hb=>by cases hb⟩ (λi σ F _ h=>by obtain⟨_,_,_,_,_,s1,_⟩:=h;exact SqL.of (s1 _ _ hl)) ?_ ?_⟩
   .rintro i x σ F hx ⟨c,x2,x3,x4,rfl,S,p,Y,nd,fr,kl,yl⟩
    obtain⟨m,a2,ad,pp,rfl,ha,hp⟩:=hm.get hx;have b3:i<xs.length:=(List.getElem?_eq_some_iff.mp hx).1;obtain⟨a',b4⟩:=hn m (List.mem_of_getElem? a2)
    have et:groups (ms.take (i+1))=dR (groups (ms.take i)) (hd m) (tl m):=by
     rw[take_add_one,a2];exact gz _ _
    obtain⟨mp,mz,ah⟩:=m;cases ah with
    | nil=>exact absurd rfl a'
    | cons n0 ps =>
     refine⟨ad,_,rfl,SqT.of (S _ _ ha),rfl,_,_,rfl,_,_,rfl,_,_,rfl,rfl,?_⟩;refine⟨_,.inr (.inl ⟨_,SqT.of (S _ _ hp),rfl⟩),?_⟩;refine⟨.inr (.inr (.inl ⟨rfl,.inl ⟨_,p⟩⟩)),?_⟩;refine .inr (.inl ⟨pp,_,_,.str n0,rfl,rfl,SqT.of (S _ _ hp),bK 0 rfl rfl,?_⟩);refine⟨Nat.zero_le _,λf u=>?_⟩;have R:Same F (upd F f (.lst [])):=Same.new u;have a4:dQ ((n0::ps).map V.str) (some ((1:Nat):Int)) none=ps.map V.str:=by rw[fA];rfl
     have nw:¬(HT.sIx ((n0::ps).map V.str).length 0 (some 1)=0/\HT.sIx ((n0::ps).map V.str).length ((n0::ps).map V.str).length none=((n0::ps).map V.str).length):=λz=>by
      have z1:=z.1;rw[show(some (1:Int))=some ((1:Nat):Int) from rfl,HT.sIx_nat,length_map,length_cons]at z1;lia
     have an:H f=none:=S.free u;have al:f≠g:=(ar p u).symm;refine⟨g,c,.inr n0,.ref f,rfl,rfl,R _ _ p,by lia,λy hy=>?_,λhno=>?_⟩
     .obtain⟨ly,M,rfl,ab,J,bd⟩:=GR.hit Y nd hy
      refine⟨.inl ⟨rfl,_,SqL.of (R _ _ J)⟩,?_⟩;refine⟨_,rfl,?_⟩;refine .inr ⟨_,SqT.of (R _ _ (S _ _ hp)),nw,λG I=>?_⟩;have s1:=R.trans (Same.new (o:=.tup (dQ ((n0::ps).map V.str) (some 1) none)) I);refine⟨(by decide:3<=sizeLine),λB d=>?_⟩;have D:=s1.trans (Same.new (o:=.tup [.int mp,.int mz,.ref G]) d);have yb:=yl ly M ab J;refine⟨ly,M,.ref B,rfl,rfl,D _ _ J,by lia,?_⟩;obtain⟨b1,a5⟩:=fr ly ab;have l3:=D _ _ J;have na:B≠ly:=λz=>by rw[z,s1 _ _ J]at d;cases d
      have np:G≠ly:=λz=>by rw[z,R _ _ J]at I;cases I
      have N:G≠B:=λz=>by rw[<- z,ac]at d;cases d
      refine⟨c,_,_,_,rfl,(S.trans D).put b1,by rw[au a5.symm];exact D _ _ p,?_,nd,fr,by lia,λb zs hb C=>?_⟩
      .rw[et]
       refine bd _ _ (.ref B) (D.tk.trans (TK.lst l3)) (λb zs hb _ e=>by rw[au hb];exact D _ _ e) ac ⟨B,G,rfl,?_,?_⟩
       .rw[au na,ac];rfl
       .rw[au np,au N,ac,show(some (1:Int))=some ((1:Nat):Int) from rfl,a4];rfl
      .by_cases hbl:b=ly
       .rw[hbl,ac]at C
        cases C;rw[length_append];exact Nat.succ_le_succ yb
       .rw[au hbl]at C
        obtain⟨a3,O⟩:=GR.has Y hb;have:=D _ _ O;rw[C]at this;cases this;exact Nat.le_succ_of_le (yl b _ hb O)
     .have L:(upd (upd F f (.lst [])) g (.dK (c++[(.inr n0,.ref f)]))) f=some (.lst []):=by rw[au al,ac]
      generalize hH2:upd (upd F f (.lst [])) g (.dK (c++[(.inr n0,.ref f)]))=Z at L ⊢;have X:∀ b o,b≠g->b≠f->F b=some o->Z b=some o:=λb o h1 h2 e=>by rw[<- hH2,au h1,au h2];exact e
      have bt:Z pp=some (.tup ((n0::ps).map V.str)):=by
       have e1:=S _ _ hp;exact X _ _ (pq e1 p (λz=>nomatch z)) (ar e1 u) e1
      have a6:Z g=some (.dK (c++[(.inr n0,.ref f)])):=by rw[<- hH2];exact ac
      refine⟨.inl ⟨rfl,_,SqL.of L⟩,?_⟩;refine⟨_,rfl,?_⟩;refine .inr ⟨_,SqT.of bt,nw,λG I=>?_⟩;have s1:=Same.new (o:=.tup (dQ ((n0::ps).map V.str) (some 1) none)) I;refine⟨(by decide:3<=sizeLine),λB d=>?_⟩;have D:=s1.trans (Same.new (o:=.tup [.int mp,.int mz,.ref G]) d);refine⟨f,[],.ref B,rfl,rfl,D _ _ L,by rw[length_nil];lia,?_⟩;have l3:=D _ _ L;have na:B≠f:=λz=>by rw[z,s1 _ _ L]at d;cases d
      have np:G≠f:=λz=>by rw[z,L]at I;cases I
      have N:G≠B:=λz=>by rw[<- z,ac]at d;cases d
      have W:V.ref f ∉ c.map (·.2):=λz=>by
       obtain⟨M,e⟩:=GR.has Y z;rw[u]at e;cases e
      have a8:Same H Z:=λb o e=>by
       have e1:=S _ _ e;exact X b o (ar e hg) (ar e1 u) e1
      have mv:∀ b M,V.ref b∈c.map (·.2)->F b=some (.lst M)->(upd (upd (upd Z G (.tup (dQ ((n0::ps).map V.str) (some 1) none))) B (.tup [.int mp,.int mz,.ref G])) f (.lst ([]++[.ref B]))) b=some (.lst M):=λb M hb e=>by
       have ap:b≠f:=λz=>W (z ▸ hb)
       rw[au ap];exact D _ _ (X b _ (fr b hb).2 ap e)
      have bo:TK F (upd (upd (upd Z G (.tup (dQ ((n0::ps).map V.str) (some 1) none))) B (.tup [.int mp,.int mz,.ref G])) f (.lst ([]++[.ref B]))):=λb zs e=>by
       rw[au (ar e u)];exact D _ _ (X b _ (pq e p (λz=>nomatch z)) (ar e u) e)
      have bm:MbAt (upd (upd (upd Z G (.tup (dQ ((n0::ps).map V.str) (some 1) none))) B (.tup [.int mp,.int mz,.ref G])) f (.lst ([]++[.ref B]))) (tl ⟨mp,mz,n0::ps⟩) (.ref B):=by
       refine⟨B,G,rfl,?_,?_⟩
       .rw[au na,ac];rfl
       .rw[au np,au N,ac,show(some (1:Int))=some ((1:Nat):Int) from rfl,a4];rfl
      refine⟨c++[(.inr n0,.ref f)],_,_,_,rfl,(a8.trans D).put an,by rw[au al.symm];exact D _ _ a6,?_,?_,λb hb=>?_,by rw[length_append];exact Nat.succ_le_succ kl,λb zs hb C=>?_⟩
      .rw[et]
       exact GR.miss ac bm (GR.move bo mv Y) hno
      .rw[map_append,nodup_append]
       refine⟨nd,by simp,λx a7 y a9=>?_⟩;have:y=V.ref f:=by simpa using a9
       rw[this];intro z;exact W (z ▸ a7)
      .rw[map_append,mem_append]at hb
       rcases hb with hb | hb
       .exact fr b hb
       .have:b=f:=by simpa using hb
        rw[this];exact⟨an,al⟩
      .rw[map_append,mem_append]at hb
       rcases hb with hb | hb
       .obtain⟨a3,O⟩:=GR.has Y hb
        have:=mv b a3 hb O;rw[C]at this;cases this;exact Nat.le_succ_of_le (yl b _ hb O)
       .have:b=f:=by simpa using hb
        rw[this,ac]at C;cases C;exact Nat.succ_le_succ (Nat.zero_le _)
   .rintro σ F ⟨c,x2,x3,x4,rfl,S,p,Y,nd,fr,kl,yl⟩
    refine⟨.inr (.inr (.inl ⟨rfl,.inl ⟨_,p⟩⟩)),?_⟩;refine⟨g,c,rfl,rfl,p,λv hv=>?_⟩;have sv:Same F (upd F v (.ext (IV v g))):=Same.new hv;refine⟨v,g,c,rfl,ac,sv _ _ p,λr as Z D hr bl aS a0=>?_⟩;have sT:=sv.trans D;refine q Z r as c (S.trans sT) ⟨bl,S.free (sv.free hr),aS,λj b k y h1 h2=>(a0 j b k y h1 h2).2,?_,nd,λb hb=>⟨(fr b hb).1,λz=>?_⟩⟩
    .have el:ms.take xs.length=ms:=take_of_length_le (by rw[PySem.Paired.length hm];exact Nat.le_refl _)
     rw[el]at Y;exact GR.move sT.tk (λb M _ e=>sT _ _ e) Y
    .obtain⟨M,e⟩:=GR.has Y hb
     rw[z]at e;have:=sv _ _ e;rw[hr]at this;cases this
theorem gG(T:Txt K mg a):FnOk P w K mg base CX0 2 a.f_ab a.d_ab ["crowd"] spParted:=by
 have W:FnOk P w K mg base CX0 1 _ _ _ spGroups:=qJ T;refine T.F_ab.ok qg (λvs H Q E h=>?_) (λcdv A outer s H vs Q E hr h=>?_)
 .obtain⟨l,x,xs,rfl,_⟩:=h;rfl
 .obtain⟨l,x,xs,rfl,hl,hm,hz,hn,q⟩:=h
  have M:sizeLine=16777216:=sizeLine_eq;refine⟨_,(aj (ay (bj rfl (N:=["name","members"]) (ix:=[none,none]) ⟨rfl,rfl,rfl,rfl,trivial⟩ (bJ (av W hr rfl T.m_W T.F_W.kp T.B_W .nil ao (aa (vr 0) ae))) ⟨λC s H fp=>(cN (K:=K) (n:=2) rfl rfl (az (aw (i:=0) (show List.Nodup (["name","members"]:List Str) by decide +kernel) rfl (Or.inl rfl)) (az (aw (i:=1) (show List.Nodup (["name","members"]:List Str) by decide +kernel) rfl (Or.inl rfl)) bi))),λC s H fp=>bC,λC s H fp=>(vr 1)⟩))),?_⟩;refine⟨l,x,xs,rfl,hl,hm,hz,hn,λZ r B c s1 gt=>?_⟩;obtain⟨u,ab,p,I,X,nd,F⟩:=gt;refine .inl ⟨⟨_,SqL.of u⟩,λD Y=>?_⟩;have L:(parts x).length=c.length:=by unfold parts;rw[length_map];exact Paired.length X
  have hk:c.length<=24:=by
   rw[<- L];have:=kx x;have:=Paired.length hm;lia
  let Pw1:PvL:=λi z f=>Same Z f/\f D=some (.lst z)/\i<=c.length/\z=(c.take i).map (·.2)
  refine aO (K:=K) (a:=r) (xs:=B.map V.ref) Pw1 ⟨Same.new Y,ac,Nat.zero_le _,rfl⟩ (λi G f h=>SqL.of (h.1 _ _ u)) (λi G f h=>h.2.1) ?_ ?_
  .rintro i y z f P' j ⟨g,d,hi,rfl⟩ S
   rw[List.getElem?_map]at j
   obtain⟨b,hb,rfl⟩:∃ b,B[i]? = some b/\V.ref b=y:=by
    cases e:B[i]? with
    | none=>rw[e]at j;cases j
    | some b=>rw[e]at j;cases j;exact⟨b,rfl,rfl⟩
   have m:i<c.length:=by rw[<- p];exact(List.getElem?_eq_some_iff.mp hb).1
   have J:c[i]? = some c[i]:=List.getElem?_eq_getElem m;generalize c[i]=kv at J;obtain⟨k,v⟩:=kv;have o:=I i b k v hb J;refine⟨b,_,rfl,SqT.of (g _ _ o),rfl,_,_,rfl,_,_,rfl,rfl,trivial,d,by rw[length_map,length_take];lia,S _ _ ⟨g.put Y,ac,m,?_⟩⟩;rw[take_add_one,J];simp
  .rintro z f ⟨g,d,_,rfl⟩
   rw[length_map,p,take_length]at d;refine q _ D _ (s1.trans g) d ?_;unfold parts
   have R:∀{O:List (Str×List Mb)}{c:List (Key×V)},GR Z O c->Paired (CrL f) (O.map (·.2)) (c.map (·.2)):=by
    intro O c h
    induction h with
    | nil=>exact .nil
    | cons r _ ih =>
     obtain⟨_,l,G,r2,r3,r4⟩:=r;exact .cons ⟨l,G,r2,g _ _ r3,r4.tk g.tk⟩ ih
   exact R X
theorem mQ(T:Txt K mg a):FnOk P w K mg base CX0 1 a.f_d a.d_d ["groups"] spOuter:=by
 refine T.F_d.ok gY (λvs H Q E h=>?_) (λcdv A outer s H vs Q E hr h=>?_)
 .obtain⟨v,M,rfl,_⟩:=h;rfl
 .obtain⟨v,M,rfl,⟨l,xs,rfl,hl,hg⟩,as,ah,q⟩:=h
  have ad:sizeLine=16777216:=sizeLine_eq;refine⟨_,(aj (ay (bj rfl (N:=["number","members"]) (ix:=[none,none]) ⟨rfl,rfl,rfl,rfl,trivial⟩ (eR rfl T.z_enumerate (aa (vr 0) ae)) ⟨λC s H S=>(cN (K:=K) (n:=2) rfl rfl (az (aw (i:=0) (show List.Nodup (["number","members"]:List Str) by decide +kernel) rfl (Or.inl rfl)) (az (aw (i:=1) (show List.Nodup (["number","members"]:List Str) by decide +kernel) rfl (Or.inl rfl)) bi))),λC s H S=>bC,λC s H S=>(aT (aa (vr 0) (aa (aG (jK (K:=K) rfl rfl) rfl T.z_sum eX (aa (bj rfl (N:=["member"]) (ix:=[none]) ⟨rfl,rfl,rfl,rfl,trivial⟩ (pA (K:=K) rfl (vr 1)) ⟨λC s H S=>aw (i:=0) (show List.Nodup (["member"]:List Str) by decide +kernel) rfl (Or.inl rfl),λC s H S=>bC,λC s H S=>(aB (cu (K:=K) rfl) (vr 0) ag (λ_ _=>rfl))⟩) ae)) (aa (aT ae) ae))))⟩))),?_⟩;have gl:M.length=xs.length:=Paired.length hg;refine⟨l,xs,rfl,hl,λD Z=>?_⟩;refine fD (a:=l) (xs:=xs) (λi e b=>i<=xs.length/\Same H b/\b D=some (.lst e)/\CrAt b ((Nst.outer M).take i) e) ⟨Nat.zero_le _,Same.new Z,ac,.nil⟩ (λi e b h=>h.2.1 _ _ hl) (λi e b h=>h.2.2.1) ?_ ?_
  .rintro i x e b p P' hx ⟨hi,X,u,L⟩ hp hP
   have Y:i<xs.length:=(List.getElem?_eq_some_iff.mp hx).1;obtain⟨c,I,lg,F,rfl,O,R⟩:=aL hg hx;have yl:e.length=i:=by rw[<- L.length,length_take,dS];lia
   have cl:=ah c (List.mem_of_getElem? I);have ab:c.length=F.length:=Paired.length R;have s2:Same b (upd b p (.tup [.int (i:Nat),.ref lg])):=Same.new hp;refine⟨p,_,rfl,SqT.of ac,rfl,_,_,rfl,_,_,rfl,rfl,trivial,?_⟩;generalize upd b p (.tup [.int (i:Nat),.ref lg])=H1 at s2;have z:=X.trans s2;refine .inl ⟨⟨_,SqL.of (z _ _ O)⟩,λD2 J=>?_⟩
   let Pw2:PvL:=λj B f=>Same H1 f/\f D2=some (.lst B)/\j<=F.length/\B=((szs c).take j).map V.int
   refine aO (K:=K) (a:=lg) (xs:=F) Pw2 ⟨Same.new J,ac,Nat.zero_le _,rfl⟩ (λj B f h=>SqL.of (h.1 _ _ (z _ _ O))) (λj B f h=>h.2.1) ?_ ?_
   .rintro j y B f P2 hy ⟨W,d,hj,rfl⟩ an
    obtain⟨m,hm,k,pt,rfl,g,ap⟩:=aL R hy;have al:j<F.length:=(List.getElem?_eq_some_iff.mp hy).1;refine⟨trivial,.inr (.inl ⟨k,_,_,_,rfl,rfl,SqT.of ((z.trans W) _ _ g),bK 1 rfl rfl,d,?_,an _ _ ⟨W.put J,ac,al,?_⟩⟩)⟩
    .rw[length_map,length_take];lia
    .have:(szs c)[j]? = some m.2.1:=by unfold szs;rw[List.getElem?_map,hm];rfl
     rw[take_add_one,this,map_append];rfl
   .rintro B f ⟨W,d,_,rfl⟩
    have es:(szs c).take F.length=szs c:=take_of_length_le (by unfold szs;rw[length_map,ab];exact Nat.le_refl _);rw[es]at d;refine⟨D2,szs c,rfl,SqL.of d,?_⟩;refine⟨Nat.zero_le _,λt ht=>?_⟩;have s4:=Same.new (o:=.tup []) ht;have e4:(upd f t (.tup [])) t=some (.tup []):=ac;generalize upd f t (.tup [])=H3 at s4 e4;refine⟨(by decide:3<=sizeLine),λk g=>?_⟩;have s5:=Same.new (o:=.tup [.int (i:Nat),.int (szs c).sum,.ref t]) g;have e5:(upd H3 k (.tup [.int (i:Nat),.int (szs c).sum,.ref t])) k=some (.tup [.int (i:Nat),.int (szs c).sum,.ref t]):=ac;generalize upd H3 k (.tup [.int (i:Nat),.int (szs c).sum,.ref t])=H4 at s5 e5;have r:=s2.trans (W.trans (s4.trans s5));have G:=r _ _ u;have tk:TK H4 (upd H4 D (.lst (e++[.ref k]))):=TK.lst G;refine⟨G,by lia,hP _ _ ⟨Y,(X.trans r).put Z,ac,?_⟩⟩
    have eo:(Nst.outer M)[i]? = some ((i:Int),(szs c).sum,[]):=by
     unfold Nst.outer;rw[List.getElem?_map,List.getElem?_zipIdx,I];simp
    rw[take_add_one,eo];exact CrAt.snoc (m:=((i:Int),(szs c).sum,[])) ⟨k,t,rfl,tk _ _ e5,tk _ _ (s5 _ _ e4)⟩ (L.tk (r.tk.trans tk))
  .rintro e b ⟨_,X,u,L⟩
   refine q _ _ _ X Z u ?_;rw[<- gl,<- dS M,take_length]at L;exact L
end
open Tb (Tr fT lT sT ba bnd d7 tot so)
def CarR(cr:V)(H0 H:Hp)(r:Int×V)(y:V):Prop:=∃ q f clos,y=.ref q/\H q=some (.tup [.int r.1,f])/\1<=r.1/\IsLamC H aZ fvC f clos [r.2,cr]/\∀ b∈clos.map (·.2),H0 b=none
theorem CarR.t{c:V}{H0 H b:Hp}(s:SameT H b)(r:Int×V)(y:V)(h:CarR c H0 H r y):CarR c H0 b r y:=by
 obtain⟨q,f,a,e,j,i,d,g⟩:=h;exact⟨q,f,a,e,s.at j,i,d.t s,g⟩
theorem IsLamC.put{H:Hp}{d:LamD}{g:List Str}{v:V}{b:List (Str×Addr)}{a:List V}{q:Addr}{i:List V}{o:HO}(e:H q=some (.lst i))(h:IsLamC H d g v b a):IsLamC (upd H q o) d g v b a:=by
 obtain⟨f,c,k,r,p,j,l,s⟩:=h;exact⟨f,c,k,ld e r (λm z=>nomatch z),ld e p (λm z=>nomatch z),j,l,iT e s⟩
theorem CarR.put{c:V}{H0 H:Hp}{D:Addr}{d:List V}{j:HO}(b:H D=some (.lst d))(r:Int×V)(y:V)(h:CarR c H0 H r y):CarR c H0 (upd H D j) r y:=by
 obtain⟨q,f,a,g,l,k,e,i⟩:=h;exact⟨q,f,a,g,ld b l (λm z=>nomatch z),k,e.put b,i⟩
def xq(a:Ad)(H0 H:Hp)(cr v:V)(rs:List (Int×V)):Prop:=∃ x dx l ys,v=.ref x/\H x=some (.ins a.c_p dx [("makes",.ref l)])/\H l=some (.lst ys)/\Paired (CarR cr H0 H) rs ys/\1<=rs.length/\rs.length<=100
theorem kX{X Y:Hp}{es:List Addr}(s:SameT X Y)(c:∀ b∈es,X b=none):SameT X (untrs Y es):=λb o e=>by
 have a:b ∉ es:=λz=>by rw[c b z]at e;cases e
 rw[aE a];exact s b o e
inductive spCMake(a:Ad)(vs:List V)(H:Hp)(Q:VK)(_E:XK):Prop
 | mk(mk cr:V)(Bd:List Addr)(h0:vs=[mk,cr])(h1:Bad H Bd)(h2:TabsOk (tabs a) H)(h3:∀ H' f clos,SameT H H'->TabsOk (tabs a) H'->IsLamC (untrs H' Bd) aZ fvC f clos [mk,cr]->(∀ b∈clos.map (·.2),H b=none)->Q f H'):spCMake a vs H Q _E
inductive spCarried(a:Ad)(vs:List V)(H:Hp)(Q:VK)(_E:XK):Prop
 | mk(v cr:V)(rs:List (Int×V))(Bd:List Addr)(h0:vs=[v,cr])(h1:IsRaw a H v rs)(h2:Bad H Bd)(h3:TabsOk (tabs a) H)(h4:∀ H' u,SameT H H'->TabsOk (tabs a) H'->xq a H (untrs H' Bd) cr u rs->Q u H'):spCarried a vs H Q _E
def xr(K:Frag)(a:Ad)(N g:Nat):List (Str×Addr)->List V->Sp:=λclos vals vs H Q _=>∃(n:Nat) (vp vg vt:V) (kt:Addr) (pl:Pl) (c:List Mb) (gs:List (List Mb)) (tk ks:List Int) (Bd:List Addr),n<=N/\vals=[vt,vp,vg]/\vs=[.ref kt]/\Bad H Bd/\(∀ b∈Bd,b ∉ clos.map (·.2))/\IsPn a H vp pl/\ht n pl/\GsL H vg (c::gs)/\TpT H vt tk/\H kt=some (.tup (ks.map V.int))/\Gok n g gs (tk.length+ks.length)/\TabsOk (tabs a) H/\Res K a (n+1) H Bd (gT (nT pl) gs (tk++ks)) Q
def v4(K:Frag)(a:Ad)(N g:Nat):List (Str×Addr)->List V->Sp:=λclos vals vs H Q _=>∃(n:Nat) (vi vg:V) (kt:Addr) (pl:Pl) (gs:List (List Mb)) (ks:List Int) (Bd:List Addr),n<=N/\5<=g/\vals=[vi,vg]/\vs=[.ref kt]/\Bad H Bd/\(∀ b∈Bd,b ∉ clos.map (·.2))/\IsPn a H vi pl/\ht n pl/\GsL H vg gs/\H kt=some (.tup (ks.map V.int))/\(Gok n 5 (sel gs ks) 0/\ks.length<=24/\∀ k∈ks,0<=k/\k<gs.length)/\TabsOk (tabs a) H/\Res K a (n+1) H Bd (gT (nT pl) (sel gs ks) []) Q
inductive spBe(K:Frag)(a:Ad)(N g:Nat)(vs:List V)(H:Hp)(Q:VK)(_E:XK):Prop
 | mk(n:Nat)(v go:V)(t:Tr)(gf:List Int->Tr)(ok:List Int->Prop)(Bd:List Addr)(h0:n<=N)(h1:vs=[v,go])(h2:Bad H Bd)(h3:IsNd K a n (untrs H Bd) v t)(h4:IsGo a n g (untrs H Bd) go gf ok)(h5:(∀ ks,Lf t ks->ok (so ks)))(h6:TabsOk (tabs a) H)(h7:Res K a (n+1) H Bd (bnd t gf) Q):spBe K a N g vs H Q _E
theorem IsGo.up{a:Ad}{n g g':Nat}{H:Hp}{p:V}{o:List Int->Tr}{m:List Int->Prop}(v:g<=g')(h:IsGo a n g H p o m):∃ ok',IsGo a n g' H p o ok'/\∀ ks,m ks->ok' ks:=by
 rcases h with⟨r,l,w,b,i,c,f,q,e,k,d,j,u,rfl,rfl⟩ | ⟨s,l,b,i,f,x,e,k,d,j,rfl,rfl⟩
 .exact⟨_,.inl ⟨r,l,w,b,i,c,f,q,e,k,d,j,u,rfl,rfl⟩,λks h=>h.up v⟩
 .exact⟨_,.inr ⟨s,l,b,i,f,by lia,e,k,d,j,rfl,rfl⟩,λks h=>h⟩
section
variable {P:Program}{w:World}{K:Frag}{mg:Str->Option Value}{base:Heap}{a:Ad}
theorem sL(T:Txt K mg a)(o:Bm mg base):FnOk P w K mg base CX0 1 a.f_j a.d_j ["make","carry"] (spCMake a):=by
 refine T.F_j.okF T.lcd_j jl (by decide +kernel) (λu H Q E h=>?_) (λA outer s H u Q E hr h=>?_)
 .obtain⟨r,v,x,rfl,_⟩:=h;rfl
 .obtain⟨r,v,x,rfl,g,p,q⟩:=h
  refine⟨_,(jZ (eY (d:=aZ) rfl T.lch_j o rfl (by with_unfolding_all rfl) rfl (jh a) (.head _) T.tnd jk)),?_⟩;refine⟨p,λy z m i f B c e=>λH3 s3 hc hn=>?_⟩;have k:=hn "make" _ (by with_unfolding_all rfl);have l:=hn "carry" _ (by with_unfolding_all rfl);have j:∀{es:List (Str×Addr)},(∀ b∈es.map (·.2),m b=none)->∀ b∈es.map (·.2),H b=none:=λh b hb=>i.free (h b hb)
  refine q _ _ _ (i.trans s3.t) (f.same s3) (ik (g.t i) s3 (s3 _ _ c) (s3 _ _ e) rfl (by simp) (.cons (hc 0 _ _ _ rfl rfl (by with_unfolding_all rfl)) (.cons (hc 1 _ _ _ rfl rfl (by with_unfolding_all rfl)) .nil)) λb hb=>?_) (j λb hb=>?_)
  .rcases mem_cons.mp hb with rfl | hb;exact k
   rw[mem_singleton.mp hb];exact l
  .rcases mem_cons.mp hb with rfl | hb;exact k
   rw[mem_singleton.mp hb];exact l
theorem oA(T:Txt K mg a)(hB:Bm mg base):FnOk P w K mg base CX0 3 a.x_P a.y_P ["self","carry"] (spCarried a):=by
 have a3:FnOk P w K mg base CX0 1 _ _ _ (spDieI a):=lI T;have ad:FnOk P w K mg base CX0 2 _ _ _ _:=(sL T hB).mono (by decide);refine T.F_P.ok j6 (λvs H Q E h=>?_) (λcdv A outer s H vs Q E hr h=>?_)
 .obtain⟨v,cr,L,X,rfl,_⟩:=h;rfl
 .obtain⟨v,cr,L,X,rfl,⟨x,dx,l,F,rfl,hx,hl,hP,a2,as⟩,g,hT,q⟩:=h
  have a1:sizeLine=16777216:=sizeLine_eq;refine⟨_,(aj (ay (bP T.mk_p a3 hr rfl T.mc_p T.Bi_p .nil ao (aa (bj rfl (N:=["many","make","carry"]) (ix:=[none,none,some 1]) ⟨rfl,rfl,rfl,rfl,⟨rfl,rfl,rfl,trivial⟩⟩ (bJ (bV (vr 0) rfl)) ⟨λC s H fp=>(cN (K:=K) (n:=2) rfl rfl (az (aw (i:=0) (show List.Nodup (["many","make","carry"]:List Str) by decide +kernel) rfl (Or.inl rfl)) (az (aw (i:=1) (show List.Nodup (["many","make","carry"]:List Str) by decide +kernel) rfl (Or.inl rfl)) bi))),λC s H fp=>bC,λC s H fp=>(aT (aa (vr 0) (aa (av ad hr rfl T.m_j T.F_j.kp T.B_j .nil ao (aa (vr 1) (aa (vr 2) ae))) ae)))⟩) ae)))),?_⟩;refine⟨x,_,dx,_,_,rfl,hx,T.cl_p,T.na_Die_makes,rfl,.inl ⟨⟨_,SqL.of hl⟩,λD hD=>?_⟩⟩;have nD:D ∉ X:=λz=>by obtain⟨v9,e9⟩:=g D z;rw[hD]at e9;cases e9
  have ext:∀{c:Hp},TabsOk (tabs a) c->∀{F:List V}{S:List V},c D=some (.lst F)->TabsOk (tabs a) (upd c D (.lst S)):=λaS F S e=>aS.put (λps z=>by rw[e]at z;cases z) λφ z=>by rw[e]at z;cases z
  let Pw1:PvL:=λi u c=>SameT H c/\TabsOk (tabs a) c/\c D=some (.lst u)/\i<=L.length/\Paired (CarR cr H (untrs c X)) (L.take i) u
  refine aO (K:=K) (a:=l) (xs:=F) Pw1
   ⟨(Same.new hD).t,hT.same (Same.new hD),ac,Nat.zero_le _,.nil⟩ (λi F c h=>SqL.of (h.1.at hl)) (λi F c h=>h.2.2.1) ?_ ?_
  .rintro i y u c P' hy ⟨B,I,J,hi,W⟩ a4
   obtain⟨⟨p,f⟩,R,q1,rfl,an,m0⟩:=aL hP hy;have ah:i<L.length:=(List.getElem?_eq_some_iff.mp R).1;refine⟨q1,_,rfl,SqT.of (B.at an),rfl,_,_,rfl,_,_,rfl,rfl,⟨rfl,trivial⟩,?_⟩;refine⟨f,cr,X,rfl,g.t B,I,λH2 f2 Y t2 al hf ab=>?_⟩;have ap:=t2.at J;refine⟨by show 2<=sizeLine;decide,λq2 M=>?_⟩;have O:=Same.new (o:=.tup [.int p,f2]) M;have G:=O _ _ ap;have yl:u.length<=5000:=by rw[<- W.length,length_take];lia
   have a0:=(B.trans t2).trans O.t;have cD:untrs (upd H2 q2 (.tup [.int p,f2])) X D=some (.lst u):=by rw[aE nD];exact G
   refine⟨G,by lia,a4 _ _ ⟨a0.put hD,ext (al.same O) G,ac,ah,?_⟩⟩;rw[dg nD];exact mI (aA (λr y h=>CarR.put cD _ _ (CarR.t (bg (t2.trans O.t)) _ _ h)) W) R (CarR.put cD _ _ ⟨q2,f2,Y,rfl,gE (g.t (B.trans t2)) M ac,m0,hf.t (bg O.t),λb hb=>B.free (ab b hb)⟩)
  .rintro u c ⟨B,I,J,hi,W⟩
   rw[show F.length=L.length from hP.length.symm,take_length]at W;intro x2 d Z j a5;have s9:Same c (upd (upd c d (.own x2)) x2 (.ins a.c_p d [])):=λb o e=>by rw[au (ar e Z),au (ar e j)];exact e
   refine⟨x2,d,D,u,rfl,ac,s9 _ _ J,λH2 l2 fl k g1 g2=>⟨rfl,?_⟩⟩;have s2:=made Z j k;have m:=g.t (B.trans s2.t);exact q _ _ (B.trans s2.t) (I.same s2) ⟨x2,d,l2,u,rfl,ck m g1 (λ_ z=>nomatch z),ck m g2 (λ_ z=>nomatch z),aA (CarR.t (bg s2.t)) W,a2,as⟩
theorem mX(T:Txt K mg a)(hB:Bm mg base)(N g:Nat)(hg:g<=5){k:Nat}(hk:5<=k)(ah:LamOkC P w K mg base k ci fvG ["kept"] (xr K a N g))(ab:LamOkC P w K mg base k cm fvF ["kept"] (v4 K a N g)):FnOk P w K mg base CX0 (k+1) a.f_u a.d_u ["node","go"] (spBe K a N g):=by
 have bl:FnOk P w K mg base CX0 k _ _ _ (spV (.bl true)):=(tD T).mono (by lia);have b1:FnOk P w K mg base CX0 k _ _ _ (spV (.bl false)):=(rL T).mono (by lia);have ap:FnOk P w K mg base CX0 k _ _ _ (ua a):=(sj T).mono (by lia);have a0:FnOk P w K mg base CX0 k _ _ _ (spV .non):=(sW T).mono (by lia);have bt:FnOk P w K mg base CX0 k _ _ _ (spCarried a):=(oA T hB).mono (by lia);refine T.F_u.okF T.lcd_u qf (by decide +kernel) (λvs H Q E h=>?_) (λA outer s H vs Q E hr h=>?_)
 .obtain⟨n,v,go,t,gf,ok,j,hn,rfl,_⟩:=h;rfl
 .obtain⟨n,v,go,t,gf,ok,j,hn,rfl,B,a3,as,a2,hT,q⟩:=h
  refine⟨_,(dG (aR (gU (PE.or (bB (vr 0) T.cl_i T.mt_v bl hr T.B_v .nil ao) (bB (vr 0) T.cl_p T.mt_z b1 hr T.B_z .nil ao))) (aj (ay (PE.or (iH (vr 1) ah hr (aa (PE.or (bB (vr 0) T.cl_i T.mt_K ap hr T.B_K .nil ao) (bB (vr 0) T.cl_p T.mt_O a0 hr T.B_O .nil ao)) ae)) (iH (vr 1) ab hr (aa (PE.or (bB (vr 0) T.cl_i T.mt_K ap hr T.B_K .nil ao) (bB (vr 0) T.cl_p T.mt_O a0 hr T.B_O .nil ao)) ae))))) aH) (jZ (aJ (vr 0) T.cl_p T.mt_P bt hr T.B_P .nil ao (aa (eY (d:=ld_behind_1) rfl T.lch_u hB rfl (by with_unfolding_all rfl) rfl (qp a) (.head _) T.tnd qk) ae)))),?_⟩;cases t with
  | leaf ns =>
   obtain⟨x,G,kt,a7,rfl,C,F,hs⟩:=a3;have C:=(aC C).2;have F:=(aC F).2;have en:a7=Tb.so ns:=Tb.so_uniq hs.1 hs.2;subst en;have a1:=a2 _ (.leaf ns);rw[Tb.bnd]at q;refine .inl ⟨x,G,_,rfl,C,rfl,_,rfl,?_⟩
   rcases as with⟨vp,vg,vt,cl,pl,c,gs,tk,⟨f,D,rfl,m,M,Y,k5,S⟩,W,h3,h4,h5,rfl,rfl⟩ | ⟨vi,vg,cl,pl,gs,h0,⟨f,D,rfl,m,M,Y,k5,S⟩,W,h3,h4,rfl,rfl⟩
   .have m:=(aC m).2
    have M:=(aC M).2;exact .inl ⟨⟨f,_,_,D,rfl,m⟩,.inl ⟨x,G,_,rfl,C,rfl,x,G,kt,rfl,C,λ_ _ _ _ _ e=>e,f,D,cl,_,rfl,m,M,Y,k5,dH cuts_sub S,n,vp,vg,vt,kt,pl,c,gs,tk,so ns,j,hn,rfl,rfl,B,dL S,W.n nc_cut,h3,h4.n nc_cut,h5.n nc_cut,F,a1,hT,q⟩⟩
   .have m:=(aC m).2
    have M:=(aC M).2;exact .inr ⟨⟨f,_,_,D,rfl,m⟩,.inl ⟨x,G,_,rfl,C,rfl,x,G,kt,rfl,C,λ_ _ _ _ _ e=>e,f,D,cl,_,rfl,m,M,Y,k5,dH cuts_sub S,n,vi,vg,kt,pl,gs,so ns,j,hn,h0,rfl,rfl,B,dL S,W.n nc_cut,h3,h4.n nc_cut,F,a1,hT,q⟩⟩
  | die ps =>
   obtain⟨O,a9,R⟩:=lE a3;have I:IsRaw a H v O:=a9.t cuts_sub;obtain⟨x,G,l,ys,rfl,C,hl,hP,b',b9⟩:=id I;rw[Tb.bnd,Tb.bnds_map]at q;refine .inr ⟨x,G,_,rfl,C,rfl,_,rfl,?_⟩;refine⟨x,G,_,rfl,C,rfl,hT,λZ D H2 X bd n1 b0 bo=>?_⟩;refine⟨_,_,O,j,rfl,I.t X,B.t X,bd,λH3 u t3 a6 hu=>λH4 s4 hc hfr=>?_⟩;have t4:=X.trans (t3.trans s4.t);have al:=(B.t X).t t3;have L:=B.t t4;have nG:=hfr "go" _ (by with_unfolding_all rfl);have cG:=hc 1 _ _ _ rfl rfl (by with_unfolding_all rfl);obtain⟨a',an,b2⟩:=as.up hg
   obtain⟨clos2,ef4,ec4,z1,z2,ca2,n2⟩:∃ clos2,H4 Z=some (.ext (fZ Z ld_behind_1 clos2 D))/\H4 D=some (.ext (eE D ld_behind_1.qual))/\clos2.map (·.1)=fvH/\(clos2.map (·.2)).Nodup/\CellsAt H4 clos2 [go]/\∀ b∈clos2.map (·.2),H3 b=none:=⟨_,s4 _ _ (t3.at b0),s4 _ _ (t3.at bo),rfl,by simp,.cons cG .nil,λb y=>by rw[mem_singleton.mp y];exact nG⟩
   obtain⟨x2,b5,l2,a8,rfl,g1,g2,g3,g4,g5⟩:=hu;refine q _ _ t4 (a6.same s4) ⟨x2,b5,l2,a8,rfl,(bg s4.t).at g1,(bg s4.t).at g2,?_,by rw[length_map,R.length];exact g4,by rw[length_map,R.length];exact g5⟩
   have b3:∀{o:List (Int×Tr)}{O:List (Int×V)}{ys:List V},(∀ p∈o,p∈ps)->Paired (PrR K a n (untrs H j)) o O->Paired (CarR (.ref Z) H2 (untrs H3 j)) O ys->Paired (NdR K a (n+1) (untrs H4 j)) (o.map λp=>(p.1,bnd p.2 gf)) ys:=by
    intro o O ys J h1
    induction h1 generalizing ys with
    | nil=>intro W;cases W;exact .nil
    | @cons p r o O x1 _ ih =>
     intro W;cases W with
     | cons y1 t1 =>
      obtain⟨e1,m1,hm⟩:=x1;obtain⟨q9,f9,i,k1,m,M,Y,k5⟩:=y1
      have a4:∀ b∈i.map (·.2),H3 b≠none:=λb y e=>by
       obtain⟨f8,c8,_,_,_,_,_,S⟩:=Y;obtain⟨v8,e8⟩:=S.at y;rw[cJ e]at e8;cases e8
      have aS:=Y.t (bg s4.t);obtain⟨_,_,_,_,_,_,_,ad⟩:=id aS
      have b6:IsLamC (untrs (untrs H4 j) (i.map (·.2))) ld_behind_1 fvH (.ref Z) clos2 [go]:=⟨Z,D,rfl,du ad (ck L ef4 λ_=>gj) (λ_=>gj),du ad (ck L ec4 λ_=>eC) (λ_=>eC),z1,z2,fH (λb y z=>a4 b y (n2 b z)) (fH (λb y z=>by
       obtain⟨v8,e8⟩:=al b y;rw[n2 b z]at e8
       cases e8) ca2)⟩
      have b4:∀ b∈i.map (·.2),untrs H j b=none:=λb y=>cJ (X.free (k5 b y))
      have bm:∀ b∈clos2.map (·.2),untrs H j b=none:=λb y=>cJ ((X.trans t3).free (n2 b y))
      have st:=kX (kX (bg (es:=j) t4) b4) bm;refine .cons ⟨q9,f9,k1,?_,m1,.inr ⟨i,clos2,r.2,.ref Z,go,p.2,gf,a',aS,b6,an.t st,hm.t st,λks a5=>b2 _ (a2 ks (.die (J p mem_cons_self) a5)),rfl⟩⟩ (ih (λz hz=>J z (mem_cons_of_mem _ hz)) t1);show untrs H4 j q9=some (.tup [.int p.1,f9]);rw[e1];exact(bg s4.t).at m
   exact b3 (λp hp=>hp) R g3
end
end My
namespace L2
open PySem PySem.Spec PyProof.Rows
section
variable {P:Program}{w:World}{K:Frag}{mg:Str->Option Value}{base:Heap}
theorem mi{N:List Str}{c:Str}{scope:Scope}{f:Addr}{j:Value}{A:Around}{a:List Env}{s:Shared}{H:Hp}{E:XK}{k:Nat}{g:Addr}{fd:FuncData}{ps:List Str}{sp:Sp}{Q:List Value}{B:List V}{x:Str}{p D rp:Pos}{e:Expr}{es:List Expr}{t:TA}
  (hN:N.Nodup) (ad:∀ p∈scope.names,p.2=.cell->scope.names.lookup p.1=some .cell)
  (F:FnOk P w K mg base CX0 k g fd ps sp) (hr:Room k (fu CX0 P w K mg base N c scope f j A a s H E).nox.A) (hg:Gl (fu CX0 P w K mg base N c scope f j A a s H E).nox x) (hm:mg x=some (.ref g)) (hk:keepIn K (.ref g)=true) (l:Binds K fd ps Q) (hd:Vals B Q)
  (ha:PA (fu CX0 P w K mg base N c scope f j A a s H E).nox (e::es) t) (as:(x == ("__debug__" : Str))=false:=by decide)
  (he:starEach (e::es) (fu CX0 P w K mg base N c scope f j A a s H E).nox.env=(false,eval e (fu CX0 P w K mg base N c scope f j A a s H E).nox.env)::starEach es (fu CX0 P w K mg base N c scope f j A a s H E).nox.env:=by rfl)
  (ah:(backTo D (starEach es (fu CX0 P w K mg base N c scope f j A a s H E).nox.env)).any (·.1)=false:=by rfl) :
  PR (fu CX0 P w K mg base N c scope f j A a s H E).nox [.Return (some (.Call (.Name x p) (e::es) [] D)) rp]
   (λR _ σ H'=>t σ H' λvs H1=>∀ H3,Same H1 H3->mr (cellsFrom (s.heap.objs.size+1) scope.names []) N σ H3->(∀ y b,(cellsFrom (s.heap.objs.size+1) scope.names []).lookup y=some b->H1 b=none)->sp (vs++B) H3 R λ_ _ _=>False):=by
 intro C s1 σ H1 R Z I h;refine wpAny_execs_cons (wpAny_Return_some ?_);refine wpAny_Call_Name_kw (jq I hg hm ?_ as);refine callWith_K (h₀:=base) I.ok.mod.kin hk (thn (ha D C s1 σ H1 _ I h) λW Y ⟨vs,H2,I2,r,q⟩=>⟨I2.kIn,?_⟩) he ah;have J:Inv (fu CX0 P w K mg base N c scope f j A a s H E) C σ H2 Y:=I2.unwish;obtain⟨H3,sm,hc,S,m,an⟩:=vn hN ad J;have r2:Vals (vs++B) (W++Q):=r.append hd;have q':=q H3 sm hc λy b e=>J.freeC y b e
 have hl:(W++Q).length=ps.length:=by rw[<- r2.length];exact F.len _ _ _ _ q'
 have hL:∀ b∈frs (envOfC c scope s.heap.objs.size f j::a),b=s.heap.objs.size\/b∈frs a:=λb l=>by
  have:b∈s.heap.objs.size::frs a:=l;exact mem_cons.mp this
 have e0:Env0 P w K mg base (fu CX0 P w K mg base N c scope f j A a s H E).A (envOfC c scope s.heap.objs.size f j::a) Y H3:=by
  have z:=J.env0;refine⟨z.frames,z.mod,λb o e=>⟨(z.bs b o e).1,m.free b o (J.ok.bs b o e).1 (J.ok.bs b o e).2 (by simp)⟩,z.bsz,z.funs,λb l=>?_,an,z.bare⟩;cases q3:H3 b with
  | none=>rfl
  | some o =>
   obtain⟨y,hy⟩:=S b (z.frf b l) (by rw[q3];simp)
   rcases hL b l with rfl | hb'
   .exact absurd rfl (J.cne y _ hy)
   .obtain⟨_,X,al,_⟩:=J.ok.funs.mem hb'
    have:=J.ok.cab y b rfl hy;exact absurd (Nat.lt_of_lt_of_le (Heap.lt_size al) this) (Nat.lt_irrefl _)
 refine wpAny_call (codeAny_mono (F.run _ _ Y H3 ⟨W,[]⟩ (W++Q) (vs++B) R _ hr e0 (l Y W J.kIn hl) r2 q') λrr s' T=>?_);cases rr with
 | error e=>exact False.elim T
 | ok fl =>
  cases fl with
  | ret u =>
   obtain⟨v,H4,os,O,d,L,rv,qq⟩:=T
   have M:∀ b o,s.heap.get? b=some o->b ∉ frs a->b ∉ frs (envOfC c scope s.heap.objs.size f j::a):=λb o e n z=>by
    rcases hL b z with rfl | z
    .exact absurd (Heap.lt_size e) (Nat.lt_irrefl _)
    .exact n z
   have ap:∀ b,b∈frs a->b∈frs (envOfC c scope s.heap.objs.size f j::a):=λb z=>by
    show b∈s.heap.objs.size::frs a;exact mem_cons_of_mem _ z
   refine⟨u,rfl,.inr ⟨v,H4,os.trans J.os,O,⟨λb o e n l i=>d.keep b o (m.keep b o e n l i) (m.free b o e n i) (M b o e l) i,λb o e n l i=>?_,λb o e n i=>?_,λb o e i=>?_,λb xs e=>d.tups b xs (m.tups b xs e),λb o u e=>d.frzs b o u (m.frzs b o u e),λb qs e=>?_⟩,L,rv,qq⟩⟩
   .obtain⟨sl,G⟩:=m.slot b o e n l i
    obtain⟨ab,e2⟩:=d.slot b _ G (m.free b o e n i) (ap b l) i;exact⟨ab,e2⟩
   .obtain⟨X,G⟩:=m.there b o e i
    exact d.free b X G (m.free b o e n i) i
   .obtain⟨X,G⟩:=m.there b o e i
    exact d.there b X G i
   .obtain⟨m1,G⟩:=m.tbls b qs e
    obtain⟨m2,e2⟩:=d.tbls b _ G;exact⟨m1++m2,by rw[e2,Array.append_assoc]⟩
  | next=>exact False.elim T
  | brk=>exact False.elim T
  | cont=>exact False.elim T
end
end L2
namespace My
open PySem L2 FrM Nst
open Tb (Tr fT lT sT ba bnd d7 tot so)
abbrev nd(N:Nat):Nat:=21*N+8
abbrev gnD(N g:Nat):Nat:=21*N+10+3*g
theorem iO(H:Hp)(A B:List Addr):untrs (untrs H A) B=untrs H (B++A):=by
 funext b
 unfold untrs
 by_cases h1:b∈B <;> by_cases h2:b∈A <;> simp[h1,h2]
def xi(K:Frag)(a:Ad)(N:Nat):List (Str×Addr)->List V->Sp:=λclos vals vs H Q _=>∃(n:Nat) (u go:V) (t:Tr) (gf:List Int->Tr) (ok:List Int->Prop) (Bd:List Addr),n<=N/\vals=[go]/\vs=[u]/\Bad H Bd/\(∀ b∈Bd,b ∉ clos.map (·.2))/\IsNd K a n (untrs (untrs H (clos.map (·.2))) Bd) u t/\IsGo a n 5 (untrs (untrs H (clos.map (·.2))) Bd) go gf ok/\(∀ ks,Lf t ks->ok (so ks))/\TabsOk (tabs a) H/\Res K a (n+1) H Bd (bnd t gf) Q
inductive spGrp(K:Frag)(a:Ad)(N g:Nat)(vs:List V)(H:Hp)(Q:VK)(_E:XK):Prop
 | mk(n:Nat)(vp vg vt:V)(pl:Pl)(gs:List (List Mb))(tk:List Int)(Bd:List Addr)(h0:n<=N)(h1:vs=[vp,vg,vt])(h2:Bad H Bd)(h3:IsPn a H vp pl)(h4:ht n pl)(h5:GsL H vg gs)(h6:TpT H vt tk)(h7:Gok n g gs tk.length)(h8:TabsOk (tabs a) H)(h9:Res K a (n+1) H Bd (gT (nT pl) gs tk) Q):spGrp K a N g vs H Q _E
inductive spENode(K:Frag)(a:Ad)(N:Nat)(vs:List V)(H:Hp)(Q:VK)(_E:XK):Prop
 | mk(n:Nat)(v:V)(p:Pl)(l:Addr)(xs:List V)(ms:List Mb)(Bd:List Addr)(h0:n+1<=N)(h1:vs=[v,.ref l])(h2:IsPn a H v (.each p))(h3:ht n p)(h4:Cok (n+1) ms)(h5:H l=some (.lst xs))(h6:CrAt H ms xs)(h7:Bad H Bd)(h8:TabsOk (tabs a) H)(h9:Res K a (n+1) H Bd (nT (.each p) ms) Q):spENode K a N vs H Q _E
inductive spRNode(K:Frag)(a:Ad)(N:Nat)(vs:List V)(H:Hp)(Q:VK)(_E:XK):Prop
 | mk(n:Nat)(v:V)(p r:Pl)(l:Addr)(xs:List V)(ms:List Mb)(Bd:List Addr)(h0:n+1<=N)(h1:vs=[v,.ref l])(h2:IsPn a H v (.first p r))(h3:jH p)(h4:ht n r)(h5:Cok (n+1) ms)(h6:H l=some (.lst xs))(h7:CrAt H ms xs)(h8:Bad H Bd)(h9:TabsOk (tabs a) H)(h10:Res K a (n+1) H Bd (nT (.first p r) ms) Q):spRNode K a N vs H Q _E
theorem jE{n:Nat}{b:List Mb}(h:Cok n b):Szs (szs b):=⟨by unfold szs;rw[length_map];exact h.len.2,λx a=>(h.hi x a).1,λx a=>(h.hi x a).2⟩
theorem iM{K:Frag}{a:Ad}{n N:Nat}{H:Hp}{v:V}{pl:Pl}{l:Addr}{xs:List V}{f:List Mb}{Bd:List Addr}{Q:VK}{E C D F B:XK}(W:(V->Hp->Prop)->Prop)(i:∀ P:V->Hp->Prop,P (.ref l) H->W P)(A:n<=N)(d:IsPn a H v pl)(g:ht n pl)(w:Cok n f)(o:H l=some (.lst xs))(s:CrAt H f xs)(c:Bad H Bd)(j:TabsOk (tabs a) H)(q:Res K a n H Bd (nT pl f) Q) :
  (∃(b dx:Addr) (fs:List (Str×V)),v=.ref b/\H b=some (.ins a.c_x dx fs)/\fs.lookup ("node" : Str)=none/\W λy H1=>spFNode K a [v,y] H1 Q E)\/(∃(b dx:Addr) (fs:List (Str×V)),v=.ref b/\H b=some (.ins a.c_f dx fs)/\fs.lookup ("node" : Str)=none/\W λy H1=>spSNode K a [v,y] H1 Q C)\/(∃(b dx:Addr) (fs:List (Str×V)),v=.ref b/\H b=some (.ins a.c_g dx fs)/\fs.lookup ("node" : Str)=none/\W λy H1=>spLNode K a [v,y] H1 Q D)\/(∃(b dx:Addr) (fs:List (Str×V)),v=.ref b/\H b=some (.ins a.c_l dx fs)/\fs.lookup ("node" : Str)=none/\W λy H1=>spENode K a N [v,y] H1 Q F)\/(∃(b dx:Addr) (fs:List (Str×V)),v=.ref b/\H b=some (.ins a.c_c dx fs)/\fs.lookup ("node" : Str)=none/\W λy H1=>spRNode K a N [v,y] H1 Q B):=by
 have k:=w.len.2;cases pl with
 | few m =>
  obtain⟨x,dx,rfl,e⟩:=id d
  have h:m<=24:=by cases n <;> exact g
  exact .inl ⟨x,dx,_,rfl,e,rfl,i _ ⟨_,m,l,xs,f,Bd,rfl,d,o,s,k,c,j,q.up (Nat.zero_le _)⟩⟩
 | start m =>
  obtain⟨x,dx,rfl,e⟩:=id d
  have h:1<=m/\m<=100:=by cases n <;> exact g
  exact .inr (.inl ⟨x,dx,_,rfl,e,rfl,i _ ⟨_,m,l,xs,f,Bd,rfl,d,o,s,k,h.1,h.2,c,j,q.up (Nat.zero_le _)⟩⟩)
 | loose m =>
  obtain⟨x,dx,rfl,e⟩:=id d
  have h:m<=24:=by cases n <;> exact g
  exact .inr (.inr (.inl ⟨x,dx,_,rfl,e,rfl,i _ ⟨_,m,l,xs,f,Bd,rfl,d,o,s,jE w,h,c,j,q.up (Nat.zero_le _)⟩⟩))
 | each p =>
  cases n with
  | zero=>exact g.elim
  | succ n =>
   obtain⟨x,dx,u,rfl,e,_⟩:=id d;exact .inr (.inr (.inr (.inl ⟨x,dx,_,rfl,e,rfl,i _ ⟨n,_,p,l,xs,f,Bd,A,rfl,d,g,w,o,s,c,j,q⟩⟩)))
 | first p r =>
  cases n with
  | zero=>exact g.elim
  | succ n =>
   obtain⟨x,dx,u,z,rfl,e,_⟩:=id d;exact .inr (.inr (.inr (.inr ⟨x,dx,_,rfl,e,rfl,i _ ⟨n,_,p,r,l,xs,f,Bd,A,rfl,d,g.1,g.2,w,o,s,c,j,q⟩⟩)))
theorem yi{K:Frag}{H:Hp}{x y:Addr}{xs ys:List V}{Q:VK}(b:H x=some (.tup xs))(c:H y=some (.tup ys))(d:xs.length+ys.length<=sizeLine)(q:∀ H' p,Same H H'->H' p=some (.tup (xs++ys))->Q (.ref p) H'):oj K (.ref x) (.ref y) H Q\/sy K (.ref x) (.ref y) H Q:=by
 cases xs with
 | nil=>exact .inl ⟨x,y,ys,rfl,rfl,SqT.of b,SqT.of c,q H y (Same.refl H) c⟩
 | cons a xs =>
  refine .inr ⟨x,y,_,ys,rfl,rfl,SqT.of b,SqT.of c,by simp,d,λe=>?_,λ_ p hp=>q _ p (Same.new hp) ac⟩;subst e;exact q H x (Same.refl H) (by rw[b,append_nil])
section
variable {P:Program}{w:World}{K:Frag}{mg:Str->Option Value}{base:Heap}{a:Ad}
theorem tO(T:Txt K mg a)(J:Bm mg base)(N:Nat){k:Nat}(j:FnOk P w K mg base CX0 k a.f_u a.d_u ["node","go"] (spBe K a N 5)):LamOkC P w K mg base (k+1) ld_behind_1 fvH ["after"] (xi K a N):=by
 refine eB lsH (λG x b c D C=>match D,C with | [_],_=>rfl) (λb vals vs H Q E h=>?_) (λA outer s H f c b vals vs Q E hr hfv ca h=>?_)
 .obtain⟨n,u,r,t,o,m,p,v,rfl,rfl,_⟩:=h;rfl
 .obtain⟨n,u,r,t,o,m,p,v,rfl,rfl,i,F,d,l,g,B,q⟩:=h
  refine⟨_,(av j hr rfl T.m_u T.F_u.kp T.B_u .nil ao (aa (vr 0) (aa (vr 1) ae))),?_⟩;exact⟨n,u,r,t,o,m,p,v,rfl,fL F i,d,l,g,TabsOk.untrs B ca,λI w y e z=>λH3 s3 hc=>q _ _ (jm y s3 hc) (e.same s3) (z.t (bg s3.t))⟩
theorem sF(T:Txt K mg a)(G:Bm mg base)(N:Nat){k:Nat}(C:4<=k)(p:LamOkC P w K mg base k ld_behind_1 fvH ["after"] (xi K a N))(o:LamOkC P w K mg base k aZ fvC [] (mD K a N)):LamOkC P w K mg base (k+1) aZ fvC [] (mD K a (N+1)):=by
 have I:LamOkC P w K mg base k _ _ _ (tU K a):=LamOkC.mono (vj T G) C;have D:LamOkC P w K mg base k _ _ _ (tX K a):=LamOkC.mono (vD T G) C;have y:LamOkC P w K mg base k _ _ _ (uv K a):=LamOkC.mono (vc T G) C;have l:LamOkC P w K mg base k _ _ _ (ug K a):=LamOkC.mono (vG T G) C;have r:LamOkC P w K mg base k _ _ _ (tT K a):=LamOkC.mono (u9 T G) C;refine eB lsC (λpm ab g c us hl=>match us,hl with | [],_=>rfl) (λg vals vs H Q E h=>?_) (λA outer s H f c g vals vs Q E hr hfv ca h=>?_)
 .obtain⟨n,m,cr,go,d,t0,gf,Z,J,hn,rfl,rfl,_⟩:=h;rfl
 .obtain⟨n,m,cr,go,d,t0,gf,Z,J,hn,rfl,rfl,W,dj,F,x,S,R,hT,q⟩:=h
  refine⟨_,(iH (vr 1) p hr (aa (PE.or (bU (vr 0) I hr) (PE.or (bU (vr 0) D hr) (PE.or (bU (vr 0) y hr) (PE.or (bU (vr 0) l hr) (PE.or (bU (vr 0) r hr) (bU (vr 0) o hr)))))) ae)),?_⟩;rw[hJ H J]at F x S;have i:=fL dj W;have L:=TabsOk.untrs hT ca;obtain⟨fr,Y,rfl,r2,r3,r4,r5,X⟩:=F
  have B:Bad (untrs H (g.map (·.2))) (d.map (·.2)++J):=λb hb=>by
   rcases mem_append.mp hb with hb | hb
   .obtain⟨v,e⟩:=X.at hb
    exact⟨v,(aC e).2⟩
   .exact i b hb
  rw[iO]at x S;refine⟨⟨fr,_,_,Y,rfl,(aC r2).2⟩,ma (N:=N) B L (n:=n) (by lia) S λH2 u j O M=>⟨λf' d' cl' c' _ z=>j.at z,fr,Y,d,_,rfl,j.at (aC r2).2,j.at (aC r3).2,r4,r5,dH (cuts_sub.trans j) X,n,u,go,t0,gf,Z,J,by lia,rfl,rfl,i.t j,dL X,?_,?_,R,O,λH3 w t3 hT3 hN=>λH4 s4 hc=>q _ _ (jm (j.trans t3) s4 hc) (hT3.same s4) (hN.t (bg s4.t))⟩⟩
  .rw[hJ,iO];exact M
  .rw[hJ,iO];exact x.t (bg j)
theorem pR(T:Txt K mg a)(hB:Bm mg base)(N g:Nat){k:Nat}(C:FnOk P w K mg base CX0 k a.f_b a.d_b ["plan","groups","taken"] (spGrp K a N g)):LamOkC P w K mg base (k+1) ci fvG ["kept"] (xr K a N g):=by
 refine eB lsG (λpm Z d c us hl=>match us,hl with | [_],_=>rfl) (λd vals vs H Q E h=>?_) (λA outer s H f c d vals vs Q E hr hfv ca h=>?_)
 .obtain⟨n,W,vg,vt,kt,M,c,X,S,L,R,Y,rfl,rfl,_⟩:=h;rfl
 .obtain⟨n,W,vg,vt,kt,M,c,X,S,L,R,Y,rfl,rfl,D,dj,hp,hh,hg,x,e,j,hT,q⟩:=h
  have z:sizeLine=16777216:=sizeLine_eq;refine⟨_,(av C hr rfl T.m_b T.F_b.kp T.B_b .nil ao (aa (vr 2) (aa (d6 gg (vr 3) (d0 ag) eK) (aa (aD sJ (vr 1) (vr 0)) ae)))),?_⟩;have m:=fP ca;have l:=fL dj D;have r:=TabsOk.untrs hT ca;obtain⟨lg,yg,rfl,F,y⟩:=hg.n m;obtain⟨lt,rfl,v⟩:=x.n m;have e:=m _ _ rfl e;generalize hU:untrs H (d.map (·.2))=U at *;cases y with
  | @cons _ y0 _ ys g0 hgs =>
   refine⟨_,rfl,.inl ⟨_,SqL.of F,λi fr=>?_⟩⟩;have er:dQ (y0::ys) (some 1) none=ys:=fA _ 1;rw[er];have p:=Same.new (o:=.lst ys) fr;have I:(upd U i (.lst ys)) i=some (.lst ys):=ac;generalize upd U i (.lst ys)=H1 at p I;have ab:=j.all;refine yi (p _ _ v) (p _ _ e) (by rw[length_map,length_map];lia) λH2 G O J=>?_
   rw[<- map_append]at J;have b:=p.trans O;refine⟨n,W,.ref i,.ref G,M,X,S++L,R,Y,rfl,l.t b.t,(hp.n m).n (cK b.t),hh,⟨i,ys,rfl,O _ _ I,aA (CrL.n (cK b.t)) hgs⟩,⟨G,rfl,J⟩,by rw[length_append];exact j,r.same b,λH' u t' B hN=>λH3 s3 hc=>?_⟩;rw[<- hU]at b;exact q _ _ (jm (b.t.trans t') s3 hc) (B.same s3) (hN.t (bg s3.t))
end
end My
namespace Nst
open FrM Tb PySem
theorem eN{a ns:List Int}(h:Lf (.leaf a) ns):ns=a:=by cases h;rfl
theorem pQ:∀{l:List Int}{w:Nat}{t ns:List Int},Lf (fT l w t) ns->∃ s:List Int,s.Sublist l/\ns=t++s/\s.length=min w l.length
 | [],w,t,ns,h=>⟨[],.slnil,by rw[append_nil];exact eN h,by simp⟩
 | x::r,w,t,ns,h=>by
  unfold fT at h
  by_cases c:w=0
  .rw[if_pos c]at h
   exact⟨[],nil_sublist _,by rw[append_nil];exact eN h,by subst c;simp⟩
  .rw[if_neg c]at h
   by_cases d:r.length+1<=w
   .rw[if_pos d]at h
    exact⟨x::r,List.Sublist.refl _,eN h,by rw[length_cons];lia⟩
   .rw[if_neg d]at h
    cases h with
    | die hm hu =>
     rcases mem_cons.mp hm with e | hm
     .cases e
      obtain⟨s,a,f,b⟩:=pQ hu;exact⟨x::s,a.cons_cons x,by rw[f,append_assoc];rfl,by rw[length_cons,b,length_cons];lia⟩
     .cases mem_singleton.mp hm
      obtain⟨s,a,f,b⟩:=pQ hu;exact⟨s,a.cons x,f,by rw[b,length_cons];lia⟩
theorem pe:∀{L:Tl}{t ns:List Int},Lf (lT L t) ns->∃ s:List Int,s.Sublist (L.map (·.1))/\ns=t++s
 | [],t,ns,h=>⟨[],.slnil,by rw[append_nil];exact eN h⟩
 | (p,c)::r,t,ns,h=>by
  unfold lT at h;cases h with
  | die hm hu =>
   rcases mem_cons.mp hm with e | hm
   .cases e
    obtain⟨s,a,b⟩:=pe hu;exact⟨p::s,a.cons_cons p,by rw[b,append_assoc];rfl⟩
   .cases mem_singleton.mp hm
    obtain⟨s,a,b⟩:=pe hu;exact⟨s,a.cons p,b⟩
theorem gi(ps:List Int):∀ n,(List.range n).filterMap (ps[·]?)=ps.take n
 | 0=>rfl
 | n+1=>by
  rw[range_succ,List.filterMap_append,gi ps n,take_add_one]
  cases e:ps[n]? <;> simp[e]
theorem qF(ps:List Int)(f st:Nat):(ba ps f st).Sublist ps:=by
 unfold ba
 have:=((List.filter_sublist (l:=List.range ps.length) (p:=λk=>decide (k % st=f))).filterMap (ps[·]?))
 rw[gi,take_length]at this;exact this
theorem rW{ps:List Int}{st:Nat}{ns:List Int}(h:Lf (stT ps st) ns):ns=ps/\(st=1\/ps=[])\/∃ f,f<st/\ns=ba ps f st:=by
 unfold stT at h
 by_cases c:st=1\/ps=[]
 .rw[if_pos c]at h
  exact .inl ⟨eN h,c⟩
 .rw[if_neg c]at h
  unfold sT at h;cases h with
  | die hm hu =>
   obtain⟨f,a,e⟩:=mem_map.mp hm;cases e;exact .inr ⟨f,mem_range.mp a,eN hu⟩
theorem fj:∀(L:Tl){s:List Int},s.Sublist ((dk L).map (·.1))->∃ r:List Int,r.Sublist (L.map (·.1))/\r.Perm (cO L++s)
 | [],s,h=>⟨[],.slnil,by
  cases h
  exact .refl _⟩
 | x::r,s,h=>by
  unfold dk at h;unfold cO
  by_cases c:x.2=(1,1)
  .have e:uns x.2=false:=by rw[c];decide
   rw[filter_cons_of_neg (by rw[e];decide)]at h;obtain⟨b,a,d⟩:=fj r h;refine⟨x.1::b,a.cons_cons x.1,?_⟩;rw[filter_cons_of_pos (by exact decide_eq_true c),map_cons,cons_append];exact d.cons x.1
  .have f:(x::r).filter (λx=>decide (x.2=(1,1)))=r.filter λx=>decide (x.2=(1,1)):=filter_cons_of_neg (λz=>c (of_decide_eq_true z))
   rw[f]
   by_cases u:uns x.2=true
   .rw[filter_cons_of_pos (by exact u),map_cons]at h
    cases h with
    | cons _ h =>
     obtain⟨b,a,d⟩:=fj r h;exact⟨b,a.cons x.1,d⟩
    | cons_cons _ h =>
     obtain⟨b,a,d⟩:=fj r h;refine⟨x.1::b,a.cons_cons x.1,(d.cons x.1).trans ?_⟩;exact List.perm_middle.symm
   .rw[filter_cons_of_neg (by exact u)]at h
    obtain⟨b,a,d⟩:=fj r h;exact⟨b,a.cons x.1,d⟩
theorem uG(a:List Int)(b:List (Int×Int)):((a.zip b).map (·.1)).Sublist a:=by
 induction a generalizing b with
 | nil=>exact nil_sublist _
 | cons x r ih =>
  cases b with
  | nil=>exact nil_sublist _
  | cons y t=>exact(ih t).cons_cons x
theorem fN{pl:Pl}{b:List Mb}{c:List Int}(d:jH pl)(h:Lf (nT pl b) c):∃ s:List Int,s.Sublist (plc b)/\s.Perm c:=by
 cases pl with
 | few m =>
  obtain⟨s,a,i,_⟩:=pQ h;exact⟨s,a,by rw[i];exact .refl _⟩
 | start m =>
  rcases rW h with⟨rfl,_⟩ | ⟨f,_,rfl⟩
  .exact⟨_,List.Sublist.refl _,.refl _⟩
  .exact⟨_,qF _ _ _,.refl _⟩
 | loose m =>
  obtain⟨s,a,rfl⟩:=pe h;obtain⟨r,g,e⟩:=fj _ a;exact⟨r,g.trans (uG _ _),e⟩
 | each p=>exact d.elim
 | first p q=>exact d.elim
theorem jX(a:List Int):(so a).length=a.length:=(so_perm a).length_eq
theorem uh(a:List (List Mb)):sel a (plc (outer a))=a:=by
 unfold sel;rw[iL,map_map];apply List.ext_getElem
 .rw[length_map,length_range]
 .intro i c b
  rw[List.getElem_map,List.getElem_range];show a.getD ((i:Int).toNat) []=a[i];rw[show((i:Int).toNat)=i by omega,List.getD_eq_getElem?_getD,List.getElem?_eq_getElem b];rfl
theorem lW{a:List (List Mb)}{s b:List Int}(h:s.Sublist (plc (outer a)))(c:s.Perm b):∃ r:List (List Mb),r.Sublist a/\r.Perm (sel a b):=by
 refine⟨sel a s,?_,c.map _⟩;have:=h.map λk:Int=>a.getD k.toNat []
 have e:=uh a;unfold sel at e ⊢;rw[e]at this;exact this
theorem jG{a b:List Nat}(h:a.Sublist b):a.sum<=b.sum:=by
 induction h with
 | slnil=>exact Nat.le_refl _
 | cons x _ ih=>rw[sum_cons];lia
 | cons_cons x _ ih=>rw[sum_cons,sum_cons];lia
theorem iY{a b:List Nat}(h:a.Perm b):a.sum=b.sum:=h.sum_nat
theorem iu{n:Nat}{p:Pl}{d:List Mb}{a:List Int}(f:Cok (n+1) d)(u:jH p)(h:Lf (nT p (outer (parts d))) a):Gok n 5 (sel (parts d) (so a)) 0/\(so a).length<=24/\∀ k∈so a,0<=k/\k<(parts d).length:=by
 have g:=dw f;obtain⟨s,j,b⟩:=fN u h;have b:=b.trans (so_perm a).symm;obtain⟨r,l,m⟩:=lW j b
 have q:(so a).length<=5:=by
  rw[<- b.length_eq];have:=j.length_le;unfold plc at this;rw[length_map,dS]at this;have:=g.len;lia
 refine⟨⟨λc f=>g.each c (l.subset (m.mem_iff.mpr f)),by unfold sel;rw[length_map];exact q,?_⟩,by lia,λk e=>?_⟩
 .rw[iY (m.symm.map List.length)]
  have:=jG (l.map List.length);rw[g.all]at this;have:=f.len.2;lia
 .have e:=j.subset (b.mem_iff.mpr e)
  rw[iL]at e;obtain⟨i,o,rfl⟩:=mem_map.mp e;have:=mem_range.mp o;lia
theorem ou{f:List Mb->Tr}:∀{gs:List (List Mb)}{tk ns:List Int},(∀ c∈gs,∀ ks,Lf (f c) ks->ks.length<=c.length)->Lf (gT f gs tk) ns->ns.length<=tk.length+(gs.map List.length).sum
 | [],tk,ns,_,h=>by rw[eN h];simp
 | c::gs,tk,ns,hf,h=>by
  unfold gT at h;obtain⟨ks,a,e⟩:=lH h rfl;have i:=hf c mem_cons_self ks a;have b:=ou (λd g=>hf d (mem_cons_of_mem _ g)) e;rw[length_append,jX]at b;rw[map_cons,sum_cons];lia
theorem iI:∀{pl:Pl}{n:Nat}{ms:List Mb}{ks:List Int},ht n pl->Cok n ms->Lf (nT pl ms) ks->ks.length<=ms.length
 | .each p,0,_,_,h,_,_=>h.elim
 | .first p q,0,_,_,h,_,_=>h.elim
 | .each p,n+1,ms,ks,h,a,hl=>by
  have e:=dw a;have:=ou (λc a ks f=>iI (pl:=p) (n:=n) h (e.each c a) f) hl;rw[e.all]at this;simpa using this
 | .first p q,n+1,ms,ks,h,a,hl=>by
  obtain⟨k,b,d⟩:=lH hl rfl;have e:=dw a;have g:=iu a h.1 b;have:=ou (λc a ks f=>iI (pl:=q) (n:=n) h.2 (g.1.each c a) f) d;obtain⟨s,o,j⟩:=fN h.1 b;obtain⟨r,i,l⟩:=lW o (j.trans (so_perm k).symm);rw[iY (l.symm.map List.length)]at this;have:=jG (i.map List.length);rw[e.all]at this;simp at *;lia
 | .few m,n,ms,ks,h,a,hl=>by
  obtain⟨s,b,d⟩:=fN (pl:=.few m) (by cases n <;> exact h) hl;have:=b.length_le;unfold plc at this;rw[length_map]at this;rw[<- d.length_eq];exact this
 | .start m,n,ms,ks,h,a,hl=>by
  obtain⟨s,b,d⟩:=fN (pl:=.start m) (by cases n <;> exact h) hl;have:=b.length_le;unfold plc at this;rw[length_map]at this;rw[<- d.length_eq];exact this
 | .loose m,n,ms,ks,h,a,hl=>by
  obtain⟨s,b,d⟩:=fN (pl:=.loose m) (by cases n <;> exact h) hl;have:=b.length_le;unfold plc at this;rw[length_map]at this;rw[<- d.length_eq];exact this
theorem uT{n g:Nat}{pl:Pl}{c:List Mb}{b:List (List Mb)}{t:Nat}{e:List Int}(i:ht n pl)(a:Gok n (g+1) (c::b) t)(h:Lf (nT pl c) e):Gok n g b (t+(so e).length):=by
 have:=iI i (a.each c mem_cons_self) h;have f:=a.len;have j:=a.all;rw[map_cons,sum_cons]at j;rw[length_cons]at f;exact⟨λd k=>a.each d (mem_cons_of_mem _ k),by lia,by rw[jX];lia⟩
end Nst
namespace My
open PySem L2 FrM Nst
open Tb (Tr fT lT sT ba bnd d7 tot so)
theorem p9{K:Frag}{a:Ad}{H:Hp}{v:V}{pl:Pl}{d:List Mb}{Bd:List Addr}{Q:VK}{A w z:XK}(W:(V->Hp->Prop)->Prop)(k:∀ P:V->Hp->Prop,(∀ H2 l xs,Same H H2->H2 l=some (.lst xs)->CrAt H2 d xs->P (.ref l) H2)->W P)(e:IsPn a H v pl)(j:jH pl)(u:Cok 0 d)(c:Bad H Bd)(o:TabsOk (tabs a) H)(q:∀ H2,Same H H2->Res K a 0 H2 Bd (nT pl d) Q) :
  (∃(b dx:Addr) (fs:List (Str×V)),v=.ref b/\H b=some (.ins a.c_x dx fs)/\fs.lookup ("node" : Str)=none/\W λy H1=>spFNode K a [v,y] H1 Q A)\/(∃(b dx:Addr) (fs:List (Str×V)),v=.ref b/\H b=some (.ins a.c_f dx fs)/\fs.lookup ("node" : Str)=none/\W λy H1=>spSNode K a [v,y] H1 Q w)\/(∃(b dx:Addr) (fs:List (Str×V)),v=.ref b/\H b=some (.ins a.c_g dx fs)/\fs.lookup ("node" : Str)=none/\W λy H1=>spLNode K a [v,y] H1 Q z):=by
 have g:=u.len.2;cases pl with
 | few m =>
  obtain⟨x,dx,rfl,f⟩:=id e;exact .inl ⟨x,dx,_,rfl,f,rfl,k _ λH2 l xs s h i=>⟨_,m,l,xs,d,Bd,rfl,IsPn.n (cK s.t) e,h,i,g,c.t s.t,o.same s,q H2 s⟩⟩
 | start m =>
  obtain⟨x,dx,rfl,f⟩:=id e;exact .inr (.inl ⟨x,dx,_,rfl,f,rfl,k _ λH2 l xs s h i=>⟨_,m,l,xs,d,Bd,rfl,IsPn.n (cK s.t) e,h,i,g,j.1,j.2,c.t s.t,o.same s,q H2 s⟩⟩)
 | loose m =>
  obtain⟨x,dx,rfl,f⟩:=id e;exact .inr (.inr ⟨x,dx,_,rfl,f,rfl,k _ λH2 l xs s h i=>⟨_,m,l,xs,d,Bd,rfl,IsPn.n (cK s.t) e,h,i,jE u,j,c.t s.t,o.same s,q H2 s⟩⟩)
 | each p=>exact j.elim
 | first p r=>exact j.elim
section
variable {P:Program}{w:World}{K:Frag}{mg:Str->Option Value}{base:Heap}{a:Ad}
theorem uA(T:Txt K mg a)(hB:Bm mg base)(N g:Nat){k:Nat}(ad:FnOk P w K mg base CX0 k a.f_b a.d_b ["plan","groups","taken"] (spGrp K a N 5)):LamOkC P w K mg base (k+1) cm fvF ["kept"] (v4 K a N g):=by
 refine eB lsF (λpm aS d c us hl=>match us,hl with | [_],_=>rfl) (λd vals vs H Q E h=>?_) (λA outer s H f c d vals vs Q E hr hfv ca h=>?_)
 .obtain⟨n,vi,vg,kt,pl,G,m,Bd,hn,h5,rfl,rfl,_⟩:=h;rfl
 .obtain⟨n,vi,vg,kt,pl,G,m,Bd,hn,h5,rfl,rfl,an,dj,hp,hh,hg,j,⟨ah,as,ap⟩,hT,q⟩:=h
  have Z:sizeLine=16777216:=sizeLine_eq;refine⟨_,(av ad hr rfl T.m_b T.F_b.kp T.B_b .nil ao (aa (vr 1) (aa (bj rfl (N:=["number","groups"]) (ix:=[none,some 2]) ⟨rfl,rfl,rfl,rfl,⟨rfl,rfl,rfl,trivial⟩⟩ (bJ (vr 0)) ⟨λC s H fp=>aw (i:=0) (show List.Nodup (["number","groups"]:List Str) by decide +kernel) rfl (Or.inl rfl),λC s H fp=>bC,λC s H fp=>(aB (cu (K:=K) rfl) (vr 1) (vr 0) (λ_ _=>rfl))⟩) (aa (aT ae) ae)))),?_⟩;have R:=fP ca;have I:=fL dj an;have M:=TabsOk.untrs hT ca;obtain⟨lg,z,rfl,al,F⟩:=hg.n R;have j:=R _ _ rfl j;generalize hU:untrs H (d.map (·.2))=U at *;refine .inr ⟨⟨_,SqT.of j⟩,λD hD=>?_⟩
  let Pw1:PvL:=λi l r=>i<=m.length/\Same U r/\r D=some (.lst l)/\Paired (CrL U) (sel G (m.take i)) l
  refine rd (K:=K) (a:=kt) (xs:=m.map V.int) Pw1 ⟨Nat.zero_le _,Same.new hD,ac,.nil⟩ (λi l r h=>SqT.of (h.2.1 _ _ j)) (λi l r h=>h.2.2.1) ?_ ?_
  .rintro i x l r P' B ⟨hi,J,v,p⟩ hP
   rw[List.getElem?_map]at B
   obtain⟨kk,hkk,rfl⟩:∃ kk,m[i]? = some kk/\V.int kk=x:=by
    cases e:m[i]? with
    | none=>rw[e]at B;cases B
    | some kk=>rw[e]at B;cases B;exact⟨kk,rfl,rfl⟩
   have S:i<m.length:=(List.getElem?_eq_some_iff.mp hkk).1;obtain⟨k0,k1⟩:=ap kk (List.mem_of_getElem? hkk);have gl:G.length=z.length:=Paired.length F;have W:kk.toNat<z.length:=by lia
   have ey:z[kk.toNat]? = some z[kk.toNat]:=List.getElem?_eq_getElem W;generalize z[kk.toNat]=y at ey;obtain⟨cg,X,L⟩:=aL F ey;have yl:l.length=i:=by rw[<- p.length];unfold sel;rw[length_map,length_take];lia
   have O:atI z kk=some y:=by
    have:kk=((kk.toNat:Nat):Int):=by lia
    rw[this];exact fG ey
   refine⟨⟨rfl,trivial⟩,.inl ⟨lg,_,_,_,rfl,rfl,SqL.of (J _ _ al),O,v,by lia,hP _ _ ⟨S,J.put hD,ac,?_⟩⟩⟩;unfold sel at p ⊢;rw[take_add_one,hkk,map_append];refine cM ?_ p;show CrL U (G.getD kk.toNat []) y;rw[List.getD_eq_getElem?_getD,X];exact L
  .rintro l r ⟨_,J,v,p⟩
   rw[length_map,take_length]at p;refine⟨Nat.zero_le _,λt ft=>?_⟩;have Y:=Same.new (o:=.tup []) ft;have h2:(upd r t (.tup [])) t=some (.tup []):=ac;generalize upd r t (.tup [])=H2 at Y h2;have b:=J.trans Y;refine⟨n,vi,.ref D,.ref t,pl,sel G m,[],Bd,hn,rfl,I.t b.t,(hp.n R).n (cK b.t),hh,⟨D,l,rfl,Y _ _ v,aA (CrL.n (cK b.t)) p⟩,⟨t,rfl,h2⟩,ah,M.same b,λH3 u t' ab hN=>λH4 s4 p=>?_⟩;rw[<- hU]at b;exact q _ _ (jm (b.t.trans t') s4 p) (ab.same s4) (hN.t (bg s4.t))
theorem sG(T:Txt K mg a)(hB:Bm mg base)(N:Nat){k:Nat}(hk:3<=k):FnOk P w K mg base CX0 (k+1) a.f_b a.d_b ["plan","groups","taken"] (spGrp K a N 0):=by
 have v:FnOk P w K mg base CX0 (k - 1) _ _ _ (spToldI a):=(gC T).mono (by lia);have ad:k - 1+1=k:=by lia
 have D:FnOk P w K mg base CX0 k a.f_u a.d_u ["node","go"] jj:=gq;have l:FnOk P w K mg base CX0 k a.x_G a.y_G ["self","crowd"] jj:=gq;have u:FnOk P w K mg base CX0 k a.x_r a.y_r ["self","crowd"] jj:=gq;have m:FnOk P w K mg base CX0 k a.x_s a.y_s ["self","crowd"] jj:=gq;have y:FnOk P w K mg base CX0 k a.x_t a.y_t ["self","crowd"] jj:=gq;have z:FnOk P w K mg base CX0 k a.x_a a.y_a ["self","crowd"] jj:=gq
 obtain⟨k,rfl⟩:∃ j,k=j+1:=⟨k - 1,by lia⟩
 refine T.F_b.okF T.lcd_b sc_b (by decide +kernel) (λvs H Q E h=>?_) (λA outer s H vs Q E hr h=>?_)
 .obtain⟨n,Z,X,vt,S,gs,I,W,hn,rfl,_⟩:=h;rfl
 .obtain⟨n,Z,X,vt,S,gs,I,W,hn,rfl,B,hp,hh,⟨lg,yg,rfl,C,r⟩,⟨J,rfl,i⟩,c,R,q⟩:=h
  refine⟨_,(dG (aR (d9 (fq (vr 1) (λ_=>rfl))) (aj (ay (bP T.mk_i v hr rfl T.mc_i T.Bi_i .nil ao (aa (vr 2) ae)))) aH) (mi sc_b.nd (by decide +kernel) D hr rfl T.m_u T.F_u.kp T.B_u .nil (aa (PE.or (aJ (vr 0) T.cl_x T.mt_G l hr T.B_G .nil ao (aa (aB ax (vr 1) ag (λ_ _=>rfl)) ae)) (PE.or (aJ (vr 0) T.cl_f T.mt_r u hr T.B_r .nil ao (aa (aB ax (vr 1) ag (λ_ _=>rfl)) ae)) (PE.or (aJ (vr 0) T.cl_g T.mt_s m hr T.B_s .nil ao (aa (aB ax (vr 1) ag (λ_ _=>rfl)) ae)) (PE.or (aJ (vr 0) T.cl_l T.mt_t y hr T.B_t .nil ao (aa (aB ax (vr 1) ag (λ_ _=>rfl)) ae)) (aJ (vr 0) T.cl_c T.mt_a z hr T.B_a .nil ao (aa (aB ax (vr 1) ag (λ_ _=>rfl)) ae)))))) (aa (eY (d:=ci) rfl T.lch_b hB rfl (by with_unfolding_all rfl) rfl (gp a) (.head _) T.tnd gb) ae)))),?_⟩;cases r with
  | nil =>
   refine⟨_,.inl ⟨_,SqL.of C,rfl⟩,?_⟩;intro x g G f ab;have Y:Same H (upd (upd H g (.own x)) x (.ins a.c_i g [])):=λb o e=>by rw[au (ar e G),au (ar e f)];exact e
   have:=c.all;refine⟨x,g,J,I,rfl,ac,.inr (Y _ _ i),by simp at this;lia,λH' t p k L O M=>⟨rfl,?_⟩⟩;have F:=made G f k;exact q _ _ F.t (R.same F) (dJ (B.t F.t) ⟨x,g,t,p,rfl,L,O,M⟩)
  | cons=>have:=c.len;simp at this
theorem qY(T:Txt K mg a)(B:Bm mg base)(N g:Nat){k:Nat}(hk:8<=k)(ab:FnOk P w K mg base CX0 (k+1) a.x_t a.y_t ["self","crowd"] (spENode K a N))(ah:FnOk P w K mg base CX0 (k+1) a.x_a a.y_a ["self","crowd"] (spRNode K a N))(al:FnOk P w K mg base CX0 (k+1) a.f_u a.d_u ["node","go"] (spBe K a N g)):FnOk P w K mg base CX0 (k+1+1) a.f_b a.d_b ["plan","groups","taken"] (spGrp K a N (g+1)):=by
 have Z:FnOk P w K mg base CX0 k _ _ _ (spToldI a):=(gC T).mono (by lia);have I:FnOk P w K mg base CX0 (k+1) _ _ _ (spFNode K a):=(j0 T B).mono (by lia);have X:FnOk P w K mg base CX0 (k+1) _ _ _ (spSNode K a):=(jz T B).mono (by lia);have M:FnOk P w K mg base CX0 (k+1) _ _ _ (spLNode K a):=(j4 T B).mono (by lia);refine T.F_b.okF T.lcd_b sc_b (by decide +kernel) (λvs H Q E h=>?_) (λA outer s H vs Q E hr h=>?_)
 .obtain⟨n,vp,vg,vt,R,Y,W,Bd,hn,rfl,_⟩:=h;rfl
 .obtain⟨n,vp,vg,vt,R,Y,W,Bd,hn,rfl,j,hp,hh,⟨C,yg,rfl,i,S⟩,⟨F,rfl,r⟩,p,hT,q⟩:=h
  refine⟨_,(dG (aR (d9 (fq (vr 1) (λ_=>rfl))) (aj (ay (bP T.mk_i Z hr rfl T.mc_i T.Bi_i .nil ao (aa (vr 2) ae)))) aH) (mi sc_b.nd (by decide +kernel) al hr rfl T.m_u T.F_u.kp T.B_u .nil (aa (PE.or (aJ (vr 0) T.cl_x T.mt_G I hr T.B_G .nil ao (aa (aB ax (vr 1) ag (λ_ _=>rfl)) ae)) (PE.or (aJ (vr 0) T.cl_f T.mt_r X hr T.B_r .nil ao (aa (aB ax (vr 1) ag (λ_ _=>rfl)) ae)) (PE.or (aJ (vr 0) T.cl_g T.mt_s M hr T.B_s .nil ao (aa (aB ax (vr 1) ag (λ_ _=>rfl)) ae)) (PE.or (aJ (vr 0) T.cl_l T.mt_t ab hr T.B_t .nil ao (aa (aB ax (vr 1) ag (λ_ _=>rfl)) ae)) (aJ (vr 0) T.cl_c T.mt_a ah hr T.B_a .nil ao (aa (aB ax (vr 1) ag (λ_ _=>rfl)) ae)))))) (aa (eY (d:=ci) rfl T.lch_b B rfl (by with_unfolding_all rfl) rfl (gp a) (.head _) T.tnd gb) ae)))),?_⟩;cases S with
  | nil =>
   refine⟨_,.inl ⟨_,SqL.of i,rfl⟩,?_⟩;intro x z hx y an;have s0:Same H (upd (upd H z (.own x)) x (.ins a.c_i z [])):=λb o e=>by rw[au (ar e hx),au (ar e y)];exact e
   have:=p.all;refine⟨x,z,F,W,rfl,ac,.inr (s0 _ _ r),by simp at this;lia,λH' t O k h1 h2 h3=>⟨rfl,?_⟩⟩;have sm:=made hx y k;exact q _ _ sm.t (hT.same sm) (dJ (j.t sm.t) ⟨x,z,t,O,rfl,h1,h2,h3⟩)
  | @cons c y0 Y ys g0 hgs =>
   refine⟨_,.inl ⟨_,SqL.of i,rfl⟩,?_⟩;obtain⟨l0,ap,rfl,L,G⟩:=id g0;refine iM (λP=>rIx K (.ref C) (.int 0) H P) (λP h=>.inl ⟨C,_,_,_,rfl,rfl,SqL.of i,bK 0 rfl rfl,h⟩) hn hp hh (p.each c mem_cons_self) L G j hT λH1 u t1 hT1 hnd=>?_
   refine⟨hT1,λf1 c1 H2 t2 J n1 D ad=>λH3 s3 hc hfr=>?_⟩;have t3:=t2.trans s3.t;have m:=t1.trans t3;have nc:=cK m;have v:=j.t (t1.trans t2);have l:=j.t m;have f:=nc.trans (g9 l);have nP:=hfr "plan" _ (by with_unfolding_all rfl);have nG:=hfr "groups" _ (by with_unfolding_all rfl);have nT:=hfr "taken" _ (by with_unfolding_all rfl);refine⟨n,u,.ref f1,Nst.nT R c,_,_,Bd,hn,rfl,l,hnd.t (bg t3),.inl ⟨vp,.ref C,.ref F,_,R,c,Y,W,ik v s3 (s3 _ _ D) (s3 _ _ ad) rfl (by simp only[map_cons,map_nil,nodup_cons,mem_cons,not_mem_nil,or_false,not_or,not_false_eq_true,nodup_nil,and_true];lia) (.cons (hc 2 _ _ _ rfl rfl (by with_unfolding_all rfl)) (.cons (hc 0 _ _ _ rfl rfl (by with_unfolding_all rfl)) (.cons (hc 1 _ _ _ rfl rfl (by with_unfolding_all rfl)) .nil))) (λb hb=>?_),hp.n f,hh,⟨C,_,rfl,f _ _ rfl i,aA (CrL.n f) (.cons g0 hgs)⟩,⟨F,rfl,f _ _ rfl r⟩,rfl,rfl⟩,λks hks=>uT hh p hks,J.same s3,λH' w t' hT' hN=>q _ _ (m.trans t') hT' hN⟩
   rcases mem_cons.mp hb with rfl | hb;exact nT
   rcases mem_cons.mp hb with rfl | hb;exact nP
   rw[mem_singleton.mp hb];exact nG
theorem lh(T:Txt K mg a)(b:Bm mg base)(N:Nat)(d:FnOk P w K mg base CX0 (nd N) a.x_t a.y_t ["self","crowd"] (spENode K a N))(e:FnOk P w K mg base CX0 (nd N) a.x_a a.y_a ["self","crowd"] (spRNode K a N)):∀ g,g<=5->FnOk P w K mg base CX0 (gnD N g) a.f_b a.d_b ["plan","groups","taken"] (spGrp K a N g)
 | 0,_=>sG T b N (k:=21*N+9) (by lia)
 | g+1,hg=>by
  have G:=lh T b N d e g (by lia);have u:=pR T b N g G
  have o:LamOkC P w K mg base (gnD N g+1) cm fvF ["kept"] (v4 K a N g):=by
   intro A h s H f c m F D j Q E C z I y p q x r i;obtain⟨_,_,_,_,_,_,_,_,_,v,_⟩:=id i;lia
  have B:=mX T b N g (by lia) (k:=gnD N g+1) (by lia) u o;have l:nd N<=gnD N g+2:=by show 21*N+8<=_;lia
  exact qY T b N g (k:=gnD N g+1) (by lia) (d.mono l) (e.mono l) B
theorem pC(T:Txt K mg a)(b:Bm mg base)(N:Nat)(c:FnOk P w K mg base CX0 (nd N) a.x_t a.y_t ["self","crowd"] (spENode K a N))(d:FnOk P w K mg base CX0 (nd N) a.x_a a.y_a ["self","crowd"] (spRNode K a N)):FnOk P w K mg base CX0 (gnD N 5+2) a.f_u a.d_u ["node","go"] (spBe K a N 5):=by
 have G:=lh T b N c d 5 (by lia);exact mX T b N 5 (by lia) (k:=gnD N 5+1) (by lia) (pR T b N 5 G) (uA T b N 5 G)
theorem qG(T:Txt K mg a)(hB:Bm mg base)(N:Nat)(i:FnOk P w K mg base CX0 (gnD N 5) a.f_b a.d_b ["plan","groups","taken"] (spGrp K a N 5)):FnOk P w K mg base CX0 (gnD N 5+1) a.x_t a.y_t ["self","crowd"] (spENode K a (N+1)):=by
 have d:FnOk P w K mg base CX0 (gnD N 5) _ _ _ spParted:=(gG T).mono (by show 2<=21*N+10+3*5;lia);refine T.F_t.ok lj (λX H Q E h=>?_) (λcdv A outer s H X Q E hr h=>?_)
 .obtain⟨n,v,p,l,B,f,C,Z,rfl,_⟩:=h;rfl
 .obtain⟨n,v,p,l,B,f,C,Z,rfl,⟨x,S,u,rfl,G,J⟩,W,c,Y,F,k,R,q⟩:=h
  have j:=dw c;refine⟨_,(aj (ay (av i hr rfl T.m_b T.F_b.kp T.B_b .nil ao (aa (bV (vr 0) rfl) (aa (av d hr rfl T.m_ab T.F_ab.kp T.B_ab .nil ao (aa (vr 1) ae)) (aa (aT ae) ae)))))),?_⟩;refine⟨x,_,S,_,_,rfl,G,T.cl_l,T.na_Each_inside,rfl,?_⟩;refine⟨l,f,B,rfl,Y,F,by rw[<- F.len];exact c.len.2,λm D=>⟨λz=>by have:=(c.path m D).1;rw[z]at this;simp at this,(c.path m D).2⟩,λH1 r ys s1 hr1 hgs=>?_⟩;refine⟨Nat.zero_le _,λt O=>?_⟩;have e:=Same.new (o:=.tup []) O;have y:(upd H1 t (.tup [])) t=some (.tup []):=ac;generalize upd H1 t (.tup [])=H2 at e y;have b:=s1.trans e;have M:=cK b.t;exact⟨n,u,.ref r,.ref t,p,parts f,[],C,by lia,rfl,k.t b.t,J.n M,W,⟨r,ys,rfl,e _ _ hr1,aA (CrL.n (cK e.t)) hgs⟩,⟨t,rfl,y⟩,⟨j.each,j.len,by rw[j.all];have:=c.len.2;simp;lia⟩,R.same b,λH' w I g L=>q _ _ (b.t.trans I) g L⟩
theorem o9(T:Txt K mg a)(I:Bm mg base)(N:Nat)(X:FnOk P w K mg base CX0 (gnD N 5+2) a.f_u a.d_u ["node","go"] (spBe K a N 5)):FnOk P w K mg base CX0 (gnD N 5+3) a.x_a a.y_a ["self","crowd"] (spRNode K a (N+1)):=by
 have h7:7<=gnD N 5+2:=by show 7<=21*N+10+3*5+2;lia
 have C:FnOk P w K mg base CX0 (gnD N 5+2) _ _ _ spParted:=(gG T).mono (by lia);have k:FnOk P w K mg base CX0 (gnD N 5+2) _ _ _ spOuter:=(mQ T).mono (by lia);have L:FnOk P w K mg base CX0 (gnD N 5+2) _ _ _ (spFNode K a):=(j0 T I).mono (by lia);have R:FnOk P w K mg base CX0 (gnD N 5+2) _ _ _ (spSNode K a):=(jz T I).mono (by lia);have O:FnOk P w K mg base CX0 (gnD N 5+2) _ _ _ (spLNode K a):=(j4 T I).mono (by lia);refine T.F_a.okF T.lcd_a sc_a (by decide +kernel) (λvs H Q E h=>?_) (λA outer s H vs Q E hr h=>?_)
 .obtain⟨n,v,p,r,l,Y,y,Z,hn,rfl,_⟩:=h;rfl
 .obtain⟨n,v,p,r,l,Y,y,Z,hn,rfl,⟨x,G,u,z,rfl,F,hu,hz⟩,hf,hh,f,hl,hC,o,hT,q⟩:=h
  have pk:=dw f;refine⟨_,(dG (aF (i:=2) sc_a.nd rfl (Or.inr rfl) (av C hr rfl T.m_ab T.F_ab.kp T.B_ab .nil ao (aa (vr 1) ae))) (dG (aF (i:=3) sc_a.nd rfl (Or.inr rfl) (bV (vr 0) rfl)) (dG (aF (i:=4) sc_a.nd rfl (Or.inl rfl) (PE.or (aJ (bV (vr 0) rfl) T.cl_x T.mt_G L hr T.B_G .nil ao (aa (av k hr rfl T.m_d T.F_d.kp T.B_d .nil ao (aa (vr 2) ae)) ae)) (PE.or (aJ (bV (vr 0) rfl) T.cl_f T.mt_r R hr T.B_r .nil ao (aa (av k hr rfl T.m_d T.F_d.kp T.B_d .nil ao (aa (vr 2) ae)) ae)) (aJ (bV (vr 0) rfl) T.cl_g T.mt_s O hr T.B_s .nil ao (aa (av k hr rfl T.m_d T.F_d.kp T.B_d .nil ao (aa (vr 2) ae)) ae))))) (mi sc_a.nd (by decide +kernel) X hr rfl T.m_u T.F_u.kp T.B_u .nil (aa (vr 4) (aa (eY (d:=cm) rfl T.lch_a I rfl (by with_unfolding_all rfl) rfl (kf a) (.head _) T.tnd kh) ae)))))),?_⟩;refine⟨l,y,Y,rfl,hl,hC,by rw[<- hC.len];exact f.len.2,λm hm=>⟨λz=>by have:=(f.path m hm).1;rw[z]at this;simp at this,(f.path m hm).2⟩,λH1 rg ys s1 hr1 hgs=>?_⟩;refine⟨x,_,G,_,_,rfl,s1 _ _ F,T.cl_c,T.na_First_inside,rfl,?_⟩;have M:=cK s1.t;refine Or.imp (λh=>⟨x,_,G,_,_,rfl,s1 _ _ F,T.cl_c,T.na_First_outside,rfl,h⟩) (Or.imp (λh=>⟨x,_,G,_,_,rfl,s1 _ _ F,T.cl_c,T.na_First_outside,rfl,h⟩) λh=>⟨x,_,G,_,_,rfl,s1 _ _ F,T.cl_c,T.na_First_outside,rfl,h⟩) ?_;refine p9 (λP=>spOuter [.ref rg] H1 P _) (λP h=>⟨.ref rg,parts y,rfl,⟨rg,ys,rfl,hr1,hgs⟩,by have:=pk.len;lia,λc f=>(pk.each c f).len.2,λH2 l2 xs2 s2 _ h2 hC2=>h H2 l2 xs2 s2 h2 hC2⟩) (hu.n M) hf (jT f) (o.t s1.t) (hT.same s1) λH2 s2 H3 w t3 hT3 hnd=>?_
  refine⟨hT3,λf1 c1 H4 t4 S n1 J W=>λH5 s5 hc5 hfr=>?_⟩;have t5:=t4.trans s5.t;have D:=s2.t.trans (t3.trans t5);have j:=s1.t.trans D;have B:=o.t (s1.t.trans (s2.t.trans (t3.trans t4)));have e:=o.t j;have nc:=(cK j).trans (g9 e);have g:=(cK D).trans (g9 e);have nI:=hfr "inside" _ (by with_unfolding_all rfl);have nG:=hfr "groups" _ (by with_unfolding_all rfl);refine⟨n,w,.ref f1,Nst.nT p (Nst.outer (parts y)),_,_,Z,by lia,rfl,e,(hnd.up (Nat.zero_le n)).t (bg t5),.inr ⟨z,.ref rg,_,r,parts y,Nat.le_refl 5,ik B s5 (s5 _ _ J) (s5 _ _ W) rfl (by simp) (.cons (hc5 3 _ _ _ rfl rfl (by with_unfolding_all rfl)) (.cons (hc5 2 _ _ _ rfl rfl (by with_unfolding_all rfl)) .nil)) (λb hb=>?_),hz.n nc,hh,⟨rg,ys,rfl,g _ _ rfl hr1,aA (CrL.n g) hgs⟩,rfl,rfl⟩,λks hks=>iu f hf hks,S.same s5,λH' w' t' hT' hN=>q _ _ (j.trans t') hT' hN⟩
  rcases mem_cons.mp hb with rfl | hb;exact nI
  rw[mem_singleton.mp hb];exact nG
theorem ib(T:Txt K mg a)(b:Bm mg base):∀ N,FnOk P w K mg base CX0 (nd N) a.x_t a.y_t ["self","crowd"] (spENode K a N)/\FnOk P w K mg base CX0 (nd N) a.x_a a.y_a ["self","crowd"] (spRNode K a N)
 | 0=>⟨⟨λc H Q E h=>by obtain⟨n,_,_,_,_,_,_,hn,_⟩:=h;lia,λA outer s H args us c Q E hr e0 hb r hsp=>by obtain⟨n,_,_,_,_,_,_,hn,_⟩:=hsp;lia⟩,⟨λc H Q E h=>by obtain⟨n,_,_,_,_,_,_,_,hn,_⟩:=h;lia,λA outer s H args us c Q E hr e0 hb r hsp=>by obtain⟨n,_,_,_,_,_,_,_,hn,_⟩:=hsp;lia⟩⟩
 | N+1=>by
  obtain⟨d,e⟩:=ib T b N;refine⟨(qG T b N (lh T b N d e 5 (by lia))).mono ?_,(o9 T b N (pC T b N d e)).mono ?_⟩
  .show 21*N+10+3*5+1<=21*(N+1)+8;lia
  .show 21*N+10+3*5+3<=21*(N+1)+8;lia
theorem pv(T:Txt K mg a)(b:Bm mg base):∀ N,LamOkC P w K mg base (nd N+2) aZ fvC [] (mD K a N)
 | 0=>by
  intro A e s H f c h u p g Q E o y x q i l v r d;obtain⟨n,_,_,_,_,_,_,_,_,z,_⟩:=d;lia
 | N+1=>by
  obtain⟨j,m⟩:=ib T b N;have B:=tO T b N (pC T b N j m);have C:=pv T b N;exact LamOkC.mono (sF T b N (k:=21*N+28) (by lia) (LamOkC.mono B (by show 21*N+10+3*5+2+1<=_;lia)) (LamOkC.mono C (by show 21*N+8+2<=_;lia))) (by show _<=21*(N+1)+8+2;lia)
end
end My
namespace Nst
open FrM Tb PySem
theorem lX:∀(ps:List (Int×Tr)) (k:Nat) (t m:Int) (u:Tr),(∀ p∈ps,0<=p.1)->ps[k]? = some (m,u)->tot (ps.take k)<=t->t<tot (ps.take (k+1))->dM ps t=some u
 | [],k,t,m,u,_,h,_,_=>by simp at h
 | (m0,u0)::r,0,t,m,u,c,h,h0,h1=>by
  simp at h;obtain⟨rfl,rfl⟩:=h;unfold dM;rw[if_pos (by simpa[tot] using h1)]
 | (m0,u0)::r,k+1,t,m,u,c,h,h0,h1=>by
  have e:tot (((m0,u0)::r).take (k+1))=m0+tot (r.take k):=by simp[tot]
  have g:tot (((m0,u0)::r).take (k+1+1))=m0+tot (r.take (k+1)):=by simp[tot]
  have d:∀(l:List (Int×Tr)),(∀ p∈l,0<=p.1)->0<=tot l:=λl=>by
   induction l with
   | nil=>intro _;simp[tot]
   | cons x l ih =>
    intro h;have a:=h x (mem_cons_self ..);have b:=ih λp c=>h p (mem_cons_of_mem _ c)
    have:tot (x::l)=x.1+tot l:=by simp[tot]
    omega
  have f:=d (r.take k) λp h=>c p (mem_cons_of_mem _ (mem_of_mem_take h))
  unfold dM;rw[if_neg (by omega)];exact lX r k (t - m0) m u (λp h=>c p (mem_cons_of_mem _ h)) (by simpa using h) (by omega) (by omega)
theorem nj{ps:List (Int×Tr)}{k:Nat}{m:Int}{u:Tr}(h:ps[k]? = some (m,u)):tot (ps.take (k+1))=tot (ps.take k)+m:=by
 rw[take_add_one,h];simp[tot]
theorem tI{x:Int}{r:List Int}{w:Nat}{t:List Int}(h:r.length+1<=w):fT (x::r) w t=fT r (w - 1) (t++[x]):=by
 rw[fT_all (by rw[length_cons];exact h),fT_all (by lia),if_neg (by lia)]
 by_cases c:w - 1=0
 .rw[if_pos c]
  have:r=[]:=length_eq_zero_iff.mp (by lia);rw[this]
 .rw[if_neg c,append_assoc]
  rfl
theorem rh(x:Int)(r:List Int)(t:List Int):fT (x::r) 0 t=fT r 0 t:=by rw[fT_zero,fT_zero]
theorem uX{x:Int}{r:List Int}{w:Nat}{t:List Int}{rest r':Int}{ns:List Int}{th:List (Int×Int)}(b:w<r.length+1)(h:rest % ((r.length:Int)+1)<(w:Int))(k:Rn (fT r (w - 1) (t++[x])) (rest/((r.length:Int)+1)) ns th r'):Rn (fT (x::r) w t) rest ns ((rest % ((r.length:Int)+1),(r.length:Int)+1)::th) r':=by
 have c:=Int.emod_nonneg rest (show((r.length:Int)+1)≠0 by lia);rw[fT_die (by lia) (by rw[length_cons];exact b)]
 have a:tot [((w:Int),fT ((x::r).drop 1) (w - 1) (t++(x::r).take 1)),(((x::r).length:Int) - (w:Int),fT ((x::r).drop 1) w t)]=(r.length:Int)+1:=by
  simp[tot];lia
 have:=Rn.die (ps:=[((w:Int),fT ((x::r).drop 1) (w - 1) (t++(x::r).take 1)),(((x::r).length:Int) - (w:Int),fT ((x::r).drop 1) w t)]) (u:=fT r (w - 1) (t++[x])) (r:=rest) (r':=r') (ns:=ns) (th:=th) (by rw[a];lia) (by rw[a];unfold dM;rw[if_pos h];rfl) (by rw[a];exact k);rw[a]at this;exact this
theorem sH{x:Int}{r:List Int}{w:Nat}{t:List Int}{rest r':Int}{ns:List Int}{th:List (Int×Int)}(c:0<w)(b:w<r.length+1)(h:¬rest % ((r.length:Int)+1)<(w:Int))(k:Rn (fT r w t) (rest/((r.length:Int)+1)) ns th r'):Rn (fT (x::r) w t) rest ns ((rest % ((r.length:Int)+1),(r.length:Int)+1)::th) r':=by
 have d:=Int.emod_lt_of_pos rest (show 0<((r.length:Int)+1) by lia);rw[fT_die c (by rw[length_cons];exact b)]
 have a:tot [((w:Int),fT ((x::r).drop 1) (w - 1) (t++(x::r).take 1)),(((x::r).length:Int) - (w:Int),fT ((x::r).drop 1) w t)]=(r.length:Int)+1:=by
  simp[tot];lia
 have:=Rn.die (ps:=[((w:Int),fT ((x::r).drop 1) (w - 1) (t++(x::r).take 1)),(((x::r).length:Int) - (w:Int),fT ((x::r).drop 1) w t)]) (u:=fT r w t) (r:=rest) (r':=r') (ns:=ns) (th:=th) (by rw[a];lia) (by rw[a];unfold dM;rw[if_neg h];unfold dM;rw[if_pos (by rw[length_cons];lia)];rfl) (by rw[a];exact k);rw[a]at this;exact this
theorem qP{p:Int}{c:Int×Int}{r:Tl}{t:List Int}{rest r':Int}{ns:List Int}{th:List (Int×Int)}(b:uns c=true)(h:rest % c.2<c.1)(k:Rn (lT r (t++[p])) (rest/c.2) ns th r'):Rn (lT ((p,c)::r) t) rest ns ((rest % c.2,c.2)::th) r':=by
 have b:=of_decide_eq_true b;have a:tot [(c.1,lT r (t++[p])),(c.2 - c.1,lT r t)]=c.2:=by simp[tot];lia
 have:=Rn.die (ps:=[(c.1,lT r (t++[p])),(c.2 - c.1,lT r t)]) (u:=lT r (t++[p])) (r:=rest) (r':=r') (ns:=ns) (th:=th) (by rw[a];lia) (by rw[a];unfold dM;rw[if_pos h]) (by rw[a];exact k);rw[a]at this;exact this
theorem oq{p:Int}{c:Int×Int}{r:Tl}{t:List Int}{rest r':Int}{ns:List Int}{th:List (Int×Int)}(b:uns c=true)(h:¬rest % c.2<c.1)(k:Rn (lT r t) (rest/c.2) ns th r'):Rn (lT ((p,c)::r) t) rest ns ((rest % c.2,c.2)::th) r':=by
 have b:=of_decide_eq_true b;have d:=Int.emod_lt_of_pos rest (show 0<c.2 by lia);have a:tot [(c.1,lT r (t++[p])),(c.2 - c.1,lT r t)]=c.2:=by simp[tot];lia
 have:=Rn.die (ps:=[(c.1,lT r (t++[p])),(c.2 - c.1,lT r t)]) (u:=lT r t) (r:=rest) (r':=r') (ns:=ns) (th:=th) (by rw[a];lia) (by rw[a];unfold dM;rw[if_neg h];unfold dM;rw[if_pos (by lia)]) (by rw[a];exact k);rw[a]at this;exact this
theorem pV(ps:List Int)(st:Nat):tot ((List.range st).map λf=>((1:Int),Tr.leaf (ba ps f st)))=(st:Int):=by
 unfold tot;rw[map_map];show((List.range st).map λ_=>(1:Int)).sum=_
 have a:∀ l:List Nat,(l.map λ_=>(1:Int)).sum=(l.length:Int):=λl=>by
  induction l with
  | nil=>rfl
  | cons x r ih=>rw[map_cons,sum_cons,ih,length_cons];lia
 rw[a,length_range]
theorem pY{ps:List Int}{st:Nat}{rest:Int}(h:st≠1)(m:0<st)(d:ps≠[]):Rn (stT ps st) rest (ba ps (rest % (st:Int)).toNat st) [(rest % (st:Int),(st:Int))] (rest/(st:Int)):=by
 have o:=Int.emod_nonneg rest (show(st:Int)≠0 by lia);have j:=Int.emod_lt_of_pos rest (show 0<(st:Int) by lia);unfold stT sT;rw[if_neg (by simp[h,d])];have b:=pV ps st
 obtain⟨f,hf⟩:∃ f:Nat,rest % (st:Int)=(f:Int):=⟨(rest % (st:Int)).toNat,by lia⟩
 have c:f<st:=by lia
 have g:((List.range st).map λf=>((1:Int),Tr.leaf (ba ps f st)))[f]? = some (1,Tr.leaf (ba ps f st)):=by
  rw[List.getElem?_map,List.getElem?_range c];rfl
 have a:∀ k:Nat,k<=st->tot (((List.range st).map λf=>((1:Int),Tr.leaf (ba ps f st))).take k)=(k:Int):=λk hk=>by
  unfold tot;rw[map_take,map_map];show(((List.range st).map λ_=>(1:Int)).take k).sum=_
  have:((List.range st).map λ_=>(1:Int)).take k=(List.range k).map λ_=>(1:Int):=by
   rw[<- map_take]
   congr 1
   rw[List.take_range,Nat.min_eq_left hk]
  rw[this]
  have i:∀ l:List Nat,(l.map λ_=>(1:Int)).sum=(l.length:Int):=λl=>by
   induction l with
   | nil=>rfl
   | cons x r ih=>rw[map_cons,sum_cons,ih,length_cons];lia
  rw[i,length_range]
 have e:=lX _ f (f:Int) 1 _ (λp d=>by obtain⟨_,_,rfl⟩:=mem_map.mp d;exact(by decide:(0:Int)<=1)) g (by rw[a f (by lia)];exact Int.le_refl _) (by rw[a (f+1) (by lia)];lia);have:=Rn.die (ps:=(List.range st).map λf=>((1:Int),Tr.leaf (ba ps f st))) (u:=Tr.leaf (ba ps f st)) (r:=rest) (r':=rest/(st:Int)) (ns:=ba ps f st) (th:=[]) (by rw[b];lia) (by rw[b,hf];exact e) (by rw[b];exact .leaf _ _);rw[b]at this;rw[show(rest % (st:Int)).toNat=f by lia];exact this
end Nst
namespace My
open PySem L2 FrM Nst
open Tb (Tr fT lT sT ba bnd d7 tot so)
inductive spCan(a:Ad)(vs:List V)(H:Hp)(Q:VK)(_E:XK):Prop
 | mk(v:V)(rs:List (Int×V))(t:Int)(h0:vs=[v,.int t])(h1:IsRaw a H v rs)(h2:0<=t)(h3:t<pZ rs)(h4:∀ H',Same H H'->Q (.bl true) H'):spCan a vs H Q _E
inductive spDA(K:Frag)(a:Ad)(N:Nat)(vs:List V)(H:Hp)(Q:VK)(_E:XK):Prop
 | mk(v:V)(ps:List (Int×Tr))(u:Tr)(t:Int)(h0:vs=[v,.int t])(h1:IsNd K a N H v (.die ps))(h2:0<=t)(h3:t<tot ps)(h4:dM ps t=some u)(h5:TabsOk (tabs a) H)(h6:Res K a N H [] u Q):spDA K a N vs H Q _E
inductive spDrawn(K:Frag)(a:Ad)(N:Nat)(vs:List V)(H:Hp)(Q:VK)(_E:XK):Prop
 | mk(v:V)(l:Addr)(t:Tr)(r r':Int)(ns:List Int)(th:List (Int×Int))(h0:vs=[v,.ref l])(h1:IsNd K a N H v t)(h2:Rn t r ns th r')(h3:H l=some (.lst ((th.map (·.1)).map V.int)))(h4:TabsOk (tabs a) H)(h5:∀ H' k,SameT H H'->TabsOk (tabs a) H'->H' k=some (.tup ((so ns).map V.int))->Q (.ref k) H'):spDrawn K a N vs H Q _E
section
variable {P:Program}{w:World}{K:Frag}{mg:Str->Option Value}{base:Heap}{a:Ad}
theorem tB(T:Txt K mg a):FnOk P w K mg base CX0 2 a.f_I a.d_I ["node","throw"] (spCan a):=by
 have b:FnOk P w K mg base CX0 1 _ _ _ spIsW:=tG T;have e:FnOk P w K mg base CX0 1 _ _ _ (spV (.int 0)):=u6 T;have d:FnOk P w K mg base CX0 1 _ _ _ (v5 a):=vb T;refine T.F_I.ok iV (λj H Q E h=>?_) (λcdv A outer s H j Q E hr h=>?_)
 .obtain⟨v,c,t,rfl,_⟩:=h;rfl
 .obtain⟨v,c,t,rfl,f,r,o,q⟩:=h
  obtain⟨x,i,l,p,rfl,g,_⟩:=id f;refine⟨_,(aj (ay (av b hr rfl T.m_ac T.F_ac.kp T.B_ac .nil ao (aa (vr 1) (aa ag (aa (aD eO (PE.or (bB (vr 0) T.cl_i T.mt_M e hr T.B_M .nil ao) (bB (vr 0) T.cl_p T.mt_T d hr T.B_T .nil ao)) ag) ae)))))),?_⟩;refine .inr ⟨x,i,_,rfl,g,rfl,_,c,rfl,f,λm k=>?_⟩;refine⟨t,0,pZ c - 1,rfl,?_⟩;rw[decide_eq_true (show 0<=t/\t<=pZ c - 1 by lia)];exact q _ k
theorem vq(T:Txt K mg a)(G:Bm mg base)(N:Nat):FnOk P w K mg base CX0 (nd N+3) a.x_H a.y_H ["self","throw"] (spDA K a N):=by
 have I:LamOkC P w K mg base (nd N+2) _ _ _ (tU K a):=LamOkC.mono (vj T G) (by lia);have Y:LamOkC P w K mg base (nd N+2) _ _ _ (tX K a):=LamOkC.mono (vD T G) (by lia);have S:LamOkC P w K mg base (nd N+2) _ _ _ (uv K a):=LamOkC.mono (vc T G) (by lia);have z:LamOkC P w K mg base (nd N+2) _ _ _ (ug K a):=LamOkC.mono (vG T G) (by lia);have B:LamOkC P w K mg base (nd N+2) _ _ _ (tT K a):=LamOkC.mono (u9 T G) (by lia);have C:LamOkC P w K mg base (nd N+2) _ _ _ (mD K a N):=pv T G N;have ad:FnOk P w K mg base CX0 (nd N+2) _ _ _ (spCan a):=(tB T).mono (by lia);refine T.F_H.ok sc_H (λvs H Q E h=>?_) (λcdv A outer s H vs Q E hr h=>?_)
 .obtain⟨v,j,u,t,rfl,_⟩:=h;rfl
 .obtain⟨v,j,u,t,rfl,hd,t0,t1,as,hT,q⟩:=h
  refine⟨_,(ai (aR (d9 (gU (av ad hr rfl T.m_I T.F_I.kp T.B_I .nil ao (aa (vr 0) (aa (vr 1) ae))))) (aj gx) aH) (ai (aF (i:=2) sc_H.nd rfl (Or.inl rfl) ag) (ai (aF (i:=3) sc_H.nd rfl (Or.inl rfl) (aD eO (aB ax (aB ax (bV (vr 0) rfl) ag (λ_ _=>rfl)) ag (λ_ _=>rfl)) ag)) (ai (eF PassesOwn.never (aK ln (vr 3) (vr 1) (aI _)) (ai (nZ (i:=2) sc_H.nd rfl (Or.inl rfl) ag tq) (aj (nZ (i:=3) sc_H.nd rfl (Or.inl rfl) (aB ax (aB ax (bV (vr 0) rfl) (vr 2) (λ_ _=>rfl)) ag (λ_ _=>rfl)) tq)))) (ai (i6 (aB ax (bV (vr 0) rfl) (vr 2) (λ_ _=>rfl)) (dN rfl (az (aw (i:=4) sc_H.nd rfl (Or.inl rfl)) (az (aw (i:=5) sc_H.nd rfl (Or.inl rfl)) bi)))) (aj (ay (PE.or (bU (vr 5) I hr) (PE.or (bU (vr 5) Y hr) (PE.or (bU (vr 5) S hr) (PE.or (bU (vr 5) z hr) (PE.or (bU (vr 5) B hr) (bU (vr 5) C hr))))))))))))),u7 ?_⟩;intro a3 a7 a6 a2 a5;obtain⟨an,D,J⟩:=lE hd;refine⟨v,an,t,rfl,D,t0,by rw[lw J];exact t1,λH1 s1=>?_⟩;have aS:=hd.t s1.t;have a0:=hT.same s1;obtain⟨x,dx,l,F,rfl,hx,hl,Z,a4,a1⟩:=id aS
  have O:∀ p∈j,0<=p.1:=λp hp=>by
   obtain⟨i,hi⟩:=List.getElem?_of_mem hp;have al:i<F.length:=by rw[<- Z.length];exact(List.getElem?_eq_some_iff.mp hi).1
   obtain⟨p',R,_,_,_,_,h3,_⟩:=aL Z (List.getElem?_eq_getElem al);rw[hi]at R;cases R;lia
  have yl:F.length=j.length:=Z.length.symm
  have y:∀ k:Nat,k<j.length->∃ o f d u,F[k]? = some (.ref o)/\j[k]? = some (d,u)/\H1 o=some (.tup [.int d,f])/\IsMk K a N H1 f u:=λk hk=>by
   have ah:k<F.length:=by lia
   have e:F[k]? = some F[k]:=List.getElem?_eq_getElem ah;obtain⟨⟨d,u⟩,m,o,f,e2,ab,_,h3⟩:=aL Z e;exact⟨o,f,d,u,by rw[e,e2],m,ab,h3⟩
  obtain⟨qz,fz,mz,uz,yz,pz,hz,_⟩:=y 0 (by lia);refine⟨x,_,dx,_,_,rfl,hx,T.cl_p,T.na_Die_makes,rfl,.inl ⟨l,_,_,_,rfl,rfl,SqL.of hl,bK 0 rfl yz,.inr (.inl ⟨qz,_,_,_,rfl,rfl,SqT.of hz,bK 0 rfl rfl,?_⟩)⟩⟩;have tz:tot (j.take 1)=mz:=by rw[nj pz];simp[tot]
  refine⟨λk σ H'=>H'=H1/\∃(b:Nat) (g:Int) (x4 x5:Option V),σ=[some (.ref x),some (.int t),some (.int (b:Nat)),some (.int g),x4,x5]/\b<j.length/\g=tot (j.take (b+1)) - 1/\tot (j.take b)<=t/\k=j.length - b,⟨_,rfl,0,_,_,_,rfl,by lia,by rw[tz],by simpa[tot] using t0,rfl⟩,?_⟩;rintro k σ H' ⟨rfl,b,g,x4,x5,rfl,hn,r,X,rfl⟩;refine ifC (λc=>?_) λc=>?_
  .have c:g<t:=c
   have M:b+1<j.length:=by
    rcases Nat.lt_or_ge (b+1) j.length with h | h
    .exact h
    .rw[take_of_length_le h]at r;lia
   obtain⟨o,f,d,u,hy,m,hq,_⟩:=y (b+1) M
   let Pw2:St->Hp->Prop:=λW L=>L=H'/\W=[some (.ref x),some (.int t),some (.int ((b+1:Nat):Int)),some (.int (g+d)),x4,x5]
   refine⟨Pw2,?_,?_⟩
   .rintro W L ⟨rfl,rfl⟩
    exact⟨_,by lia,rfl,b+1,_,_,_,rfl,M,by rw[nj m];lia,by lia,rfl⟩
   .refine⟨_,rfl,_,_,rfl,rfl,_,rfl,?_⟩
    exact⟨x,_,dx,_,_,rfl,hx,T.cl_p,T.na_Die_makes,rfl,.inl ⟨l,_,_,_,rfl,rfl,SqL.of hl,bK (b+1) (by show(b:Int)+1=((b+1:Nat):Int);lia) hy,.inr (.inl ⟨o,_,_,_,rfl,rfl,SqT.of hq,bK 0 rfl rfl,_,_,rfl,rfl,rfl,by rw[show((b+1:Nat):Int)=(b:Int)+1 by lia];rfl⟩)⟩⟩
  .have c:¬g<t:=c
   obtain⟨o,f,d,u,hy,m,hq,hf⟩:=y b hn;have eu:=lX j b t d u O m X (by lia);rw[as]at eu;cases eu;refine⟨x,_,dx,_,_,rfl,hx,T.cl_p,T.na_Die_makes,rfl,.inl ⟨l,_,_,_,rfl,rfl,SqL.of hl,bK b (by lia) hy,o,_,rfl,SqT.of hq,rfl,_,_,rfl,_,_,rfl,rfl,?_⟩⟩;exact ma (Bd:=[]) (n:=N) (ml _) a0 (Nat.le_refl N) (by rw[fB];exact hf) λH2 v2 t2 ap nd=>q _ _ (s1.t.trans t2) ap nd
theorem tH(T:Txt K mg a)(hB:Bm mg base)(N:Nat):FnOk P w K mg base CX0 (nd N+4) a.f_al a.d_al ["node","throws"] (spDrawn K a N):=by
 have Y:FnOk P w K mg base CX0 (nd N+3) _ _ _ (spCan a):=(tB T).mono (by lia);have ah:FnOk P w K mg base CX0 (nd N+3) _ _ _ (spDA K a N):=vq T hB N;have ad:FnOk P w K mg base CX0 (nd N+3) _ _ _ (spV (.bl true)):=(tD T).mono (by lia);have G:FnOk P w K mg base CX0 (nd N+3) _ _ _ (spV (.bl false)):=(rL T).mono (by lia);have an:FnOk P w K mg base CX0 (nd N+3) _ _ _ (ua a):=(sj T).mono (by lia);have ap:FnOk P w K mg base CX0 (nd N+3) _ _ _ (spV .non):=(sW T).mono (by lia);refine T.F_al.ok sc_al (λvs H Q E h=>?_) (λcdv A outer s H vs Q E hr h=>?_)
 .obtain⟨v,l,t,r,r',S,k,rfl,_⟩:=h;rfl
 .obtain⟨v,l,t,r,r',S,k,rfl,R,as,hl,hT,q⟩:=h
  refine⟨_,(ai (aF (i:=2) sc_al.nd rfl (Or.inl rfl) (vr 0)) (ai (dU PassesOwn.never rfl (eR rfl T.z_enumerate (aa (vr 1) ae)) (dN rfl (az (aw (i:=3) sc_al.nd rfl (Or.inl rfl)) (az (aw (i:=4) sc_al.nd rfl (Or.inl rfl)) bi))) (ai (aR (d9 (gU (av Y hr rfl T.m_I T.F_I.kp T.B_I .nil ao (aa (vr 2) (aa (vr 4) ae))))) (aj gx) aH) (aj (aF (i:=2) sc_al.nd rfl (Or.inl rfl) (aJ (vr 2) T.cl_p T.mt_H ah hr T.B_H .nil ao (aa (vr 4) ae)))))) (ai (aR (d9 (gU (PE.or (bB (vr 2) T.cl_i T.mt_v ad hr T.B_v .nil ao) (bB (vr 2) T.cl_p T.mt_z G hr T.B_z .nil ao)))) (aj gx) aH) (aj (ay (PE.or (bB (vr 2) T.cl_i T.mt_K an hr T.B_K .nil ao) (bB (vr 2) T.cl_p T.mt_O ap hr T.B_O .nil ao))))))),ny ?_⟩;intro a3 a1 a2
  let Pw1:PvS:=λi C f=>SameT H f/\TabsOk (tabs a) f/\∃(b:V) (Z M:Option V) (B:Tr) (r1:Int),C=[some v,some (.ref l),some b,Z,M]/\IsNd K a N f b B/\Rn B r1 S (k.drop i) r'
  refine⟨l,_,rfl,hl,jI (a:=l) (xs:=(k.map (·.1)).map V.int) Pw1 ⟨SameT.refl,hT,v,none,none,t,r,rfl,R,as⟩ (λi C f h=>h.1.at hl) ?_ ?_⟩
  .rintro i x C f p d ⟨t1,g,b,Z,M,B,r1,rfl,j,c⟩ hp
   rw[List.getElem?_map,List.getElem?_map]at d;cases hri:k[i]? with
   | none=>rw[hri]at d;cases d
   | some rr =>
    obtain⟨D,sz⟩:=rr;rw[hri]at d;cases d
    have F:k.drop i=(D,sz)::k.drop (i+1):=by
     obtain⟨hi,e⟩:=List.getElem?_eq_some_iff.mp hri;rw[drop_eq_getElem_cons hi,e]
    rw[F]at c;obtain⟨ps,u,rfl,rfl,t0,tt,O,I⟩:=c.cons;have X:Same f (upd f p (.tup [.int (i:Nat),.int D])):=Same.new hp;have hd:=j.t X.t;refine⟨p,_,rfl,SqT.of ac,rfl,_,_,rfl,_,_,rfl,rfl,?_⟩;obtain⟨rs,m,ab⟩:=lE hd;refine⟨b,rs,D,rfl,m,t0,by rw[lw ab];exact tt,λH2 J=>?_⟩;have z:=hd.t J.t;obtain⟨x,o,l',a0,rfl,al,_⟩:=id z;refine⟨x,o,_,rfl,al,rfl,_,ps,u,D,rfl,z,t0,tt,O,(g.same X).same J,λH3 v' t4 aS y=>?_⟩;rw[fB]at y;exact⟨t1.trans (X.t.trans (J.t.trans t4)),aS,v',_,_,u,_,rfl,y,I⟩
  .rintro C f ⟨t1,g,b,Z,M,B,r1,rfl,j,c⟩
   rw[length_map,length_map,List.drop_length]at c;have e:=c.nil;subst e;obtain⟨x,o,kt,W,rfl,d,L,hs⟩:=j;have en:W=Tb.so S:=Tb.so_uniq hs.1 hs.2;subst en;refine .inl ⟨x,o,_,rfl,d,rfl,_,rfl,?_⟩;exact .inl ⟨x,o,_,rfl,d,rfl,x,o,kt,rfl,d,q _ kt t1 g L⟩
end
end My
namespace Nst
open FrM Tb PySem
structure Bnd(t:Tr)(lo hi:Int):Prop where
 lo0:0<=lo
 hi0:0<=hi
 at':∀ ks,Lf t ks->lo<=(ks.length:Int)/\(ks.length:Int)<=hi
theorem j8:∀{L T:List Int}{m:Nat},L.Pairwise (·<=·)->(∀ x∈L,0<=x)->T.Sublist L->m<=T.length->(L.take m).sum<=T.sum
 | L,T,0,_,h0,hs,_=>by
  rw[take_zero];exact gy λx b=>h0 x (hs.subset b)
 | [],T,m+1,_,_,hs,hm=>by
  have:=hs.length_le;simp at this;rw[this]at hm;simp at hm
 | x::L,T,m+1,hp,h0,hs,hm=>by
  rw[pairwise_cons]at hp;rw[List.take_succ_cons,sum_cons];cases hs with
  | cons_cons _ hs =>
   rw[length_cons]at hm;have:=j8 (m:=m) hp.2 (λy a=>h0 y (mem_cons_of_mem _ a)) hs (by lia);rw[sum_cons];lia
  | cons _ hs =>
   cases T with
   | nil=>simp at hm
   | cons y T =>
    rw[length_cons]at hm;have a:=hp.1 y (hs.subset mem_cons_self);have:=j8 (m:=m) hp.2 (λy a=>h0 y (mem_cons_of_mem _ a)) ((List.sublist_cons_self y T).trans hs) (by lia);rw[sum_cons];lia
theorem iK:∀{L T:List Int}{m:Nat},L.Pairwise (· >= ·)->(∀ x∈L,0<=x)->T.Sublist L->T.length<=m->T.sum<=(L.take m).sum
 | [],T,m,_,_,hs,_=>by
  cases hs;simp
 | x::L,T,0,_,h0,hs,hm=>by
  have:T=[]:=length_eq_zero_iff.mp (by lia);rw[this];simp
 | x::L,T,m+1,hp,h0,hs,hm=>by
  rw[pairwise_cons]at hp;rw[List.take_succ_cons,sum_cons];cases hs with
  | cons_cons _ hs =>
   rw[length_cons]at hm;have:=iK (m:=m) hp.2 (λy a=>h0 y (mem_cons_of_mem _ a)) hs (by lia);rw[sum_cons];lia
  | cons _ hs =>
   cases T with
   | nil =>
    have b:=h0 x mem_cons_self;have c:=gy (z:=L.take m) λy a=>h0 y (mem_cons_of_mem _ (mem_of_mem_take a))
    rw[sum_nil];lia
   | cons y T =>
    rw[length_cons]at hm;have a:=hp.1 y (hs.subset mem_cons_self);have:=iK (m:=m) hp.2 (λy a=>h0 y (mem_cons_of_mem _ a)) ((List.sublist_cons_self y T).trans hs) (by lia);rw[sum_cons];lia
theorem kC{a b:List Int}(h:a.Perm b):a.sum=b.sum:=by
 induction h with
 | nil=>rfl
 | cons x _ ih=>rw[sum_cons,sum_cons,ih]
 | swap x y l=>simp only[sum_cons];lia
 | trans _ _ i1 i2=>rw[i1,i2]
inductive Bnds(f:List Mb->Tr):List (List Mb)->List (Int×Int)->Prop
 | nil:Bnds f [] []
 | cons {c:List Mb}{gs:List (List Mb)}{b:Int×Int}{bs:List (Int×Int)}:Bnd (f c) b.1 b.2->Bnds f gs bs->Bnds f (c::gs) (b::bs)
theorem Bnds.snoc{f:List Mb->Tr}{c:List Mb}{b:Int×Int}:∀{gs:List (List Mb)}{bs:List (Int×Int)},Bnds f gs bs->Bnd (f c) b.1 b.2->Bnds f (gs++[c]) (bs++[b])
 | _,_,.nil,h=>.cons h .nil
 | _,_,.cons x t,h=>.cons x (t.snoc h)
theorem Bnds.len{f:List Mb->Tr}{a:List (List Mb)}{b:List (Int×Int)}(h:Bnds f a b):b.length=a.length:=by
 induction h with
 | nil=>rfl
 | cons _ _ ih=>rw[length_cons,length_cons,ih]
theorem Bnds.pos{f:List Mb->Tr}{c:List (List Mb)}{a:List (Int×Int)}(h:Bnds f c a):∀ b∈a,0<=b.1/\0<=b.2:=by
 induction h with
 | nil=>intro b hb;cases hb
 | cons x _ ih =>
  intro b hb
  rcases mem_cons.mp hb with rfl | hb
  .exact⟨x.lo0,x.hi0⟩
  .exact ih b hb
theorem sV{f:List Mb->Tr}{d:List (List Mb)}{a:List (Int×Int)}(h:Bnds f d a):∀{tk ns:List Int},Lf (gT f d tk) ns->(tk.length:Int)+(a.map (·.1)).sum<=(ns.length:Int)/\(ns.length:Int)<=(tk.length:Int)+(a.map (·.2)).sum:=by
 induction h with
 | nil=>intro tk ns h;rw[eN h];simp
 | @cons c d b a x _ ih =>
  intro tk ns h;unfold gT at h;obtain⟨j,i,k⟩:=lH h rfl;obtain⟨l,m⟩:=x.at' j i;obtain⟨e,g⟩:=ih k;rw[length_append,jX]at e g;rw[map_cons,map_cons,sum_cons,sum_cons];lia
theorem sP{p:Pl}{e:List Mb}{c:List (Int×Int)}(h:Bnds (nT p) (parts e) c):Bnd (nT (.each p) e) (c.map (·.1)).sum (c.map (·.2)).sum:=by
 refine⟨gy λx a=>?_,gy λx a=>?_,λks hk=>?_⟩
 .obtain⟨b,d,rfl⟩:=mem_map.mp a;exact(h.pos b d).1
 .obtain⟨b,d,rfl⟩:=mem_map.mp a;exact(h.pos b d).2
 .have:=sV h (tk:=[]) hk
  simpa using this
theorem Bnds.sel{f:List Mb->Tr}{a:List (List Mb)}{b:List (Int×Int)}(h:Bnds f a b):∀{ks:List Int},(∀ k∈ks,0<=k/\k<a.length)->Bnds f (sel a ks) (ks.map λk=>b.getD k.toNat (0,0))
 | [],_=>.nil
 | k::ks,hk=>by
  have e:=hk k mem_cons_self;refine .cons ?_ (h.sel λj g=>hk j (mem_cons_of_mem _ g))
  have c:∀{a:List (List Mb)}{b:List (Int×Int)},Bnds f a b->∀ i:Nat,i<a.length->Bnd (f (a.getD i [])) (b.getD i (0,0)).1 (b.getD i (0,0)).2:=by
   intro a b h
   induction h with
   | nil=>intro i d;simp at d
   | cons x _ ih =>
    intro i d;cases i with
    | zero=>exact x
    | succ i=>exact ih i (by simpa using d)
  exact c h k.toNat (by lia)
theorem o8(a:List (Int×Int)):((List.range a.length).map λk:Nat=>a.getD k (0,0))=a:=by
 apply List.ext_getElem
 .rw[length_map,length_range]
 .intro i c b
  rw[List.getElem_map,List.getElem_range,List.getD_eq_getElem?_getD,List.getElem?_eq_getElem b];rfl
theorem qL{n:Nat}{p q:Pl}{d:List Mb}{a:List (Int×Int)}{u y:Nat}{j l:List Int}(O:Cok (n+1) d)(H:jH p)(K:Bnd (nT p (outer (parts d))) (u:Int) (y:Int))(h:Bnds (nT q) (parts d) a)(G:j.Perm (a.map (·.1)))(w:j.Pairwise (·<=·))(D:l.Perm (a.map (·.2)))(r:l.Pairwise (· >= ·)):Bnd (nT (.first p q) d) (j.take u).sum (l.take y).sum:=by
 have B:∀ x∈j,0<=x:=λx c=>by
  obtain⟨b,i,rfl⟩:=mem_map.mp (G.mem_iff.mp c);exact(h.pos b i).1
 have E:∀ x∈l,0<=x:=λx c=>by
  obtain⟨b,i,rfl⟩:=mem_map.mp (D.mem_iff.mp c);exact(h.pos b i).2
 refine⟨gy λx c=>B x (mem_of_mem_take c),gy λx c=>E x (mem_of_mem_take c),λks hk=>?_⟩;obtain⟨v,o,N⟩:=lH hk rfl;obtain⟨a1,W⟩:=K.at' v o;obtain⟨s,S,C⟩:=fN H o;have P:=iu O H o;have i:=h.sel P.2.2;have g:=sV i (tk:=[]) N;have M:=C.trans (so_perm v).symm;have A:s.length=v.length:=C.length_eq
 have f:(s.map λk:Int=>a.getD k.toNat (0,0)).Sublist a:=by
  have:=S.map λk:Int=>a.getD k.toNat (0,0)
  rw[iL,map_map]at this
  have e:((List.range (parts d).length).map ((λk:Int=>a.getD k.toNat (0,0)) ∘ λk:Nat=>(k:Int)))=a:=by
   rw[<- h.len];exact o8 a
  rw[e]at this;exact this
 have z:=M.map λk:Int=>a.getD k.toNat (0,0)
 obtain⟨T,I,L⟩:=List.exists_perm_sublist (f.map (·.1)) G.symm;obtain⟨U,F,Q⟩:=List.exists_perm_sublist (f.map (·.2)) D.symm;have Z:=kC (I.trans (z.map (·.1)));have e2:=kC (F.trans (z.map (·.2)));have J:=I.length_eq;have R:=F.length_eq;rw[length_map,length_map]at J R;have X:=j8 (m:=u) w B L (by lia);have Y:=iK (m:=y) r E Q (by lia);simp only[length_nil]at g;lia
theorem uo{m:Nat}{a:List Mb}:Bnd (nT (.few m) a) ((min m a.length:Nat):Int) ((min m a.length:Nat):Int):=by
 refine⟨by lia,by lia,λf b=>?_⟩;obtain⟨s,e,d,c⟩:=pQ b;rw[d,nil_append,c];unfold plc;rw[length_map];lia
end Nst
namespace L2
open PySem PySem.Spec PyProof.Rows
section
variable {X:Cx}{x:Str}{p kp pos:Pos}{e ek:Expr}{te tk:TE}
def rB(X:Cx)(te:TE):TE:=λσ H Q=>te σ H λv H1=>∃(l:Addr) (ns:List Int),v=.ref l/\SqL X.K H1 l (ns.map V.int)/\ns.length<64/\∀ q (ns':List Int),ns'.Perm ns->ns'.Pairwise (· >= ·)->H1 q=none->Q (.ref q) (upd H1 q (.lst (ns'.map V.int)))
theorem oU(S:Gl X x)(W:X.mg x=none)(Z:bootBuiltins x=some (.builtin "sorted"))(R:PE X e te)(G:PE X ek (λ_ H Q=>Q (.bl true) H))
  (m:x ≠ "__name__" := by decide) (k:(x == ("__debug__" : Str))=false:=by decide) (J:starEach [e] X.env=(false,eval e X.env)::starEach [] X.env:=by rfl) :
  PE X (.Call (.Name x p) [e] [⟨some "reverse",ek,kp⟩] pos) (rB X te):=by
 intro c s C H Q I h;refine wpAny_Call_Name_kw (fO I S W Z ?_ m k);have r:backTo pos (starEach [e] X.env)=(false,eval e X.env)::backTo pos (starEach [] X.env):=by rw[J];rfl
 refine callWith_kw ?_ r (by rw[r];rfl);rw[r];refine Calls.spliced_cons (thn (R c s C H _ I h) λu T ⟨v,B,E,P,O⟩=>?_);refine Calls.spliced_nil (kws_cons (thn (G c T C B (λv2 i=>v2=.bl true/\i=B) E ⟨rfl,rfl⟩) λuf s2 ⟨vf,i,I2,rf,ef,eH⟩=>?_));subst ef;subst eH;obtain rfl:uf=Value.bool true:=rf;obtain⟨l,K,rfl,Y,hl,q⟩:=O;obtain rfl:u=Value.ref l:=P;refine kws_nil ?_;obtain⟨g,y,L,hz⟩:=I2.list Y;have M:=ge y;have A:g.length=K.length:=by have:=y.length;rw[length_map]at this;exact this.symm
 refine sorted_ints_rev (b:=true) L.isList M (by lia) λd f N w F=>?_
 obtain⟨e,D⟩:=sortedAll_at s2.heap g d;have m:i (s2.heap.objs.size+1)=none:=I2.hok.fresh (Nat.le_succ _);have j:sizeLine=16777216:=sizeLine_eq;refine⟨.ref (s2.heap.objs.size+1),_,I2.laid (a:=s2.heap.objs.size+1) (o:=.lst (f.map V.int)) (t':=s2.toks) (λb u z=>sortedAll_old z) (Nat.le_succ _) ⟨?_,d.toList,e,ej N,?_⟩,rfl,q _ f w F m⟩
 .rw[length_map,w.length_eq];lia
 .rw[D,Array.toArray_toList]
end
end L2
namespace My
open PySem L2 FrM Nst
open Tb (Tr fT lT sT ba bnd d7 tot so)
theorem mO(fs:List (Int×Int))(t b:Int):cF fs t b=((fs.countP λf=>decide (f=(t,b)):Nat):Int):=by
 unfold cF pD;rw[countP_map]
 congr 1
 refine List.countP_congr λf _=>?_
 show PyData.eqv (.tuple [.int f.1,.int f.2]) (.tuple [.int t,.int b])=true↔_;rw[jM]
theorem qR{ps:List Int}{f st:Nat}(e:0<st)(d:f<st):(ba ps f st).length=cnt ps.length f st:=by
 unfold ba
 have b:∀ l:List Nat,(∀ k∈l,k<ps.length)->(l.filterMap (ps[·]?)).length=l.length:=λl=>by
  induction l with
  | nil=>intro _;rfl
  | cons x r ih =>
   intro h;have c:=h x mem_cons_self;rw[filterMap_cons,List.getElem?_eq_getElem c,length_cons,length_cons,ih λk a=>h k (mem_cons_of_mem _ a)]
 rw[b _ λk a=>mem_range.mp (mem_filter.mp a).1,gh e d,length_map,length_range]
theorem qQ{m:Nat}{a:List Mb}(k:1<=m):Bnd (nT (.start m) a) ((a.length:Int)/(m:Int)) (((a.length:Int)+(m:Int) - 1)/(m:Int)):=by
 have b:(plc a).length=a.length:=by unfold plc;rw[length_map]
 have d:(a.length:Int)/(m:Int)=((a.length/m:Nat):Int):=by norm_cast
 have g:((a.length:Int)+(m:Int) - 1)/(m:Int)=(((a.length+m - 1)/m:Nat):Int):=by
  rw[show(a.length:Int)+(m:Int) - 1=((a.length+m - 1:Nat):Int) by lia]
  norm_cast
 rw[d,g];refine⟨Int.natCast_nonneg _,Int.natCast_nonneg _,λo c=>?_⟩;have i:a.length/m<=a.length:=Nat.div_le_self _ _
 rcases rW c with⟨rfl,h⟩ | ⟨f,e,rfl⟩
 .rw[b]
  rcases h with rfl | h
  .rw[Nat.div_one,Nat.div_one];lia
  .have:a.length=0:=by rw[<- b,h];rfl
   rw[this,Nat.zero_div];lia
 .rw[qR (by lia) e,b]
  unfold cnt;have j:a.length/m<=(a.length - f+m - 1)/m:=Nat.div_le_div_right (by lia);have l:(a.length - f+m - 1)/m<=(a.length+m - 1)/m:=Nat.div_le_div_right (by lia);lia
theorem vA:∀ L:Tl,(cO L).length+(dk L).length+L.countP (λx=>decide (x.2=(0,1)))<=L.length
 | []=>Nat.le_refl _
 | x::r=>by
  have b:=vA r;unfold cO dk at *;rw[List.countP_cons,length_cons]
  by_cases c1:x.2=(1,1)
  .rw[filter_cons_of_pos (by exact decide_eq_true c1),filter_cons_of_neg (by rw[c1];decide),if_neg (by rw[c1];decide),map_cons,length_cons]
   lia
  .have a:(x::r).filter (λx=>decide (x.2=(1,1)))=r.filter λx=>decide (x.2=(1,1)):=filter_cons_of_neg (λz=>c1 (of_decide_eq_true z))
   rw[a]
   by_cases c2:x.2=(0,1)
   .rw[filter_cons_of_neg (by rw[c2];decide),if_pos (by exact decide_eq_true c2)]
    lia
   .rw[if_neg (λz=>c2 (of_decide_eq_true z))]
    have:=length_filter_le (λx:Int×(Int×Int)=>uns x.2) (x::r)
    by_cases c3:uns x.2=true
    .rw[filter_cons_of_pos (by exact c3),length_cons];lia
    .rw[filter_cons_of_neg (by exact c3)];lia
theorem kz{ps:List Int}{fs:List (Int×Int)}(h:fs.length<=ps.length)(g:Int×Int->Bool):(ps.zip fs).countP (λx=>g x.2)=fs.countP g:=by
 have:(ps.zip fs).map (·.2)=fs:=List.map_snd_zip h
 conv=>rhs;rw[<- this]
 rw[countP_map];rfl
theorem qN{m:Nat}{a:List Mb}:Bnd (nT (.loose m) a) (cF (due (szs a) (m:Nat)) 1 1) (((due (szs a) (m:Nat)).length:Int) - cF (due (szs a) (m:Nat)) 0 1):=by
 rw[mO,mO];have i:(due (szs a) (m:Nat)).length=a.length:=by rw[dc];unfold szs;rw[length_map]
 have l:(plc a).length=a.length:=by unfold plc;rw[length_map]
 have e:=kz (ps:=plc a) (fs:=due (szs a) (m:Nat)) (by lia) λf=>decide (f=(1,1))
 have g:=kz (ps:=plc a) (fs:=due (szs a) (m:Nat)) (by lia) λf=>decide (f=(0,1))
 have h:=vA (lsL a m);have j:=mj a m
 have o:(cO (lsL a m)).length=(due (szs a) (m:Nat)).countP λf=>decide (f=(1,1)):=by
  unfold cO;rw[length_map,<- List.countP_eq_length_filter];exact e
 have d:(lsL a m).countP (λx=>decide (x.2=(0,1)))=(due (szs a) (m:Nat)).countP λf=>decide (f=(0,1)):=g
 refine⟨Int.natCast_nonneg _,by lia,λk b=>?_⟩;obtain⟨s,c,rfl⟩:=pe b;have:=c.length_le;rw[length_map]at this;rw[length_append];lia
def RB(H:Hp)(t:Tr)(Q:VK):Prop:=∀ H' p lo hi,Same H H'->H' p=some (.tup [.int lo,.int hi])->Bnd t lo hi->Q (.ref p) H'
inductive spEB(a:Ad)(N:Nat)(vs:List V)(H:Hp)(Q:VK)(_E:XK):Prop
 | mk(n:Nat)(v:V)(p:Pl)(l:Addr)(xs:List V)(ms:List Mb)(h0:n+1<=N)(h1:vs=[v,.ref l])(h2:IsPn a H v (.each p))(h3:ht n p)(h4:Cok (n+1) ms)(h5:H l=some (.lst xs))(h6:CrAt H ms xs)(h7:RB H (nT (.each p) ms) Q):spEB a N vs H Q _E
inductive spRB(a:Ad)(N:Nat)(vs:List V)(H:Hp)(Q:VK)(_E:XK):Prop
 | mk(n:Nat)(v:V)(p r:Pl)(l:Addr)(xs:List V)(ms:List Mb)(h0:n+1<=N)(h1:vs=[v,.ref l])(h2:IsPn a H v (.first p r))(h3:jH p)(h4:ht n r)(h5:Cok (n+1) ms)(h6:H l=some (.lst xs))(h7:CrAt H ms xs)(h8:RB H (nT (.first p r) ms) Q):spRB a N vs H Q _E
theorem iG{a:Ad}{n N:Nat}{H:Hp}{v:V}{pl:Pl}{h:List Mb}{Q:VK}{D B C E A:XK}(W:(V->Hp->Prop)->Prop)(i:∀ P:V->Hp->Prop,(∀ H2 l xs,Same H H2->H2 l=some (.lst xs)->CrAt H2 h xs->P (.ref l) H2)->W P)(w:n<=N)(d:IsPn a H v pl)(g:ht n pl)(k:Cok n h)(q:∀ H2,Same H H2->RB H2 (nT pl h) Q) :
  (∃(b dx:Addr) (fs:List (Str×V)),v=.ref b/\H b=some (.ins a.c_x dx fs)/\fs.lookup ("bounds" : Str)=none/\W λy H1=>spBounds a [v,y] H1 Q D)\/(∃(b dx:Addr) (fs:List (Str×V)),v=.ref b/\H b=some (.ins a.c_f dx fs)/\fs.lookup ("bounds" : Str)=none/\W λy H1=>spSBo a [v,y] H1 Q B)\/(∃(b dx:Addr) (fs:List (Str×V)),v=.ref b/\H b=some (.ins a.c_g dx fs)/\fs.lookup ("bounds" : Str)=none/\W λy H1=>spLBo a [v,y] H1 Q C)\/(∃(b dx:Addr) (fs:List (Str×V)),v=.ref b/\H b=some (.ins a.c_l dx fs)/\fs.lookup ("bounds" : Str)=none/\W λy H1=>spEB a N [v,y] H1 Q E)\/(∃(b dx:Addr) (fs:List (Str×V)),v=.ref b/\H b=some (.ins a.c_c dx fs)/\fs.lookup ("bounds" : Str)=none/\W λy H1=>spRB a N [v,y] H1 Q A):=by
 have o:=k.len.2;cases pl with
 | few m =>
  obtain⟨x,dx,rfl,e⟩:=id d;refine .inl ⟨x,dx,_,rfl,e,rfl,i _ λH2 l xs s f c=>⟨_,m,l,xs,rfl,IsPn.n (cK s.t) d,f,λp fp=>?_⟩⟩;rw[<- c.len];exact q H2 s _ p _ _ (Same.new fp) ac uo
 | start m =>
  obtain⟨x,dx,rfl,e⟩:=id d
  have j:1<=m/\m<=100:=by cases n <;> exact g
  refine .inr (.inl ⟨x,dx,_,rfl,e,rfl,i _ λH2 l xs s f c=>⟨_,m,l,xs,rfl,IsPn.n (cK s.t) d,j.1,j.2,f,by rw[<- c.len];exact o,λH' p s' hp'=>?_⟩⟩);rw[<- c.len]at hp';exact q H2 s _ p _ _ s' hp' (qQ j.1)
 | loose m =>
  obtain⟨x,dx,rfl,e⟩:=id d
  have j:m<=24:=by cases n <;> exact g
  exact .inr (.inr (.inl ⟨x,dx,_,rfl,e,rfl,i _ λH2 l xs s f c=>⟨_,m,l,xs,h,rfl,IsPn.n (cK s.t) d,j,f,c,jE k,λH' p s' hp'=>q H2 s _ p _ _ s' hp' qN⟩⟩))
 | each p =>
  cases n with
  | zero=>exact g.elim
  | succ n =>
   obtain⟨x,dx,u,rfl,e,_⟩:=id d;exact .inr (.inr (.inr (.inl ⟨x,dx,_,rfl,e,rfl,i _ λH2 l xs s f c=>⟨n,_,p,l,xs,h,w,rfl,IsPn.n (cK s.t) d,g,k,f,c,q H2 s⟩⟩)))
 | first p r =>
  cases n with
  | zero=>exact g.elim
  | succ n =>
   obtain⟨x,dx,u,z,rfl,e,_⟩:=id d;exact .inr (.inr (.inr (.inr ⟨x,dx,_,rfl,e,rfl,i _ λH2 l xs s f c=>⟨n,_,p,r,l,xs,h,w,rfl,IsPn.n (cK s.t) d,g.1,g.2,k,f,c,q H2 s⟩⟩)))
def BdAt(H:Hp)(b:Int×Int)(z:V):Prop:=∃ q,z=.ref q/\H q=some (.tup [.int b.1,.int b.2])
theorem BdAt.tk{H a:Hp}(k:TK H a)(b:Int×Int)(z:V)(h:BdAt H b z):BdAt a b z:=let ⟨q,h1,h2⟩:=h;⟨q,h1,k _ _ h2⟩
section
variable {P:Program}{w:World}{K:Frag}{mg:Str->Option Value}{base:Heap}{a:Ad}
theorem mU(T:Txt K mg a)(N:Nat)(a0:FnOk P w K mg base CX0 (N+6) a.x_o a.y_o ["self","crowd"] (spEB a N))(as:FnOk P w K mg base CX0 (N+6) a.x_k a.y_k ["self","crowd"] (spRB a N)):FnOk P w K mg base CX0 (N+1+6) a.x_o a.y_o ["self","crowd"] (spEB a (N+1)):=by
 have ab:FnOk P w K mg base CX0 (N+6) _ _ _ spParted:=(gG T).mono (by lia);have ah:FnOk P w K mg base CX0 (N+6) _ _ _ (spBounds a):=(i4 T).mono (by lia);have ad:FnOk P w K mg base CX0 (N+6) _ _ _ (spSBo a):=(oa T).mono (by lia);have a1:FnOk P w K mg base CX0 (N+6) _ _ _ (spLBo a):=(oY T).mono (by lia);refine T.F_o.ok sc_o (λvs H Q E h=>?_) (λcdv A outer s H vs Q E hr h=>?_)
 .obtain⟨n,v,p,l,xs,ms,hn,rfl,_⟩:=h;rfl
 .obtain⟨n,v,p,l,xs,ms,hn,rfl,⟨x,dx,u,rfl,hx,hu⟩,hh,hc,hl,hC,q⟩:=h
  have ap:sizeLine=16777216:=sizeLine_eq;have pk:=dw hc;have a3:=pk.len;refine⟨_,(ai (im rfl (i:=2) sc_o.nd rfl rfl (by with_unfolding_all rfl) (N:=["members","self"]) (ix:=[none,some 0]) ⟨rfl,rfl,rfl,rfl,⟨rfl,rfl,rfl,trivial⟩⟩ (bJ (av ab hr rfl T.m_ab T.F_ab.kp T.B_ab .nil ao (aa (vr 1) ae))) ⟨λC s H O=>aw (i:=0) (show List.Nodup (["members","self"]:List Str) by decide +kernel) rfl (Or.inl rfl),λC s H O=>bC,λC s H O=>(PE.or (aJ (dW (K:=K) rfl (vr 1) rfl) T.cl_x T.mt_A ah hr T.B_A .nil ao (aa (vr 0) ae)) (PE.or (aJ (dW (K:=K) rfl (vr 1) rfl) T.cl_f T.mt_w ad hr T.B_w .nil ao (aa (vr 0) ae)) (PE.or (aJ (dW (K:=K) rfl (vr 1) rfl) T.cl_g T.mt_q a1 hr T.B_q .nil ao (aa (vr 0) ae)) (PE.or (aJ (dW (K:=K) rfl (vr 1) rfl) T.cl_l T.mt_o a0 hr T.B_o .nil ao (aa (vr 0) ae)) (aJ (dW (K:=K) rfl (vr 1) rfl) T.cl_c T.mt_k as hr T.B_k .nil ao (aa (vr 0) ae))))))⟩) (aj (ay (aT (aa (aG (dh rfl) rfl T.z_sum eX (aa (bj rfl (N:=["least","most"]) (ix:=[none,none]) ⟨rfl,rfl,rfl,rfl,trivial⟩ (bJ (vr 2)) ⟨λC s H O=>(cN (K:=K) (n:=2) rfl rfl (az (aw (i:=0) (show List.Nodup (["least","most"]:List Str) by decide +kernel) rfl (Or.inl rfl)) (az (aw (i:=1) (show List.Nodup (["least","most"]:List Str) by decide +kernel) rfl (Or.inl rfl)) bi))),λC s H O=>bC,λC s H O=>(vr 0)⟩) ae)) (aa (aG (dh rfl) rfl T.z_sum eX (aa (bj rfl (N:=["least","most"]) (ix:=[none,none]) ⟨rfl,rfl,rfl,rfl,trivial⟩ (bJ (vr 2)) ⟨λC s H O=>(cN (K:=K) (n:=2) rfl rfl (az (aw (i:=0) (show List.Nodup (["least","most"]:List Str) by decide +kernel) rfl (Or.inl rfl)) (az (aw (i:=1) (show List.Nodup (["least","most"]:List Str) by decide +kernel) rfl (Or.inl rfl)) bi))),λC s H O=>bC,λC s H O=>(vr 1)⟩) ae)) ae)))))),gI ?_⟩;intro a4;refine⟨l,ms,xs,rfl,hl,hC,by rw[<- hC.len];exact hc.len.2,λm hm=>⟨λz=>by have:=(hc.path m hm).1;rw[z]at this;simp at this,(hc.path m hm).2⟩,λH1 r f s1 hr1 hgs=>?_⟩;have gl:(parts ms).length=f.length:=Paired.length hgs;refine .inl ⟨⟨_,SqL.of hr1⟩,λD hD=>?_⟩
  let Pw1:PvL:=λi L M=>Same H1 M/\M D=some (.lst L)/\i<=(parts ms).length/\∃ g,Bnds (nT p) ((parts ms).take i) g/\Paired (BdAt M) g L
  refine aO (K:=K) (a:=r) (xs:=f) Pw1 ⟨Same.new hD,ac,Nat.zero_le _,[],.nil,.nil⟩ (λi f M h=>SqL.of (h.1 _ _ hr1)) (λi f M h=>h.2.1) ?_ ?_
  .rintro i y L M P' hy ⟨s2,a2,hi,g,Z,Y⟩ J
   obtain⟨c,R,lc,yc,rfl,aS,al⟩:=aL hgs hy;have B:i<(parts ms).length:=(List.getElem?_eq_some_iff.mp R).1;have k:=s1.trans s2;have zl:L.length=i:=by rw[<- Y.length,Z.len,length_take];lia
   refine⟨⟨rfl,trivial⟩,?_⟩;refine Or.imp (λh=>⟨x,_,dx,_,_,rfl,k _ _ hx,T.cl_l,T.na_Each_inside,rfl,h⟩) (Or.imp (λh=>⟨x,_,dx,_,_,rfl,k _ _ hx,T.cl_l,T.na_Each_inside,rfl,h⟩) (Or.imp (λh=>⟨x,_,dx,_,_,rfl,k _ _ hx,T.cl_l,T.na_Each_inside,rfl,h⟩) (Or.imp (λh=>⟨x,_,dx,_,_,rfl,k _ _ hx,T.cl_l,T.na_Each_inside,rfl,h⟩) λh=>⟨x,_,dx,_,_,rfl,k _ _ hx,T.cl_l,T.na_Each_inside,rfl,h⟩))) ?_;refine iG (n:=n) (λP=>P (.ref lc) M) (λP h=>h M lc yc (λb o e=>e) (s2 _ _ aS) (al.tk s2.tk)) (by lia) (hu.n (cK k.t)) hh (pk.each c (List.mem_of_getElem? R)) λH2 s3 H3 p3 lo hi s4 h4 hb4=>?_
   have W:=s3.trans s4;have d:=W _ _ a2;have tk:TK H3 (upd H3 D (.lst (L++[.ref p3]))):=TK.lst d;refine⟨d,by lia,J _ _ ⟨(s2.trans W).put hD,ac,B,g++[(lo,hi)],?_,cM ⟨p3,rfl,tk _ _ h4⟩ (aA (BdAt.tk (W.tk.trans tk)) Y)⟩⟩;rw[take_add_one,R];exact Z.snoc hb4
  .rintro L H2 ⟨s2,j,_,g,Z,Y⟩
   rw[<- gl,take_length]at Z;have bl:=Z.len;have sz:Same H2 H2:=λb o e=>e
   refine .inl ⟨⟨_,SqL.of j⟩,λD2 F=>?_⟩
   let Pw2:PvL:=λi f G=>Same H2 G/\G D2=some (.lst f)/\i<=g.length/\f=((g.take i).map (·.1)).map V.int
   refine aO (K:=K) (a:=D) (xs:=L) Pw2 ⟨Same.new F,ac,Nat.zero_le _,rfl⟩ (λi f G h=>SqL.of (h.1 _ _ j)) (λi f G h=>h.2.1) ?_ ?_
   .rintro i y f G P' hy ⟨s9,S,hi,rfl⟩ J
    obtain⟨b9,I,q9,rfl,X⟩:=aL Y hy;have B:i<g.length:=(List.getElem?_eq_some_iff.mp I).1;refine⟨q9,_,rfl,SqT.of (s9 _ _ (sz _ _ X)),rfl,_,_,rfl,_,_,rfl,rfl,trivial,S,by rw[length_map,length_map,length_take];lia,J _ _ ⟨s9.put F,ac,B,?_⟩⟩;rw[take_add_one,I];simp
   .rintro y2 H3 ⟨s3,F,_,rfl⟩
    rw[show L.length=g.length from Y.length.symm,take_length]at F;refine⟨D2,_,rfl,SqL.of F,?_⟩;have j:=s3 _ _ j;have sz:=s3;refine .inl ⟨⟨_,SqL.of j⟩,λD3 d=>?_⟩
    let Pw3:PvL:=λi f G=>Same H3 G/\G D3=some (.lst f)/\i<=g.length/\f=((g.take i).map (·.2)).map V.int
    refine aO (K:=K) (a:=D) (xs:=L) Pw3 ⟨Same.new d,ac,Nat.zero_le _,rfl⟩ (λi f G h=>SqL.of (h.1 _ _ j)) (λi f G h=>h.2.1) ?_ ?_
    .rintro i y f G P' hy ⟨s9,S,hi,rfl⟩ J
     obtain⟨b9,I,q9,rfl,X⟩:=aL Y hy;have B:i<g.length:=(List.getElem?_eq_some_iff.mp I).1;refine⟨q9,_,rfl,SqT.of (s9 _ _ (sz _ _ X)),rfl,_,_,rfl,_,_,rfl,rfl,trivial,S,by rw[length_map,length_map,length_take];lia,J _ _ ⟨s9.put d,ac,B,?_⟩⟩;rw[take_add_one,I];simp
    .rintro y3 H4 ⟨s4,d,_,rfl⟩
     rw[show L.length=g.length from Y.length.symm,take_length]at d;refine⟨D3,_,rfl,SqL.of d,?_⟩;refine⟨ee _ _,λp5 an=>?_⟩;exact q _ p5 _ _ (s1.trans (s2.trans (s3.trans (s4.trans (Same.new an))))) ac (sP Z)
theorem nh(xs:List V)(k:Nat):dQ xs none (some (k:Int))=xs.take k:=by
 unfold dQ;rw[HT.sIx_nat,HT.sIx_none,drop_zero,Nat.sub_zero]
 by_cases h:k<=xs.length
 .rw[Nat.min_eq_left h]
 .rw[Nat.min_eq_right (by lia),take_of_length_le (Nat.le_refl _),take_of_length_le (by lia)]
theorem lR(T:Txt K mg a)(N:Nat)(a3:FnOk P w K mg base CX0 (N+6) a.x_o a.y_o ["self","crowd"] (spEB a N))(a2:FnOk P w K mg base CX0 (N+6) a.x_k a.y_k ["self","crowd"] (spRB a N)):FnOk P w K mg base CX0 (N+1+6) a.x_k a.y_k ["self","crowd"] (spRB a (N+1)):=by
 have a7:FnOk P w K mg base CX0 (N+6) _ _ _ spParted:=(gG T).mono (by lia);have L:FnOk P w K mg base CX0 (N+6) _ _ _ spOuter:=(mQ T).mono (by lia);have aS:FnOk P w K mg base CX0 (N+6) _ _ _ (spBounds a):=(i4 T).mono (by lia);have a5:FnOk P w K mg base CX0 (N+6) _ _ _ (spSBo a):=(oa T).mono (by lia);have a4:FnOk P w K mg base CX0 (N+6) _ _ _ (spLBo a):=(oY T).mono (by lia);refine T.F_k.ok sc_k (λvs H Q E h=>?_) (λcdv A outer s H vs Q E hr h=>?_)
 .obtain⟨n,v,p,r,l,xs,ms,hn,rfl,_⟩:=h;rfl
 .obtain⟨n,v,p,r,l,xs,ms,hn,rfl,⟨x,O,u,z,rfl,M,hu,b3⟩,hf,hh,hc,hl,hC,q⟩:=h
  have b1:sizeLine=16777216:=sizeLine_eq;have pk:=dw hc;have ca:=pk.len
  refine⟨_,(ai (aF (i:=2) sc_k.nd rfl (Or.inl rfl) (av a7 hr rfl T.m_ab T.F_ab.kp T.B_ab .nil ao (aa (vr 1) ae))) (ai (i6 (PE.or (aJ (bV (vr 0) rfl) T.cl_x T.mt_A aS hr T.B_A .nil ao (aa (av L hr rfl T.m_d T.F_d.kp T.B_d .nil ao (aa (vr 2) ae)) ae)) (PE.or (aJ (bV (vr 0) rfl) T.cl_f T.mt_w a5 hr T.B_w .nil ao (aa (av L hr rfl T.m_d T.F_d.kp T.B_d .nil ao (aa (vr 2) ae)) ae)) (PE.or (aJ (bV (vr 0) rfl) T.cl_g T.mt_q a4 hr T.B_q .nil ao (aa (av L hr rfl T.m_d T.F_d.kp T.B_d .nil ao (aa (vr 2) ae)) ae)) (PE.or (aJ (bV (vr 0) rfl) T.cl_l T.mt_o a3 hr T.B_o .nil ao (aa (av L hr rfl T.m_d T.F_d.kp T.B_d .nil ao (aa (vr 2) ae)) ae)) (aJ (bV (vr 0) rfl) T.cl_c T.mt_k a2 hr T.B_k .nil ao (aa (av L hr rfl T.m_d T.F_d.kp T.B_d .nil ao (aa (vr 2) ae)) ae)))))) (dN rfl (az (aw (i:=3) sc_k.nd rfl (Or.inl rfl)) (az (aw (i:=4) sc_k.nd rfl (Or.inl rfl)) bi)))) (ai (im rfl (i:=5) sc_k.nd rfl rfl (by with_unfolding_all rfl) (N:=["members","self"]) (ix:=[none,some 0]) ⟨rfl,rfl,rfl,rfl,⟨rfl,rfl,rfl,trivial⟩⟩ (bJ (vr 2)) ⟨λC s H Y=>aw (i:=0) (show List.Nodup (["members","self"]:List Str) by decide +kernel) rfl (Or.inl rfl),λC s H Y=>bC,λC s H Y=>(PE.or (aJ (dW (K:=K) rfl (vr 1) rfl) T.cl_x T.mt_A aS hr T.B_A .nil ao (aa (vr 0) ae)) (PE.or (aJ (dW (K:=K) rfl (vr 1) rfl) T.cl_f T.mt_w a5 hr T.B_w .nil ao (aa (vr 0) ae)) (PE.or (aJ (dW (K:=K) rfl (vr 1) rfl) T.cl_g T.mt_q a4 hr T.B_q .nil ao (aa (vr 0) ae)) (PE.or (aJ (dW (K:=K) rfl (vr 1) rfl) T.cl_l T.mt_o a3 hr T.B_o .nil ao (aa (vr 0) ae)) (aJ (dW (K:=K) rfl (vr 1) rfl) T.cl_c T.mt_k a2 hr T.B_k .nil ao (aa (vr 0) ae))))))⟩) (ai (aF (i:=6) sc_k.nd rfl (Or.inl rfl) (aG eA rfl T.z_sorted fm (aa (bj rfl (N:=["low","high"]) (ix:=[none,none]) ⟨rfl,rfl,rfl,rfl,trivial⟩ (bJ (vr 5)) ⟨λC s H Y=>(cN (K:=K) (n:=2) rfl rfl (az (aw (i:=0) (show List.Nodup (["low","high"]:List Str) by decide +kernel) rfl (Or.inl rfl)) (az (aw (i:=1) (show List.Nodup (["low","high"]:List Str) by decide +kernel) rfl (Or.inl rfl)) bi))),λC s H Y=>bC,λC s H Y=>(vr 0)⟩) ae))) (ai (aF (i:=7) sc_k.nd rfl (Or.inl rfl) (oU rfl T.z_sorted fm (bj rfl (N:=["low","high"]) (ix:=[none,none]) ⟨rfl,rfl,rfl,rfl,trivial⟩ (bJ (vr 5)) ⟨λC s H Y=>(cN (K:=K) (n:=2) rfl rfl (az (aw (i:=0) (show List.Nodup (["low","high"]:List Str) by decide +kernel) rfl (Or.inl rfl)) (az (aw (i:=1) (show List.Nodup (["low","high"]:List Str) by decide +kernel) rfl (Or.inl rfl)) bi))),λC s H Y=>bC,λC s H Y=>(vr 1)⟩) fW)) (aj (ay (aT (aa (aG (dh rfl) rfl T.z_sum eX (aa (d6 gg (vr 6) eK (d0 (vr 3))) ae)) (aa (aG (dh rfl) rfl T.z_sum eX (aa (d6 gg (vr 7) eK (d0 (vr 4))) ae)) ae)))))))))),u7 ?_⟩
  intro b5 cc b' b4 b6;refine⟨l,ms,xs,rfl,hl,hC,by rw[<- hC.len];exact hc.len.2,λm hm=>⟨λz=>by have:=(hc.path m hm).1;rw[z]at this;simp at this,(hc.path m hm).2⟩,λH1 rg f s1 hr1 hgs=>?_⟩;have gl:(parts ms).length=f.length:=Paired.length hgs;refine Or.imp (λh=>⟨x,_,O,_,_,rfl,s1 _ _ M,T.cl_c,T.na_First_outside,rfl,h⟩) (Or.imp (λh=>⟨x,_,O,_,_,rfl,s1 _ _ M,T.cl_c,T.na_First_outside,rfl,h⟩) (Or.imp (λh=>⟨x,_,O,_,_,rfl,s1 _ _ M,T.cl_c,T.na_First_outside,rfl,h⟩) (Or.imp (λh=>⟨x,_,O,_,_,rfl,s1 _ _ M,T.cl_c,T.na_First_outside,rfl,h⟩) λh=>⟨x,_,O,_,_,rfl,s1 _ _ M,T.cl_c,T.na_First_outside,rfl,h⟩))) ?_;refine iG (n:=0) (λP=>spOuter [.ref rg] H1 P _) (λP h=>⟨.ref rg,parts ms,rfl,⟨rg,f,rfl,hr1,hgs⟩,by lia,λc hc=>(pk.each c hc).len.2,λH2 l2 xs2 s2 _ h2 hC2=>h H2 l2 xs2 s2 h2 hC2⟩) (Nat.zero_le _) (hu.n (cK s1.t)) (lV hf) (jT hc) λH2 s2 H3 p3 lo hi s3 h3 hb3=>?_
  obtain⟨fe,rfl⟩:=Int.eq_ofNat_of_zero_le hb3.lo0;obtain⟨mo,rfl⟩:=Int.eq_ofNat_of_zero_le hb3.hi0;refine⟨p3,_,rfl,SqT.of h3,rfl,_,_,rfl,_,_,rfl,rfl,?_⟩;have ah:=s2.trans s3;have a6:=s1.trans ah;have a0:=ah _ _ hr1;refine .inl ⟨⟨_,SqL.of a0⟩,λD hD=>?_⟩
  let Pw4:PvL:=λi R H'=>Same H3 H'/\H' D=some (.lst R)/\i<=(parts ms).length/\∃ j,Bnds (nT r) ((parts ms).take i) j/\Paired (BdAt H') j R
  refine aO (K:=K) (a:=rg) (xs:=f) Pw4 ⟨Same.new hD,ac,Nat.zero_le _,[],.nil,.nil⟩ (λi f H' h=>SqL.of (h.1 _ _ a0)) (λi f H' h=>h.2.1) ?_ ?_
  .rintro i y R H' P' hy ⟨s4,a8,hi,j,hb,hz⟩ J
   obtain⟨c,ab,lc,yc,rfl,b2,bo⟩:=aL hgs hy;have F:i<(parts ms).length:=(List.getElem?_eq_some_iff.mp ab).1;have k:=a6.trans s4;have a1:=ah.trans s4;have zl:R.length=i:=by rw[<- hz.length,hb.len,length_take];lia
   refine⟨⟨rfl,trivial⟩,?_⟩;refine Or.imp (λh=>⟨x,_,O,_,_,rfl,k _ _ M,T.cl_c,T.na_First_inside,rfl,h⟩) (Or.imp (λh=>⟨x,_,O,_,_,rfl,k _ _ M,T.cl_c,T.na_First_inside,rfl,h⟩) (Or.imp (λh=>⟨x,_,O,_,_,rfl,k _ _ M,T.cl_c,T.na_First_inside,rfl,h⟩) (Or.imp (λh=>⟨x,_,O,_,_,rfl,k _ _ M,T.cl_c,T.na_First_inside,rfl,h⟩) λh=>⟨x,_,O,_,_,rfl,k _ _ M,T.cl_c,T.na_First_inside,rfl,h⟩))) ?_;refine iG (n:=n) (λP=>P (.ref lc) H') (λP h=>h H' lc yc (λb o e=>e) (a1 _ _ b2) (bo.tk a1.tk)) (by lia) (b3.n (cK k.t)) hh (pk.each c (List.mem_of_getElem? ab)) λH5 s5 H6 p6 lo hi s6 h6 hb6=>?_
   have ad:=s5.trans s6;have d:=ad _ _ a8;have tk:TK H6 (upd H6 D (.lst (R++[.ref p6]))):=TK.lst d;refine⟨d,by lia,J _ _ ⟨(s4.trans ad).put hD,ac,F,j++[(lo,hi)],?_,cM ⟨p6,rfl,tk _ _ h6⟩ (aA (BdAt.tk (ad.tk.trans tk)) hz)⟩⟩;rw[take_add_one,ab];exact hb.snoc hb6
  .rintro R H4 ⟨s4,B,_,j,hb,hz⟩
   rw[<- gl,take_length]at hb;have bl:=hb.len;have sz:Same H4 H4:=λb o e=>e
   refine .inl ⟨⟨_,SqL.of B⟩,λD2 G=>?_⟩
   let Pw5:PvL:=λi f g=>Same H4 g/\g D2=some (.lst f)/\i<=j.length/\f=((j.take i).map (·.1)).map V.int
   refine aO (K:=K) (a:=D) (xs:=R) Pw5 ⟨Same.new G,ac,Nat.zero_le _,rfl⟩ (λi f g h=>SqL.of (h.1 _ _ B)) (λi f g h=>h.2.1) ?_ ?_
   .rintro i y f g P' hy ⟨W,al,hi,rfl⟩ J
    obtain⟨b9,I,q9,rfl,an⟩:=aL hz hy;have F:i<j.length:=(List.getElem?_eq_some_iff.mp I).1;refine⟨q9,_,rfl,SqT.of (W _ _ (sz _ _ an)),rfl,_,_,rfl,_,_,rfl,rfl,trivial,al,by rw[length_map,length_map,length_take];lia,J _ _ ⟨W.put G,ac,F,?_⟩⟩;rw[take_add_one,I];simp
   .rintro y2 H5 ⟨s5,G,_,rfl⟩
    rw[show R.length=j.length from hz.length.symm,take_length]at G;refine⟨D2,_,rfl,SqL.of G,by rw[length_map];lia,λq1 Z a' b0 f1=>?_⟩;have s6:=Same.new (o:=.lst (Z.map V.int)) f1;have h6:(upd H5 q1 (.lst (Z.map V.int))) q1=some (.lst (Z.map V.int)):=ac;generalize upd H5 q1 (.lst (Z.map V.int))=H6 at s6 h6;have B:=s6 _ _ (s5 _ _ B);have sz:=s5.trans s6;refine .inl ⟨⟨_,SqL.of B⟩,λD3 d=>?_⟩
    let Pw6:PvL:=λi f g=>Same H6 g/\g D3=some (.lst f)/\i<=j.length/\f=((j.take i).map (·.2)).map V.int
    refine aO (K:=K) (a:=D) (xs:=R) Pw6 ⟨Same.new d,ac,Nat.zero_le _,rfl⟩ (λi f g h=>SqL.of (h.1 _ _ B)) (λi f g h=>h.2.1) ?_ ?_
    .rintro i y f g P' hy ⟨W,al,hi,rfl⟩ J
     obtain⟨b9,I,q9,rfl,an⟩:=aL hz hy;have F:i<j.length:=(List.getElem?_eq_some_iff.mp I).1;refine⟨q9,_,rfl,SqT.of (W _ _ (sz _ _ an)),rfl,_,_,rfl,_,_,rfl,rfl,trivial,al,by rw[length_map,length_map,length_take];lia,J _ _ ⟨W.put d,ac,F,?_⟩⟩;rw[take_add_one,I];simp
    .rintro y3 H7 ⟨s7,d,_,rfl⟩
     rw[show R.length=j.length from hz.length.symm,take_length]at d;refine⟨D3,_,rfl,SqL.of d,by rw[length_map];lia,λq2 X bt bd f2=>?_⟩;have s8:=Same.new (o:=.lst (X.map V.int)) f2;have h8:(upd H7 q2 (.lst (X.map V.int))) q2=some (.lst (X.map V.int)):=ac;generalize upd H7 q2 (.lst (X.map V.int))=H8 at s8 h8;refine⟨_,rfl,.inl ⟨_,SqL.of (s8 _ _ (s7 _ _ h6)),λl9 f9=>?_⟩⟩;rw[nh,<- map_take];have W:=Same.new (o:=.lst ((Z.take fe).map V.int)) f9;have h9:(upd H8 l9 (.lst ((Z.take fe).map V.int))) l9=some (.lst ((Z.take fe).map V.int)):=ac;generalize upd H8 l9 (.lst ((Z.take fe).map V.int))=g at W h9;refine⟨l9,_,rfl,SqL.of h9,?_⟩;refine⟨_,rfl,.inl ⟨_,SqL.of (W _ _ h8),λS a9=>?_⟩⟩;rw[nh,<- map_take];have ap:=Same.new (o:=.lst ((X.take mo).map V.int)) a9;have as:(upd g S (.lst ((X.take mo).map V.int))) S=some (.lst ((X.take mo).map V.int)):=ac;generalize upd g S (.lst ((X.take mo).map V.int))=H10 at ap as;refine⟨S,_,rfl,SqL.of as,?_⟩;refine⟨ee _ _,λp5 bm=>?_⟩;exact q _ p5 _ _ (a6.trans (s4.trans (s5.trans (s6.trans (s7.trans (s8.trans (W.trans (ap.trans (Same.new bm))))))))) ac (qL hc hf hb3 hb a' b0 bt bd)
theorem g7(T:Txt K mg a):∀ N,FnOk P w K mg base CX0 (N+6) a.x_o a.y_o ["self","crowd"] (spEB a N)/\FnOk P w K mg base CX0 (N+6) a.x_k a.y_k ["self","crowd"] (spRB a N)
 | 0=>⟨⟨λb H Q E h=>by obtain⟨n,_,_,_,_,_,hn,_⟩:=h;lia,λA outer s H args us b Q E hr e0 hb r hsp=>by obtain⟨n,_,_,_,_,_,hn,_⟩:=hsp;lia⟩,⟨λb H Q E h=>by obtain⟨n,_,_,_,_,_,_,hn,_⟩:=h;lia,λA outer s H args us b Q E hr e0 hb r hsp=>by obtain⟨n,_,_,_,_,_,_,hn,_⟩:=hsp;lia⟩⟩
 | N+1=>by
  obtain⟨c,d⟩:=g7 T N;exact⟨mU T N c d,lR T N c d⟩
end
open Tb (Tr fT lT sT ba bnd d7 tot so)
def IsTr(H:Hp):V->Pl->Prop
 | v,.few m=>∃ x,v=.ref x/\H x=some (.tup [.str "few",.int (m:Nat)])
 | v,.start m=>∃ x,v=.ref x/\H x=some (.tup [.str "start",.int (m:Nat)])
 | v,.loose m=>∃ x,v=.ref x/\H x=some (.tup [.str "loose",.int (m:Nat)])
 | v,.each p=>∃ x u,v=.ref x/\H x=some (.tup [.str "each",u])/\IsTr H u p
 | v,.first p q=>∃ x u1 u2,v=.ref x/\H x=some (.tup [.str "first",u1,u2])/\IsTr H u1 p/\IsTr H u2 q
theorem IsTr.n{H a:Hp}(s:NC H a):∀{pl:Pl}{v:V},IsTr H v pl->IsTr a v pl
 | .few _,v,⟨x,e,h⟩=>⟨x,e,s _ _ rfl h⟩
 | .start _,v,⟨x,e,h⟩=>⟨x,e,s _ _ rfl h⟩
 | .loose _,v,⟨x,e,h⟩=>⟨x,e,s _ _ rfl h⟩
 | .each p,v,⟨x,u,e,h,r⟩=>⟨x,u,e,s _ _ rfl h,IsTr.n s r⟩
 | .first p q,v,⟨x,u1,u2,e,h,r1,r2⟩=>⟨x,u1,u2,e,s _ _ rfl h,IsTr.n s r1,IsTr.n s r2⟩
theorem IsTr.same{H a:Hp}{pl:Pl}{v:V}(s:Same H a)(h:IsTr H v pl):IsTr a v pl:=h.n (cK s.t)
def hg:Nat->Pl->Prop
 | _,.few m=>m<=24
 | _,.start s=>1<=s/\s<=100
 | _,.loose m=>m<=24
 | n+1,.each p=>hg n p
 | n+1,.first p q=>hg n p/\hg n q
 | 0,_=>False
theorem pf:∀{n m:Nat}{p:Pl},n<=m->hg n p->hg m p
 | n,m,.few _,_,h=>by cases n <;> cases m <;> exact h
 | n,m,.start _,_,h=>by cases n <;> cases m <;> exact h
 | n,m,.loose _,_,h=>by cases n <;> cases m <;> exact h
 | 0,_,.each _,_,h=>h.elim
 | 0,_,.first _ _,_,h=>h.elim
 | n+1,m+1,.each p,k,h=>pf (n:=n) (m:=m) (p:=p) (by lia) h
 | n+1,m+1,.first p q,k,h=>⟨pf (n:=n) (m:=m) (p:=p) (by lia) h.1,pf (n:=n) (m:=m) (p:=q) (by lia) h.2⟩
 | n+1,0,.each p,k,h=>absurd k (by lia)
 | n+1,0,.first p q,k,h=>absurd k (by lia)
inductive spTree(n:Nat)(vs:List V)(H:Hp)(Q:VK)(_E:XK):Prop
 | mk(N d:Int)(h0:vs=[.int N,.int d,.bl false])(h1:d+n=4)(h2:1<=n)(h3:0<=N)(h4:∀ H' t v pl N',Same H H'->H' t=some (.tup [v,.int N'])->0<=N'->IsTr H' v pl->hg (n - 1) pl->Q (.ref t) H'):spTree n vs H Q _E
def nb:Nat->Nat
 | 0=>0
 | n+1=>1+3*nb n
inductive spNeeds(n:Nat)(vs:List V)(H:Hp)(Q:VK)(_E:XK):Prop
 | mk(v:V)(pl:Pl)(h0:vs=[v])(h1:IsTr H v pl)(h2:hg n pl)(h3:n<=3)(h4:∀ r:Nat,r<=nb n->(r=0↔jH pl)->Q (.int (r:Int)) H):spNeeds n vs H Q _E
inductive spFit(n:Nat)(vs:List V)(H:Hp)(Q:VK)(_E:XK):Prop
 | mk(v:V)(pl:Pl)(h0:vs=[v])(h1:IsTr H v pl)(h2:hg n pl)(h3:n<=3)(h4:∀ H' v' pl',Same H H'->IsTr H' v' pl'->ht n pl'->Q v' H'):spFit n vs H Q _E
inductive spPlan(a:Ad)(n:Nat)(vs:List V)(H:Hp)(Q:VK)(_E:XK):Prop
 | mk(v:V)(pl:Pl)(h0:vs=[v])(h1:IsTr H v pl)(h2:ht n pl)(h3:∀ H' v',Same H H'->IsPn a H' v' pl->Q v' H'):spPlan a n vs H Q _E
theorem ixT{K:Frag}{H:Hp}{x:Addr}{vs:List V}(a:H x=some (.tup vs))(j:Int)(v:V)(e:atI vs j=some v)(R:VK)(r:R v H):rIx K (.ref x) (.int j) H R:=.inr (.inl ⟨x,_,j,v,rfl,rfl,SqT.of a,e,r⟩)
theorem cdK{i c:Int}(h:0<c:=by decide)(a:c<1152921504606846976:=by decide):CDivB i c:=cdB (n:=60) h (by unfold Bt;rw[show(2:Nat) ^ 60=1152921504606846976 from by decide];lia)
abbrev JF(H:Hp)(x:Addr)(m:Nat):St->Hp->Prop:=λσ' H''=>H''=H/\∃(vo':V) (po':Pl),σ'=[some (.ref x),some vo']/\IsTr H vo' po'/\(∃ m',m'<m/\hg m' po')
abbrev JT1(H:Hp)(d:Int)(n:Nat):St->Hp->Prop:=λσ' H'=>H'=H/\∃ M way:Int,σ'=[some (.int M),some (.int d),some (.bl false),some (.int way),none,none]/\0<=M/\0<=way/\way<6/\(n=0->way<4)
abbrev JT2(H:Hp)(M d:Int)(n:Nat):St->Hp->Prop:=λσ' H'=>H'=H/\∃ way:Int,σ'=[some (.int M),some (.int d),some (.bl false),some (.int way),none,none]/\0<=way/\way<6/\¬way=3/\(n=0->way<4)
theorem xh{n:Nat}(h:n<=3):nb n<=13:=by
 rcases(by lia:n=0\/n=1\/n=2\/n=3) with rfl | rfl | rfl | rfl <;> decide
inductive spEachI(a:Ad)(vs:List V)(H:Hp)(Q:VK)(_E:XK):Prop
 | mk(x dx:Addr)(v:V)(h0:vs=[.ref x,v])(h1:H x=some (.ins a.c_l dx []))(h2:Q .non (upd H x (.ins a.c_l dx [("inside",v)]))):spEachI a vs H Q _E
inductive spFirstI(a:Ad)(vs:List V)(H:Hp)(Q:VK)(_E:XK):Prop
 | mk(x dx:Addr)(v u:V)(h0:vs=[.ref x,v,u])(h1:H x=some (.ins a.c_c dx []))(h2:Q .non (upd H x (.ins a.c_c dx [("outside",v),("inside",u)]))):spFirstI a vs H Q _E
section
variable {P:Program}{w:World}{K:Frag}{mg:Str->Option Value}{base:Heap}{a:Ad}
theorem pI(T:Txt K mg a):FnOk P w K mg base CX0 1 a.i_l a.e_l ["self","inside"] (spEachI a):=by
 refine T.Fi_l.ok iN (λd H Q E h=>?_) (λcdv A outer s H d Q E hr h=>?_)
 .obtain⟨x,b,v,rfl,_⟩:=h;rfl
 .obtain⟨x,b,v,rfl,c,q⟩:=h
  refine⟨_,(aj (gm (vr 0) (vr 1) rfl)),?_⟩;exact⟨x,_,b,_,rfl,c,T.cl_l,T.na_Each_inside,by decide,q⟩
theorem mZ(T:Txt K mg a):FnOk P w K mg base CX0 1 a.i_c a.e_c ["self","outside","inside"] (spFirstI a):=by
 refine T.Fi_c.ok ij (λe H Q E h=>?_) (λcdv A outer s H e Q E hr h=>?_)
 .obtain⟨x,b,v,u,rfl,_⟩:=h;rfl
 .obtain⟨x,b,v,u,rfl,c,q⟩:=h
  refine⟨_,(ai (gm (vr 0) (vr 1) rfl) (aj (gm (vr 0) (vr 2) rfl))),gI ?_⟩;intro d;refine⟨x,_,b,_,rfl,c,T.cl_c,T.na_First_outside,by decide,?_⟩;refine⟨x,_,b,_,rfl,ac,T.cl_c,T.na_First_inside,(show 1<1000 by decide),?_⟩;rw[eP];exact q
theorem pb(T:Txt K mg a):∀ n:Nat,n<=4->FnOk P w K mg base CX0 (n+1) a.f_V a.d_V ["_law_number","_law_deep","_law_wide"] (spTree n)
 | 0,_=>by
  refine T.F_V.ok sc_V (λZ H Q E h=>?_) (λcdv A outer s H Z Q E hr h=>?_)
  .obtain⟨N,d,rfl,_⟩:=h;rfl
  .obtain⟨N,d,rfl,_,h,_⟩:=h;exact absurd h (by decide)
 | n+1,hn=>by
  have F:FnOk P w K mg base CX0 (n+1) _ _ _ (spTree n):=pb T n (by lia);refine T.F_V.ok sc_V (λZ H Q E h=>?_) (λcdv A outer s H Z Q E hr h=>?_)
  .obtain⟨N,d,rfl,_⟩:=h;rfl
  .obtain⟨N,d,rfl,hd,_,N0,q⟩:=h
   have sl:sizeLine=16777216:=sizeLine_eq;refine⟨_,(ai (aF (i:=3) sc_V.nd rfl (Or.inl rfl) (aD dD (vr 0) ag)) (ai (aF (i:=0) sc_V.nd rfl (Or.inl rfl) (aD cL (vr 0) ag)) (kP (aR (aK dm (vr 1) ag (aI _)) (aj (aF (i:=3) sc_V.nd rfl (Or.inl rfl) (aD dD (vr 3) ag))) aH) (kP (aR (PW.pt (jN (aK dm (vr 3) ag (aI _)) (iz (d9 (gU (vr 2)))))) (aj (aF (i:=3) sc_V.nd rfl (Or.inl rfl) ag)) aH) (ai (aR (aK dm (vr 3) ag (aI _)) (aj (ay (aT (aa (aT (aa aM (aa (aD di ag (aD dD (vr 0) (aB ax (cC (aa ag (aa ag ae))) (aD dD (aD cL (vr 0) ag) ag) (λ_ _=>rfl)))) ae))) (aa (aD cL (vr 0) ag) ae))))) aH) (ai (aR (aK ln (vr 3) ag (aI _)) (aj (ay (aT (aa (aT (aa (aB ax (cC (aa aM (aa aM (aa aM (aa aM ae))))) (vr 3) (λ_ _=>rfl)) (aa (aD dD (vr 0) (aB ax (cC (aa ag (aa ag ae))) (aD dD (aD cL (vr 0) ag) ag) (λ_ _=>rfl))) ae))) (aa (aD cL (vr 0) ag) ae))))) aH) (ai (i6 (av F hr rfl T.m_V T.F_V.kp T.B_V .nil ao (aa (vr 0) (aa (aD di (vr 1) ag) (aa (vr 2) ae)))) (dN rfl (az (aw (i:=4) sc_V.nd rfl (Or.inl rfl)) (az (aw (i:=0) sc_V.nd rfl (Or.inl rfl)) bi)))) (ai (aR (aK dm (vr 3) ag (aI _)) (aj (ay (aT (aa (aT (aa aM (aa (vr 4) ae))) (aa (vr 0) ae))))) aH) (ai (i6 (av F hr rfl T.m_V T.F_V.kp T.B_V .nil ao (aa (vr 0) (aa (aD di (vr 1) ag) (aa (vr 2) ae)))) (dN rfl (az (aw (i:=5) sc_V.nd rfl (Or.inl rfl)) (az (aw (i:=0) sc_V.nd rfl (Or.inl rfl)) bi)))) (aj (ay (aT (aa (aT (aa aM (aa (vr 4) (aa (vr 5) ae)))) (aa (vr 0) ae)))))))))))))),?_⟩;refine⟨cp,cdK,?_⟩;have w0:0<=N % 6:=Int.emod_nonneg _ (by decide);have w1:N % 6<6:=Int.emod_lt_of_pos _ (by decide);have u:0<=N/6:=Int.ediv_nonneg N0 (by decide);refine⟨JT1 H d n,?_,?_⟩
   .refine ifC (λc=>⟨cp,rfl,N/6,N % 6 % 4,rfl,u,by lia,by lia,λ_=>by lia⟩) (λc=>⟨rfl,N/6,N % 6,rfl,u,w0,w1,λz=>?_⟩)
    have O:¬d=3:=c;lia
   clear u;rintro R H' ⟨rfl,M,b,rfl,u,Y,S,y⟩;refine⟨JT2 H' M d n,?_,?_⟩
   .refine ifC (λc=>⟨rfl,0,rfl,by lia,by lia,by lia,λ_=>by lia⟩) (λc=>⟨rfl,b,rfl,Y,S,c,y⟩)
   clear Y S y;rintro R ad ⟨rfl,b,rfl,Y,S,v3,y⟩
   have G:∀ k:Int,0<=M/k % 2/\M/k % 2<2:=λk=>⟨Int.emod_nonneg _ (by decide),Int.emod_lt_of_pos _ (by decide)⟩
   refine ifC (λc=>?_) (λc=>?_)
   .have O:b=1:=c
    refine⟨(by decide:2<=sizeLine),λl hl=>?_⟩;have x:=Same.new (o:=.lst [.int 4,.int 100]) hl;obtain⟨b0,b1⟩:=G 100;refine⟨cdK,cp,?_⟩
    obtain⟨z,hz,hz0,hz1⟩:∃ z:Int,atI [V.int 4,.int 100] (M/100 % 2)=some (.int z)/\0<z/\z<=100:=by
     rcases(by lia:M/100 % 2=0\/M/100 % 2=1) with e | e <;> rw[e]
     .exact⟨4,rfl,by decide,by decide⟩
     .exact⟨100,rfl,by decide,by decide⟩
    refine .inl ⟨l,_,_,.int z,rfl,rfl,SqL.of ac,hz,cp (by lia),?_⟩;have r0:=Int.emod_nonneg M (show z≠0 by lia);have r1:=Int.emod_lt_of_pos M hz0;refine⟨(by decide:2<=sizeLine),λm j=>?_⟩;have p:=Same.new (o:=.tup [.str "start",.int (1+M % z)]) j;refine⟨cdK,?_⟩;refine⟨(by decide:2<=sizeLine),λr g=>?_⟩;have f:=Same.new (o:=.tup [.ref m,.int (M/200)]) g;refine q _ r _ (.start (1+M % z).toNat) _ (x.trans (p.trans f)) ac (Int.ediv_nonneg u (by decide)) ⟨m,rfl,?_⟩ ?_
    .rw[show(((1+M % z).toNat:Nat):Int)=1+M % z by lia]
     exact f _ _ ac
    show hg n _
    have:1<=(1+M % z).toNat/\(1+M % z).toNat<=100:=⟨by lia,by lia⟩
    cases n <;> exact this
   have ah:¬b=1:=c;refine ifC (λc=>?_) (λc=>?_)
   .have O:b<4:=c
    refine⟨(by decide:4<=sizeLine),λl0 W=>?_⟩;have s0:=Same.new (o:=.lst [.str "few",.str "",.str "loose",.str "duel"]) W
    obtain⟨nk,hkn,hk⟩:∃ nk:Str,atI [V.str "few",.str "",.str "loose",.str "duel"] b=some (.str nk)/\(nk = "few" \/ nk = "loose"):=by
     rcases(by lia:b=0\/b=2) with e | e <;> rw[e]
     .exact⟨_,rfl,.inl rfl⟩
     .exact⟨_,rfl,.inr rfl⟩
    refine .inl ⟨l0,_,_,.str nk,rfl,rfl,SqL.of ac,hkn,?_⟩;refine⟨(by decide:2<=sizeLine),λl hl=>?_⟩;have x:=Same.new (o:=.lst [.int 5,.int 25]) hl;obtain⟨b0,b1⟩:=G 25;refine⟨cdK,cp,?_⟩
    obtain⟨z,hz,hz0,hz1⟩:∃ z:Int,atI [V.int 5,.int 25] (M/25 % 2)=some (.int z)/\0<z/\z<=25:=by
     rcases(by lia:M/25 % 2=0\/M/25 % 2=1) with e | e <;> rw[e]
     .exact⟨5,rfl,by decide,by decide⟩
     .exact⟨25,rfl,by decide,by decide⟩
    refine .inl ⟨l,_,_,.int z,rfl,rfl,SqL.of ac,hz,cp (by lia),?_⟩;have r0:=Int.emod_nonneg M (show z≠0 by lia);have r1:=Int.emod_lt_of_pos M hz0;refine⟨(by decide:2<=sizeLine),λm j=>?_⟩;have p:=Same.new (o:=.tup [.str nk,.int (M % z)]) j;refine⟨cdK,?_⟩;refine⟨(by decide:2<=sizeLine),λr g=>?_⟩;have f:=Same.new (o:=.tup [.ref m,.int (M/50)]) g;have e1:(((M % z).toNat:Nat):Int)=M % z:=by lia
    have hm:(M % z).toNat<=24:=by lia
    rcases hk with rfl | rfl
    .refine q _ r _ (.few (M % z).toNat) _ (s0.trans (x.trans (p.trans f))) ac (Int.ediv_nonneg u (by decide)) ⟨m,rfl,by rw[e1];exact f _ _ ac⟩ ?_
     show hg n _
     cases n <;> exact hm
    .refine q _ r _ (.loose (M % z).toNat) _ (s0.trans (x.trans (p.trans f))) ac (Int.ediv_nonneg u (by decide)) ⟨m,rfl,by rw[e1];exact f _ _ ac⟩ ?_
     show hg n _
     cases n <;> exact hm
   .have O:¬b<4:=c
    have L:1<=n:=by
     by_cases z:n=0
     .exact absurd (y z) O
     .lia
    refine⟨M,d+1,rfl,by lia,L,u,λH1 t v pl N1 x ht D C g1=>?_⟩;refine⟨t,_,rfl,SqT.of ht,rfl,_,_,rfl,_,_,rfl,rfl,?_⟩;refine ifC (λc=>?_) (λc=>?_)
    .refine⟨(by decide:2<=sizeLine),λm j=>?_⟩
     have p:=Same.new (o:=.tup [.str "each",v]) j;refine⟨(by decide:2<=sizeLine),λr g=>?_⟩;have f:=Same.new (o:=.tup [.ref m,.int N1]) g;refine q _ r _ (.each pl) _ (x.trans (p.trans f)) ac D ⟨m,v,rfl,f _ _ ac,C.same (p.trans f)⟩ ?_;show hg n _;cases n with
     | zero=>exact absurd L (by decide)
     | succ n=>exact g1
    .refine⟨N1,d+1,rfl,by lia,L,D,λH2 tt y X N2 p g ab I g2=>?_⟩
     refine⟨tt,_,rfl,SqT.of g,rfl,_,_,rfl,_,_,rfl,rfl,?_⟩;refine⟨(by decide:3<=sizeLine),λm j=>?_⟩;have f:=Same.new (o:=.tup [.str "first",v,y]) j;refine⟨(by decide:2<=sizeLine),λr B=>?_⟩;have J:=Same.new (o:=.tup [.ref m,.int N2]) B;refine q _ r _ (.first pl X) _ (x.trans (p.trans (f.trans J))) ac ab ⟨m,v,y,rfl,J _ _ ac,C.same (p.trans (f.trans J)),I.same (f.trans J)⟩ ?_;show hg n _;cases n with
     | zero=>exact absurd L (by decide)
     | succ n=>exact⟨g1,g2⟩
theorem nO(T:Txt K mg a):∀ n:Nat,FnOk P w K mg base CX0 (n+1) a.f_D a.d_D ["_law_tree_here"] (spNeeds n):=by
 intro n
 induction n with
 | zero =>
  have d:FnOk P w K mg base CX0 0 a.f_D a.d_D ["_law_tree_here"] jj:=gq;refine T.F_D.ok jB (λC H Q E h=>?_) (λcdv A outer s H C Q E hr h=>?_)
  .obtain⟨v,j,rfl,_⟩:=h;rfl
  .obtain⟨v,j,rfl,c,f,M,q⟩:=h
   refine⟨_,(ai (aR (aK dm (aB ax (vr 0) ag (λ_ _=>rfl)) aM (aI _)) (aj (ay (aD di ag (av d hr rfl T.m_D T.F_D.kp T.B_D .nil ao (aa (aB ax (vr 0) ag (λ_ _=>rfl)) ae))))) aH) (ai (aR (aK dm (aB ax (vr 0) ag (λ_ _=>rfl)) aM (aI _)) (aj (ay (aD di ag (aG (iP rfl) rfl T.z_max o6 (aa (av d hr rfl T.m_D T.F_D.kp T.B_D .nil ao (aa (aB ax (vr 0) ag (λ_ _=>rfl)) ae)) (aa (aD dI ag (av d hr rfl T.m_D T.F_D.kp T.B_D .nil ao (aa (aB ax (vr 0) ag (λ_ _=>rfl)) ae))) ae)))))) aH) (aj (ay ag)))),gM ?_⟩;intro y B;cases j with
   | few m=>obtain⟨x,rfl,b⟩:=c;exact ixT b 0 _ rfl _ (ixT b 0 _ rfl _ (q 0 (Nat.zero_le _) ⟨λ_=>f,λ_=>rfl⟩))
   | start m=>obtain⟨x,rfl,b⟩:=c;exact ixT b 0 _ rfl _ (ixT b 0 _ rfl _ (q 0 (Nat.zero_le _) ⟨λ_=>f,λ_=>rfl⟩))
   | loose m=>obtain⟨x,rfl,b⟩:=c;exact ixT b 0 _ rfl _ (ixT b 0 _ rfl _ (q 0 (Nat.zero_le _) ⟨λ_=>f,λ_=>rfl⟩))
   | each p=>exact f.elim
   | first p r=>exact f.elim
 | succ n ih =>
  have d:FnOk P w K mg base CX0 (n+1) _ _ _ (spNeeds n):=ih;refine T.F_D.ok jB (λC H Q E h=>?_) (λcdv A outer s H C Q E hr h=>?_)
  .obtain⟨v,j,rfl,_⟩:=h;rfl
  .obtain⟨v,j,rfl,c,f,M,q⟩:=h
   refine⟨_,(ai (aR (aK dm (aB ax (vr 0) ag (λ_ _=>rfl)) aM (aI _)) (aj (ay (aD di ag (av d hr rfl T.m_D T.F_D.kp T.B_D .nil ao (aa (aB ax (vr 0) ag (λ_ _=>rfl)) ae))))) aH) (ai (aR (aK dm (aB ax (vr 0) ag (λ_ _=>rfl)) aM (aI _)) (aj (ay (aD di ag (aG (iP rfl) rfl T.z_max o6 (aa (av d hr rfl T.m_D T.F_D.kp T.B_D .nil ao (aa (aB ax (vr 0) ag (λ_ _=>rfl)) ae)) (aa (aD dI ag (av d hr rfl T.m_D T.F_D.kp T.B_D .nil ao (aa (aB ax (vr 0) ag (λ_ _=>rfl)) ae))) ae)))))) aH) (aj (ay ag)))),gM ?_⟩;intro y B;have I:nb (n+1)=1+3*nb n:=rfl;have J:=xh (n:=n) (by lia);cases j with
   | few m=>obtain⟨x,rfl,b⟩:=c;exact ixT b 0 _ rfl _ (ixT b 0 _ rfl _ (q 0 (Nat.zero_le _) ⟨λ_=>f,λ_=>rfl⟩))
   | start m=>obtain⟨x,rfl,b⟩:=c;exact ixT b 0 _ rfl _ (ixT b 0 _ rfl _ (q 0 (Nat.zero_le _) ⟨λ_=>f,λ_=>rfl⟩))
   | loose m=>obtain⟨x,rfl,b⟩:=c;exact ixT b 0 _ rfl _ (ixT b 0 _ rfl _ (q 0 (Nat.zero_le _) ⟨λ_=>f,λ_=>rfl⟩))
   | each p =>
    obtain⟨x,u,rfl,b,D⟩:=c;refine ixT b 0 _ rfl _ (ixT b 1 _ rfl _ ⟨u,p,rfl,D,f,by lia,λr l _=>?_⟩);have:=q (1+r) (by lia) ⟨λz=>by lia,λz=>z.elim⟩;rw[show((1+r:Nat):Int)=1+(r:Int) by lia]at this;exact this
   | first p r =>
    obtain⟨x,L,G,rfl,b,k,o⟩:=c;refine ixT b 0 _ rfl _ (ixT b 0 _ rfl _ (ixT b 2 _ rfl _ ⟨G,r,rfl,o,f.2,by lia,λg F _=>?_⟩));refine ixT b 1 _ rfl _ ⟨L,p,rfl,k,f.1,by lia,λi l _=>?_⟩;refine⟨clB (by lia) (by lia),_,_,rfl,?_⟩
    have e:(if (3*(i:Int) > (g:Int)) then 3*(i:Int) else (g:Int))=((max g (3*i):Nat):Int):=by split <;> lia
    rw[e];have:=q (1+max g (3*i)) (by lia) ⟨λz=>by lia,λz=>z.elim⟩;rw[show((1+max g (3*i):Nat):Int)=1+((max g (3*i):Nat):Int) by lia]at this;exact this
theorem wE(T:Txt K mg a):∀ n:Nat,FnOk P w K mg base CX0 (n+6) a.f_C a.d_C ["_law_tree_here"] (spFit n):=by
 intro n
 induction n with
 | zero =>
  have D:FnOk P w K mg base CX0 5 _ _ _ _:=(nO T 3).mono (by decide);have k:FnOk P w K mg base CX0 5 a.f_C a.d_C ["_law_tree_here"] jj:=gq;refine T.F_C.ok sc_C (λvs H Q E h=>?_) (λcdv A outer s H vs Q E hr h=>?_)
  .obtain⟨v,N,rfl,_⟩:=h;rfl
  .obtain⟨v,N,rfl,d,j,hn,q⟩:=h
   refine⟨_,(ai (aR (aK dm (aB ax (vr 0) ag (λ_ _=>rfl)) aM (aI _)) (aj (ay (aT (aa aM (aa (av k hr rfl T.m_C T.F_C.kp T.B_C .nil ao (aa (aB ax (vr 0) ag (λ_ _=>rfl)) ae)) ae))))) aH) (ai (aR (aK dm (aB ax (vr 0) ag (λ_ _=>rfl)) aM (aI _)) (ai (aF (i:=1) sc_C.nd rfl (Or.inl rfl) (aB ax (vr 0) ag (λ_ _=>rfl))) (ai (eF PassesOwn.never (aK tu (av D hr rfl T.m_D T.F_D.kp T.B_D .nil ao (aa (vr 1) ae)) ag (aI _)) (aj (aF (i:=1) sc_C.nd rfl (Or.inl rfl) (aB ax (vr 1) ag (λ_ _=>rfl))))) (aj (ay (aT (aa aM (aa (vr 1) (aa (av k hr rfl T.m_C T.F_C.kp T.B_C .nil ao (aa (aB ax (vr 0) ag (λ_ _=>rfl)) ae)) ae)))))))) aH) (aj (ay (vr 0))))),gM ?_⟩;intro al an;have F:Same H H:=λb o e=>e
   cases N with
   | few m=>obtain⟨x,rfl,f⟩:=id d;exact ixT f 0 _ rfl _ (ixT f 0 _ rfl _ (q H _ _ F d j))
   | start m=>obtain⟨x,rfl,f⟩:=id d;exact ixT f 0 _ rfl _ (ixT f 0 _ rfl _ (q H _ _ F d j))
   | loose m=>obtain⟨x,rfl,f⟩:=id d;exact ixT f 0 _ rfl _ (ixT f 0 _ rfl _ (q H _ _ F d j))
   | each p=>exact j.elim
   | first p r=>exact j.elim
 | succ n ih =>
  have D:FnOk P w K mg base CX0 (n+6) _ _ _ (spNeeds 3):=(nO T 3).mono (by lia);have k:FnOk P w K mg base CX0 (n+6) _ _ _ (spFit n):=ih;refine T.F_C.ok sc_C (λvs H Q E h=>?_) (λcdv A outer s H vs Q E hr h=>?_)
  .obtain⟨v,N,rfl,_⟩:=h;rfl
  .obtain⟨v,N,rfl,d,j,hn,q⟩:=h
   refine⟨_,(ai (aR (aK dm (aB ax (vr 0) ag (λ_ _=>rfl)) aM (aI _)) (aj (ay (aT (aa aM (aa (av k hr rfl T.m_C T.F_C.kp T.B_C .nil ao (aa (aB ax (vr 0) ag (λ_ _=>rfl)) ae)) ae))))) aH) (ai (aR (aK dm (aB ax (vr 0) ag (λ_ _=>rfl)) aM (aI _)) (ai (aF (i:=1) sc_C.nd rfl (Or.inl rfl) (aB ax (vr 0) ag (λ_ _=>rfl))) (ai (eF PassesOwn.never (aK tu (av D hr rfl T.m_D T.F_D.kp T.B_D .nil ao (aa (vr 1) ae)) ag (aI _)) (aj (aF (i:=1) sc_C.nd rfl (Or.inl rfl) (aB ax (vr 1) ag (λ_ _=>rfl))))) (aj (ay (aT (aa aM (aa (vr 1) (aa (av k hr rfl T.m_C T.F_C.kp T.B_C .nil ao (aa (aB ax (vr 0) ag (λ_ _=>rfl)) ae)) ae)))))))) aH) (aj (ay (vr 0))))),gM ?_⟩;intro al an;have F:Same H H:=λb o e=>e
   cases N with
   | few m=>obtain⟨x,rfl,f⟩:=id d;exact ixT f 0 _ rfl _ (ixT f 0 _ rfl _ (q H _ _ F d j))
   | start m=>obtain⟨x,rfl,f⟩:=id d;exact ixT f 0 _ rfl _ (ixT f 0 _ rfl _ (q H _ _ F d j))
   | loose m=>obtain⟨x,rfl,f⟩:=id d;exact ixT f 0 _ rfl _ (ixT f 0 _ rfl _ (q H _ _ F d j))
   | each p =>
    obtain⟨x,u,rfl,f,hu⟩:=d;refine ixT f 0 _ rfl _ (ixT f 1 _ rfl _ ⟨u,p,rfl,hu,j,by lia,λH1 M p1 O J C=>?_⟩);refine⟨(by decide:2<=sizeLine),λt W=>?_⟩;have I:=Same.new (o:=.tup [.str "each",M]) W;exact q _ _ (.each p1) (O.trans I) ⟨t,M,rfl,ac,J.same I⟩ C
   | first p r =>
    obtain⟨x,u1,u2,rfl,f,S,ad⟩:=d;refine ixT f 0 _ rfl _ (ixT f 0 _ rfl _ (ixT f 1 _ rfl _ ?_));refine⟨λm σ H'=>H'=H/\∃(G:V) (B:Pl),σ=[some (.ref x),some G]/\IsTr H G B/\hg m B/\m<=n,⟨n,rfl,u1,p,rfl,S,j.1,Nat.le_refl _⟩,?_⟩;rintro m σ H' ⟨rfl,G,B,rfl,l,g,hm⟩;refine⟨G,B,rfl,l,pf (by lia) g,by decide,λrr _ L=>?_⟩;refine ifC (λc=>?_) λc=>?_
    .have R:¬jH B:=λz=>by have:=L.mpr z;have c':(0:Int)<(rr:Int):=c;lia
     refine⟨JF H' x m,?_,?_⟩
     .rintro ap aS ⟨rfl,Y,ah,rfl,J,m',ab,h2⟩
      exact⟨m',ab,rfl,Y,ah,rfl,J,h2,by lia⟩
     .cases B with
      | few _=>exact absurd (by cases m <;> exact g) R
      | start _=>exact absurd (by cases m <;> exact g) R
      | loose _=>exact absurd (by cases m <;> exact g) R
      | each p' =>
       cases m with
       | zero=>exact g.elim
       | succ m =>
        obtain⟨y,w1,rfl,X,hw⟩:=l;exact ixT X 1 _ rfl _ ⟨rfl,w1,p',rfl,hw,m,Nat.lt_succ_self _,g⟩
      | first p' r' =>
       cases m with
       | zero=>exact g.elim
       | succ m =>
        obtain⟨y,w1,w2,rfl,X,Z,as⟩:=l;exact ixT X 1 _ rfl _ ⟨rfl,w1,p',rfl,Z,m,Nat.lt_succ_self _,g.1⟩
    .have hf:jH B:=L.mp (by have c':¬(0:Int)<(rr:Int):=c;lia)
     refine ixT f 2 _ rfl _ ⟨u2,r,rfl,ad,j.2,by lia,λH1 M p1 O J C=>?_⟩;refine⟨(by decide:3<=sizeLine),λt W=>?_⟩;have I:=Same.new (o:=.tup [.str "first",G,M]) W;exact q _ _ (.first B p1) (O.trans I) ⟨t,G,M,rfl,ac,l.same (O.trans I),J.same I⟩ ⟨hf,C⟩
theorem eL{a:Ad}{d:Hp}{x c C:Addr}{fs:List (Str×V)}(f:d x=none)(g:d c=none):Same d (upd (upd (upd d c (.own x)) x (.ins C c [])) x (.ins C c fs)):=λb o e=>by
 rw[au (ar e f),au (ar e f),au (ar e g)];exact e
theorem uL(T:Txt K mg a):∀ n:Nat,FnOk P w K mg base CX0 (n+5) a.f_N a.d_N ["_law_tree_here"] (spPlan a n):=by
 intro n
 induction n with
 | zero =>
  have D:FnOk P w K mg base CX0 3 _ _ _ (spFewI a):=rS T;have o:FnOk P w K mg base CX0 3 _ _ _ (spStartI a):=nY T;have k:FnOk P w K mg base CX0 3 _ _ _ (spLooseI a):=nv T;have B:FnOk P w K mg base CX0 3 _ _ _ _:=(pI T).mono (by decide);have z:FnOk P w K mg base CX0 3 _ _ _ _:=(mZ T).mono (by decide);have f:FnOk P w K mg base CX0 4 a.f_N a.d_N ["_law_tree_here"] jj:=gq;refine T.F_N.ok kI (λS H Q E h=>?_) (λcdv A outer s H S Q E hr h=>?_)
  .obtain⟨v,G,rfl,_⟩:=h;rfl
  .obtain⟨v,G,rfl,e,j,q⟩:=h
   refine⟨_,(ai (aR (aK dm (aB ax (vr 0) ag (λ_ _=>rfl)) aM (aI _)) (aj (ay (bP T.mk_l B hr rfl T.mc_l T.Bi_l .nil ao (aa (av f hr rfl T.m_N T.F_N.kp T.B_N .nil ao (aa (aB ax (vr 0) ag (λ_ _=>rfl)) ae)) ae)))) aH) (ai (aR (aK dm (aB ax (vr 0) ag (λ_ _=>rfl)) aM (aI _)) (aj (ay (bP T.mk_c z hr rfl T.mc_c T.Bi_c .nil ao (aa (av f hr rfl T.m_N T.F_N.kp T.B_N .nil ao (aa (aB ax (vr 0) ag (λ_ _=>rfl)) ae)) (aa (av f hr rfl T.m_N T.F_N.kp T.B_N .nil ao (aa (aB ax (vr 0) ag (λ_ _=>rfl)) ae)) ae))))) aH) (ai (aR (aK dm (aB ax (vr 0) ag (λ_ _=>rfl)) aM (aI _)) (aj (ay (bP T.mk_x D hr rfl T.mc_x T.Bi_x .nil ao (aa (aB ax (vr 0) ag (λ_ _=>rfl)) ae)))) aH) (ai (aR (aK dm (aB ax (vr 0) ag (λ_ _=>rfl)) aM (aI _)) (aj (ay (bP T.mk_f o hr rfl T.mc_f T.Bi_f .nil ao (aa (aB ax (vr 0) ag (λ_ _=>rfl)) ae)))) aH) (aj (ay (bP T.mk_g k hr rfl T.mc_g T.Bi_g .nil ao (aa (aB ax (vr 0) ag (λ_ _=>rfl)) ae)))))))),pO ?_⟩;intro W X O R;cases G with
   | few m =>
    obtain⟨x,rfl,b⟩:=e;refine ixT b 0 _ rfl _ (ixT b 0 _ rfl _ (ixT b 0 _ rfl _ (ixT b 1 _ rfl _ ?_)));intro y d g c i;exact⟨y,d,m,rfl,ac,j,rfl,q _ _ (eL (a:=a) g c) ⟨y,d,rfl,ac⟩⟩
   | start m =>
    obtain⟨x,rfl,b⟩:=e;refine ixT b 0 _ rfl _ (ixT b 0 _ rfl _ (ixT b 0 _ rfl _ (ixT b 0 _ rfl _ (ixT b 1 _ rfl _ ?_))));intro y d g c i;exact⟨y,d,m,rfl,ac,j.1,j.2,rfl,q _ _ (eL (a:=a) g c) ⟨y,d,rfl,ac⟩⟩
   | loose m =>
    obtain⟨x,rfl,b⟩:=e;refine ixT b 0 _ rfl _ (ixT b 0 _ rfl _ (ixT b 0 _ rfl _ (ixT b 0 _ rfl _ (ixT b 1 _ rfl _ ?_))));intro y d g c i;exact⟨y,d,m,rfl,ac,j,rfl,q _ _ (eL (a:=a) g c) ⟨y,d,rfl,ac⟩⟩
   | each p=>exact j.elim
   | first p r=>exact j.elim
 | succ n ih =>
  have D:FnOk P w K mg base CX0 (n+4) _ _ _ (spFewI a):=(rS T).mono (by lia);have o:FnOk P w K mg base CX0 (n+4) _ _ _ (spStartI a):=(nY T).mono (by lia);have k:FnOk P w K mg base CX0 (n+4) _ _ _ (spLooseI a):=(nv T).mono (by lia);have B:FnOk P w K mg base CX0 (n+4) _ _ _ (spEachI a):=(pI T).mono (by lia);have z:FnOk P w K mg base CX0 (n+4) _ _ _ (spFirstI a):=(mZ T).mono (by lia);have f:FnOk P w K mg base CX0 (n+5) _ _ _ (spPlan a n):=ih;refine T.F_N.ok kI (λS H Q E h=>?_) (λcdv A outer s H S Q E hr h=>?_)
  .obtain⟨v,G,rfl,_⟩:=h;rfl
  .obtain⟨v,G,rfl,e,j,q⟩:=h
   refine⟨_,(ai (aR (aK dm (aB ax (vr 0) ag (λ_ _=>rfl)) aM (aI _)) (aj (ay (bP T.mk_l B hr rfl T.mc_l T.Bi_l .nil ao (aa (av f hr rfl T.m_N T.F_N.kp T.B_N .nil ao (aa (aB ax (vr 0) ag (λ_ _=>rfl)) ae)) ae)))) aH) (ai (aR (aK dm (aB ax (vr 0) ag (λ_ _=>rfl)) aM (aI _)) (aj (ay (bP T.mk_c z hr rfl T.mc_c T.Bi_c .nil ao (aa (av f hr rfl T.m_N T.F_N.kp T.B_N .nil ao (aa (aB ax (vr 0) ag (λ_ _=>rfl)) ae)) (aa (av f hr rfl T.m_N T.F_N.kp T.B_N .nil ao (aa (aB ax (vr 0) ag (λ_ _=>rfl)) ae)) ae))))) aH) (ai (aR (aK dm (aB ax (vr 0) ag (λ_ _=>rfl)) aM (aI _)) (aj (ay (bP T.mk_x D hr rfl T.mc_x T.Bi_x .nil ao (aa (aB ax (vr 0) ag (λ_ _=>rfl)) ae)))) aH) (ai (aR (aK dm (aB ax (vr 0) ag (λ_ _=>rfl)) aM (aI _)) (aj (ay (bP T.mk_f o hr rfl T.mc_f T.Bi_f .nil ao (aa (aB ax (vr 0) ag (λ_ _=>rfl)) ae)))) aH) (aj (ay (bP T.mk_g k hr rfl T.mc_g T.Bi_g .nil ao (aa (aB ax (vr 0) ag (λ_ _=>rfl)) ae)))))))),pO ?_⟩;intro W X O R;cases G with
   | few m =>
    obtain⟨x,rfl,b⟩:=e;refine ixT b 0 _ rfl _ (ixT b 0 _ rfl _ (ixT b 0 _ rfl _ (ixT b 1 _ rfl _ ?_)));intro y d g c i;exact⟨y,d,m,rfl,ac,j,rfl,q _ _ (eL (a:=a) g c) ⟨y,d,rfl,ac⟩⟩
   | start m =>
    obtain⟨x,rfl,b⟩:=e;refine ixT b 0 _ rfl _ (ixT b 0 _ rfl _ (ixT b 0 _ rfl _ (ixT b 0 _ rfl _ (ixT b 1 _ rfl _ ?_))));intro y d g c i;exact⟨y,d,m,rfl,ac,j.1,j.2,rfl,q _ _ (eL (a:=a) g c) ⟨y,d,rfl,ac⟩⟩
   | loose m =>
    obtain⟨x,rfl,b⟩:=e;refine ixT b 0 _ rfl _ (ixT b 0 _ rfl _ (ixT b 0 _ rfl _ (ixT b 0 _ rfl _ (ixT b 1 _ rfl _ ?_))));intro y d g c i;exact⟨y,d,m,rfl,ac,j,rfl,q _ _ (eL (a:=a) g c) ⟨y,d,rfl,ac⟩⟩
   | each p =>
    obtain⟨x,u,rfl,b,Z⟩:=e;refine ixT b 0 _ rfl _ (ixT b 1 _ rfl _ ⟨u,p,rfl,Z,j,λH1 l I J=>?_⟩);intro y d g c i;have F:=eL (a:=a) (C:=a.c_l) (fs:=[("inside",l)]) g c;exact⟨y,d,l,rfl,ac,rfl,q _ _ (I.trans F) ⟨y,d,l,rfl,ac,J.n (cK F.t)⟩⟩
   | first p r =>
    obtain⟨x,u1,u2,rfl,b,M,N⟩:=e;refine ixT b 0 _ rfl _ (ixT b 0 _ rfl _ (ixT b 1 _ rfl _ ⟨u1,p,rfl,M,lV j.1,λH1 l I J=>?_⟩));refine ixT (I _ _ b) 2 _ rfl _ ⟨u2,r,rfl,N.same I,j.2,λH2 Y F h2=>?_⟩;intro y d g c i;have L:=eL (a:=a) (C:=a.c_c) (fs:=[("outside",l),("inside",Y)]) g c;exact⟨y,d,l,Y,rfl,ac,rfl,q _ _ (I.trans (F.trans L)) ⟨y,d,l,Y,rfl,ac,J.n (cK (F.trans L).t),h2.n (cK L.t)⟩⟩
end
end My
namespace Nst
open FrM Tb PySem
def fnm(ms:List Mb):List Str:=ms.foldl (λns m=>if hd m∈ns then ns else ns++[hd m]) []
theorem mV(a:List Mb)(m:Mb):fnm (a++[m])=if hd m∈fnm a then fnm a else fnm a++[hd m]:=by
 unfold fnm;rw[List.foldl_append];rfl
def gof(ms:List Mb)(n:Str):List Mb:=(ms.filter λm=>decide (hd m=n)).map tl
theorem jD(a:List Mb)(m:Mb)(n:Str):gof (a++[m]) n=gof a n++if hd m=n then [tl m] else []:=by
 unfold gof;rw[filter_append,map_append]
 by_cases c:hd m=n
 .rw[filter_cons_of_pos (by exact decide_eq_true c),if_pos c];rfl
 .rw[filter_cons_of_neg (by exact λz=>c (of_decide_eq_true z)),if_neg c];rfl
theorem mR{f g:Str->List Mb}{k:Str}{m:Mb}:∀{ns:List Str},ns.Nodup->(∀ n∈ns,n≠k->g n=f n)->g k=f k++[m]->(k ∉ ns->f k=[])->dR (ns.map λn=>(n,f n)) k m=(if k∈ns then ns else ns++[k]).map λn=>(n,g n)
 | [],_,_,h2,h3=>by
  rw[if_neg (by simp)];show [(k,[m])]=[(k,g k)];rw[h2,h3 (by simp)];rfl
 | x::r,nd,h1,h2,h3=>by
  rw[nodup_cons]at nd;rw[map_cons];unfold dR
  by_cases c:x=k
  .subst c
   rw[if_pos rfl,if_pos mem_cons_self,map_cons,h2]
   congr 1
   refine List.map_congr_left λn a=>?_
   rw[h1 n (mem_cons_of_mem _ a) λz=>nd.1 (by rw[<- z];exact a)]
  .rw[if_neg c,mR nd.2 (λn a=>h1 n (mem_cons_of_mem _ a)) h2 λhk=>h3 λz=>(mem_cons.mp z).elim (λz=>c z.symm) hk]
   by_cases d:k∈r
   .rw[if_pos d,if_pos (mem_cons_of_mem _ d),map_cons,h1 x mem_cons_self c]
   .rw[if_neg d,if_neg λz=>(mem_cons.mp z).elim (λz=>c z.symm) d,cons_append,map_cons,h1 x mem_cons_self c]
theorem tM(a:List Mb):(fnm a).Nodup/\(∀ n,n∈fnm a↔∃ m∈a,hd m=n)/\groups a=(fnm a).map λn=>(n,gof a n):=by
 have j:∀ i,i<=a.length->(fnm (a.take i)).Nodup/\(∀ n,n∈fnm (a.take i)↔∃ m∈a.take i,hd m=n)/\groups (a.take i)=(fnm (a.take i)).map λn=>(n,gof (a.take i) n):=by
  intro i
  induction i with
  | zero=>exact λ_=>⟨nodup_nil,(λn=>⟨λz=>(by cases z),λz=>(by obtain⟨_,z,_⟩:=z;cases z)⟩),rfl⟩
  | succ i ih =>
   intro r;obtain⟨g,f,k⟩:=ih (by lia);have e:a[i]? = some (a[i]'(by lia)):=List.getElem?_eq_getElem _;generalize a[i]'(by lia)=m at e;have p:a.take (i+1)=a.take i++[m]:=by rw[take_add_one,e];rfl
   rw[p,gz,mV,k];generalize a.take i=l at g f k;refine⟨?_,λn=>?_,?_⟩
   .by_cases c:hd m∈fnm l
    .rw[if_pos c];exact g
    .rw[if_neg c,nodup_append]
     exact⟨g,by simp,λx h y q z=>c (by rw[mem_singleton.mp q]at z;rw[<- z];exact h)⟩
   .constructor
    .intro hn
     by_cases c:hd m∈fnm l
     .rw[if_pos c]at hn
      obtain⟨d,h4,b⟩:=(f n).mp hn;exact⟨d,mem_append_left _ h4,b⟩
     .rw[if_neg c]at hn
      rcases mem_append.mp hn with hn | hn
      .obtain⟨d,h4,b⟩:=(f n).mp hn
       exact⟨d,mem_append_left _ h4,b⟩
      .exact⟨m,by simp,(mem_singleton.mp hn).symm⟩
    .rintro⟨d,h4,b⟩
     have o:n∈fnm l\/n=hd m:=by
      rcases mem_append.mp h4 with h4 | h4
      .exact .inl ((f n).mpr ⟨d,h4,b⟩)
      .rw[mem_singleton.mp h4]at b;exact .inr b.symm
     by_cases c:hd m∈fnm l
     .rw[if_pos c]
      exact o.elim id λz=>by rw[z];exact c
     .rw[if_neg c]
      exact o.elim (λz=>mem_append_left _ z) λz=>by rw[z];simp
   .refine mR g (λn _ hn=>?_) ?_ λhk=>?_
    .rw[jD,if_neg (λz=>hn z.symm),append_nil]
    .rw[jD,if_pos rfl]
    .unfold gof
     have:l.filter (λx=>decide (hd x=hd m))=[]:=by
      rw[List.filter_eq_nil_iff];intro x h z;exact hk ((f _).mpr ⟨x,h,of_decide_eq_true z⟩)
     rw[this];rfl
 have:=j a.length (Nat.le_refl _);rw[take_length]at this;exact this
theorem qX(a:List Mb):parts a=(fnm a).map (gof a):=by
 unfold parts;rw[(tM a).2.2,map_map];rfl
theorem pU(b:List Mb):(fnm b).length<=b.length:=by
 have c:∀(b:List Mb) (a:List Str),(b.foldl (λa m=>if hd m∈a then a else a++[hd m]) a).length<=a.length+b.length:=by
  intro b
  induction b with
  | nil=>intro a;exact Nat.le_refl _
  | cons m r ih =>
   intro a;rw[foldl_cons,length_cons];have:=ih (if hd m∈a then a else a++[hd m])
   have d:(if hd m∈a then a else a++[hd m]).length<=a.length+1:=by split <;> simp
   lia
 have:=c b [];rw[length_nil]at this;unfold fnm;lia
end Nst
namespace Nst
theorem ut{k f m:Nat}(a:f<m):(f<=k/\(k - f) % m=0)↔k % m=f:=by
 constructor
 .rintro⟨c,b⟩
  have e:k=f+m*((k - f)/m):=by
   have:=Nat.div_add_mod (k - f) m;rw[b]at this;omega
  rw[e,Nat.add_mul_mod_self_left,Nat.mod_eq_of_lt a]
 .intro h
  have:=Nat.div_add_mod k m;rw[h]at this;refine⟨by omega,?_⟩;rw[show k - f=m*(k/m) by omega,Nat.mul_mod_right]
end Nst
namespace My
open PySem L2 FrM Nst
open Tb (Tr fT lT sT ba bnd d7 tot so)
def CrN(H0 H:Hp)(f:Addr)(g:List Mb)(v:V):Prop:=CrL H g v/\v≠.ref f/\∀ b,v=.ref b->H0 b=none
theorem CrN.same{H0 H a:Hp}{f:Addr}(s:Same H a)(g:List Mb)(v:V)(h:CrN H0 H f g v):CrN H0 a f g v:=⟨h.1.n (cK s.t),h.2⟩
theorem CrN.put{H0 H:Hp}{f:Addr}{a:List V}{m:HO}(i:H f=some (.lst a))(g:List Mb)(v:V)(h:CrN H0 H f g v):CrN H0 (upd H f m) f g v:=by
 obtain⟨⟨l,d,rfl,c,j⟩,n⟩:=h;have k:l≠f:=λz=>n.1 (by rw[z])
 refine⟨⟨l,d,rfl,by rw[au k];exact c,?_⟩,n⟩;exact j.tk λb o e=>by rw[au (λz=>by rw[z,i]at e;cases e)];exact e
inductive spLGroups(vs:List V)(H:Hp)(Q:VK)(_E:XK):Prop
 | mk(l:Addr)(ms:List Mb)(xs:List V)(h0:vs=[.ref l])(h1:H l=some (.lst xs))(h2:CrAt H ms xs)(h3:ms.length<=24)(h4:(∀ m∈ms,m.2.2≠[]/\m.2.2.length<=3))(h5:∀ H' r ys,Same H H'->H r=none->H' r=some (.lst ys)->Paired (λg v=>CrL H' g v/\∀ b,v=.ref b->H b=none) (parts ms) ys->Q (.ref r) H'):spLGroups vs H Q _E
inductive spLCrowd(vs:List V)(H:Hp)(Q:VK)(_E:XK):Prop
 | mk(c:Int)(h0:vs=[.int c])(h1:∀ H' r ms xs,Same H H'->H' r=some (.lst xs)->CrAt H' ms xs->Cok 3 ms->Q (.ref r) H'):spLCrowd vs H Q _E
section
variable {P:Program}{w:World}{K:Frag}{mg:Str->Option Value}{base:Heap}{a:Ad}
theorem qu(T:Txt K mg a):FnOk P w K mg base CX0 1 a.f_ah a.d_ah ["_law_groups_here"] spOuter:=by
 refine T.F_ah.ok oG (λvs H Q E h=>?_) (λcdv A outer s H vs Q E hr h=>?_)
 .obtain⟨v,L,rfl,_⟩:=h;rfl
 .obtain⟨v,L,rfl,⟨l,xs,rfl,hl,hg⟩,an,ab,q⟩:=h
  have Y:sizeLine=16777216:=sizeLine_eq;refine⟨_,(aj (ay (bj rfl (N:=["_law_k","_law_groups_here"]) (ix:=[none,some 0]) ⟨rfl,rfl,rfl,rfl,⟨rfl,rfl,rfl,trivial⟩⟩ (dP rfl T.z_range (aa (aG aP rfl T.z_len cj (aa (vr 0) ae)) ae)) ⟨λC s H R=>aw (i:=0) (show List.Nodup (["_law_k","_law_groups_here"]:List Str) by decide +kernel) rfl (Or.inl rfl),λC s H R=>bC,λC s H R=>(aT (aa (vr 0) (aa (aG (jK (K:=K) rfl rfl) rfl T.z_sum eX (aa (bj rfl (N:=["_law_row"]) (ix:=[none]) ⟨rfl,rfl,rfl,rfl,trivial⟩ (pA (K:=K) rfl (aB (cu (K:=K) rfl) (vr 1) (vr 0) (λ_ _=>rfl))) ⟨λC s H R=>aw (i:=0) (show List.Nodup (["_law_row"]:List Str) by decide +kernel) rfl (Or.inl rfl),λC s H R=>bC,λC s H R=>(aB (cu (K:=K) rfl) (vr 0) ag (λ_ _=>rfl))⟩) ae)) (aa (aT ae) ae))))⟩))),?_⟩;have gl:L.length=xs.length:=Paired.length hg;refine⟨_,.inl (SqL.of hl),⟨_,rfl,by lia,by lia,λD W=>?_⟩⟩
  let Pw1:PvL:=λi e g=>i<=xs.length/\Same H g/\g D=some (.lst e)/\CrAt g ((Nst.outer L).take i) e
  refine jC (lo:=0) (n:=xs.length) Pw1 ⟨Nat.zero_le _,Same.new W,ac,.nil⟩ (λi e g h=>h.2.2.1) ?_ ?_
  .rintro i e g P' B ⟨hi,r,u,J⟩ hP
   have ex:xs[i]? = some xs[i]:=List.getElem?_eq_getElem B;generalize xs[i]=y at ex;obtain⟨c,G,lg,z,rfl,M,O⟩:=aL hg ex;have yl:e.length=i:=by rw[<- J.length,length_take,dS];lia
   have cl:=ab c (List.mem_of_getElem? G);have X:c.length=z.length:=Paired.length O;refine⟨⟨rfl,trivial⟩,.inl ⟨l,_,_,_,rfl,rfl,SqL.of (r _ _ hl),bK i (by lia) ex,?_⟩⟩;refine .inl ⟨⟨_,SqL.of (r _ _ M)⟩,λD2 I=>?_⟩
   let Pw2:PvL:=λj x d=>Same g d/\d D2=some (.lst x)/\j<=z.length/\x=((szs c).take j).map V.int
   refine aO (K:=K) (a:=lg) (xs:=z) Pw2 ⟨Same.new I,ac,Nat.zero_le _,rfl⟩ (λj x d h=>SqL.of (h.1 _ _ (r _ _ M))) (λj x d h=>h.2.1) ?_ ?_
   .rintro j y x d P2 hy ⟨S,b,hj,rfl⟩ ah
    obtain⟨m,hm,k,pt,rfl,f,al⟩:=aL O hy;have ad:j<z.length:=(List.getElem?_eq_some_iff.mp hy).1;refine⟨trivial,.inr (.inl ⟨k,_,_,_,rfl,rfl,SqT.of ((r.trans S) _ _ f),bK 1 rfl rfl,b,?_,ah _ _ ⟨S.put I,ac,ad,?_⟩⟩)⟩
    .rw[length_map,length_take];lia
    .have:(szs c)[j]? = some m.2.1:=by unfold szs;rw[List.getElem?_map,hm];rfl
     rw[take_add_one,this,map_append];rfl
   .rintro x d ⟨S,b,_,rfl⟩
    have es:(szs c).take z.length=szs c:=take_of_length_le (by unfold szs;rw[length_map,X];exact Nat.le_refl _);rw[es]at b;refine⟨D2,szs c,rfl,SqL.of b,?_⟩;refine⟨Nat.zero_le _,λt ht=>?_⟩;have s4:=Same.new (o:=.tup []) ht;have e4:(upd d t (.tup [])) t=some (.tup []):=ac;generalize upd d t (.tup [])=H3 at s4 e4;refine⟨(by decide:3<=sizeLine),λk f=>?_⟩;rw[show((0:Int)+(i:Int))=((i:Nat):Int) by lia];have s5:=Same.new (o:=.tup [.int (i:Nat),.int (szs c).sum,.ref t]) f;have e5:(upd H3 k (.tup [.int (i:Nat),.int (szs c).sum,.ref t])) k=some (.tup [.int (i:Nat),.int (szs c).sum,.ref t]):=ac;generalize upd H3 k (.tup [.int (i:Nat),.int (szs c).sum,.ref t])=H4 at s5 e5;have p:=S.trans (s4.trans s5);have F:=p _ _ u;have Z:TK H4 (upd H4 D (.lst (e++[.ref k]))):=TK.lst F;refine⟨F,by lia,hP _ _ ⟨B,(r.trans p).put W,ac,?_⟩⟩
    have eo:(Nst.outer L)[i]? = some ((i:Int),(szs c).sum,[]):=by
     unfold Nst.outer;rw[List.getElem?_map,List.getElem?_zipIdx,G];simp
    rw[take_add_one,eo];exact CrAt.snoc (m:=((i:Int),(szs c).sum,[])) ⟨k,t,rfl,Z _ _ e5,Z _ _ (s5 _ _ e4)⟩ (J.tk (p.tk.trans Z))
  .rintro e g ⟨_,r,u,J⟩
   refine q _ _ _ r W u ?_;rw[<- gl,<- dS L,take_length]at J;exact J
theorem oM(T:Txt K mg a):FnOk P w K mg base CX0 1 a.f_aa a.d_aa ["_law_crowd_here"] spLGroups:=by
 refine T.F_aa.ok sc_aa (λvs H Q E h=>?_) (λcdv A outer s H vs Q E hr h=>?_)
 .obtain⟨l,f,xs,rfl,_⟩:=h;rfl
 .obtain⟨l,f,xs,rfl,hl,hC,bo,a2,q⟩:=h
  have a7:sizeLine=16777216:=sizeLine_eq;have xl:=hC.len;refine⟨_,(ai (aF (i:=1) sc_aa.nd rfl (Or.inl rfl) (cC ae)) (ai (dU PassesOwn.never rfl (bJ (vr 0)) (aw (i:=2) sc_aa.nd rfl (Or.inl rfl)) (aj (aR (aK ip (aB ax (aB ax (vr 2) ag (λ_ _=>rfl)) ag (λ_ _=>rfl)) (vr 1) (by with_unfolding_all rfl)) (aj (db (pe_m.append (vr 1) (aa (aB ax (aB ax (vr 2) ag (λ_ _=>rfl)) ag (λ_ _=>rfl)) ae)))) aH))) (ai (aF (i:=3) sc_aa.nd rfl (Or.inl rfl) (cC ae)) (ai (dU PassesOwn.never rfl (bJ (vr 1)) (aw (i:=4) sc_aa.nd rfl (Or.inr rfl)) (aj (db (pe_m.append (vr 3) (aa (bj rfl (N:=["_law_row","_law_name"]) (ix:=[none,some 4]) ⟨rfl,rfl,rfl,rfl,⟨rfl,rfl,rfl,trivial⟩⟩ (bJ (vr 0)) ⟨λC s H fp=>aw (i:=0) (show List.Nodup (["_law_row","_law_name"]:List Str) by decide +kernel) rfl (Or.inl rfl),λC s H fp=>eV (aK dm (aB (cu (K:=K) rfl) (aB (cu (K:=K) rfl) (vr 0) ag (λ_ _=>rfl)) ag (λ_ _=>rfl)) (vr 1) (aI _)),λC s H fp=>(aT (aa (aB (cu (K:=K) rfl) (vr 0) ag (λ_ _=>rfl)) (aa (aB (cu (K:=K) rfl) (vr 0) ag (λ_ _=>rfl)) (aa (d6 (ud (K:=K) rfl) (aB (cu (K:=K) rfl) (vr 0) ag (λ_ _=>rfl)) (d0 ag) eK) ae))))⟩) ae))))) (aj (ay (vr 3))))))),pO ?_⟩;intro bt bm a' bl;refine⟨Nat.zero_le _,λR aS=>?_⟩;have s0:Same H (upd H R (.lst [])):=Same.new aS
  let Pw3:PvS:=λi J p=>∃(x2 x3 x4:Option V),J=[some (.ref l),some (.ref R),x2,x3,x4]/\Same H p/\p R=some (.lst ((fnm (f.take i)).map V.str))
  refine .inl ⟨⟨_,SqL.of (s0 _ _ hl)⟩,fw (K:=K) (a:=l) (xs:=xs) Pw3 ⟨none,none,none,rfl,s0,ac⟩ (λi J p _ h=>by obtain⟨_,_,_,_,G,_⟩:=h;exact SqL.of (G _ _ hl)) ?_ ?_⟩
  .rintro i x J p S ⟨x2,x3,x4,rfl,G,d⟩
   obtain⟨m,hm,q1,pt,rfl,Z,ah⟩:=hC.get S;have bd:i<xs.length:=(List.getElem?_eq_some_iff.mp S).1;obtain⟨B,u,k⟩:=m;have an:=a2 _ (List.mem_of_getElem? hm);cases k with
   | nil=>exact absurd rfl an.1
   | cons n0 ps =>
    have hq:=G _ _ Z;have hp:p pt=some (.tup (V.str n0::ps.map V.str)):=G _ _ ah;have et:f.take (i+1)=f.take i++[(B,u,n0::ps)]:=by rw[take_add_one,hm];rfl
    have ef:=mV (f.take i) (B,u,n0::ps);have eh:hd (B,u,n0::ps)=n0:=rfl;rw[eh]at ef;refine ixT hq 2 _ rfl _ (ixT hp 0 _ (bK 0 rfl rfl) _ ?_);refine⟨R,_,rfl,.inl (SqL.of d),rfl,kY _,?_⟩;rw[mM];have W:=pU (f.take i);rw[length_take]at W;refine sE (λc=>?_) (λc=>?_)
    .have c':¬n0∈fnm (f.take i):=by simpa using c
     refine⟨.inl ⟨rfl,_,SqL.of d⟩,ixT hq 2 _ rfl _ (ixT hp 0 _ (bK 0 rfl rfl) _ ?_)⟩;refine⟨R,_,.str n0,rfl,rfl,d,by rw[length_map];lia,?_⟩;refine⟨_,_,_,rfl,G.put aS,?_⟩;rw[ac,et,ef,if_neg c',map_append];rfl
    .have c':n0∈fnm (f.take i):=by simpa using c
     refine⟨_,_,_,rfl,G,?_⟩;rw[et,ef,if_pos c'];exact d
  .rintro J H1 ⟨x2,x3,x4,rfl,G,d⟩
   rw[<- xl,take_length]at d;have W:=pU f;refine⟨Nat.zero_le _,λfl L=>?_⟩;have s2:Same H1 (upd H1 fl (.lst [])):=Same.new L;have b0:R≠fl:=λz=>by rw[z,L]at d;cases d
   let Pw4:PvS:=λi J p=>∃(y2 y4:Option V) (Y:List V),J=[some (.ref l),some (.ref R),y2,some (.ref fl),y4]/\Same H1 p/\p fl=some (.lst Y)/\Paired (CrN H p fl) (((fnm f).take i).map (gof f)) Y
   refine .inl ⟨⟨_,SqL.of (s2 _ _ d)⟩,fw (K:=K) (a:=R) (xs:=(fnm f).map V.str) Pw4 ⟨x2,x4,[],rfl,s2,ac,.nil⟩ (λi J p _ h=>by obtain⟨_,_,_,_,s3,_⟩:=h;exact SqL.of (s3 _ _ d)) ?_ ?_⟩
   .rintro i x J p S ⟨y2,y4,Y,rfl,s3,r,F⟩
    rw[List.getElem?_map]at S
    obtain⟨nm,hnm,rfl⟩:∃ nm,(fnm f)[i]? = some nm/\V.str nm=x:=by
     cases e:(fnm f)[i]? with
     | none=>rw[e]at S;cases S
     | some nm=>rw[e]at S;cases S;exact⟨nm,rfl,rfl⟩
    have a9:i<(fnm f).length:=(List.getElem?_eq_some_iff.mp hnm).1;have yl:Y.length=i:=by rw[<- F.length,length_map,length_take];lia
    have al:=G.trans s3;have ap:=al _ _ hl;refine⟨.inl ⟨rfl,_,SqL.of r⟩,?_⟩;refine .inl ⟨⟨_,SqL.of ap⟩,λD hD=>?_⟩;have nD:fl≠D:=λz=>by rw[z,hD]at r;cases r
    let Pw5:PvL:=λj M I=>Same p I/\I D=some (.lst M)/\j<=xs.length/\CrAt I (gof (f.take j) nm) M
    refine aO (K:=K) (a:=l) (xs:=xs) Pw5 ⟨Same.new hD,ac,Nat.zero_le _,.nil⟩ (λj M I h=>SqL.of (h.1 _ _ ap)) (λj M I h=>h.2.1) ?_ ?_
    .rintro j y M I P2 hy ⟨s4,O,hj,hz⟩ as
     obtain⟨m,hm,q1,pt,rfl,Z,ah⟩:=hC.get hy;have a3:j<xs.length:=(List.getElem?_eq_some_iff.mp hy).1;have a0:=al.trans s4;obtain⟨B,u,k⟩:=m;have an:=a2 _ (List.mem_of_getElem? hm);have et:f.take (j+1)=f.take j++[(B,u,k)]:=by rw[take_add_one,hm];rfl
     have eg:=jD (f.take j) (B,u,k) nm
     have zl:M.length<=24:=by
      rw[<- hz.length];unfold gof;rw[length_map];have:=length_filter_le (λm=>decide (hd m=nm)) (f.take j);rw[length_take]at this;lia
     cases k with
     | nil=>exact absurd rfl an.1
     | cons n0 ps =>
      have hq:=a0 _ _ Z;have hp:I pt=some (.tup (V.str n0::ps.map V.str)):=a0 _ _ ah;have eh:hd (B,u,n0::ps)=n0:=rfl;rw[eh]at eg
      have nw:¬(HT.sIx (V.str n0::ps.map V.str).length 0 (some 1)=0/\HT.sIx (V.str n0::ps.map V.str).length (V.str n0::ps.map V.str).length none=(V.str n0::ps.map V.str).length):=λz=>by
       have z1:=z.1;rw[show(some (1:Int))=some ((1:Nat):Int) from rfl,HT.sIx_nat,length_cons]at z1;lia
      have a8:dQ (V.str n0::ps.map V.str) (some 1) none=ps.map V.str:=fA _ 1;refine⟨⟨rfl,trivial⟩,ixT hq 2 _ rfl _ (ixT hp 0 _ (bK 0 rfl rfl) _ ?_)⟩;refine sE (λc=>?_) (λc=>?_)
      .have c':n0=nm:=by simpa using c
       refine ixT hq 0 _ rfl _ (ixT hq 1 _ rfl _ (ixT hq 2 _ rfl _ ⟨_,rfl,.inr ⟨_,SqT.of hp,nw,λX a6=>?_⟩⟩));rw[a8];have s5:=Same.new (o:=.tup (ps.map V.str)) a6;have e5:(upd I X (.tup (ps.map V.str))) X=some (.tup (ps.map V.str)):=ac;generalize upd I X (.tup (ps.map V.str))=H5 at s5 e5;refine⟨(by decide:3<=sizeLine),λa1 a5=>?_⟩;have s6:=Same.new (o:=.tup [.int B,.int u,.ref X]) a5;have e6:(upd H5 a1 (.tup [.int B,.int u,.ref X])) a1=some (.tup [.int B,.int u,.ref X]):=ac;generalize upd H5 a1 (.tup [.int B,.int u,.ref X])=H6 at s6 e6;have ab:=s5.trans s6;have a4:=ab _ _ O;have tk:TK H6 (upd H6 D (.lst (M++[.ref a1]))):=TK.lst a4;refine⟨a4,by lia,as _ _ ⟨(s4.trans ab).put hD,ac,a3,?_⟩⟩;rw[et,eg,if_pos c'];exact CrAt.snoc (m:=tl (B,u,n0::ps)) ⟨a1,X,rfl,tk _ _ e6,tk _ _ (s6 _ _ e5)⟩ (hz.tk (ab.tk.trans tk))
      .have c':¬n0=nm:=by simpa using c
       refine as _ _ ⟨s4,O,a3,?_⟩;rw[et,eg,if_neg c',append_nil];exact hz
    .rintro M I ⟨s4,O,_,hz⟩
     rw[<- xl,take_length]at hz;have ad:=s4 _ _ r;refine⟨fl,Y,.ref D,rfl,rfl,ad,by lia,?_⟩;refine⟨_,_,Y++[.ref D],rfl,(s3.trans s4).put L,ac,?_⟩;rw[take_add_one,hnm,map_append];exact cM (CrN.put ad _ _ ⟨⟨D,M,rfl,O,hz⟩,λz=>nD (by cases z;rfl),λb e=>by cases e;exact al.free hD⟩) (aA (λg v h=>CrN.put ad _ _ (CrN.same s4 _ _ h)) F)
   .rintro J p ⟨y2,y4,Y,rfl,s3,r,F⟩
    rw[length_map,take_length]at F;refine q _ _ Y (G.trans s3) (G.free L) r ?_;rw[qX];exact aA (λg v h=>⟨h.1,h.2.2⟩) F
theorem qS(T:Txt K mg a):FnOk P w K mg base CX0 2 a.f_Z a.d_Z ["_law_cell_here"] spLCrowd:=by
 have D:FnOk P w K mg base CX0 1 _ _ _ spMixed:=mY T;refine T.F_Z.ok sc_Z (λvs H Q E h=>?_) (λcdv A outer s H vs Q E hr h=>?_)
 .obtain⟨c,rfl,_⟩:=h;rfl
 .obtain⟨c,rfl,q⟩:=h
  have ah:sizeLine=16777216:=sizeLine_eq;refine⟨_,(ai (aF (i:=1) sc_Z.nd rfl (Or.inl rfl) (cC ae)) (ai (aF (i:=2) sc_Z.nd rfl (Or.inl rfl) (aD di ag (aD dD (aD cL (av D hr rfl T.m_E T.F_E.kp T.B_E .nil ao (aa (vr 0) (aa ag ae))) ag) ag))) (ai (dU PassesOwn.never rfl (dP rfl T.z_range (aa (aD di ag (aD dD (av D hr rfl T.m_E T.F_E.kp T.B_E .nil ao (aa (vr 0) (aa ag ae))) ag)) ae)) (aw (i:=3) sc_Z.nd rfl (Or.inl rfl)) (ai (aF (i:=4) sc_Z.nd rfl (Or.inl rfl) (av D hr rfl T.m_E T.F_E.kp T.B_E .nil ao (aa (vr 0) (aa (aD di ag (vr 3)) ae)))) (ai (aF (i:=5) sc_Z.nd rfl (Or.inl rfl) (aD di ag (aD dD (aD cL (vr 4) ag) (aB ax (cC (aa (aD kB ag ag) (aa ag ae))) (aD dD (vr 4) ag) (λ_ _=>rfl))))) (ai (aF (i:=6) sc_Z.nd rfl (Or.inl rfl) (cC ae)) (ai (aF (i:=4) sc_Z.nd rfl (Or.inl rfl) (aD cL (vr 4) (aD kB ag ag))) (ai (dU PassesOwn.never rfl (dP rfl T.z_range (aa ag ae)) (aw (i:=7) sc_Z.nd rfl (Or.inl rfl)) (ai (db (pe_m.append (vr 6) (aa (aB ax (cC (gv aM (gv aM (gv aM (gv aM (gv aM ae)))))) (aD dD (vr 4) (vr 2)) (λ_ _=>rfl)) ae))) (aj (aF (i:=4) sc_Z.nd rfl (Or.inl rfl) (aD cL (vr 4) (vr 2)))))) (aj (db (pe_m.append (vr 1) (aa (aT (aa (vr 3) (aa (vr 5) (aa (cY eZ rfl T.z_tuple jY (aa (vr 6) ae)) ae)))) ae)))))))))) (aj (ay (vr 1)))))),ny ?_⟩;intro bl a9 bd;refine⟨Nat.zero_le _,λr S=>?_⟩;have s0:Same H (upd H r (.lst [])):=Same.new S;refine⟨c,4,rfl,by decide,by decide,λk a4 a2=>?_⟩;refine⟨cdK,cp,?_⟩;have a5:1<=1+k/24 % 5:=by lia
  have a3:1+k/24 % 5<=5:=by lia
  refine⟨c,4,rfl,by decide,by decide,λr2 a' a8=>?_⟩;refine⟨cp,?_⟩;refine⟨_,rfl,by lia,by lia,?_⟩
  let Pw6:PvS:=λi J p=>∃(x:List Mb) (B:List V) (x3 x4 x5 x6 x7:Option V),J=[some (.int c),some (.ref r),some (.int (1+k/24 % 5)),x3,x4,x5,x6,x7]/\Same H p/\p r=some (.lst B)/\CrAt p x B/\x.length=i/\i<=24/\∀ m∈x,(1<=m.2.1/\m.2.1<=1000000)/\m.2.2.length=3/\∀ n∈m.2.2,n∈nms
  refine gF Pw6 ⟨[],[],none,none,none,none,none,rfl,s0,ac,.nil,rfl,Nat.zero_le _,λm hm=>by cases hm⟩ ?_ ?_
  .rintro i J p hi ⟨x,B,x3,x4,x5,x6,x7,rfl,s1,u,hC,R,X,f⟩
   have a0:i<24:=by lia
   have xl:=hC.len;refine⟨c,5+(0+(i:Int)),rfl,by lia,by lia,λd bm a7=>?_⟩;refine⟨cdK,?_⟩;refine⟨cw,⟨(by decide:2<=sizeLine),λl1 an=>?_⟩⟩
   obtain⟨z,hz,hz0,hz1⟩:∃ z:Int,atI [V.int (10 ^ Int.toNat 6),.int 6] (d % 2)=some (.int z)/\0<z/\z<=1000000:=by
    rcases(by lia:d % 2=0\/d % 2=1) with e | e <;> rw[e]
    .exact⟨_,rfl,by decide +kernel,by decide +kernel⟩
    .exact⟨6,rfl,by decide,by decide⟩
   refine⟨cp,.inl ⟨l1,_,_,.int z,rfl,rfl,SqL.of ac,hz,cp (by lia),?_⟩⟩;have m0:=Int.emod_nonneg (d/2) (show z≠0 by lia);have m1:=Int.emod_lt_of_pos (d/2) hz0;have s2:=Same.new (o:=.lst [V.int (10 ^ Int.toNat 6),.int 6]) an;refine⟨Nat.zero_le _,λC N=>?_⟩;have aS:p C=none:=s2.free N;have s3:=s2.trans (Same.new (o:=.lst []) N);have W:=ac (H:=upd p l1 (.lst [V.int (10 ^ Int.toNat 6),.int 6])) (a:=C) (o:=.lst []);generalize upd (upd p l1 (.lst [V.int (10 ^ Int.toNat 6),.int 6])) C (.lst [])=H3 at s3 W;refine⟨cw,cdK (by decide +kernel) (by decide +kernel),?_⟩;refine⟨_,rfl,by decide,by decide,?_⟩
   let Pw7:PvS:=λj J M=>∃(b:Int) (g:List Str) (y7:Option V),J=[some (.int c),some (.ref r),some (.int (1+k/24 % 5)),some (.int (0+(i:Int))),some (.int b),some (.int (1+d/2 % z)),some (.ref C),y7]/\Same p M/\M C=some (.lst (g.map V.str))/\g.length=j/\∀ n∈g,n∈nms
   refine gF Pw7 ⟨_,[],x7,rfl,s3,W,rfl,λn hn=>by cases hn⟩ ?_ ?_
   .rintro j J M hj ⟨b,g,y7,rfl,Z,v,L,F⟩
    have a6:j<3:=hj
    obtain⟨nm,hat,hnm⟩:∃ nm:Str,atI [V.str "north",.str "n",.str "south",.str "no",.str "z"] (b % (1+k/24 % 5))=some (.str nm)/\nm∈nms:=by
     have e0:=Int.emod_nonneg b (show(1+k/24 % 5)≠0 by lia);have e1:=Int.emod_lt_of_pos b (show 0<(1+k/24 % 5) by lia)
     rcases(by lia:b % (1+k/24 % 5)=0\/b % (1+k/24 % 5)=1\/b % (1+k/24 % 5)=2\/b % (1+k/24 % 5)=3\/b % (1+k/24 % 5)=4) with e | e | e | e | e <;> rw[e]
     .exact⟨_,rfl,by unfold nms;simp⟩
     .exact⟨_,rfl,by unfold nms;simp⟩
     .exact⟨_,rfl,by unfold nms;simp⟩
     .exact⟨_,rfl,by unfold nms;simp⟩
     .exact⟨_,rfl,by unfold nms;simp⟩
    refine⟨.inl ⟨rfl,_,SqL.of v⟩,⟨(by decide:5<=sizeLine),λl3 ap=>?_⟩⟩;have Y:=Same.new (o:=.lst [V.str "north",.str "n",.str "south",.str "no",.str "z"]) ap;refine⟨cp (by lia),.inl ⟨l3,_,_,.str nm,rfl,rfl,SqL.of ac,hat,?_⟩⟩;refine⟨C,_,.str nm,rfl,rfl,Y _ _ v,by rw[length_map];lia,?_⟩;refine⟨cdB (n:=10) (by lia) (by unfold Bt;lia),?_⟩;refine⟨_,g++[nm],_,rfl,(Z.trans Y).put aS,by rw[ac,map_append];rfl,by rw[length_append,L];rfl,λn hn=>?_⟩
    rcases mem_append.mp hn with hn | hn
    .exact F n hn
    .rw[mem_singleton.mp hn];exact hnm
   .rintro J M ⟨b,g,y7,rfl,Z,v,L,F⟩
    have ab:=Z _ _ u;refine⟨.inl ⟨rfl,_,SqL.of ab⟩,?_⟩;refine⟨C,_,rfl,.inl ⟨SqL.of v,λy al=>?_⟩⟩;have Y:=Same.new (o:=.tup (g.map V.str)) al;have e5:(upd M y (.tup (g.map V.str))) y=some (.tup (g.map V.str)):=ac;generalize upd M y (.tup (g.map V.str))=H5 at Y e5;refine⟨(by decide:3<=sizeLine),λI ad=>?_⟩;have s6:=Same.new (o:=.tup [.int (0+(i:Int)),.int (1+d/2 % z),.ref y]) ad;have e6:(upd H5 I (.tup [.int (0+(i:Int)),.int (1+d/2 % z),.ref y])) I=some (.tup [.int (0+(i:Int)),.int (1+d/2 % z),.ref y]):=ac;generalize upd H5 I (.tup [.int (0+(i:Int)),.int (1+d/2 % z),.ref y])=H6 at s6 e6;have G:=Z.trans (Y.trans s6);have O:=G _ _ u;have tk:TK H6 (upd H6 r (.lst (B++[.ref I]))):=TK.lst O;refine⟨r,B,.ref I,rfl,rfl,O,by lia,?_⟩;refine⟨x++[(0+(i:Int),1+d/2 % z,g)],B++[.ref I],_,_,_,_,_,rfl,(s1.trans G).put S,ac,?_,by rw[length_append,R];rfl,by lia,λm hm=>?_⟩
    .exact CrAt.snoc (m:=(0+(i:Int),1+d/2 % z,g)) ⟨I,y,rfl,tk _ _ e6,tk _ _ (s6 _ _ e5)⟩ (hC.tk (G.tk.trans tk))
    .rcases mem_append.mp hm with hm | hm
     .exact f m hm
     .rw[mem_singleton.mp hm]
      exact⟨⟨by show 1<=1+d/2 % z;lia,by show 1+d/2 % z<=1000000;lia⟩,L,F⟩
  .rintro J p ⟨x,B,x3,x4,x5,x6,x7,rfl,s1,u,hC,R,X,f⟩
   refine q _ r x B s1 u hC ⟨⟨by lia,by lia⟩,λm hm=>(f m hm).1.1,?_,λm hm=>by rw[(f m hm).2.1];exact⟨Nat.le_refl _,Nat.le_refl _⟩,λm hm=>(f m hm).2.2⟩
   have as:∀ l:List Mb,(∀ m∈l,m.2.1<=1000000)->(szs l).sum<=1000000*(l.length:Int):=λl=>by
    induction l with
    | nil=>intro _;simp[szs]
    | cons m l ih =>
     intro h;have h1:=h m mem_cons_self;have h2:=ih λm hm=>h m (mem_cons_of_mem _ hm)
     have e:(szs (m::l)).sum=m.2.1+(szs l).sum:=by unfold szs;rw[map_cons,sum_cons]
     rw[e,length_cons];lia
   have:=as x λm hm=>(f m hm).1.2
   lia
end
open Tb (Tr fT lT sT ba bnd d7 tot so)
def ThAt(H:Hp)(t:Int×Int)(y:V):Prop:=∃ q,y=.ref q/\H q=some (.tup [.int t.1,.int t.2])
theorem ThAt.tk{H a:Hp}(k:TK H a)(t:Int×Int)(y:V)(h:ThAt H t y):ThAt a t y:=let ⟨q,h1,h2⟩:=h;⟨q,h1,k _ _ h2⟩
structure StA(H:Hp)(d l:Addr)(r:Int)(th:List (Int×Int)):Prop where
 at':H d=some (.dK [(.inr "rest",.int r),(.inr "throws",.ref l)])
 ls:∃ ys,H l=some (.lst ys)/\Paired (ThAt H) th ys
def SX(d l:Addr)(H H':Hp):Prop:=Same (untrs H [d,l]) (untrs H' [d,l])
theorem SX.refl{d l:Addr}{H:Hp}:SX d l H H:=λb o e=>e
theorem SX.trans{d l:Addr}{H a c:Hp}(s:SX d l H a)(t:SX d l a c):SX d l H c:=λb o e=>t b o (s b o e)
theorem SX.of{d l:Addr}{H a:Hp}(s:Same H a):SX d l H a:=λb o e=>by
 obtain⟨n,c⟩:=aC e;rw[aE n];exact s b o c
theorem SX.put{d l b:Addr}{H:Hp}{o:HO}(f:b∈[d,l]):SX d l H (upd H b o):=λc u e=>by
 obtain⟨n,a⟩:=aC e;rw[aE n,au λz=>n (by rw[z];exact f)];exact a
theorem SX.nc{d l:Addr}{H a:Hp}(s:SX d l H a):NC (untrs H [d,l]) (untrs a [d,l]):=cK (Same.t s)
theorem StA.same{H a:Hp}{d l:Addr}{r:Int}{th:List (Int×Int)}(s:Same H a)(h:StA H d l r th):StA a d l r th:=by
 obtain⟨b,c,f,e⟩:=h;exact⟨s _ _ b,c,s _ _ f,aA (ThAt.tk s.tk) e⟩
theorem SX.put2{d l f:Addr}{H a:Hp}{o:HO}(s:SX d l H a)(n:f ∉ [d,l])(h:H f=none):SX d l H (upd a f o):=by
 unfold SX;rw[dg n];exact Same.put s (cJ h)
theorem StA.ne{H:Hp}{d l b:Addr}{r:Int}{th:List (Int×Int)}(h:StA H d l r th)(f:H b=none):b ∉ [d,l]:=λz=>by
 rcases mem_cons.mp z with rfl | z
 .rw[h.at']at f;cases f
 .obtain⟨c,a,_⟩:=h.ls
  rw[mem_singleton.mp z,a]at f;cases f
theorem StA.put{H:Hp}{d l f:Addr}{r:Int}{th:List (Int×Int)}{a e:List V}(h:StA H d l r th)(n:f ∉ [d,l])(i:H f=some (.lst a)):StA (upd H f (.lst e)) d l r th:=by
 obtain⟨c,g,m,k⟩:=h;have j:d≠f:=λz=>n (by rw[z];simp)
 have b:l≠f:=λz=>n (by rw[z];simp)
 exact⟨by rw[au j];exact c,g,by rw[au b];exact m,aA (ThAt.tk (TK.lst i)) k⟩
theorem StA.tk{H:Hp}{d l:Addr}{r:Int}{th:List (Int×Int)}(h:StA H d l r th):TK H (untrs H [d,l]):=λb f e=>by
 rw[aE λz=>?_]
 .exact e
 .rcases mem_cons.mp z with rfl | z
  .rw[h.at']at e;cases e
  .obtain⟨c,a,_⟩:=h.ls
   rw[mem_singleton.mp z,a]at e;cases e
inductive spThrown(vs:List V)(H:Hp)(Q:VK)(_E:XK):Prop
 | mk(d l:Addr)(r sd:Int)(th:List (Int×Int))(h0:vs=[.ref d,.int sd])(h1:0<sd)(h2:sd<=1000000000)(h3:StA H d l r th)(h4:th.length<=1000)(h5:∀ H',SX d l H H'->StA H' d l (r/sd) (th++[(r % sd,sd)])->Q (.int (r % sd)) H'):spThrown vs H Q _E
inductive spLFew(vs:List V)(H:Hp)(Q:VK)(_E:XK):Prop
 | mk(m:Nat)(lc:Addr)(xs:List V)(ms:List Mb)(d l:Addr)(r:Int)(th:List (Int×Int))(h0:vs=[.int (m:Nat),.ref lc,.ref d])(h1:untrs H [d,l] lc=some (.lst xs))(h2:CrAt (untrs H [d,l]) ms xs)(h3:ms.length<=24)(h4:StA H d l r th)(h5:th.length<=900)(h6:∀ H' q ns th' r',SX d l H H'->untrs H' [d,l] q=some (.lst (ns.map V.int))->StA H' d l r' (th++th')->th'.length<=ms.length->Rn (fT (plc ms) m []) r ns th' r'->Q (.ref q) H'):spLFew vs H Q _E
section
variable {P:Program}{w:World}{K:Frag}{mg:Str->Option Value}{base:Heap}{a:Ad}
theorem kS(T:Txt K mg a):FnOk P w K mg base CX0 1 a.f_U a.d_U ["_law_state","_law_sides"] spThrown:=by
 refine T.F_U.ok sc_U (λvs H Q E h=>?_) (λcdv A outer s H vs Q E hr h=>?_)
 .obtain⟨d,l,r,c,X,rfl,_⟩:=h;rfl
 .obtain⟨d,l,r,c,X,rfl,M,h1,⟨f,C,L,m⟩,N,q⟩:=h
  have D:sizeLine=16777216:=sizeLine_eq;have F:d≠l:=λz=>by rw[z,L]at f;cases f
  refine⟨_,(ai (aF (i:=2) sc_U.nd rfl (Or.inl rfl) (aD dD (ia (kH hr) (vr 0) aM (λ_ _=>rfl)) (vr 1))) (ai (uk (kH hr) (vr 0) aM (aD cL (ia (kH hr) (vr 0) aM (λ_ _=>rfl)) (vr 1)) rfl) (ai (db (pe_m.append (ia (kH hr) (vr 0) aM (λ_ _=>rfl)) (aa (aT (aa (vr 2) (aa (vr 1) ae))) ae))) (aj (ay (vr 2)))))),ny ?_⟩;intro ab W Y;have J:∀ x y:V,fh [((.inr "rest" : Key),x),(.inr "throws",y)] (.inr "rest")=some x:=λx y=>d8 rfl
  have S:∀ x y:V,fh [((.inr "rest" : Key),x),(.inr "throws",y)] (.inr "throws")=some y:=λx y=>by rw[eI (show ¬(Sum.inr ("rest" : Str):Key)=.inr "throws" by decide +kernel),d8 rfl]
  have Z:∀ x y z:V,fF [((.inr "rest" : Key),x),(.inr "throws",y)] (.inr "rest") z=[(.inr "rest",z),(.inr "throws",y)]:=λx y z=>by
   have O:¬(Sum.inr ("throws" : Str):Key)=.inr "rest" := by decide +kernel
   simp[fF,O]
  refine⟨d,.int r,rfl,.inl ⟨_,.inr "rest",.inl f,rfl,(J _ _).symm⟩,cp M,?_⟩;refine⟨d,.int r,rfl,.inl ⟨_,.inr "rest",.inl f,rfl,(J _ _).symm⟩,cdB (n:=40) M (by unfold Bt;lia),?_⟩;refine⟨d,_,rfl,.inl ⟨_,.inr "rest",f,rfl,by show 2<sizeLine;lia,rfl⟩,?_⟩;rw[Z];have j:(upd H d (.dK [(.inr "rest",.int (r/c)),(.inr "throws",.ref l)])) d=some (.dK [(.inr "rest",.int (r/c)),(.inr "throws",.ref l)]):=ac;have g:(upd H d (.dK [(.inr "rest",.int (r/c)),(.inr "throws",.ref l)])) l=some (.lst C):=by rw[au F.symm];exact L
  have u:SX d l H (upd H d (.dK [(.inr "rest",.int (r/c)),(.inr "throws",.ref l)])):=SX.put (by simp);have B:TK H (upd H d (.dK [(.inr "rest",.int (r/c)),(.inr "throws",.ref l)])):=λb xs e=>by rw[au (λz=>by rw[z,f]at e;cases e)];exact e
  generalize upd H d (.dK [(.inr "rest",.int (r/c)),(.inr "throws",.ref l)])=H2 at j g u B;refine⟨d,.ref l,rfl,.inl ⟨_,.inr "throws",.inl j,rfl,(S _ _).symm⟩,?_⟩;refine⟨.inl ⟨rfl,_,SqL.of g⟩,⟨ee _ _,λp R=>?_⟩⟩;have k:=Same.new (o:=.tup [.int (r % c),.int c]) R;have G:(upd H2 p (.tup [.int (r % c),.int c])) p=some (.tup [.int (r % c),.int c]):=ac;generalize upd H2 p (.tup [.int (r % c),.int c])=H3 at k G;have v:=k _ _ g;have yl:C.length<=1000:=by rw[<- m.length];exact N
  refine⟨l,C,.ref p,rfl,rfl,v,by lia,?_⟩;have I:TK H3 (upd H3 l (.lst (C++[.ref p]))):=TK.lst v;refine q _ (u.trans ((SX.of k).trans (SX.put (by simp)))) ⟨by rw[au F];exact k _ _ j,_,ac,cM ⟨p,rfl,I _ _ G⟩ (aA (ThAt.tk ((B.trans k.tk).trans I)) m)⟩
theorem uM(T:Txt K mg a):FnOk P w K mg base CX0 2 a.f_ak a.d_ak ["_law_many","_law_crowd_here","_law_state"] spLFew:=by
 have a2:FnOk P w K mg base CX0 1 _ _ _ spThrown:=kS T;refine T.F_ak.ok sc_ak (λvs H Q E h=>?_) (λcdv A outer s H vs Q E hr h=>?_)
 .obtain⟨m,lc,xs,u,d,l,r,th,rfl,_⟩:=h;rfl
 .obtain⟨m,lc,xs,u,d,l,r,th,rfl,R,hC,a7,st,a5,q⟩:=h
  have a0:sizeLine=16777216:=sizeLine_eq;have xl:=hC.len;have ah:=(aC R).2;have pl:(plc u).length=u.length:=by unfold plc;rw[length_map]
  refine⟨_,(ai (aF (i:=3) sc_ak.nd rfl (Or.inl rfl) (cC ae)) (ai (dU PassesOwn.never rfl (eR rfl T.z_enumerate (aa (vr 1) ae)) (dN rfl (az (aw (i:=4) sc_ak.nd rfl (Or.inl rfl)) (az (aw (i:=5) sc_ak.nd rfl (Or.inl rfl)) bi))) (aj (aR (aK qZ (vr 0) (aD eO (aG aP rfl T.z_len cj (aa (vr 1) ae)) (vr 4)) (aI _)) (ai (db (pe_m.append (vr 3) (aa (aB ax (vr 5) ag (λ_ _=>rfl)) ae))) (aj (aF (i:=0) sc_ak.nd rfl (Or.inl rfl) (aD eO (vr 0) ag)))) (aj (aR (PW.pt (jN (aK tu (vr 0) ag (aI _)) (iz (aK ln (av a2 hr rfl T.m_U T.F_U.kp T.B_U .nil ao (aa (vr 2) (aa (aD eO (aG aP rfl T.z_len cj (aa (vr 1) ae)) (vr 4)) ae))) (vr 0) (aI _))))) (ai (db (pe_m.append (vr 3) (aa (aB ax (vr 5) ag (λ_ _=>rfl)) ae))) (aj (aF (i:=0) sc_ak.nd rfl (Or.inl rfl) (aD eO (vr 0) ag)))) aH))))) (aj (ay (vr 3))))),gM ?_⟩;intro a8 a9;refine⟨Nat.zero_le _,λf hf=>?_⟩;have s0:Same H (upd H f (.lst [])):=Same.new hf;have Y:=st.ne hf
  let Pw1:PvS:=λi σ G=>∃(x4 x5:Option V) (j:Nat) (k:List Int) (r':Int) (b:List (Int×Int)),σ=[some (.int (j:Nat)),some (.ref lc),some (.ref d),some (.ref f),x4,x5]/\SX d l H G/\G f=some (.lst (k.map V.int))/\k.length<=i/\StA G d l r' (th++b)/\b.length<=i/\i<=xs.length/\∀ ns g o,Rn (fT ((plc u).drop i) j k) r' ns g o->Rn (fT (plc u) m []) r ns (b++g) o
  refine⟨lc,xs,rfl,s0 _ _ ah,jI (a:=lc) (xs:=xs) Pw1 ⟨none,none,m,[],r,[],rfl,SX.of s0,ac,Nat.zero_le _,by rw[append_nil];exact st.same s0,Nat.zero_le _,Nat.zero_le _,λns g o h=>h⟩ (λi σ G h=>by obtain⟨_,_,_,_,_,_,_,sx,_⟩:=h;exact(aC (sx.nc _ _ rfl R)).2) ?_ ?_⟩
  .rintro i x σ G p hx ⟨x4,x5,j,k,r',b,rfl,sx,S,an,W,aS,hi,v⟩ hp
   have D:i<xs.length:=(List.getElem?_eq_some_iff.mp hx).1;have a1:=aA (MbAt.n sx.nc) hC;obtain⟨B,ap,O,pt,rfl,ad,a6⟩:=CrAt.get a1 hx;have Z:Same G (upd G p (.tup [.int (i:Nat),.ref O])):=Same.new hp;refine⟨p,_,rfl,SqT.of ac,rfl,_,_,rfl,_,_,rfl,rfl,?_⟩;have z:=sx.trans (SX.of Z);have y:=Z _ _ S;have F:=W.same Z;have ab:=Z _ _ (aC ad).2;generalize upd G p (.tup [.int (i:Nat),.ref O])=H2 at Z z y F ab;have L:=(aC (z.nc _ _ rfl R)).2
   have C:(plc u).drop i=B.1::(plc u).drop (i+1):=by
    have e:(plc u)[i]? = some B.1:=by unfold plc;rw[List.getElem?_map,ap];rfl
    obtain⟨a4,e'⟩:=List.getElem?_eq_some_iff.mp e;rw[drop_eq_getElem_cons a4,e']
   have I:((plc u).drop (i+1)).length=u.length - (i+1):=by rw[length_drop,pl]
   refine⟨_,.inl (SqL.of L),?_⟩;refine ifC (λc=>?_) (λc=>?_)
   .have c':(xs.length:Int) - (i:Int)<=(j:Int):=c
    refine⟨.inl ⟨rfl,_,SqL.of y⟩,ixT ab 0 _ rfl _ ?_⟩;refine⟨f,_,.int B.1,rfl,rfl,y,by rw[length_map];lia,?_⟩;refine⟨some (.int (i:Nat)),some (.ref O),j - 1,k++[B.1],r',b,?_,z.put2 Y hf,by rw[ac,map_append];rfl,by rw[length_append];show k.length+1<=_;lia,F.put Y y,by lia,D,λns g o h=>v ns g o ?_⟩
    .rw[show((j - 1:Nat):Int)=(j:Int) - 1 by lia]
     rfl
    .rw[C,tI (by rw[I];lia)]
     exact h
   .have c':¬(xs.length:Int) - (i:Int)<=(j:Int):=c
    have es:(((plc u).drop (i+1)).length:Int)+1=(xs.length:Int) - (i:Int):=by rw[I];lia
    refine ifC (λc1=>?_) (λc1=>?_)
    .have a3:(0:Int)<(j:Int):=c1
     refine⟨_,.inl (SqL.of L),d,l,r',(xs.length:Int) - (i:Int),th++b,rfl,by lia,by lia,F,by rw[length_append];lia,λH3 X N=>?_⟩;rw[append_assoc]at N;have al:=z.trans X;have J:H3 f=some (.lst (k.map V.int)):=(aC (X.nc _ _ rfl (by rw[aE Y];exact y))).2;have as:H3 O=some (.tup [.int B.1,.int B.2.1,.ref pt]):=(aC (X.nc _ _ rfl ((SX.of Z).nc _ _ rfl ad))).2;refine ifC (λc2=>?_) (λc2=>?_)
     .have M:r' % ((xs.length:Int) - (i:Int))<(j:Int):=c2
      refine⟨.inl ⟨rfl,_,SqL.of J⟩,ixT as 0 _ rfl _ ?_⟩;refine⟨f,_,.int B.1,rfl,rfl,J,by rw[length_map];lia,?_⟩;refine⟨some (.int (i:Nat)),some (.ref O),j - 1,k++[B.1],_,b++[(r' % ((xs.length:Int) - (i:Int)),(xs.length:Int) - (i:Int))],?_,al.put2 Y hf,by rw[ac,map_append];rfl,by rw[length_append];show k.length+1<=_;lia,N.put Y J,by rw[length_append];show b.length+1<=_;lia,D,λns g o h=>?_⟩
      .rw[show((j - 1:Nat):Int)=(j:Int) - 1 by lia]
       rfl
      .rw[append_assoc]
       refine v ns _ o ?_;rw[C];have:=uX (x:=B.1) (r:=(plc u).drop (i+1)) (w:=j) (t:=k) (rest:=r') (ns:=ns) (th:=g) (r':=o) (by rw[I];lia) (by rw[es];exact M) (by rw[es];exact h);rw[es]at this;exact this
     .have M:¬r' % ((xs.length:Int) - (i:Int))<(j:Int):=c2
      refine⟨some (.int (i:Nat)),some (.ref O),j,k,_,b++[(r' % ((xs.length:Int) - (i:Int)),(xs.length:Int) - (i:Int))],rfl,al,J,by lia,N,by rw[length_append];show b.length+1<=_;lia,D,λns g o h=>?_⟩;rw[append_assoc];refine v ns _ o ?_;rw[C];have:=sH (x:=B.1) (r:=(plc u).drop (i+1)) (w:=j) (t:=k) (rest:=r') (ns:=ns) (th:=g) (r':=o) (by lia) (by rw[I];lia) (by rw[es];exact M) (by rw[es];exact h);rw[es]at this;exact this
    .have a3:¬(0:Int)<(j:Int):=c1
     have m0:j=0:=by lia
     subst m0;refine sY ⟨some (.int (i:Nat)),some (.ref O),0,k,r',b,rfl,z,y,by lia,F,by lia,D,λns g o h=>v ns g o ?_⟩;rw[C,rh];exact h
  .rintro σ G ⟨x4,x5,j,k,r',b,rfl,sx,S,an,W,aS,hi,v⟩
   refine q _ f k b r' sx (by rw[aE Y];exact S) W (by lia) ?_;have:=v k [] r' (by rw[drop_of_length_le (by lia)];exact .leaf _ _);rw[append_nil]at this;exact this
end
open Tb (Tr fT lT sT ba bnd d7 tot so)
theorem uO{z:List Int}{m:Nat}(h:Szs z):∀ f∈due z (m:Nat),FrOk f:=wF (λk a=>h.lo _ (iU a)) (λk a=>h.hi _ (iU a)) h.len (by lia)
inductive spDraw(N:Nat)(vs:List V)(H:Hp)(Q:VK)(_E:XK):Prop
 | mk(n:Nat)(v:V)(pl:Pl)(lc:Addr)(xs:List V)(ms:List Mb)(d l:Addr)(r:Int)(th:List (Int×Int))(h0:vs=[v,.ref lc,.ref d])(h1:IsTr (untrs H [d,l]) v pl)(h2:ht n pl)(h3:n<=N)(h4:Cok n ms)(h5:untrs H [d,l] lc=some (.lst xs))(h6:CrAt (untrs H [d,l]) ms xs)(h7:StA H d l r th)(h8:th.length+(n+1)*ms.length<=900)(h9:∀ H' q (fd ns:List Int) th' r',SX d l H H'->untrs H' [d,l] q=some (.lst (fd.map V.int))->fd.Perm ns->StA H' d l r' (th++th')->th'.length<=(n+1)*ms.length->Rn (nT pl ms) r ns th' r'->Q (.ref q) H'):spDraw N vs H Q _E
def xR:Nat->Sp
 | 0=>jj
 | n+1=>spDraw n
section
variable {P:Program}{w:World}{K:Frag}{mg:Str->Option Value}{base:Heap}{a:Ad}
theorem mS(T:Txt K mg a)(N:Nat){k:Nat}(hk:7<=k)(hM:FnOk P w K mg base CX0 k a.f_J a.d_J ["_law_sizes","_law_many"] (spWished K))(gc:FnOk P w K mg base CX0 k a.f_Q a.d_Q ["_law_tree_here","_law_crowd_here","_law_state"] (xR N)):FnOk P w K mg base CX0 (k+1) a.f_Q a.d_Q ["_law_tree_here","_law_crowd_here","_law_state"] (spDraw N):=by
 have f3:FnOk P w K mg base CX0 k _ _ _ spLFew:=(uM T).mono (by lia);have go:FnOk P w K mg base CX0 k _ _ _ spThrown:=(kS T).mono (by lia);have e7:FnOk P w K mg base CX0 k _ _ _ spLGroups:=(oM T).mono (by lia);have e1:FnOk P w K mg base CX0 k _ _ _ spOuter:=(qu T).mono (by lia);refine T.F_Q.ok sc_Q (λvs H Q E h=>?_) (λcdv A outer s H vs Q E hr h=>?_)
 .obtain⟨n,v,pl,lc,xs,F,d,l,r,th,rfl,_⟩:=h;rfl
 .obtain⟨n,v,pl,lc,xs,F,d,l,r,th,rfl,hI,hh,jb,hc,fi,hC,st,hb,q⟩:=h
  have hU:F.length<=(n+1)*F.length:=Nat.le_mul_of_pos_left _ (by lia);generalize hB9:(n+1)*F.length=B at hb q hU;have h6:sizeLine=16777216:=sizeLine_eq;have c9:=hc.len.2;have xl:=hC.len;have dT:=(aC fi).2;have b5:(plc F).length=F.length:=by unfold plc;rw[length_map]
  refine⟨_,(ai (aF (i:=3) sc_Q.nd rfl (Or.inr rfl) (bj rfl (N:=["_law_member"]) (ix:=[none]) ⟨rfl,rfl,rfl,rfl,trivial⟩ (bJ (vr 1)) ⟨λC s H fp=>aw (i:=0) (show List.Nodup (["_law_member"]:List Str) by decide +kernel) rfl (Or.inl rfl),λC s H fp=>bC,λC s H fp=>(aB (cu (K:=K) rfl) (vr 0) ag (λ_ _=>rfl))⟩)) (ai (aR (aK dm (aB ax (vr 0) ag (λ_ _=>rfl)) aM (aI _)) (aj (ay (av f3 hr rfl T.m_ak T.F_ak.kp T.B_ak .nil ao (aa (aB ax (vr 0) ag (λ_ _=>rfl)) (aa (vr 1) (aa (vr 2) ae)))))) aH) (ai (aR (aK dm (aB ax (vr 0) ag (λ_ _=>rfl)) aM (aI _)) (ai (aR (aK dm (aB ax (vr 0) ag (λ_ _=>rfl)) ag (aI _)) (aj (ay (vr 3))) aH) (ai (aF (i:=4) sc_Q.nd rfl (Or.inr rfl) (av go hr rfl T.m_U T.F_U.kp T.B_U .nil ao (aa (vr 2) (aa (aB ax (vr 0) ag (λ_ _=>rfl)) ae)))) (aj (ay (bj rfl (N:=["_law_k","_law_places","_law_start","_law_tree_here"]) (ix:=[none,some 3,some 4,some 0]) ⟨rfl,rfl,rfl,rfl,⟨rfl,rfl,rfl,⟨rfl,rfl,rfl,⟨rfl,rfl,rfl,trivial⟩⟩⟩⟩ (dP rfl T.z_range (aa (aG aP rfl T.z_len cj (aa (vr 3) ae)) ae)) ⟨λC s H fp=>aw (i:=0) (show List.Nodup (["_law_k","_law_places","_law_start","_law_tree_here"]:List Str) by decide +kernel) rfl (Or.inl rfl),λC s H fp=>eV (PW.pt (jN (aK qZ (vr 0) (vr 2) (aI _)) (iz (aK dm (aD dD (aD eO (vr 0) (vr 2)) (aB (cu (K:=K) rfl) (vr 3) ag (λ_ _=>rfl))) ag (aI _))))),λC s H fp=>(aB (cu (K:=K) rfl) (vr 1) (vr 0) (λ_ _=>rfl))⟩))))) aH) (ai (aF (i:=5) sc_Q.nd rfl (Or.inl rfl) (cC ae)) (ai (aR (aK dm (aB ax (vr 0) ag (λ_ _=>rfl)) aM (aI _)) (ai (dU PassesOwn.never rfl (wA rfl T.z_zip (aa (vr 3) (aa (av hM hr rfl T.m_J T.F_J.kp T.B_J .nil ao (aa (bj rfl (N:=["_law_member"]) (ix:=[none]) ⟨rfl,rfl,rfl,rfl,trivial⟩ (bJ (vr 1)) ⟨λC s H fp=>aw (i:=0) (show List.Nodup (["_law_member"]:List Str) by decide +kernel) rfl (Or.inl rfl),λC s H fp=>bC,λC s H fp=>(aB (cu (K:=K) rfl) (vr 0) ag (λ_ _=>rfl))⟩) (aa (aB ax (vr 0) ag (λ_ _=>rfl)) ae))) ae))) (dN rfl (az (aw (i:=6) sc_Q.nd rfl (Or.inl rfl)) (az (aw (i:=7) sc_Q.nd rfl (Or.inl rfl)) bi))) (aj (aR (PW.pt (nQ (aK (sI hr.units) (vr 7) (aT (aa ag (aa ag ae))) (aI _)) (lL (PW.pt (jN (aK tu (aB ax (vr 7) ag (λ_ _=>rfl)) ag (aI _)) (iz (aK ln (av go hr rfl T.m_U T.F_U.kp T.B_U .nil ao (aa (vr 2) (aa (aB ax (vr 7) ag (λ_ _=>rfl)) ae))) (aB ax (vr 7) ag (λ_ _=>rfl)) (aI _)))))))) (aj (db (pe_m.append (vr 5) (aa (vr 6) ae)))) aH))) (aj (ay (vr 5)))) aH) (ai (aF (i:=8) sc_Q.nd rfl (Or.inl rfl) (av e7 hr rfl T.m_aa T.F_aa.kp T.B_aa .nil ao (aa (vr 1) ae))) (ai (aF (i:=9) sc_Q.nd rfl (Or.inl rfl) (cY (iA rfl) rfl T.z_list gB (aa (cY kD rfl T.z_range mC (aa (aG aP rfl T.z_len cj (aa (vr 8) ae)) ae)) ae))) (ai (aR (aK dm (aB ax (vr 0) ag (λ_ _=>rfl)) aM (aI _)) (aj (aF (i:=9) sc_Q.nd rfl (Or.inl rfl) (aG eA rfl T.z_sorted fm (aa (av gc hr rfl T.m_Q T.F_Q.kp T.B_Q .nil ao (aa (aB ax (vr 0) ag (λ_ _=>rfl)) (aa (av e1 hr rfl T.m_ah T.F_ah.kp T.B_ah .nil ao (aa (vr 8) ae)) (aa (vr 2) ae)))) ae)))) aH) (ai (dU PassesOwn.never rfl (bJ (vr 9)) (aw (i:=10) sc_Q.nd rfl (Or.inl rfl)) (aj (aF (i:=5) sc_Q.nd rfl (Or.inl rfl) (aD jS (vr 5) (av gc hr rfl T.m_Q T.F_Q.kp T.B_Q .nil ao (aa (aB ax (vr 0) (sk sg ag) (λ_ _=>rfl)) (aa (aB ax (vr 8) (vr 10) (λ_ _=>rfl)) (aa (vr 2) ae)))))))) (aj (ay (vr 5)))))))))))),rT ?_⟩
  intro h9 ie iv is ir js i0 ih kw;refine .inl ⟨⟨_,SqL.of dT⟩,λD hD=>?_⟩;have nD:=st.ne hD
  let Pw1:PvL:=λi zs I=>Same H I/\I D=some (.lst zs)/\i<=xs.length/\zs=((plc F).take i).map V.int
  refine aO (K:=K) (a:=lc) (xs:=xs) Pw1 ⟨Same.new hD,ac,Nat.zero_le _,rfl⟩ (λi zs I h=>SqL.of (h.1 _ _ dT)) (λi zs I h=>h.2.1) ?_ ?_
  .rintro i y zs I P' hy ⟨s1,a8,hi,rfl⟩ a'
   obtain⟨mb,ea,q1,pt,rfl,ec,h4⟩:=CrAt.get hC hy;have ad:i<xs.length:=(List.getElem?_eq_some_iff.mp hy).1;refine⟨trivial,ixT (s1 _ _ (aC ec).2) 0 _ rfl _ ⟨a8,by rw[length_map,length_take];lia,a' _ _ ⟨s1.put hD,ac,ad,?_⟩⟩⟩;have e:(plc F)[i]? = some mb.1:=by unfold plc;rw[List.getElem?_map,ea];rfl
   rw[take_add_one,e,map_append];rfl
  rintro zs H1 ⟨s1,a8,_,rfl⟩;rw[<- xl,<- b5,take_length]at a8;have bm:SX d l H H1:=SX.of s1;have ap:=st.same s1;have eS:=bm.nc;have a7:=hI.n eS;have b1:=eS _ _ rfl fi;have c8:=aA (MbAt.n eS) hC;clear s1;cases pl with
  | few m =>
   obtain⟨x,rfl,Y⟩:=a7;have Y:=(aC Y).2;refine ixT Y 0 _ rfl _ (ixT Y 1 _ rfl _ ⟨m,lc,xs,F,d,l,r,th,rfl,b1,c8,c9,ap,by lia,λH2 q2 X G S c0 h2 ah kl J=>?_⟩);exact q _ q2 X X G S (bm.trans c0) h2 (.refl _) ah (by lia) J
  | start m =>
   obtain⟨x,rfl,a6⟩:=a7;have Y:=(aC a6).2
   have hm:1<=m/\m<=100:=by cases n <;> exact hh
   refine ixT Y 0 _ rfl _ (ixT Y 0 _ rfl _ (ixT Y 1 _ rfl _ ?_));refine ifC (λc=>?_) (λc=>?_)
   .have c':(m:Int)=1:=c
    have ha:m=1:=by lia
    refine q _ D (plc F) (plc F) [] r bm (by rw[aE nD];exact a8) (.refl _) (by rw[append_nil];exact ap) (Nat.zero_le _) ?_;show Rn (stT (plc F) m) r (plc F) [] r;unfold stT;rw[if_pos (.inl ha)];exact .leaf _ _
   .have c':¬(m:Int)=1:=c
    refine ixT Y 1 _ rfl _ ⟨d,l,r,(m:Int),th,rfl,by lia,by lia,ap,by lia,λH2 c0 ah=>?_⟩;have fn:H2 D=some (.lst ((plc F).map V.int)):=(aC (c0.nc _ _ rfl (by rw[aE nD];exact a8))).2;have hB:H2 x=some (.tup [.str "start",.int (m:Nat)]):=(aC (c0.nc _ _ rfl a6)).2;have r0:=Int.emod_nonneg r (show(m:Int)≠0 by lia);have r1:=Int.emod_lt_of_pos r (show 0<(m:Int) by lia)
    obtain⟨f,hf⟩:∃ f:Nat,r % (m:Int)=(f:Int):=⟨(r % (m:Int)).toNat,by lia⟩
    have hq:f<m:=by lia
    refine⟨_,.inl (SqL.of fn),⟨_,rfl,by rw[length_map];lia,by rw[length_map];lia,λE hE=>?_⟩⟩
    let Pw2:PvL:=λj zs I=>Same H2 I/\I E=some (.lst zs)/\zs=(((List.range j).filter λk=>decide (k % m=f)).filterMap ((plc F)[·]?)).map V.int/\zs.length<=j
    refine jC (lo:=0) (n:=((plc F).map V.int).length) Pw2 ⟨Same.new hE,ac,rfl,Nat.le_refl _⟩ (λj zs I h=>h.2.1) ?_ ?_
    .rintro j zs I P' hj ⟨s3,cD,rfl,kp⟩ a'
     rw[length_map,b5]at hj;have ep:(plc F)[j]? = some (plc F)[j]:=List.getElem?_eq_getElem (by lia);have mh:=ut (k:=j) hq
     have g':j % m=f->(((List.range (j+1)).filter λk=>decide (k % m=f)).filterMap ((plc F)[·]?))=(((List.range j).filter λk=>decide (k % m=f)).filterMap ((plc F)[·]?))++[(plc F)[j]]:=λh=>by
      rw[range_succ,filter_append,List.filterMap_append,filter_cons_of_pos (by exact decide_eq_true h)]
      congr 1
      simp[ep]
     have dV:¬j % m=f->(((List.range (j+1)).filter λk=>decide (k % m=f)).filterMap ((plc F)[·]?))=(((List.range j).filter λk=>decide (k % m=f)).filterMap ((plc F)[·]?)):=λh=>by
      rw[range_succ,filter_append,List.filterMap_append,filter_cons_of_neg (by exact λz=>h (of_decide_eq_true z))];simp
     refine⟨⟨rfl,rfl,rfl,trivial⟩,?_⟩;refine ifC (λc1=>?_) (λc1=>?_)
     .have b0:r % (m:Int)<=0+(j:Int):=c1
      refine ixT (s3 _ _ hB) 1 _ rfl _ ⟨cp (by lia),?_⟩
      have em:(0+(j:Int) - r % (m:Int)) % (m:Int)=(((j - f) % m:Nat):Int):=by
       rw[hf,show(0+(j:Int) - (f:Int))=((j - f:Nat):Int) by lia]
       norm_cast
      refine ifC (λc2=>?_) (λc2=>?_)
      .have a5:(0+(j:Int) - r % (m:Int)) % (m:Int)=0:=c2
       rw[em]at a5;have ca:=mh.mp ⟨by lia,by lia⟩;refine .inl ⟨D,_,_,.int (plc F)[j],rfl,rfl,SqL.of (s3 _ _ fn),bK j (by lia) (by rw[List.getElem?_map,ep];rfl),cD,by lia,a' _ _ ⟨s3.put hE,ac,?_,by rw[length_append];show _+1<=_;lia⟩⟩;rw[g' ca,map_append];rfl
      .have a5:¬(0+(j:Int) - r % (m:Int)) % (m:Int)=0:=c2
       rw[em]at a5;have ca:¬j % m=f:=λz=>a5 (by have:=(mh.mpr z).2;lia)
       exact a' _ _ ⟨s3,cD,by rw[dV ca],by lia⟩
     .have b0:¬r % (m:Int)<=0+(j:Int):=c1
      have ca:¬j % m=f:=λz=>by have:=(mh.mpr z).1;lia
      exact sY (a' _ _ ⟨s3,cD,by rw[dV ca],by lia⟩)
    .rintro zs I ⟨s3,cD,rfl,_⟩
     have a1:=ah.same s3;refine q _ E (ba (plc F) f m) (ba (plc F) f m) [(r % (m:Int),(m:Int))] (r/(m:Int)) ((bm.trans c0).trans (SX.of s3)) ?_ (.refl _) a1 (by have:=hc.len.1;show 1<=_;lia) ?_
     .rw[aE (ah.ne hE),cD]
      unfold ba;rw[length_map]
     .have:=pY (ps:=plc F) (st:=m) (rest:=r) (by lia) (by lia) (λz=>by have:=hc.len.1;rw[z]at b5;simp at b5;lia)
      rw[show(r % (m:Int)).toNat=f by lia]at this;exact this
  | loose m =>
   obtain⟨x,rfl,Y⟩:=a7;have Y:=(aC Y).2;refine ixT Y 0 _ rfl _ (ixT Y 0 _ rfl _ ?_);refine⟨Nat.zero_le _,λf hf=>?_⟩;have s2:Same H1 (upd H1 f (.lst [])):=Same.new hf;have nf:=ap.ne hf;have a3:(upd H1 f (.lst [])) f=some (.lst []):=ac;have gf:D≠f:=λz=>by rw[z,hf]at a8;cases a8
   generalize upd H1 f (.lst [])=H2 at s2 a3;refine ixT (s2 _ _ Y) 0 _ rfl _ ?_;have as:=s2 _ _ (aC b1).2;refine .inl ⟨⟨_,SqL.of as⟩,λZ hZ=>?_⟩
   let Pw3:PvL:=λi zs I=>Same H2 I/\I Z=some (.lst zs)/\i<=xs.length/\zs=((szs F).take i).map V.int
   refine aO (K:=K) (a:=lc) (xs:=xs) Pw3 ⟨Same.new hZ,ac,Nat.zero_le _,rfl⟩ (λi zs I h=>SqL.of (h.1 _ _ as)) (λi zs I h=>h.2.1) ?_ ?_
   .rintro i y zs I P' hy ⟨s3,c7,hi,rfl⟩ a'
    obtain⟨mb,ea,q1,pt,rfl,ec,h4⟩:=CrAt.get c8 hy;have ad:i<xs.length:=(List.getElem?_eq_some_iff.mp hy).1;refine⟨trivial,ixT (s3 _ _ (s2 _ _ (aC ec).2)) 1 _ rfl _ ⟨c7,by rw[length_map,length_take];lia,a' _ _ ⟨s3.put hZ,ac,ad,?_⟩⟩⟩;have e:(szs F)[i]? = some mb.2.1:=by unfold szs;rw[List.getElem?_map,ea];rfl
    rw[take_add_one,e,map_append];rfl
   rintro zs H3 ⟨s3,c7,_,rfl⟩;have d5:(szs F).length=F.length:=by unfold szs;rw[length_map]
   rw[<- xl,<- d5,take_length]at c7;have el:=s2.trans s3
   have hm:m<=24:=by cases n <;> exact hh
   refine ixT (el _ _ Y) 1 _ rfl _ ⟨Z,szs F,(m:Int),rfl,c7,jE hc,by lia,by lia,λH4 wl ws s4 en hw hF=>?_⟩;have d4:=el.trans s4;have gV:=d4 _ _ a8;have hS:ws.length=F.length:=by rw[<- hF.len,dc,d5]
   refine⟨D,wl,_,_,rfl,gV,hw,?_⟩;have f4:H4 f=some (.lst []):=s4 _ _ (s3 _ _ a3);have gn:wl≠f:=λz=>by rw[z,s3 _ _ a3]at en;cases en
   have hs:=(ap.same el).ne en;have bt:=ap.same d4;have hG:=uO (z:=szs F) (m:=m) (jE hc);have ll:=mj F m;have i':(due (szs F) (m:Nat)).length=F.length:=by rw[dc,d5]
   let Pw4:PvS:=λi σ I=>∃(y6 y7:Option V) (M W:List Int) (S:Int) (G:List (Int×Int)),σ=[some (.ref x),some (.ref lc),some (.ref d),some (.ref D),none,some (.ref f),y6,y7,none,none,none]/\SX d l H1 I/\untrs I [d,l] D=some (.lst ((plc F).map V.int))/\untrs I [d,l] wl=some (.lst ws)/\AllF K (untrs I [d,l]) (due (szs F) (m:Nat)) ws/\I f=some (.lst (M.map V.int))/\M.length<=i/\M.Perm (cO ((lsL F m).take i)++W)/\StA I d l S (th++G)/\G.length<=i/\i<=F.length/\∀ X L r2,Rn (lT (dk ((lsL F m).drop i)) (cO (lsL F m)++W)) S X L r2->Rn (lT (dk (lsL F m)) (cO (lsL F m))) r X (G++L) r2
   refine uu (a:=D) (b:=wl) (xs:=(plc F).map V.int) (ys:=ws) (by rw[length_map,b5,hS]) Pw4 ⟨none,none,[],[],r,[],rfl,SX.of d4,by rw[aE nD];exact gV,by rw[aE hs];exact hw,hF.tk bt.tk,f4,Nat.zero_le _,.refl _,by rw[append_nil];exact bt,Nat.zero_le _,Nat.zero_le _,λX L r2 h=>by rw[append_nil]at h;exact h⟩ (λi σ I h=>by obtain⟨_,_,_,_,_,_,_,_,h1,h2,_⟩:=h;exact⟨(aC h1).2,(aC h2).2⟩) ?_ ?_
   .rintro i x' y' σ I p a4 hW ⟨y6,y7,M,W,S,G,rfl,sx,fl,e4,d2,er,hN,R,an,g5,hi,J⟩ hp
    rw[List.getElem?_map]at a4
    obtain⟨pi,hpi,rfl⟩:∃ pi,(plc F)[i]? = some pi/\V.int pi=x':=by
     cases e:(plc F)[i]? with
     | none=>rw[e]at a4;cases a4
     | some pi=>rw[e]at a4;cases a4;exact⟨pi,rfl,rfl⟩
    have ad:i<F.length:=by have:=(List.getElem?_eq_some_iff.mp hpi).1;lia
    obtain⟨c,a2,ft⟩:=d2.get hW;have et:=hG c (List.mem_of_getElem? a2)
    have hL:(lsL F m)[i]? = some (pi,c):=by
     unfold lsL;rw[List.getElem?_zip_eq_some];exact⟨hpi,a2⟩
    have a0:(lsL F m).drop i=(pi,c)::(lsL F m).drop (i+1):=by
     obtain⟨cW,e'⟩:=List.getElem?_eq_some_iff.mp hL;rw[drop_eq_getElem_cons cW,e']
    have fI:(lsL F m).take (i+1)=(lsL F m).take i++[(pi,c)]:=by rw[take_add_one,hL];rfl
    have s5:Same I (upd I p (.tup [.int pi,y'])):=Same.new hp;refine⟨p,_,rfl,SqT.of ac,rfl,_,_,rfl,_,_,rfl,rfl,?_⟩;generalize upd I p (.tup [.int pi,y'])=H5 at s5;refine⟨ee _ _,λpz fz=>?_⟩;have s6:=s5.trans (Same.new (o:=.tup [.int 1,.int 1]) fz);have e6:(upd H5 pz (.tup [.int 1,.int 1])) pz=some (.tup [.int 1,.int 1]):=ac;generalize upd H5 pz (.tup [.int 1,.int 1])=H6 at s6 e6;have c4:=sx.trans (SX.of s6);have c6:=(SX.of (d:=d) (l:=l) s6).nc;have eT:=c6 _ _ rfl fl;have eg:=c6 _ _ rfl e4;have ev:=d2.tk (λb xs e=>c6 b _ rfl e);have b3:=s6 _ _ er;have b6:=an.same s6;have he:IsF K (untrs H6 [d,l]) c y':=ft.n c6;obtain⟨pc,rfl,gP⟩:=he;have cg:PT K H6 pc c:=gP.imp (λe=>(aC e).2) id;refine⟨.tuple [.int c.1,.int c.2],.tuple [.int 1,.int 1],gA cg.sq,gA (SqT.of e6),eW _ _,eW _ _,?_⟩;rw[jM];refine ifC (λc1=>?_) (λc1=>?_)
    .have b0:c=(1,1):=c1
     refine⟨.inl ⟨rfl,_,SqL.of b3⟩,?_⟩;refine⟨f,_,.int pi,rfl,rfl,b3,by rw[length_map];lia,?_⟩;refine⟨some (.int pi),some (.ref pc),M++[pi],W,S,G,rfl,c4.put2 nf hf,by rw[dg nf,au gf];exact eT,by rw[dg nf,au gn];exact eg,ev.tk (λb xs e=>by rw[dg nf,au (λz=>by rw[z,aE nf,b3]at e;cases e)];exact e),by rw[ac,map_append];rfl,by rw[length_append];show _+1<=_;lia,?_,b6.put nf b3,by lia,ad,λX L r2 h=>J X L r2 ?_⟩
     .have es:cO ((lsL F m).take (i+1))=cO ((lsL F m).take i)++[pi]:=by
       rw[fI];unfold cO;rw[filter_append,map_append,filter_cons_of_pos (by exact decide_eq_true b0)];rfl
      rw[es];refine(R.append_right [pi]).trans ?_;rw[append_assoc,append_assoc];exact List.perm_append_comm.append_left _
     .have eo:dk ((lsL F m).drop i)=dk ((lsL F m).drop (i+1)):=by
       rw[a0];unfold dk;rw[filter_cons_of_neg (by rw[b0];exact(by decide:¬uns ((1:Int),(1:Int))=true))]
      rw[eo];exact h
    .have b0:¬c=(1,1):=c1
     have es:cO ((lsL F m).take (i+1))=cO ((lsL F m).take i):=by
      rw[fI];unfold cO;rw[filter_append,map_append,filter_cons_of_neg (by exact λz=>b0 (of_decide_eq_true z))];simp
     refine px0 cg.sq ?_;refine ifC (λc2=>?_) (λc2=>?_)
     .have a5:(0:Int)<c.1:=c2
      have hT:0<c.1/\c.1<c.2:=by
       by_cases z:0<c.1/\c.1<c.2
       .exact z
       .rcases et.ends z with e | e
        .exact absurd e b0
        .rw[e]at a5;exact absurd a5 (by decide)
      have hu:uns c=true:=decide_eq_true hT
      have eo:dk ((lsL F m).drop i)=(pi,c)::dk ((lsL F m).drop (i+1)):=by
       rw[a0];unfold dk;rw[filter_cons_of_pos (by exact hu)]
      refine px1 cg.sq ⟨d,l,S,c.2,th++G,rfl,et.pos,by have:=et.bd;lia,b6,by rw[length_append];lia,λH7 ga ch=>?_⟩;rw[append_assoc]at ch;have dj:=c4.trans ga;have cR:=ga.nc;have fv:=cR _ _ rfl eT;have gr:=cR _ _ rfl eg;have f1:=ev.tk (λb xs e=>cR b _ rfl e);have bd:H7 f=some (.lst (M.map V.int)):=(aC (cR _ _ rfl (by rw[aE nf];exact b3))).2;have g4:PT K H7 pc c:=gP.imp (λe=>(aC (cR _ _ rfl e)).2) id;refine px0 g4.sq ?_;refine ifC (λc3=>?_) (λc3=>?_)
      .have eb:S % c.2<c.1:=c3
       refine⟨.inl ⟨rfl,_,SqL.of bd⟩,?_⟩;refine⟨f,_,.int pi,rfl,rfl,bd,by rw[length_map];lia,?_⟩;refine⟨some (.int pi),some (.ref pc),M++[pi],W++[pi],_,G++[(S % c.2,c.2)],rfl,dj.put2 nf hf,by rw[dg nf,au gf];exact fv,by rw[dg nf,au gn];exact gr,f1.tk (λb xs e=>by rw[dg nf,au (λz=>by rw[z,aE nf,bd]at e;cases e)];exact e),by rw[ac,map_append];rfl,by rw[length_append];show _+1<=_;lia,?_,ch.put nf bd,by rw[length_append];show _+1<=_;lia,ad,λX L r2 h=>?_⟩
       .rw[es,<- append_assoc]
        exact R.append_right [pi]
       .rw[append_assoc]
        refine J X _ r2 ?_;rw[eo];rw[<- append_assoc]at h;exact qP hu eb h
      .have eb:¬S % c.2<c.1:=c3
       refine⟨some (.int pi),some (.ref pc),M,W,_,G++[(S % c.2,c.2)],rfl,dj,fv,gr,f1,bd,by lia,by rw[es];exact R,ch,by rw[length_append];show _+1<=_;lia,ad,λX L r2 h=>?_⟩;rw[append_assoc];refine J X _ r2 ?_;rw[eo];exact oq hu eb h
     .have a5:¬(0:Int)<c.1:=c2
      have eo:dk ((lsL F m).drop i)=dk ((lsL F m).drop (i+1)):=by
       rw[a0];unfold dk;rw[filter_cons_of_neg (λz=>a5 (of_decide_eq_true z).1)]
      refine sY ⟨some (.int pi),some (.ref pc),M,W,S,G,rfl,c4,eT,eg,ev,b3,by lia,by rw[es];exact R,b6,by lia,ad,λX L r2 h=>J X L r2 ?_⟩;rw[eo];exact h
   .rintro σ I ⟨y6,y7,M,W,S,G,rfl,sx,fl,e4,d2,er,hN,R,an,g5,hi,J⟩
    rw[length_map,b5]at R J;rw[take_of_length_le (by lia)]at R;refine q _ f M (cO (lsL F m)++W) G S (bm.trans sx) (by rw[aE nf];exact er) R an (by lia) ?_;have:=J (cO (lsL F m)++W) [] S (by rw[drop_of_length_le (by lia)];exact .leaf _ _);rw[append_nil]at this;exact this
  | each p =>
   cases n with
   | zero=>exact hh.elim
   | succ n =>
    obtain⟨N',rfl⟩:∃ N',N=N'+1:=⟨N - 1,by lia⟩
    obtain⟨x,u,rfl,a6,eu⟩:=a7;have Y:=(aC a6).2;have pk:=dw hc;refine ixT Y 0 _ rfl _ (ixT Y 0 _ rfl _ ?_);refine⟨Nat.zero_le _,λf hf=>?_⟩;have s2:Same H1 (upd H1 f (.lst [])):=Same.new hf;have nf:=ap.ne hf;have a3:(upd H1 f (.lst [])) f=some (.lst []):=ac;generalize upd H1 f (.lst [])=H2 at s2 a3;refine ixT (s2 _ _ Y) 0 _ rfl _ ?_;have as:=s2 _ _ (aC b1).2;have eH:CrAt H2 F xs:=aA (MbAt.n (nc_cut.trans (cK s2.t))) c8;refine⟨lc,F,xs,rfl,as,eH,c9,λm hm=>⟨λz=>by have:=(hc.path m hm).1;rw[z]at this;simp at this,(hc.path m hm).2⟩,λH3 rg ys s3 hrg0 hrg hgs=>?_⟩;have gl:(parts F).length=ys.length:=Paired.length hgs;have hl:=pk.len;have ah:=ap.same s2;have a1:=ah.same s3;have eq:=ah.ne hrg0;have d':untrs H3 [d,l] f=some (.lst []):=by rw[aE nf];exact s3 _ _ a3
    have ez:Paired (CrL (untrs H3 [d,l])) (parts F) ys:=aA (λg v h=>by
     obtain⟨⟨lg,yg,rfl,g1,g2⟩,g3⟩:=h
     exact⟨lg,yg,rfl,by rw[aE (ah.ne (g3 lg rfl))];exact g1,CrAt.tk a1.tk g2⟩) hgs
    refine⟨_,.inl (SqL.of hrg),⟨_,rfl,λp0 cs=>⟨p0,ys.length,rfl,by lia,ac,λtt htt=>?_⟩⟩⟩;have s4:=(Same.new (o:=.rng 0 (ys.length:Int)) cs).trans (Same.new (o:=.lst ((List.range ys.length).map λ(i:Nat)=>V.int (i:Int))) htt);have b4:(upd (upd H3 p0 (.rng 0 (ys.length:Int))) tt (.lst ((List.range ys.length).map λ(i:Nat)=>V.int (i:Int)))) tt=some (.lst ((List.range ys.length).map λ(i:Nat)=>V.int (i:Int))):=ac;have ek:=(a1.same (Same.new (o:=.rng 0 (ys.length:Int)) cs)).ne htt;generalize upd (upd H3 p0 (.rng 0 (ys.length:Int))) tt (.lst ((List.range ys.length).map λ(i:Nat)=>V.int (i:Int)))=H4 at s4 b4;have al:SX d l H3 H4:=SX.of s4;have ab:SX d l H1 H4:=SX.of ((s2.trans s3).trans s4);have bt:=a1.same s4;refine ixT (s4 _ _ (s3 _ _ (s2 _ _ Y))) 0 _ rfl _ ?_;have cT:=ab.nc _ _ rfl a6;have co:=eu.n ab.nc;have ct:=aA (CrL.n al.nc) ez;have cG:untrs H4 [d,l] rg=some (.lst ys):=al.nc _ _ rfl (by rw[aE eq];exact hrg);have dy:untrs H4 [d,l] tt=some (.lst ((List.range ys.length).map λ(i:Nat)=>V.int (i:Int))):=by rw[aE ek];exact b4
    let Pw5:PvS:=λi σ I=>∃(fa:Addr) (bl:Option V) (M W:List Int) (S:Int) (G:List (Int×Int)),σ=[some (.ref x),some (.ref lc),some (.ref d),some (.ref D),none,some (.ref fa),none,none,some (.ref rg),some (.ref tt),bl]/\SX d l H4 I/\untrs I [d,l] fa=some (.lst (M.map V.int))/\M.Perm W/\M.length+(((parts F).drop i).map List.length).sum<=24/\StA I d l S (th++G)/\G.length+(n+1)*(((parts F).drop i).map List.length).sum<=(n+1)*F.length/\i<=(parts F).length/\∀ X L r2,Rn (gT (nT p) ((parts F).drop i) W) S X L r2->Rn (gT (nT p) (parts F) []) r X (G++L) r2
    refine .inl ⟨⟨_,SqL.of b4⟩,fw (K:=K) (a:=tt) (xs:=(List.range ys.length).map λ(i:Nat)=>V.int (i:Int)) Pw5 ⟨f,none,[],[],r,[],rfl,SX.refl,al.nc _ _ rfl d',.refl _,by rw[drop_zero,pk.all];simpa using c9,by rw[append_nil];exact bt,by rw[drop_zero,pk.all];simp,Nat.zero_le _,λX L r2 h=>h⟩ (λi σ I _ h=>by obtain⟨_,_,_,_,_,_,_,sx,_⟩:=h;exact SqL.of (aC (sx.nc _ _ rfl dy)).2) ?_ ?_⟩
    .rintro i y σ I hy ⟨fa,bl,M,W,S,G,rfl,sx,a9,R,b',an,bo,hi,J⟩
     have ad:i<ys.length:=by have:=(List.getElem?_eq_some_iff.mp hy).1;rw[length_map,length_range]at this;exact this
     rw[List.getElem?_map,List.getElem?_range ad]at hy;cases hy;have ey:ys[i]? = some ys[i]:=List.getElem?_eq_getElem ad;generalize ys[i]=yy at ey;obtain⟨c,a2,lg,yg,rfl,ew,ex⟩:=aL ct ey
     have a0:(parts F).drop i=c::(parts F).drop (i+1):=by
      obtain⟨cW,e'⟩:=List.getElem?_eq_some_iff.mp a2;rw[drop_eq_getElem_cons cW,e']
     rw[a0,map_cons,sum_cons]at b' bo;rw[Nat.mul_add]at bo;have cA:=pk.each c (List.mem_of_getElem? a2);have a4:=(aC (sx.nc _ _ rfl cT)).2;have hn:(n+1)*F.length<=B:=by rw[<- hB9];exact Nat.mul_le_mul_right _ (by lia)
     refine ixT a4 (-1) _ rfl _ ?_;refine .inl ⟨rg,_,_,_,rfl,rfl,SqL.of (aC (sx.nc _ _ rfl cG)).2,bK i rfl ey,?_⟩;refine⟨n,u,p,lg,yg,c,d,l,S,th++G,rfl,co.n sx.nc,hh,by lia,cA,sx.nc _ _ rfl ew,aA (MbAt.n sx.nc) ex,an,by rw[length_append];lia,λH5 q5 cP f2 h5 r5 e0 ho dK b9 j2 dp=>?_⟩;have i1:=iI (n:=n) hh cA dp.lf;have k2:=dK.length_eq;have fy:=e0.nc _ _ rfl a9;refine⟨fa,q5,_,_,rfl,rfl,(aC fy).2,(aC ho).2,by rw[length_map,length_map];lia,λq6 f6=>?_⟩;rw[<- map_append];have s6:=Same.new (o:=.lst ((M++cP).map V.int)) f6;have n6:=b9.ne f6;have e6:(upd H5 q6 (.lst ((M++cP).map V.int))) q6=some (.lst ((M++cP).map V.int)):=ac;generalize upd H5 q6 (.lst ((M++cP).map V.int))=H6 at s6 e6;rw[append_assoc]at b9;refine⟨q6,_,M++cP,W++so f2,r5,G++h5,rfl,(sx.trans e0).trans (SX.of s6),by rw[aE n6];exact e6,R.append (dK.trans (Tb.so_perm f2).symm),by rw[length_append];lia,b9.same s6,by rw[length_append];lia,by lia,λX L r2 h=>?_⟩;rw[append_assoc];refine J X _ r2 ?_;rw[a0];exact Rn.bnd (g:=λks=>gT (nT p) ((parts F).drop (i+1)) (W++ks)) dp h
    .rintro σ I ⟨fa,bl,M,W,S,G,rfl,sx,a9,R,b',an,bo,hi,J⟩
     rw[length_map,length_range,<- gl]at J;have hn:(n+1)*F.length<=B:=by rw[<- hB9];exact Nat.mul_le_mul_right _ (by lia)
     refine q _ fa M W G S ((bm.trans ab).trans sx) a9 R an (by lia) ?_;have:=J W [] S (by rw[drop_of_length_le (Nat.le_refl _)];exact .leaf _ _);rw[append_nil]at this;exact this
  | first p p2 =>
   cases n with
   | zero=>exact hh.elim
   | succ n =>
    obtain⟨N',rfl⟩:∃ N',N=N'+1:=⟨N - 1,by lia⟩
    obtain⟨x,u1,u,rfl,a6,f5,eu⟩:=a7;have Y:=(aC a6).2;have pk:=dw hc;refine ixT Y 0 _ rfl _ (ixT Y 0 _ rfl _ ?_);refine⟨Nat.zero_le _,λf hf=>?_⟩;have s2:Same H1 (upd H1 f (.lst [])):=Same.new hf;have nf:=ap.ne hf;have a3:(upd H1 f (.lst [])) f=some (.lst []):=ac;generalize upd H1 f (.lst [])=H2 at s2 a3;refine ixT (s2 _ _ Y) 0 _ rfl _ ?_;have as:=s2 _ _ (aC b1).2;have eH:CrAt H2 F xs:=aA (MbAt.n (nc_cut.trans (cK s2.t))) c8;refine⟨lc,F,xs,rfl,as,eH,c9,λm hm=>⟨λz=>by have:=(hc.path m hm).1;rw[z]at this;simp at this,(hc.path m hm).2⟩,λH3 rg ys s3 hrg0 hrg hgs=>?_⟩;have gl:(parts F).length=ys.length:=Paired.length hgs;have hl:=pk.len;have ah:=ap.same s2;have a1:=ah.same s3;have eq:=ah.ne hrg0;have d':untrs H3 [d,l] f=some (.lst []):=by rw[aE nf];exact s3 _ _ a3
    have ez:Paired (CrL (untrs H3 [d,l])) (parts F) ys:=aA (λg v h=>by
     obtain⟨⟨lg,yg,rfl,g1,g2⟩,g3⟩:=h
     exact⟨lg,yg,rfl,by rw[aE (ah.ne (g3 lg rfl))];exact g1,CrAt.tk a1.tk g2⟩) hgs
    refine⟨_,.inl (SqL.of hrg),⟨_,rfl,λp0 cs=>⟨p0,ys.length,rfl,by lia,ac,λtt htt=>?_⟩⟩⟩;have s4:=(Same.new (o:=.rng 0 (ys.length:Int)) cs).trans (Same.new (o:=.lst ((List.range ys.length).map λ(i:Nat)=>V.int (i:Int))) htt);have b4:(upd (upd H3 p0 (.rng 0 (ys.length:Int))) tt (.lst ((List.range ys.length).map λ(i:Nat)=>V.int (i:Int)))) tt=some (.lst ((List.range ys.length).map λ(i:Nat)=>V.int (i:Int))):=ac;have ek:=(a1.same (Same.new (o:=.rng 0 (ys.length:Int)) cs)).ne htt;generalize upd (upd H3 p0 (.rng 0 (ys.length:Int))) tt (.lst ((List.range ys.length).map λ(i:Nat)=>V.int (i:Int)))=H4 at s4 b4;have al:SX d l H3 H4:=SX.of s4;have ab:SX d l H1 H4:=SX.of ((s2.trans s3).trans s4);have bt:=a1.same s4;have fe:=s4 _ _ (s3 _ _ (s2 _ _ Y));refine ixT fe 0 _ rfl _ (ixT fe 1 _ rfl _ ?_);have cT:=ab.nc _ _ rfl a6;have co:=eu.n ab.nc;have ct:=aA (CrL.n al.nc) ez;have cG:untrs H4 [d,l] rg=some (.lst ys):=al.nc _ _ rfl (by rw[aE eq];exact hrg);have dy:untrs H4 [d,l] tt=some (.lst ((List.range ys.length).map λ(i:Nat)=>V.int (i:Int))):=by rw[aE ek];exact b4
    have e2:Paired (CrL H4) (parts F) ys:=aA (λg v h=>h.1.n (cK s4.t)) hgs;refine⟨.ref rg,parts F,rfl,⟨rg,ys,rfl,s4 _ _ hrg,e2⟩,by lia,λc hQ=>(pk.each c hQ).len.2,λH5 ro xo s5 hro0 hro hCo=>?_⟩;have d1:SX d l H4 H5:=SX.of s5;have b9:=bt.same s5;have hA:=bt.ne hro0;have kb:(Nst.outer (parts F)).length<=F.length:=by rw[dS];exact kx F
    refine⟨0,u1,p,ro,xo,Nst.outer (parts F),d,l,r,th,rfl,(f5.n ab.nc).n d1.nc,lV hh.1,Nat.zero_le _,jT hc,by rw[aE hA];exact hro,CrAt.tk b9.tk hCo,b9,by rw[Nat.zero_add,Nat.one_mul];lia,λH6 q6 fC O eh r6 c4 hR ds b6 hY c5=>?_⟩;rw[Nat.zero_add,Nat.one_mul]at hY;have fo:=iu hc hh.1 c5.lf;have h':fC.length<=24:=by rw[ds.length_eq];have:=fo.2.1;rw[jX]at this;exact this
    refine⟨q6,fC,rfl,SqL.of (aC hR).2,by lia,λq7 ls hz h3 f7=>?_⟩;have hv:ls=Tb.so O:=Tb.so_uniq (hz.trans ds) h3;subst hv;have s7:=Same.new (o:=.lst ((Tb.so O).map V.int)) f7;have n7:=b6.ne f7;have h7:(upd H6 q7 (.lst ((Tb.so O).map V.int))) q7=some (.lst ((Tb.so O).map V.int)):=ac;generalize upd H6 q7 (.lst ((Tb.so O).map V.int))=H7 at s7 h7;have aS:SX d l H4 H7:=(d1.trans c4).trans (SX.of s7);have ch:=b6.same s7;have fx:=aS.nc _ _ rfl cT;have gt:=co.n aS.nc;have f8:=aA (CrL.n aS.nc) ct;have e3:=aS.nc _ _ rfl cG;have bd:untrs H7 [d,l] f=some (.lst []):=aS.nc _ _ rfl (al.nc _ _ rfl d');have hP:untrs H7 [d,l] q7=some (.lst ((Tb.so O).map V.int)):=by rw[aE n7];exact h7
    obtain⟨ed,h8,e5⟩:=fo;have dx:=ed.all
    have dd:((sel (parts F) (Tb.so O)).map List.length).sum<=F.length:=by
     obtain⟨s',z1,z2⟩:=fN hh.1 c5.lf;obtain⟨S,z3,z4⟩:=lW z1 (z2.trans (Tb.so_perm O).symm);rw[iY (z4.symm.map List.length)];have:=jG (z3.map List.length);rw[pk.all]at this;exact this
    have e8:(sel (parts F) (Tb.so O)).length=(Tb.so O).length:=by unfold sel;rw[length_map]
    have it:B=(n+1)*F.length+F.length:=by rw[<- hB9,Nat.add_mul,Nat.one_mul]
    have b2:∀(i:Nat) (kk:Int),(Tb.so O)[i]? = some kk->(sel (parts F) (Tb.so O))[i]? = some ((parts F).getD kk.toNat []):=λi kk h=>by unfold sel;rw[List.getElem?_map,h];rfl
    generalize hsel:sel (parts F) (Tb.so O)=gs at ed dx dd e8 b2
    let Pw6:PvS:=λi σ I=>∃(fa:Addr) (bl:Option V) (M W:List Int) (S:Int) (G:List (Int×Int)),σ=[some (.ref x),some (.ref lc),some (.ref d),some (.ref D),none,some (.ref fa),none,none,some (.ref rg),some (.ref q7),bl]/\SX d l H7 I/\untrs I [d,l] fa=some (.lst (M.map V.int))/\M.Perm W/\M.length+((gs.drop i).map List.length).sum<=24/\StA I d l S (th++(eh++G))/\G.length+(n+1)*((gs.drop i).map List.length).sum<=(n+1)*F.length/\i<=gs.length/\∀ X L r2,Rn (gT (nT p2) (gs.drop i) W) S X L r2->Rn (gT (nT p2) gs []) r6 X (G++L) r2
    refine .inl ⟨⟨_,SqL.of h7⟩,fw (K:=K) (a:=q7) (xs:=(Tb.so O).map V.int) Pw6 ⟨f,none,[],[],r6,[],rfl,SX.refl,bd,.refl _,by rw[drop_zero];simpa using dx,by rw[append_nil];exact ch,by rw[drop_zero,length_nil,Nat.zero_add];exact Nat.mul_le_mul_left _ dd,Nat.zero_le _,λX L r2 h=>h⟩ (λi σ I _ h=>by obtain⟨_,_,_,_,_,_,_,sx,_⟩:=h;exact SqL.of (aC (sx.nc _ _ rfl hP)).2) ?_ ?_⟩
    .rintro i y σ I hy ⟨fa,bl,M,W,S,G,rfl,sx,a9,R,b',an,bo,hi,J⟩
     rw[List.getElem?_map]at hy
     obtain⟨kk,hkk,rfl⟩:∃ kk,(Tb.so O)[i]? = some kk/\V.int kk=y:=by
      cases e:(Tb.so O)[i]? with
      | none=>rw[e]at hy;cases hy
      | some kk=>rw[e]at hy;cases hy;exact⟨kk,rfl,rfl⟩
     obtain⟨k0,k1⟩:=e5 kk (List.mem_of_getElem? hkk);have hO:kk.toNat<ys.length:=by lia
     have ey:ys[kk.toNat]? = some ys[kk.toNat]:=List.getElem?_eq_getElem hO;generalize ys[kk.toNat]=yy at ey;obtain⟨c,g0,lg,yg,rfl,ew,ex⟩:=aL f8 ey;have a2:gs[i]? = some c:=by rw[b2 i kk hkk,List.getD_eq_getElem?_getD,g0];rfl
     have a0:gs.drop i=c::gs.drop (i+1):=by
      obtain⟨cW,e'⟩:=List.getElem?_eq_some_iff.mp a2;rw[drop_eq_getElem_cons cW,e']
     have ad:i<gs.length:=(List.getElem?_eq_some_iff.mp a2).1;rw[a0,map_cons,sum_cons]at b' bo;rw[Nat.mul_add]at bo;have cA:=ed.each c (List.mem_of_getElem? a2);have a4:=(aC (sx.nc _ _ rfl fx)).2
     have hH:atI ys kk=some (.ref lg):=by
      have:kk=((kk.toNat:Nat):Int):=by lia
      rw[this];exact fG ey
     refine ixT a4 (-1) _ rfl _ ?_;refine .inl ⟨rg,_,_,_,rfl,rfl,SqL.of (aC (sx.nc _ _ rfl e3)).2,hH,?_⟩;refine⟨n,u,p2,lg,yg,c,d,l,S,th++(eh++G),rfl,gt.n sx.nc,hh.2,by lia,cA,sx.nc _ _ rfl ew,aA (MbAt.n sx.nc) ex,an,by rw[length_append,length_append];lia,λH8 q8 cc fr h0 r8 f' hK dl ef kv dt=>?_⟩;have j':=iI (n:=n) hh.2 cA dt.lf;have j1:=dl.length_eq;have f0:=f'.nc _ _ rfl a9;refine⟨fa,q8,_,_,rfl,rfl,(aC f0).2,(aC hK).2,by rw[length_map,length_map];lia,λq9 f9=>?_⟩;rw[<- map_append];have s9:=Same.new (o:=.lst ((M++cc).map V.int)) f9;have n9:=ef.ne f9;have e9:(upd H8 q9 (.lst ((M++cc).map V.int))) q9=some (.lst ((M++cc).map V.int)):=ac;generalize upd H8 q9 (.lst ((M++cc).map V.int))=H9 at s9 e9;rw[append_assoc,append_assoc]at ef;refine⟨q9,_,M++cc,W++so fr,r8,G++h0,rfl,(sx.trans f').trans (SX.of s9),by rw[aE n9];exact e9,R.append (dl.trans (Tb.so_perm fr).symm),by rw[length_append];lia,ef.same s9,by rw[length_append];lia,by lia,λX L r2 h=>?_⟩;rw[append_assoc];refine J X _ r2 ?_;rw[a0];exact Rn.bnd (g:=λks=>gT (nT p2) (gs.drop (i+1)) (W++ks)) dt h
    .rintro σ I ⟨fa,bl,M,W,S,G,rfl,sx,a9,R,b',an,bo,hi,J⟩
     rw[length_map,<- e8]at J;refine q _ fa M W (eh++G) S (((bm.trans ab).trans aS).trans sx) a9 R an (by rw[length_append];lia) ?_;have:=J W [] S (by rw[drop_of_length_le (Nat.le_refl _)];exact .leaf _ _);rw[append_nil,<- hsel]at this;exact Rn.bnd (g:=λks=>gT (nT p2) (sel (parts F) ks) []) c5 this
theorem ng(T:Txt K mg a)(b:FnOk P w K mg base CX0 7 a.f_J a.d_J ["_law_sizes","_law_many"] (spWished K)):∀ N,FnOk P w K mg base CX0 (N+8) a.f_Q a.d_Q ["_law_tree_here","_law_crowd_here","_law_state"] (spDraw N)
 | 0=>mS T 0 (k:=7) (Nat.le_refl _) b (gq (K:=K))
 | N+1=>mS T (N+1) (k:=N+8) (by lia) (b.mono (by lia)) (ng T b N)
end
open Tb (Tr fT lT sT ba bnd d7 tot so)
def tS(x:List Int):PyData:=.tuple (x.map PyData.int)
theorem ni{K:Frag}{H:Hp}:∀ x:List Int,DVs K H (x.map PyData.int) (x.map V.int)
 | []=>by simp[DVs]
 | i::x=>by
  rw[map_cons,map_cons,DVs];exact⟨_,_,rfl,by simp[DV],ni x⟩
theorem lC{K:Frag}{H:Hp}{p:Addr}{x:List Int}(h:H p=some (.tup (x.map V.int))):DV K H (tS x) (.ref p):=by
 unfold tS;rw[DV];exact⟨p,_,rfl,SqT.of h,ni x⟩
theorem nu:∀ x:List Int,PyData.canLayAll0 (x.map PyData.int)=true/\PyData.depthAll (x.map PyData.int)<=1
 | []=>by simp[PyData.canLayAll0,PyData.depthAll]
 | i::x=>by
  obtain⟨a,b⟩:=nu x;rw[map_cons,PyData.canLayAll0,PyData.depthAll,a];refine⟨by simp[PyData.canLay0],?_⟩;have:PyData.depth (.int i)<=1:=by simp[PyData.depth]
  lia
theorem i3(x:List Int):SeqAt.shaped (tS x)=true:=by
 obtain⟨a,b⟩:=nu x;unfold SeqAt.shaped tS;rw[PyData.canLay0,a,Bool.true_and];refine decide_eq_true ?_;simp only[PyData.depth];lia
theorem wc{K:Frag}{H:Hp}{p r:Addr}{x:List Int}{Q:VK}(a:H p=some (.tup (x.map V.int)))(b:H r=some (.tup (x.map V.int)))(q:Q (.bl false) H):rEqD K true (.ref p) (.ref r) H Q:=by
 refine⟨_,_,lC a,lC b,i3 x,i3 x,?_⟩;rw[SeqAt.eqv_refl _ (SeqAt.canLay_of_shaped (i3 x))];exact q
inductive spRight(K:Frag)(a:Ad)(vs:List V)(H:Hp)(Q:VK)(_E:XK):Prop
 | mk(v:V)(pl:Pl)(lc:Addr)(xs:List V)(ms:List Mb)(rest:Int)(h0:vs=[v,.ref lc,.int rest])(h1:IsTr H v pl)(h2:ht 3 pl)(h3:Cok 3 ms)(h4:H lc=some (.lst xs))(h5:CrAt H ms xs)(h6:TabsOk (tabs a) H)(h7:∀ H',SameT H H'->TabsOk (tabs a) H'->Q (.bl true) H'):spRight K a vs H Q _E
section
variable {P:Program}{w:World}{K:Frag}{mg:Str->Option Value}{base:Heap}{a:Ad}
theorem rj(T:Txt K mg a)(hB:Bm mg base)(c1:FnOk P w K mg base CX0 75 a.f_Q a.d_Q ["_law_tree_here","_law_crowd_here","_law_state"] (spDraw 3)):FnOk P w K mg base CX0 76 a.f_X a.d_X ["_law_tree_here","_law_crowd_here","_law_rest"] (spRight K a):=by
 have c4:FnOk P w K mg base CX0 75 _ _ _ _:=(uL T 3).mono (by decide);have a1:FnOk P w K mg base CX0 75 _ _ _ _:=(j0 T hB).mono (by decide);have a3:FnOk P w K mg base CX0 75 _ _ _ _:=(jz T hB).mono (by decide);have a':FnOk P w K mg base CX0 75 _ _ _ _:=(j4 T hB).mono (by decide);have a4:FnOk P w K mg base CX0 75 _ _ _ _:=(ib T hB 3).1.mono (by decide);have cP:FnOk P w K mg base CX0 75 _ _ _ _:=(ib T hB 3).2.mono (by decide);have dy:FnOk P w K mg base CX0 75 _ _ _ _:=(i4 T).mono (by decide);have el:FnOk P w K mg base CX0 75 _ _ _ _:=(oa T).mono (by decide);have eh:FnOk P w K mg base CX0 75 _ _ _ _:=(oY T).mono (by decide);have d1:FnOk P w K mg base CX0 75 _ _ _ _:=(g7 T 3).1.mono (by decide);have dK:FnOk P w K mg base CX0 75 _ _ _ _:=(g7 T 3).2.mono (by decide);have bl:FnOk P w K mg base CX0 75 _ _ _ _:=(tD T).mono (by decide);have b0:FnOk P w K mg base CX0 75 _ _ _ _:=(rL T).mono (by decide);have dp:FnOk P w K mg base CX0 75 _ _ _ _:=(u6 T).mono (by decide);have dt:FnOk P w K mg base CX0 75 _ _ _ _:=(vb T).mono (by decide);have d2:FnOk P w K mg base CX0 75 _ _ _ _:=(sj T).mono (by decide);have ef:FnOk P w K mg base CX0 75 _ _ _ _:=(sW T).mono (by decide);have ep:FnOk P w K mg base CX0 75 _ _ _ _:=(vq T hB 3).mono (by decide);have b4:FnOk P w K mg base CX0 75 _ _ _ _:=(tH T hB 3).mono (by decide);refine T.F_X.ok sc_X (λvs H Q E h=>?_) (λcdv A outer s H vs Q E hr h=>?_)
 .obtain⟨v,pl,lc,xs,ms,f,rfl,_⟩:=h;rfl
 .obtain⟨v,pl,lc,xs,ms,f,rfl,a2,hh,hc,aS,hC,hT,q⟩:=h
  have eq:sizeLine=16777216:=sizeLine_eq;have e5:=hc.len.2;have xl:=hC.len
  refine⟨_,(ai (aF (i:=3) sc_X.nd rfl (Or.inl rfl) (av c4 hr rfl T.m_N T.F_N.kp T.B_N .nil ao (aa (vr 0) ae))) (ai (aF (i:=4) sc_X.nd rfl (Or.inl rfl) (uY (mG aM (vr 2) (mG aM (cC ae) uH)) rfl rfl (List.cons_ne_nil _ _) (by decide))) (ai (aF (i:=5) sc_X.nd rfl (Or.inl rfl) (cY eZ rfl T.z_tuple jY (aa (aG eA rfl T.z_sorted fm (aa (av c1 hr rfl T.m_Q T.F_Q.kp T.B_Q .nil ao (aa (vr 0) (aa (vr 1) (aa (vr 4) ae)))) ae)) ae))) (ai (aF (i:=6) sc_X.nd rfl (Or.inl rfl) (cY iq rfl T.z_list gB (aa (vr 1) ae))) (ai (aF (i:=7) sc_X.nd rfl (Or.inl rfl) (PE.or (aJ (vr 3) T.cl_x T.mt_G a1 hr T.B_G .nil ao (aa (vr 6) ae)) (PE.or (aJ (vr 3) T.cl_f T.mt_r a3 hr T.B_r .nil ao (aa (vr 6) ae)) (PE.or (aJ (vr 3) T.cl_g T.mt_s a' hr T.B_s .nil ao (aa (vr 6) ae)) (PE.or (aJ (vr 3) T.cl_l T.mt_t a4 hr T.B_t .nil ao (aa (vr 6) ae)) (aJ (vr 3) T.cl_c T.mt_a cP hr T.B_a .nil ao (aa (vr 6) ae))))))) (ai (dU PassesOwn.never rfl (bJ (ia (kH hr) (vr 4) aM (λ_ _=>rfl))) (dN rfl (az (aw (i:=8) sc_X.nd rfl (Or.inl rfl)) (az (aw (i:=9) sc_X.nd rfl (Or.inl rfl)) bi))) (ai (aR (PW.pt (nQ (aK mE (PE.or (bB (vr 7) T.cl_i T.mt_v bl hr T.B_v .nil ao) (bB (vr 7) T.cl_p T.mt_z b0 hr T.B_z .nil ao)) fW (aI _)) (lL (aK w5 (PE.or (bB (vr 7) T.cl_i T.mt_M dp hr T.B_M .nil ao) (bB (vr 7) T.cl_p T.mt_T dt hr T.B_T .nil ao)) (vr 9) (aI _))))) (aj (ay fW)) aH) (aj (aF (i:=7) sc_X.nd rfl (Or.inl rfl) (aJ (vr 7) T.cl_p T.mt_H ep hr T.B_H .nil ao (aa (vr 8) ae)))))) (ai (aR (PW.pt (nQ (aK mE (PE.or (bB (vr 7) T.cl_i T.mt_v bl hr T.B_v .nil ao) (bB (vr 7) T.cl_p T.mt_z b0 hr T.B_z .nil ao)) fW (aI _)) (nQ (aK (vH hr.units) (PE.or (bB (vr 7) T.cl_i T.mt_K d2 hr T.B_K .nil ao) (bB (vr 7) T.cl_p T.mt_O ef hr T.B_O .nil ao)) (vr 5) (aI _)) (lL (aK (xp hr.units) (vr 6) (vr 1) (aI _)))))) (aj (ay fW)) aH) (ai (i6 (PE.or (aJ (vr 3) T.cl_x T.mt_A dy hr T.B_A .nil ao (aa (vr 1) ae)) (PE.or (aJ (vr 3) T.cl_f T.mt_w el hr T.B_w .nil ao (aa (vr 1) ae)) (PE.or (aJ (vr 3) T.cl_g T.mt_q eh hr T.B_q .nil ao (aa (vr 1) ae)) (PE.or (aJ (vr 3) T.cl_l T.mt_o d1 hr T.B_o .nil ao (aa (vr 1) ae)) (aJ (vr 3) T.cl_c T.mt_k dK hr T.B_k .nil ao (aa (vr 1) ae)))))) (dN rfl (az (aw (i:=10) sc_X.nd rfl (Or.inl rfl)) (az (aw (i:=11) sc_X.nd rfl (Or.inl rfl)) bi)))) (ai (aR (d9 (uc sC sC (vr 10) (aG aP rfl T.z_len cj (aa (vr 5) ae)) (vr 11))) (aj (ay fW)) aH) (aj (ay (lZ (sI hr.units) (av b4 hr rfl T.m_al T.F_al.kp T.B_al .nil ao (aa (PE.or (aJ (vr 3) T.cl_x T.mt_G a1 hr T.B_G .nil ao (aa (vr 1) ae)) (PE.or (aJ (vr 3) T.cl_f T.mt_r a3 hr T.B_r .nil ao (aa (vr 1) ae)) (PE.or (aJ (vr 3) T.cl_g T.mt_s a' hr T.B_s .nil ao (aa (vr 1) ae)) (PE.or (aJ (vr 3) T.cl_l T.mt_t a4 hr T.B_t .nil ao (aa (vr 1) ae)) (aJ (vr 3) T.cl_c T.mt_a cP hr T.B_a .nil ao (aa (vr 1) ae)))))) (aa (bj rfl (N:=["_law_throw","_law_sides"]) (ix:=[none,none]) ⟨rfl,rfl,rfl,rfl,trivial⟩ (bJ (ia (kH hr) (vr 4) aM (λ_ _=>rfl))) ⟨λC s H fp=>(cN (K:=K) (n:=2) rfl rfl (az (aw (i:=0) (show List.Nodup (["_law_throw","_law_sides"]:List Str) by decide +kernel) rfl (Or.inl rfl)) (az (aw (i:=1) (show List.Nodup (["_law_throw","_law_sides"]:List Str) by decide +kernel) rfl (Or.inl rfl)) bi))),λC s H fp=>bC,λC s H fp=>(vr 0)⟩) ae))) (vr 5) (aI _))))))))))))),rT ?_⟩
  intro er es eH ez ev e' eT eu eS;refine⟨v,pl,rfl,a2,hh,λW vp s1 c6=>?_⟩;intro d cR;have s2:Same W (upd W d (.dK [])):=Same.new cR;have e2:(upd W d (.dK [])) d=some (.dK []):=ac;generalize upd W d (.dK [])=H2 at s2 e2;refine⟨Nat.zero_le _,λl hl=>?_⟩;have s3:Same H2 (upd H2 l (.lst [])):=Same.new hl;have e3:(upd H2 l (.lst [])) l=some (.lst []):=ac;generalize upd H2 l (.lst [])=H3 at s3 e3
  have mk:g8 [] [((.inr "rest" : Key),V.int f),(.inr "throws",V.ref l)]=[(.inr "rest",.int f),(.inr "throws",.ref l)]:=by
   have ne:¬(Sum.inr ("rest" : Str):Key)=.inr "throws" := by decide +kernel
   simp[g8,fF,ne]
  refine⟨s3 _ _ e2,[((.inr "rest" : Key),V.int f),(.inr "throws",V.ref l)],rfl,by show 2<=15;decide,?_⟩;rw[mk];have ah:W d=none:=cR;have c0:W l=none:=s2.free hl;have dl:l≠d:=λz=>by rw[z,e2]at hl;cases hl
  have ap:Same W (upd H3 d (.dK [(.inr "rest",.int f),(.inr "throws",.ref l)])):=(s2.trans s3).put ah
  have st:StA (upd H3 d (.dK [(.inr "rest",.int f),(.inr "throws",.ref l)])) d l f []:=⟨ac,[],by rw[au dl];exact e3,.nil⟩
  generalize upd H3 d (.dK [(.inr "rest",.int f),(.inr "throws",.ref l)])=H4 at ap st;have bo:=s1.trans ap;have b6:H d=none:=s1.free ah;have ch:H l=none:=s1.free c0
  have R:NC H (untrs H4 [d,l]):=λb o dd e=>by
   rw[aE λz=>?_]
   .exact bo _ _ e
   .rcases mem_cons.mp z with rfl | z
    .rw[b6]at e;cases e
    .rw[mem_singleton.mp z,ch]at e;cases e
  have bt:NC W (untrs H4 [d,l]):=λb o dd e=>by
   rw[aE λz=>?_]
   .exact ap _ _ e
   .rcases mem_cons.mp z with rfl | z
    .rw[ah]at e;cases e
    .rw[mem_singleton.mp z,c0]at e;cases e
  refine⟨3,v,pl,lc,xs,ms,d,l,f,[],rfl,a2.n R,hh,Nat.le_refl _,hc,R _ _ rfl aS,aA (MbAt.n R) hC,st,by rw[length_nil];lia,λH5 q5 fd j Z r5 ds c2 b' b9 ex L=>?_⟩;rw[nil_append]at b9;have e1:=iI (n:=3) hh hc L.lf;have et:=b'.length_eq;refine⟨q5,fd,rfl,SqL.of (aC c2).2,by lia,λq6 ls pm pw f6=>?_⟩;have eb:ls=Tb.so j:=Tb.so_uniq (pm.trans b') pw;subst eb;have s6:=Same.new (o:=.lst ((Tb.so j).map V.int)) f6;have e6:(upd H5 q6 (.lst ((Tb.so j).map V.int))) q6=some (.lst ((Tb.so j).map V.int)):=ac;generalize upd H5 q6 (.lst ((Tb.so j).map V.int))=H6 at s6 e6;refine⟨q6,_,rfl,.inl ⟨SqL.of e6,λt7 f7=>?_⟩⟩;have s7:=s6.trans (Same.new (o:=.tup ((Tb.so j).map V.int)) f7);have e7:(upd H6 t7 (.tup ((Tb.so j).map V.int))) t7=some (.tup ((Tb.so j).map V.int)):=ac;generalize upd H6 t7 (.tup ((Tb.so j).map V.int))=H7 at s7 e7;have a0:SX d l H4 H7:=ds.trans (SX.of s7);have ec:=b9.same s7;have c':NC H (untrs H7 [d,l]):=R.trans a0.nc;have a7:NC W (untrs H7 [d,l]):=bt.trans a0.nc;have a6:=(aC (c' _ _ rfl aS)).2
  have cc:Same H H7:=λb o e=>by
   have nb:b ∉ [d,l]:=λz=>by
    rcases mem_cons.mp z with rfl | z
    .rw[b6]at e;cases e
    .rw[mem_singleton.mp z,ch]at e;cases e
   have:=a0 b o (by rw[aE nb];exact bo _ _ e);exact(aC this).2
  have ek:TabsOk (tabs a) H7:=hT.same cc;refine⟨lc,xs,rfl,.inl (SqL.of a6),λh8 f8=>?_⟩;have s8:=Same.new (o:=.lst xs) f8;have e8:(upd H7 h8 (.lst xs)) h8=some (.lst xs):=ac;generalize upd H7 h8 (.lst xs)=H8 at s8 e8;have b5:=cc.trans s8;have dV:=hC.tk b5.tk;have ad:IsPn a H8 vp pl:=(c6.n (a7.trans nc_cut)).n (cK s8.t);have d4:=ec.same s8;refine iM (λP=>P (.ref h8) H8) (λP h=>h) (Nat.le_refl 3) ad hh hc e8 dV (ml _) (ek.same s8) λH9 nd t9 hT9 hnd=>?_
  rw[fB]at hnd;have ca:=b5.t.trans t9;have eo:=s8.t.trans t9
  obtain⟨hd9,yth,hl9,hth9⟩:StA H9 d l r5 Z:=by
   obtain⟨z1,ys,z2,z3⟩:=d4;exact⟨t9.at z1,ys,t9.at z2,aA (ThAt.tk (SameT.tk t9)) z3⟩
  have g2:∀ x y:V,fh [((.inr "rest" : Key),x),(.inr "throws",y)] (.inr "throws")=some y:=λx y=>by rw[eI (show ¬(Sum.inr ("rest" : Str):Key)=.inr "throws" by decide +kernel),d8 rfl]
  have a9:=hth9.length;refine⟨d,.ref l,rfl,.inl ⟨_,.inr "throws",.inl hd9,rfl,(g2 _ _).symm⟩,?_⟩
  let Pw1:PvS:=λi σ O=>SameT H9 O/\TabsOk (tabs a) O/\∃(M:V) (y8 y9:Option V) (t':Tr) (r1:Int),σ=[some v,some (.ref lc),some (.int f),some vp,some (.ref d),some (.ref t7),some (.ref h8),some M,y8,y9,none,none]/\IsNd K a 3 O M t'/\Rn t' r1 j (Z.drop i) r5
  refine .inl ⟨⟨_,SqL.of hl9⟩,fw (K:=K) (a:=l) (xs:=yth) Pw1 ⟨SameT.refl,hT9,nd,none,none,_,f,rfl,hnd,L⟩ (λi σ O _ h=>SqL.of (h.1.at hl9)) ?_ ?_⟩
  .rintro i y σ O hy ⟨g,B,M,y8,y9,t',r1,rfl,F,G⟩
   obtain⟨⟨tw,sd⟩,ed,q1,rfl,c7⟩:=aL hth9 hy;have cT:=g.at c7
   have em:Z.drop i=(tw,sd)::Z.drop (i+1):=by
    obtain⟨hi,e⟩:=List.getElem?_eq_some_iff.mp ed;rw[drop_eq_getElem_cons hi,e]
   rw[em]at G;obtain⟨ps,u,rfl,rfl,t0,tt,d',d5⟩:=G.cons;refine⟨q1,_,rfl,SqT.of cT,rfl,_,_,rfl,_,_,rfl,rfl,?_⟩;obtain⟨x,dx,l',ey,rfl,an,_⟩:=id F;refine .inr ⟨x,dx,_,rfl,an,rfl,_,rfl,⟨false,false,rfl,rfl,?_⟩⟩;obtain⟨rs,bd,c9⟩:=lE F;refine .inr ⟨x,dx,_,rfl,an,rfl,_,rs,rfl,bd,λe4 S=>?_⟩;refine vF (lw c9) ?_;refine⟨x,dx,_,rfl,S _ _ an,rfl,_,ps,u,tw,rfl,F.t S.t,t0,tt,d',B.same S,λew v' eg cW cG=>?_⟩;rw[fB]at cG;exact⟨g.trans (S.t.trans eg),cW,v',_,_,u,_,rfl,cG,d5⟩
  .rintro σ O ⟨g,B,M,y8,y9,t',r1,rfl,F,G⟩
   rw[<- a9,List.drop_length]at G;have e:=G.nil;subst e;obtain⟨x,dx,kt,c8,rfl,hx,c3,hs⟩:=F;have en:c8=Tb.so j:=Tb.so_uniq hs.1 hs.2;subst en;have a5:=ca.trans g;refine .inl ⟨x,dx,_,rfl,hx,rfl,_,rfl,⟨true,true,rfl,rfl,?_⟩⟩;refine .inl ⟨x,dx,_,rfl,hx,rfl,x,dx,kt,rfl,hx,?_⟩;have cA:O t7=some (.tup ((Tb.so j).map V.int)):=(eo.trans g).at e7;refine wc c3 cA ?_
   have b3:∀ v∈xs,∃ p,v=.ref p:=λv hv=>by
    obtain⟨i,hi⟩:=List.getElem?_of_mem hv;obtain⟨mb,_,q1,pt,e,_⟩:=CrAt.get hC hi;exact⟨q1,e⟩
   have I:=a5.at aS;have ct:=hC.tk (SameT.tk a5);have ab:=ad.n (cK (t9.trans g));refine⟨h8,lc,xs,rfl,rfl,SqL.of ((t9.trans g).at e8),SqL.of I,b3,?_⟩;refine iG (n:=3) (N:=3) (λP=>P (.ref lc) O) (λP h=>h O lc xs (λb o e=>e) I ct) (Nat.le_refl 3) ab hh hc λH13 s13' H14 p14 lo hi s14 h14 hb14=>?_
   refine⟨p14,_,rfl,SqT.of h14,rfl,_,_,rfl,_,_,rfl,rfl,?_⟩;have sB:=s13'.trans s14;obtain⟨b1,b2⟩:=hb14.at' j L.lf;have cg:=sB _ _ cA;refine⟨_,.inr (SqT.of cg),?_⟩;rw[length_map,jX];refine ifC (λc=>?_) (λc=>absurd b1 c);refine vF b2 ?_;have bm:=g.trans sB.t;have al:=sB _ _ I;have a8:=ct.tk sB.tk;have as:=ab.n (cK sB.t);refine iM (λP=>P (.ref lc) H14) (λP h=>h) (Nat.le_refl 3) as hh hc al a8 (ml _) (B.same sB) λH15 nd15 t15 hT15 hnd15=>?_
   rw[fB]at hnd15;have J:=bm.trans t15;refine⟨d,.ref l,rfl,.inl ⟨_,.inr "throws",.inl (J.at hd9),rfl,(g2 _ _).symm⟩,?_⟩;have X:=J.at hl9;refine .inl ⟨⟨_,SqL.of X⟩,λD hD=>?_⟩
   let Pw2:PvL:=λi zs r=>Same H15 r/\r D=some (.lst zs)/\i<=Z.length/\zs=((Z.take i).map (·.1)).map V.int
   refine aO (K:=K) (a:=l) (xs:=yth) Pw2 ⟨Same.new hD,ac,Nat.zero_le _,rfl⟩ (λi zs r h=>SqL.of (h.1 _ _ X)) (λi zs r h=>h.2.1) ?_ ?_
   .rintro i y zs r P' hy ⟨m,k,hi,rfl⟩ dj
    obtain⟨tw,co,q9,rfl,ea⟩:=aL hth9 hy;have c5:i<Z.length:=(List.getElem?_eq_some_iff.mp co).1;refine⟨q9,_,rfl,SqT.of (m _ _ (J.at ea)),rfl,_,_,rfl,_,_,rfl,rfl,trivial,k,by rw[length_map,length_map,length_take];lia,dj _ _ ⟨m.put hD,ac,c5,?_⟩⟩;rw[take_add_one,co];simp
   .rintro zs r ⟨m,k,_,rfl⟩
    rw[<- a9,take_length]at k;refine⟨nd15,D,_,f,r5,j,Z,rfl,hnd15.t m.t,L,k,hT15.same m,λe9 e0 dT cs cD=>?_⟩;have Y:=t15.trans (m.t.trans dT);refine⟨_,_,lC cD,lC (Y.at cg),i3 _,i3 _,?_⟩;rw[SeqAt.eqv_refl _ (SeqAt.canLay_of_shaped (i3 _))];exact q _ (ca.trans (bm.trans Y)) cs
end
open Tb (Tr fT lT sT ba bnd d7 tot so)
theorem qU{a:Ad}{c:List Addr}{H:Hp}(b:∀ q∈tabs a,q.1∈c)(h:∀ P∈c,H P=some (.tbl #[])):TabsOk (tabs a) H:=λq d=>⟨#[],h _ (b q d),trivial,λ_ _=>.inl rfl⟩
section
variable {P:Program}{w:World}{K:Frag}{mg:Str->Option Value}{base:Heap}{a:Ad}
theorem uK{ts:List Addr}(T:Txt K mg a)(hB:Bm mg base)(L:∀ q∈tabs a,q.1∈ts)(ad:FnOk P w K mg base CX0 76 a.f_X a.d_X ["_law_tree_here","_law_crowd_here","_law_rest"] (spRight K a)):FnOk P w K mg base CX0 77 a.f_ap a.d_ap ["_law_script"] (spLaw K ts):=by
 have C:FnOk P w K mg base CX0 76 _ _ _ _:=(uB T).mono (by decide);have d:FnOk P w K mg base CX0 76 _ _ _ _:=(mY T).mono (by decide);have Y:FnOk P w K mg base CX0 76 _ _ _ _:=(pb T 4 (Nat.le_refl _)).mono (by decide);have I:FnOk P w K mg base CX0 76 _ _ _ _:=(wE T 3).mono (by decide);have W:FnOk P w K mg base CX0 76 _ _ _ _:=(qS T).mono (by decide);refine T.F_ap.ok sc_ap (λvs H Q E h=>?_) (λcdv A outer s H vs Q E hr h=>?_)
 .obtain⟨p,D,rfl,_⟩:=h;rfl
 .obtain⟨p,D,rfl,hS,hl,hP,q⟩:=h
  have ah:sizeLine=16777216:=sizeLine_eq;have hT:=qU L hP;refine⟨_,(ai (dU PassesOwn.never rfl (dP rfl T.z_range (aa (aG (iP rfl) rfl T.z_max o6 (aa ag (aa (aG (kJ rfl) rfl T.z_min rQ (aa ag (aa (aG aP rfl T.z_len cj (aa (vr 0) ae)) ae))) ae))) ae)) (aw (i:=1) sc_ap.nd rfl (Or.inl rfl)) (ai (aF (i:=2) sc_ap.nd rfl (Or.inl rfl) (av C hr rfl T.m_ao T.F_ao.kp T.B_ao .nil ao (aa (vr 0) (aa (vr 1) ae)))) (ai (aF (i:=3) sc_ap.nd rfl (Or.inl rfl) (aD di (aD di (av d hr rfl T.m_E T.F_E.kp T.B_E .nil ao (aa (vr 2) (aa ag ae))) (aD dI (av d hr rfl T.m_E T.F_E.kp T.B_E .nil ao (aa (vr 2) (aa ag ae))) (aD kB ag ag))) (aD dI (av d hr rfl T.m_E T.F_E.kp T.B_E .nil ao (aa (vr 2) (aa ag ae))) (aD kB ag ag)))) (ai (aF (i:=4) sc_ap.nd rfl (Or.inl rfl) (av I hr rfl T.m_C T.F_C.kp T.B_C .nil ao (aa (aB ax (av Y hr rfl T.m_V T.F_V.kp T.B_V .nil ao (aa (vr 3) (aa ag (aa fW ae)))) ag (λ_ _=>rfl)) ae))) (ai (aF (i:=5) sc_ap.nd rfl (Or.inl rfl) ag) (ai (dU PassesOwn.never rfl (dP rfl T.z_range (aa ag ae)) (aw (i:=6) sc_ap.nd rfl (Or.inl rfl)) (aj (aF (i:=5) sc_ap.nd rfl (Or.inl rfl) (aD di (aD dI (vr 5) (aD kB ag ag)) (av d hr rfl T.m_E T.F_E.kp T.B_E .nil ao (aa (vr 2) (aa (aD di ag (vr 6)) ae))))))) (aj (aR (d9 (gU (av ad hr rfl T.m_X T.F_X.kp T.B_X .nil ao (aa (vr 4) (aa (av W hr rfl T.m_Z T.F_Z.kp T.B_Z .nil ao (aa (vr 2) ae)) (aa (vr 5) ae)))))) (aj (ay fW)) aH)))))))) (aj (ay fW))),gI ?_⟩;intro a3;refine⟨_,.inl hS,⟨_,_,rfl,⟨_,_,rfl,?_⟩⟩⟩;rw[length_map];refine⟨_,rfl,by split <;> split <;> lia,by split <;> split <;> lia,?_⟩
  let Pw1:PvS:=λi g u=>SameT H u/\TabsOk (tabs a) u/\i<=6/\∃(x1 x2 x3 x4 x5 J:Option V),g=[some (.ref p),x1,x2,x3,x4,x5,J]
  refine gF Pw1 ⟨SameT.refl,hT,Nat.zero_le _,none,none,none,none,none,none,rfl⟩ ?_ ?_
  .rintro i g u hi ⟨F,v,a1,x1,x2,x3,x4,x5,J,rfl⟩
   have aS:i<6:=by split at hi <;> (try split at hi) <;> lia
   have X:SqL K u p (D.map V.int):=hS.imp (λz=>z.imp (λe=>F.at e) (λ⟨o,e⟩=>⟨o,F.at e⟩)) id;refine⟨p,D,0+(i:Int),rfl,X,hl,by lia,by lia,?_⟩;generalize oJ D (0+(i:Int))=c;refine⟨c,0,rfl,by decide,by decide,λn0 al a5=>?_⟩;refine⟨c,2,rfl,by decide,by decide,λn2 S a4=>?_⟩;refine⟨cw,crB (by decide +kernel) (by decide +kernel),?_⟩;refine⟨c,3,rfl,by decide,by decide,λn3 G as=>?_⟩;refine⟨cw,cmB (m:=50) (n:=70) (by unfold Bt;lia) (by unfold Bt;decide +kernel),?_⟩;have l:0<=n0+n2*2 ^ Int.toNat 40+n3*2 ^ Int.toNat 64:=Int.add_nonneg (Int.add_nonneg al (Int.mul_nonneg S (by decide +kernel))) (Int.mul_nonneg G (by decide +kernel));refine⟨_,0,rfl,by decide,by decide,l,λH2 t2 v2 ab N2 s2 M a0 x N=>?_⟩;refine ixT M 0 _ rfl _ ⟨v2,ab,rfl,x,N,Nat.le_refl _,λH3 v3 O s3 B Z=>?_⟩;refine⟨_,rfl,by decide,by decide,?_⟩
   let Pw2:PvS:=λj g H4=>H4=H3/\∃(b:Nat) (y6:Option V),b<2 ^ (40*j)/\j<=16/\g=[some (.ref p),some (.int (0+(i:Int))),some (.int c),some (.int (n0+n2*2 ^ Int.toNat 40+n3*2 ^ Int.toNat 64)),some v3,some (.int (b:Int)),y6]
   refine gF Pw2 ⟨rfl,0,J,by decide,Nat.zero_le _,rfl⟩ ?_ ?_
   .rintro j g H4 hj ⟨rfl,b,y6,f,y,rfl⟩
    have ap:j<16:=hj
    have bt:Bt 700 (b:Int):=by
     unfold Bt;rw[Int.natAbs_natCast];exact Nat.lt_of_lt_of_le f (Nat.pow_le_pow_right (by decide) (by lia))
    refine⟨cw,cmB (m:=700) (n:=70) bt (by unfold Bt;decide +kernel),c,30+(0+(j:Int)),rfl,by lia,by lia,λr r0 r1=>?_⟩;refine⟨rfl,b*2 ^ 40+r.toNat,some (.int (0+(j:Int))),?_,by lia,?_⟩
    .have e:(2:Nat) ^ (40*(j+1))=2 ^ (40*j)*2 ^ 40:=by rw[<- Nat.pow_add];rfl
     have e2:(2:Nat) ^ 40=1099511627776:=by decide +kernel
     have a2:r.toNat<1099511627776:=by lia
     rw[e,e2];generalize (2:Nat) ^ (40*j)=P9 at f;lia
    .have e4:((2 ^ 40:Nat):Int)=2 ^ Int.toNat 40:=by decide +kernel
     have e:(((b*2 ^ 40+r.toNat:Nat)):Int)=(b:Int)*2 ^ Int.toNat 40+r:=by
      rw[Int.natCast_add,Int.natCast_mul,e4,show((r.toNat:Nat):Int)=r by lia]
     rw[e];rfl
   .rintro g H4 ⟨rfl,b,y6,f,y,rfl⟩
    refine⟨c,rfl,λH5 rc ms xs s5 R hC hc=>?_⟩;have k:=s2.trans (s3.trans s5);refine⟨v3,O,rc,xs,ms,(b:Int),rfl,B.same s5,Z,hc,R,hC,v.same k,λH6 t6 an=>?_⟩;exact⟨F.trans (k.t.trans t6),an,by lia,_,_,_,_,_,_,rfl⟩
  .rintro g u ⟨F,v,_,_⟩
   exact q _
end
open Tb (Tr fT lT sT ba bnd d7 tot so)
theorem kN{n j:Nat}{L:List Nat}(a:j<n):((List.range n).take (j+1)).filter (λk=>decide (k∈L))=((List.range n).take j).filter (λk=>decide (k∈L))++if j∈L then [j] else []:=by
 rw[take_add_one,List.getElem?_range a,filter_append]
 by_cases c:j∈L <;> simp[c]
theorem p7{n j:Nat}{L:List Nat}(p:Nat->Bool)(a:j<n):((List.range n).take (j+1)).filter (λk=>decide (k∈L) && p k)=((List.range n).take j).filter (λk=>decide (k∈L) && p k)++if (decide (j∈L) && p j)=true then [j] else []:=by
 rw[take_add_one,List.getElem?_range a,filter_append]
 by_cases c:(decide (j∈L) && p j)=true
 .rw[if_pos c];simp[c]
 .rw[if_neg c];simp[c]
theorem oR(p:Nat->Bool):∀ L:List Nat,(L.filter λk=>!p k).length+(L.filter p).length=L.length
 | []=>rfl
 | k::L=>by
  have a:=oR p L
  by_cases h:p k=true
  .rw[filter_cons_of_neg (by simp[h]),filter_cons_of_pos h,length_cons,length_cons];lia
  .rw[filter_cons_of_pos (by simpa using h),filter_cons_of_neg h,length_cons,length_cons];lia
theorem u4{K:Frag}{H:Hp}:∀(l:List Nat),DVs K H (l.map λ(k:Nat)=>PyData.int (k:Int)) (nV l)
 | []=>by simp[DVs,nV]
 | c::l=>by
  show DVs K H (PyData.int (c:Int)::l.map λ(k:Nat)=>PyData.int (k:Int)) (V.int (c:Int)::nV l);rw[DVs];exact⟨_,_,rfl,by simp[DV],u4 l⟩
theorem vw:∀(l:List Nat),PyData.canLayAll0 (l.map λ(k:Nat)=>PyData.int (k:Int))=true/\PyData.depthAll (l.map λ(k:Nat)=>PyData.int (k:Int))<=1
 | []=>by simp[PyData.canLayAll0,PyData.depthAll]
 | t::l=>by
  obtain⟨a,b⟩:=vw l;rw[map_cons,PyData.canLayAll0,PyData.depthAll,a,PyData.canLay0];refine⟨rfl,?_⟩;simp only[PyData.depth];lia
theorem sA{K:Frag}{H:Hp}{ns:List Nat}{l r:Addr}{Q:VK}(c:H l=some (.lst (nV ns)))(d:H r=some (.lst []))(q:Q (.bl (!ns.isEmpty)) H):rEqD K true (.ref l) (.ref r) H Q:=by
 have b:SeqAt.shaped (.list (ns.map λ(k:Nat)=>PyData.int (k:Int)))=true:=by
  obtain⟨a,f⟩:=vw ns;unfold SeqAt.shaped;rw[PyData.canLay0,a,Bool.true_and];refine decide_eq_true ?_;simp only[PyData.depth];lia
 refine⟨.list (ns.map λ(k:Nat)=>PyData.int (k:Int)),.list [],by rw[DV];exact⟨l,_,rfl,SqL.of c,u4 _⟩,by rw[DV];exact⟨r,_,rfl,SqL.of d,by simp[DVs]⟩,b,by decide +kernel,?_⟩
 have e:PyData.eqv (.list (ns.map λ(k:Nat)=>PyData.int (k:Int))) (.list [])=ns.isEmpty:=by
  cases ns with
  | nil=>decide +kernel
  | cons n ns=>simp[PyData.eqv,PyData.eqvAll]
 rw[e];exact q
theorem uR{n:Nat}{L:List Nat}(h:L=(List.range n).filter λk=>decide (k∈L))(p:Nat->Bool):(List.range n).filter (λk=>decide (k∈L) && p k)=L.filter p:=by
 have e:((List.range n).filter λk=>decide (k∈L)).filter p=L.filter p:=by rw[<- h]
 rw[<- e,List.filter_filter];refine List.filter_congr λk _=>?_
 rw[Bool.and_comm]
theorem oC{x S:Int}(a:0<S):hX (x*0) S=(0,1):=by
 rw[Int.mul_zero];exact(wC a ⟨by decide,by decide,by lia⟩).symm
theorem uU{z:List Int}{j:Nat}{x:V}(b:(z.map V.int)[j]? = some x):j<z.length/\x=.int (sz z j):=by
 have a:j<z.length:=by have:=(List.getElem?_eq_some_iff.mp b).1;rw[length_map]at this;exact this
 refine⟨a,?_⟩;rw[List.getElem?_map,List.getElem?_eq_getElem a]at b;cases b;simp[sz,List.getD,a]
theorem mx(z:List Int)(p:Nat->Bool):∀(l:List Nat),(∀ k∈l,1<=sz z k)->aU z (l.filter p)<=aU z l
 | [],_=>Int.le_refl _
 | k::l,h=>by
  have d:=mx z p l (λk a=>h k (mem_cons_of_mem _ a));have b:=h k mem_cons_self;have e:aU z (k::l)=sz z k+aU z l:=by unfold aU;rw[map_cons,sum_cons]
  by_cases c:p k=true
  .rw[filter_cons_of_pos c]
   have f:aU z (k::l.filter p)=sz z k+aU z (l.filter p):=by unfold aU;rw[map_cons,sum_cons]
   lia
  .rw[filter_cons_of_neg c]
   lia
theorem we{z:List Int}{l:List Nat}{w:Int}(hz:∀ k∈l,1<=sz z k)(h:0<l.length)(f:0<=w):0<=w - ((l.length:Int) - ((stay z l w).length:Int)):=by
 have e:(l.filter λk=>!decide (sz z k*w<aU z l)).length+(stay z l w).length=l.length:=oR (λk=>decide (sz z k*w<aU z l)) l
 by_cases c:((l.filter λk=>!decide (sz z k*w<aU z l)).length:Int)<=w
 .lia
 .exfalso
  have a:=fK z w (aU z l) (l.filter λk=>!decide (sz z k*w<aU z l)) (λk hk=>by
   have:=(mem_filter.mp hk).2
   simpa using this)
  have d:=mx z (λk=>!decide (sz z k*w<aU z l)) l hz;have g:=eM z l hz;have b:(w+1)*aU z l<=aU z l*w:=Int.le_trans (Int.mul_le_mul_of_nonneg_right (by lia) (by lia)) (Int.le_trans a (Int.mul_le_mul_of_nonneg_right d f));rw[Int.add_mul,Int.mul_comm (aU z l) w]at b;lia
theorem nr{K:Frag}{H:Hp}{f:Int×Int}{x:V}(h:IsF K H f x):∀ n,AllF K H (List.replicate n f) (List.replicate n [x]).flatten
 | 0=>.nil
 | n+1=>by rw[replicate_succ,replicate_succ,flatten_cons];exact .cons h (nr h n)
def Asd(n:Nat)(A L:List Nat):Prop:=A.length+L.length=n/\∀ k,k<n->decide (k∈A) = !decide (k∈L)
theorem Asd.start(n:Nat):Asd n [] (List.range n):=⟨by simp,λk a=>by simp[a]⟩
theorem Asd.more{n:Nat}{A L d st:List Nat}{p:Nat->Bool}(h:Asd n A L)(e:d.length+st.length=L.length)(g:d=L.filter λk=>!p k)(i:st=L.filter p):Asd n (A++d) st:=by
 refine⟨by rw[length_append];have:=h.1;lia,λk f=>?_⟩;have a:=h.2 k f;rw[g,i]
 by_cases c:k∈L
 .have b:k ∉ A:=by simpa[c] using a
  by_cases c3:p k=true <;> simp[c,b,c3]
 .have b:k∈A:=by simpa[c] using a
  simp[c,b]
section
variable {P:Program}{w:World}{K:Frag}{mg:Str->Option Value}{base:Heap}{a:Ad}
theorem o7(T:Txt K mg a):FnOk P w K mg base CX0 2 a.f_J a.d_J ["_law_sizes","_law_many"] (spWished K):=by
 have b4:FnOk P w K mg base CX0 1 _ _ _ spLowest:=qM T;refine T.F_J.ok sc_J (λvs H Q E h=>?_) (λcdv A outer s H vs Q E hr h=>?_)
 .obtain⟨l,z,m,rfl,_⟩:=h;rfl
 .obtain⟨l,z,m,rfl,hl,hz,m0,m1,q⟩:=h
  refine⟨_,(ai (aR (aK qZ (vr 1) (aG aP rfl T.z_len cj (aa (vr 0) ae)) (aI _)) (aj (ay (aD v7 (cC (aa (aT (aa ag (aa ag ae))) ae)) (aG aP rfl T.z_len cj (aa (vr 0) ae))))) aH) (ai (aF (i:=2) sc_J.nd rfl (Or.inr rfl) (cC ae)) (ai (aF (i:=3) sc_J.nd rfl (Or.inl rfl) (lZ tu (vr 1) ag (aI _))) (ai (eF PassesOwn.never (gU (vr 3)) (ai (aF (i:=4) sc_J.nd rfl (Or.inr rfl) (aG (dh rfl) rfl T.z_sum eX (aa (bj rfl (N:=["_law_k","_law_size","_law_aside"]) (ix:=[none,none,some 2]) ⟨rfl,rfl,rfl,rfl,⟨rfl,rfl,rfl,trivial⟩⟩ (eR rfl T.z_enumerate (aa (vr 0) ae)) ⟨λC s H fp=>(cN (K:=K) (n:=2) rfl rfl (az (aw (i:=0) (show List.Nodup (["_law_k","_law_size","_law_aside"]:List Str) by decide +kernel) rfl (Or.inl rfl)) (az (aw (i:=1) (show List.Nodup (["_law_k","_law_size","_law_aside"]:List Str) by decide +kernel) rfl (Or.inl rfl)) bi))),λC s H fp=>eV (aK (fb (K:=K) rfl) (vr 0) (vr 2) (by with_unfolding_all rfl)),λC s H fp=>(vr 1)⟩) ae))) (ai (im rfl (i:=5) sc_J.nd rfl rfl (by with_unfolding_all rfl) (N:=["_law_k","_law_size","_law_aside","_law_total","_law_many"]) (ix:=[none,none,some 2,some 4,some 1]) ⟨rfl,rfl,rfl,rfl,⟨rfl,rfl,rfl,⟨rfl,rfl,rfl,⟨rfl,rfl,rfl,trivial⟩⟩⟩⟩ (eR rfl T.z_enumerate (aa (vr 0) ae)) ⟨λC s H fp=>(cN (K:=K) (n:=2) rfl rfl (az (aw (i:=0) (show List.Nodup (["_law_k","_law_size","_law_aside","_law_total","_law_many"]:List Str) by decide +kernel) rfl (Or.inl rfl)) (az (aw (i:=1) (show List.Nodup (["_law_k","_law_size","_law_aside","_law_total","_law_many"]:List Str) by decide +kernel) rfl (Or.inl rfl)) bi))),λC s H fp=>eV (PW.pt (jN (aK (fb (K:=K) rfl) (vr 0) (vr 2) (by with_unfolding_all rfl)) (iz (aK qZ (aD dI (vr 1) (vr 4)) (vr 3) (aI _))))),λC s H fp=>(vr 0)⟩) (ai (aF (i:=2) sc_J.nd rfl (Or.inr rfl) (aD jS (vr 2) (vr 5))) (ai (aF (i:=1) sc_J.nd rfl (Or.inr rfl) (aD eO (vr 1) (aG aP rfl T.z_len cj (aa (vr 5) ae)))) (aj (aF (i:=3) sc_J.nd rfl (Or.inl rfl) (lZ (vH hr.units) (vr 5) (cC ae) (aI _))))))))) (ai (aF (i:=4) sc_J.nd rfl (Or.inr rfl) (aG (dh rfl) rfl T.z_sum eX (aa (bj rfl (N:=["_law_k","_law_size","_law_aside"]) (ix:=[none,none,some 2]) ⟨rfl,rfl,rfl,rfl,⟨rfl,rfl,rfl,trivial⟩⟩ (eR rfl T.z_enumerate (aa (vr 0) ae)) ⟨λC s H fp=>(cN (K:=K) (n:=2) rfl rfl (az (aw (i:=0) (show List.Nodup (["_law_k","_law_size","_law_aside"]:List Str) by decide +kernel) rfl (Or.inl rfl)) (az (aw (i:=1) (show List.Nodup (["_law_k","_law_size","_law_aside"]:List Str) by decide +kernel) rfl (Or.inl rfl)) bi))),λC s H fp=>eV (aK (fb (K:=K) rfl) (vr 0) (vr 2) (by with_unfolding_all rfl)),λC s H fp=>(vr 1)⟩) ae))) (ai (aF (i:=6) sc_J.nd rfl (Or.inl rfl) (cC ae)) (ai (dU PassesOwn.never rfl (eR rfl T.z_enumerate (aa (vr 0) ae)) (dN rfl (az (aw (i:=7) sc_J.nd rfl (Or.inl rfl)) (az (aw (i:=8) sc_J.nd rfl (Or.inl rfl)) bi))) (aj (aR (aK kA (vr 7) (vr 2) (by with_unfolding_all rfl)) (aj (db (pe_m.append (vr 6) (aa (aT (aa ag (aa ag ae))) ae)))) (aj (db (pe_m.append (vr 6) (aa (av b4 hr rfl T.m_ad T.F_ad.kp T.B_ad .nil ao (aa (aD dI (vr 8) (vr 1)) (aa (vr 4) ae))) ae))))))) (aj (ay (vr 6)))))))))),xw ?_⟩
  intro cG cD cA cW cR cs cP;have sl:sizeLine=16777216:=sizeLine_eq;have zl:=hz.len;have Y:∀ k,k<z.length->1<=sz z k:=λk Z=>hz.lo _ (iU Z)
  have a6:∀ k,k<z.length->sz z k<=24000000:=λk Z=>hz.hi _ (iU Z)
  refine⟨_,.inl (SqL.of hl),?_⟩;rw[length_map];refine ifC (λc=>?_) (λc=>?_)
  .have B:(z.length:Int)<=m:=c
   have ab:due z m=z.map λ_=>(1,1):=by unfold due;rw[if_pos B]
   refine⟨ee _ _,λp hp=>⟨by show 1<=sizeLine;lia,λD hD=>?_⟩⟩;have s1:=(Same.new (o:=.tup [.int 1,.int 1]) hp).trans (Same.new (o:=.lst [.ref p]) hD);refine⟨_,.inl (SqL.of (s1 _ _ hl)),⟨D,_,[.ref p],rfl,rfl,ac,by rw[length_map];lia,by rw[length_map];lia,by rw[length_map,Int.toNat_natCast];show 1*_<=_;lia,λr a4=>?_⟩⟩;have f:=s1.trans (Same.new (o:=.lst (List.replicate (((z.map V.int).length:Nat):Int).toNat [V.ref p]).flatten) a4);refine q _ r _ f (s1.free a4) ac ?_;rw[ab,Int.toNat_natCast,length_map,List.map_const'];rw[length_map,Int.toNat_natCast]at f;refine nr ⟨p,rfl,.inl ?_⟩ _;exact Same.new a4 _ _ (Same.new hD _ _ ac)
  have B:¬(z.length:Int)<=m:=c;refine⟨Nat.zero_le _,λy M=>?_⟩
  let Pw2:PvS:=λc σ H'=>∃(y:Addr) (A L:List Nat) (w:Int) (b:Bool) (x4 x5:Option V),c=2*L.length+(if b then 1 else 0)/\Same H H'/\H' y=some (.lst (nV A))/\Asd z.length A L/\Rnd z z.length m L w/\0<=w /\
    (m=0->b=false/\w=0/\L=List.range z.length)/\(m≠0->FrM.fin z L w=FrM.fin z (List.range z.length) m)/\(m≠0->b=false->(stay z L w).length=L.length)/\σ=[some (.ref l),some (.int w),some (.ref y),some (.bl b),x4,x5,none,none,none]
  refine⟨Pw2,
   ⟨_,y,[],List.range z.length,m,decide (0<m),none,none,rfl,Same.new M,ac,Asd.start _,Rnd.start (by lia) (by lia),m0,λe=>⟨by rw[e];rfl,e,rfl⟩,λ_=>rfl,λe1 e2=>absurd (of_decide_eq_false e2) (by lia),rfl⟩,?_⟩
  clear M y;rintro c0 σ H' ⟨y,A,L,w,b,x4,x5,rfl,sm,M,hA,R,w0,bm,a9,b9,rfl⟩;have X:=sm _ _ hl;have Ll:=R.len;have wb:w<=24:=by have:=R.dif;have:=R.lt;lia
  have S:∀ L:List Nat,(nV L).length=L.length:=λL=>by unfold nV;rw[length_map]
  refine ifB (λhb=>?_) (λhb=>?_)
  .subst hb
   have hm:m≠0:=λe=>by have:=(bm e).1;cases this
   let Pw3:St->Hp->Prop:=λb2 a'=>∃(y:Addr) (A:List Nat) (w':Int) (b':Bool) (x4 x5:Option V),w'=w - ((L.length:Int) - ((stay z L w).length:Int))/\b'=decide ((stay z L w).length≠L.length)/\Same H a'/\a' y=some (.lst (nV A))/\Asd z.length A (stay z L w)/\b2=[some (.ref l),some (.int w'),some (.ref y),some (.bl b'),x4,x5,none,none,none]
   refine⟨Pw3,?_,?_⟩
   .rintro b2 a' ⟨y,A,w',b',x4,x5,rfl,rfl,b0,h',a5,rfl⟩
    have ct:=iw z L w
    by_cases e:(stay z L w).length=L.length
    .have es:stay z L w=L:=by
      unfold stay;rw[List.filter_eq_self];exact λk Z=>(List.length_filter_eq_length_iff.mp e) k Z
     have ew:w - ((L.length:Int) - ((stay z L w).length:Int))=w:=by lia
     have eb:decide ((stay z L w).length≠L.length)=false:=decide_eq_false (λh=>h e);rw[ew,eb];refine⟨_,?_,y,A,L,w,false,x4,x5,rfl,b0,h',by rw[es]at a5;exact a5,R,w0,λz=>absurd z hm,a9,λ_ _=>e,rfl⟩;simp
    .have eb:decide ((stay z L w).length≠L.length)=true:=decide_eq_true e
     rw[eb];refine⟨_,?_,y,A,_,_,true,x4,x5,rfl,b0,h',a5,R.step Y,we (λk Z=>Y k (R.sub k Z)) R.pos w0,λz=>absurd z hm,λz=>by rw[<- a9 z];exact(lQ e).symm,λ_ z=>(by cases z),rfl⟩;simp;lia
   .skip
    refine⟨l,_,rfl,X,λD hD=>?_⟩;refine fD (a:=l) (xs:=z.map V.int) (λj g d=>j<=z.length/\Same H' d/\d D=some (.lst g)/\g=((((List.range z.length).take j).filter λk=>decide (k∈L)).map (sz z)).map V.int) ⟨Nat.zero_le _,Same.new hD,ac,rfl⟩ (λj g d h=>h.2.1 _ _ X) (λj g d h=>h.2.2.1) ?_ ?_
    .rintro j x g d p P' hx ⟨bt,t2,W,rfl⟩ hp hP
     obtain⟨G,rfl⟩:=uU hx;have f:Same d (upd d p (.tup [.int (j:Nat),.int (sz z j)])):=Same.new hp;refine⟨p,_,rfl,SqT.of ac,rfl,_,_,rfl,_,_,rfl,rfl,⟨rfl,trivial⟩,?_⟩;generalize upd d p (.tup [.int (j:Nat),.int (sz z j)])=H5 at f;have F:=f _ _ W;have v:=kN (L:=L) G;refine⟨y,_,rfl,.inl (SqL.of ((t2.trans f) _ _ M)),rfl,jF A,?_⟩;rw[tF,hA.2 j G];refine ifB (λc=>?_) (λc=>?_)
     .have B:j∈L:=by simpa using c
      rw[if_pos B]at v;refine⟨F,?_,hP _ _ ⟨G,(t2.trans f).put hD,ac,?_⟩⟩
      .rw[length_map,length_map]
       have:=length_filter_le (λk=>decide (k∈L)) ((List.range z.length).take j);rw[length_take]at this;lia
      .rw[v,map_append,map_append];rfl
     .have B:j ∉ L:=by simpa using c
      rw[if_neg B,append_nil]at v;exact hP _ _ ⟨G,t2.trans f,F,by rw[v]⟩
    rintro g H3 ⟨_,sD,ah,rfl⟩
    have eS:(((List.range z.length).take (z.map V.int).length).filter λk=>decide (k∈L))=L:=by
     rw[length_map,take_of_length_le (by rw[length_range];exact Nat.le_refl _)];exact R.fil.symm
    rw[eS]at ah;refine⟨D,L.map (sz z),rfl,SqL.of ah,?_⟩;have a0:=sD _ _ X;have I:=sD _ _ M;refine⟨l,_,rfl,a0,λD2 W=>?_⟩;refine fD (a:=l) (xs:=z.map V.int) (λj g d=>j<=z.length/\Same H3 d/\d D2=some (.lst g)/\g=nV (((List.range z.length).take j).filter λk=>decide (k∈L) && !decide (sz z k*w<aU z L))) ⟨Nat.zero_le _,Same.new W,ac,rfl⟩ (λj g d h=>h.2.1 _ _ a0) (λj g d h=>h.2.2.1) ?_ ?_
    .rintro j x g d p P' hx ⟨bt,t2,cc,rfl⟩ hp hP
     obtain⟨G,rfl⟩:=uU hx;have f:Same d (upd d p (.tup [.int (j:Nat),.int (sz z j)])):=Same.new hp;refine⟨p,_,rfl,SqT.of ac,rfl,_,_,rfl,_,_,rfl,rfl,⟨rfl,rfl,rfl,trivial⟩,?_⟩;generalize upd d p (.tup [.int (j:Nat),.int (sz z j)])=H5 at f;have F:=f _ _ cc;have v:=p7 (L:=L) (λk=>!decide (sz z k*w<aU z L)) G;have b6:=Y j G;have co:=a6 j G;refine⟨y,_,rfl,.inl (SqL.of ((t2.trans f) _ _ I)),rfl,jF A,?_⟩;rw[tF,hA.2 j G];refine ifB (λc=>?_) (λc=>?_)
     .have B:j∈L:=by simpa using c
      refine⟨crB (by lia) (by lia),?_⟩;refine ifC (λc2=>?_) (λc2=>?_)
      .have b3:aU z L<=sz z j*w:=c2
       rw[if_pos (by simp[B];exact b3)]at v;refine⟨F,?_,hP _ _ ⟨G,(t2.trans f).put W,ac,?_⟩⟩
       .rw[S]
        have:=length_filter_le (λk=>decide (k∈L) && !decide (sz z k*w<aU z L)) ((List.range z.length).take j);rw[length_take]at this;lia
       .rw[v];unfold nV;rw[map_append];rfl
      .have b3:¬aU z L<=sz z j*w:=c2
       rw[if_neg (by simp[B];lia),append_nil]at v;exact hP _ _ ⟨G,t2.trans f,F,by rw[v]⟩
     .have B:j ∉ L:=by simpa using c
      rw[if_neg (by simp[B]),append_nil]at v;exact sY (hP _ _ ⟨G,t2.trans f,F,by rw[v]⟩)
    rintro g H4 ⟨_,b5,a8,rfl⟩
    obtain⟨u,hhi⟩:∃ u,u=L.filter λk=>!decide (sz z k*w<aU z L):=⟨_,rfl⟩
    have eT:nV (((List.range z.length).take (z.map V.int).length).filter λk=>decide (k∈L) && !decide (sz z k*w<aU z L))=nV u:=by
     rw[length_map,take_of_length_le (by rw[length_range];exact Nat.le_refl _),hhi]
     congr 1
     exact uR R.fil _
    rw[eT]at a8;have O:u.length+(stay z L w).length=L.length:=by rw[hhi];exact oR _ L
    have as:=b5 _ _ I;have al:=hA.1;refine⟨y,D2,_,_,rfl,rfl,as,a8,by rw[S,S];lia,λa1 a2=>?_⟩;have s5:=sD.trans (b5.trans (Same.new (o:=.lst (nV A++nV u)) a2));have an:=Same.new (o:=.lst (nV A++nV u)) a2 _ _ a8;have h5:(upd H4 a1 (.lst (nV A++nV u))) a1=some (.lst (nV (A++u))):=by rw[ac];unfold nV;rw[map_append]
    generalize upd H4 a1 (.lst (nV A++nV u))=H5 at s5 an h5;refine⟨_,.inl (SqL.of an),Nat.zero_le _,λp hp=>?_⟩;have sp:=Same.new (o:=.lst []) hp;refine sA (sp _ _ an) ac ?_;refine⟨a1,A++u,_,_,_,_,?_,?_,sm.trans (s5.trans sp),sp _ _ h5,hA.more O hhi rfl,rfl⟩
    .rw[S];lia
    .rw[Bool.eq_iff_iff,decide_eq_true_eq]
     cases u with
     | nil=>simp at O;simp[O]
     | cons k u=>simp at O;simp;lia
  .subst hb
   have ab:due z m=(List.range z.length).map λk=>if decide (k∈L)=true then hX (sz z k*w) (aU z L) else (1,1):=by
    unfold due;rw[if_neg B]
    by_cases hm:m=0
    .obtain⟨_,hw,hL⟩:=bm hm
     rw[if_pos hm,hw,hL];refine List.ext_getElem? λi=>?_
     rw[List.getElem?_map,List.getElem?_map]
     by_cases u:i<z.length
     .rw[List.getElem?_range u,List.getElem?_eq_getElem u]
      show some ((0:Int),(1:Int))=some _
      congr 1
      show((0:Int),(1:Int))=if decide (i∈List.range z.length)=true then hX (sz z i*0) (aU z (List.range z.length)) else (1,1)
      rw[if_pos (decide_eq_true (mem_range.mpr u))];refine(oC ?_).symm;have:=eM z (List.range z.length) λk Z=>Y k (mem_range.mp Z)
      rw[length_range]at this;lia
     .rw[List.getElem?_eq_none (by lia),List.getElem?_eq_none (by rw[length_range];lia)]
      rfl
    .have a3:=iB (b9 hm rfl)
     rw[a9 hm]at a3;rw[if_neg hm,a3]
   have hS:0<aU z L:=by have:=eM z L λk Z=>Y k (R.sub k Z);have:=R.pos;lia
   have cg:Bt 40 (aU z L):=by
    have:=ju z 24000000 L λk Z=>a6 k (R.sub k Z)
    unfold Bt;have ca:(2:Nat) ^ 40=1099511627776:=by decide
    rw[ca];lia
   refine⟨l,_,rfl,X,λD hD=>?_⟩;refine fD (a:=l) (xs:=z.map V.int) (λj g d=>j<=z.length/\Same H' d/\d D=some (.lst g)/\g=((((List.range z.length).take j).filter λk=>decide (k∈L)).map (sz z)).map V.int) ⟨Nat.zero_le _,Same.new hD,ac,rfl⟩ (λj g d h=>h.2.1 _ _ X) (λj g d h=>h.2.2.1) ?_ ?_
   .rintro j x g d p P' hx ⟨bt,t2,W,rfl⟩ hp hP
    obtain⟨G,rfl⟩:=uU hx;have f:Same d (upd d p (.tup [.int (j:Nat),.int (sz z j)])):=Same.new hp;refine⟨p,_,rfl,SqT.of ac,rfl,_,_,rfl,_,_,rfl,rfl,⟨rfl,trivial⟩,?_⟩;generalize upd d p (.tup [.int (j:Nat),.int (sz z j)])=H5 at f;have F:=f _ _ W;have v:=kN (L:=L) G;refine⟨y,_,rfl,.inl (SqL.of ((t2.trans f) _ _ M)),rfl,jF A,?_⟩;rw[tF,hA.2 j G];refine ifB (λc=>?_) (λc=>?_)
    .have B:j∈L:=by simpa using c
     rw[if_pos B]at v;refine⟨F,?_,hP _ _ ⟨G,(t2.trans f).put hD,ac,?_⟩⟩
     .rw[length_map,length_map]
      have:=length_filter_le (λk=>decide (k∈L)) ((List.range z.length).take j);rw[length_take]at this;lia
     .rw[v,map_append,map_append];rfl
    .have B:j ∉ L:=by simpa using c
     rw[if_neg B,append_nil]at v;exact hP _ _ ⟨G,t2.trans f,F,by rw[v]⟩
   rintro g H3 ⟨_,sD,ah,rfl⟩
   have eS:(((List.range z.length).take (z.map V.int).length).filter λk=>decide (k∈L))=L:=by
    rw[length_map,take_of_length_le (by rw[length_range];exact Nat.le_refl _)];exact R.fil.symm
   rw[eS]at ah;refine⟨D,L.map (sz z),rfl,SqL.of ah,?_⟩;have a0:=sD _ _ X;have I:=sD _ _ M;refine⟨Nat.zero_le _,λfd ap=>?_⟩;have s3:Same H H3:=sm.trans sD;have a7:H fd=none:=s3.free ap;have as:=Same.new (o:=.lst []) ap _ _ I;have bo:fd≠y:=(ar I ap).symm;refine⟨l,_,rfl,Same.new ap _ _ a0,?_⟩
   let Pw1:PvS:=λi σ d=>∃(g:List V) (x7 x8:Option V),i<=z.length/\Same H d/\d y=some (.lst (nV A))/\d fd=some (.lst g)/\AllF K d ((due z m).take i) g/\σ=[some (.ref l),some (.int w),some (.ref y),some (.bl false),some (.int (L.map (sz z)).sum),x5,some (.ref fd),x7,x8]
   refine jI (a:=l) (xs:=z.map V.int) Pw1 ⟨[],none,none,Nat.zero_le _,s3.trans (Same.new ap),as,ac,by rw[take_zero];exact .nil,rfl⟩ (λi σ d h=>by obtain⟨_,_,_,_,t1,_⟩:=h;exact t1 _ _ hl) ?_ ?_
   .rintro i x σ d p hx ⟨g,x7,x8,cT,t1,b1,bl,hF,rfl⟩ hp
    obtain⟨u,rfl⟩:=uU hx;have b6:=Y i u;have co:=a6 i u;have yl:g.length=i:=by rw[<- hF.len,length_take,dc];lia
    have f:Same d (upd d p (.tup [.int (i:Nat),.int (sz z i)])):=Same.new hp;refine⟨p,_,rfl,SqT.of ac,rfl,_,_,rfl,_,_,rfl,rfl,?_⟩;generalize upd d p (.tup [.int (i:Nat),.int (sz z i)])=H5 at f;have bd:=f _ _ b1;have aS:=f _ _ bl
    have v:(due z m).take (i+1)=(due z m).take i++[if decide (i∈L)=true then hX (sz z i*w) (aU z L) else (1,1)]:=by
     rw[take_add_one]
     congr 1
     rw[ab,List.getElem?_map,List.getElem?_range u];rfl
    refine⟨y,_,rfl,.inl (SqL.of bd),rfl,jF A,?_⟩;rw[tF,hA.2 i u];refine ifB (λc=>?_) (λc=>?_)
    .have B:i ∉ L:=by simpa using c
     rw[if_neg (by simp[B])]at v;refine⟨.inl ⟨rfl,_,SqL.of aS⟩,ee _ _,λp2 ch=>?_⟩;have sp:=Same.new (o:=.tup [.int 1,.int 1]) ch;have J:=sp _ _ aS;refine⟨fd,_,_,rfl,rfl,J,by lia,⟨_,_,_,u,(t1.trans (f.trans sp)).put a7,by rw[au bo.symm];exact sp _ _ bd,ac,?_,rfl⟩⟩;rw[v];exact AllF.snoc ⟨p2,rfl,.inl (TK.lst J _ _ ac)⟩ (hF.tk ((f.trans sp).tk.trans (TK.lst J)))
    .have B:i∈L:=by simpa using c
     rw[if_pos (decide_eq_true B)]at v;refine⟨.inl ⟨rfl,_,SqL.of aS⟩,crB (by lia) (by lia),⟨_,_,rfl,Int.mul_nonneg (by lia) w0,hS,((show Bt 30 (sz z i) by unfold Bt;lia).mul (show Bt 5 w by unfold Bt;lia)).mono (by decide),cg.mono (by decide),λH6 p6 s6 e6=>?_⟩⟩;have J:=s6 _ _ aS;refine⟨fd,_,_,rfl,rfl,J,by lia,⟨_,_,_,u,(t1.trans (f.trans s6)).put a7,by rw[au bo.symm];exact s6 _ _ bd,ac,?_,rfl⟩⟩;rw[v];exact AllF.snoc ⟨p6,rfl,.inl (TK.lst J _ _ e6)⟩ (hF.tk ((f.trans s6).tk.trans (TK.lst J)))
   .rintro σ d ⟨g,x7,x8,_,t1,b1,bl,hF,rfl⟩
    rw[take_of_length_le (by rw[dc,length_map];exact Nat.le_refl _)]at hF;exact q _ fd g t1 a7 bl hF
end
open Tb (Tr fT lT sT ba bnd d7 tot so)
abbrev lawK:Nat:=77
section
variable {P:Program}{w:World}{K:Frag}{mg:Str->Option Value}{base:Heap}{a:Ad}
theorem ok_law{c:List Addr}(T:Txt K mg a)(d:Bm mg base)(b:∀ q∈tabs a,q.1∈c):FnOk P w K mg base CX0 lawK a.f_ap a.d_ap ["_law_script"] (spLaw K c):=uK T d b (rj T d ((ng T ((o7 T).mono (by decide)) 3).mono (by decide)))
end
end My
namespace My
open PySem L2
theorem us0{a:Type}:∀{us:List a},us.length=0->us=[]
 | [],_=>rfl
theorem us1{a:Type}{us:List a}(h:us.length=1):∃ a0,us=[a0]:=by
 cases us with
 | nil=>cases h
 | cons a0 t=>obtain rfl:=us0 (Nat.succ.inj h);exact⟨a0,rfl⟩
theorem us2{a:Type}{us:List a}(h:us.length=2):∃ a0 a1,us=[a0,a1]:=by
 cases us with
 | nil=>cases h
 | cons a0 t=>obtain⟨a1,rfl⟩:=us1 (Nat.succ.inj h);exact⟨a0,a1,rfl⟩
theorem us3{a:Type}{us:List a}(h:us.length=3):∃ a0 a1 a2,us=[a0,a1,a2]:=by
 cases us with
 | nil=>cases h
 | cons a0 t=>obtain⟨a1,a2,rfl⟩:=us2 (Nat.succ.inj h);exact⟨a0,a1,a2,rfl⟩
theorem txt_mk{K:Frag}{h:Heap}{mg:Str->Option Value}{f0 f1 f2 f3 f4 f5 f6 f7 f8 f9 f10 f11 f12 f13 f14 f15 f16 f17 f18 f19 f20 f21 f22 f23 f24 f25 f26 f27 f28 f29 f30 f31 f32 f33 f34 f35 k_NOUGHT k_WHOLE c_ae c_S i_S c_am c_L i_L c_ai c_i i_i c_p i_p c_aj c_x i_x c_f i_f c_g i_g c_l i_l c_c i_c x_v x_z x_K x_O x_M x_T x_H x_P x_G x_r x_s x_t x_a x_A x_w x_q x_o x_k lc_a lp_a lc_u lp_u lc_b lp_b lc_h lp_h lc_n lp_n lc_j lp_j lc_m lp_m:Addr}{od0 an0 od1 an1 od2 an2 od3 an3 od4 an4 od5 an5 od6 an6 od7 an7 od8 an8 od9 an9 od10 an10 od11 an11 od12 an12 od13 an13 od14 an14 od15 an15 od16 an16 od17 an17 od18 an18 od19 an19 od20 an20 od21 an21 od22 an22 od23 an23 od24 an24 od25 an25 od26 an26 od27 an27 od28 an28 od29 an29 od30 an30 od31 an31 od32 an32 od33 an33 od34 an34 od35 an35 od_12 an_12 od_13 an_13 od_17 an_17 od_0 an_0 od_9 an_9 od_14 an_14 od_f an_f od_6 an_6 od_c an_c od_18 an_18 od_3 an_3 od_19 an_19 od_4 an_4 od_1a an_1a od_5 an_5 od_1 an_1 od_2 an_2 od_b an_b od_16 an_16 od_11 an_11 od_8 an_8 od_e an_e od_a an_a od_15 an_15 od_10 an_10 od_7 an_7 od_d an_d lod_e lod_1b lod_1e lod_1f lod_20 lod_1c lod_1d:Option Addr}{sl0 sl1 sl2 sl3 sl4 sl5 sl6 sl7 sl8 sl9 sl10 sl11 sl12 sl13 sl14 sl15 sl16 sl17 sl18 sl19 sl20 sl21 sl22 sl23 sl24 sl25 sl26 sl27 sl28 sl29 sl30 sl31 sl32 sl33 sl34 sl35 sl_12 sl_13 sl_17 sl_0 sl_9 sl_14 sl_f sl_6 sl_c sl_18 sl_3 sl_19 sl_4 sl_1a sl_5 sl_1 sl_2 sl_b sl_16 sl_11 sl_8 sl_e sl_a sl_15 sl_10 sl_7 sl_d lsl_e lsl_1b lsl_1e lsl_1f lsl_20 lsl_1c lsl_1d:Array (Option Value)}{oc0 kV0 dc0 pm0 cd0 ct0 oc1 kV1 dc1 pm1 cd1 ct1 oc2 kV2 dc2 pm2 cd2 ct2 oc3 kV3 dc3 pm3 cd3 ct3 oc4 kV4 dc4 pm4 cd4 ct4 oc5 kV5 dc5 pm5 cd5 ct5 oc6 kV6 dc6 pm6 cd6 ct6 oc7 kV7 dc7 pm7 cd7 ct7 oc8 kV8 dc8 pm8 cd8 ct8 oc9 kV9 dc9 pm9 cd9 ct9 oc10 kV10 dc10 pm10 cd10 ct10 oc11 kV11 dc11 pm11 cd11 ct11 oc12 kV12 dc12 pm12 cd12 ct12 oc13 kV13 dc13 pm13 cd13 ct13 oc14 kV14 dc14 pm14 cd14 ct14 oc15 kV15 dc15 pm15 cd15 ct15 oc16 kV16 dc16 pm16 cd16 ct16 oc17 kV17 dc17 pm17 cd17 ct17 oc18 kV18 dc18 pm18 cd18 ct18 oc19 kV19 dc19 pm19 cd19 ct19 oc20 kV20 dc20 pm20 cd20 ct20 oc21 kV21 dc21 pm21 cd21 ct21 oc22 kV22 dc22 pm22 cd22 ct22 oc23 kV23 dc23 pm23 cd23 ct23 oc24 kV24 dc24 pm24 cd24 ct24 oc25 kV25 dc25 pm25 cd25 ct25 oc26 kV26 dc26 pm26 cd26 ct26 oc27 kV27 dc27 pm27 cd27 ct27 oc28 kV28 dc28 pm28 cd28 ct28 oc29 kV29 dc29 pm29 cd29 ct29 oc30 kV30 dc30 pm30 cd30 ct30 oc31 kV31 dc31 pm31 cd31 ct31 oc32 kV32 dc32 pm32 cd32 ct32 oc33 kV33 dc33 pm33 cd33 ct33 oc34 kV34 dc34 pm34 cd34 ct34 oc35 kV35 dc35 pm35 cd35 ct35 u0 u1 oc_12 kV_12 dc_12 pm_12 cd_12 ct_12 oc_13 kV_13 dc_13 pm_13 cd_13 ct_13 oc_17 kV_17 dc_17 pm_17 cd_17 ct_17 oc_0 kV_0 dc_0 pm_0 cd_0 ct_0 oc_9 kV_9 dc_9 pm_9 cd_9 ct_9 oc_14 kV_14 dc_14 pm_14 cd_14 ct_14 oc_f kV_f dc_f pm_f cd_f ct_f oc_6 kV_6 dc_6 pm_6 cd_6 ct_6 oc_c kV_c dc_c pm_c cd_c ct_c oc_18 kV_18 dc_18 pm_18 cd_18 ct_18 oc_3 kV_3 dc_3 pm_3 cd_3 ct_3 oc_19 kV_19 dc_19 pm_19 cd_19 ct_19 oc_4 kV_4 dc_4 pm_4 cd_4 ct_4 oc_1a kV_1a dc_1a pm_1a cd_1a ct_1a oc_5 kV_5 dc_5 pm_5 cd_5 ct_5 oc_1 kV_1 dc_1 pm_1 cd_1 ct_1 oc_2 kV_2 dc_2 pm_2 cd_2 ct_2 oc_b kV_b dc_b pm_b cd_b ct_b oc_16 kV_16 dc_16 pm_16 cd_16 ct_16 oc_11 kV_11 dc_11 pm_11 cd_11 ct_11 oc_8 kV_8 dc_8 pm_8 cd_8 ct_8 oc_e kV_e dc_e pm_e cd_e ct_e oc_a kV_a dc_a pm_a cd_a ct_a oc_15 kV_15 dc_15 pm_15 cd_15 ct_15 oc_10 kV_10 dc_10 pm_10 cd_10 ct_10 oc_7 kV_7 dc_7 pm_7 cd_7 ct_7 oc_d kV_d dc_d pm_d cd_d ct_d lo_e lo_1b lo_1e lo_1f lo_20 lo_1c lo_1d:Value}{lvs_e lvs_1b lvs_1e lvs_1f lvs_20 lvs_1c lvs_1d:Array Value}(X:K.In h) (G:h.Ns mainGlobals mg)
  (a0:nsIn K mainGlobals "greatest_divisor" = some (some (.ref f0))) (l0:K.lookup f0=some ⟨oc0,od0,.func (fnOf "greatest_divisor" "greatest_divisor" (am aN) (ak aN) (af aN) .none kV0 dc0 pm0 an0 cd0 ct0),sl0⟩) (c0:codeIn K cd0 "greatest_divisor" = true) (k0:keepIn K (.ref f0)=true)
  (a1:nsIn K mainGlobals "share" = some (some (.ref f1))) (l1:K.lookup f1=some ⟨oc1,od1,.func (fnOf "share" "share" (am dX) (ak dX) (af dX) .none kV1 dc1 pm1 an1 cd1 ct1),sl1⟩) (c1:codeIn K cd1 "share" = true) (k1:keepIn K (.ref f1)=true)
  (a2:nsIn K mainGlobals "is_whole" = some (some (.ref f2))) (l2:K.lookup f2=some ⟨oc2,od2,.func (fnOf "is_whole" "is_whole" (am cx) (ak cx) (af cx) .none kV2 dc2 pm2 an2 cd2 ct2),sl2⟩) (c2:codeIn K cd2 "is_whole" = true) (k2:keepIn K (.ref f2)=true)
  (a3:nsIn K mainGlobals "carried_make" = some (some (.ref f3))) (l3:K.lookup f3=some ⟨oc3,od3,.func (fnOf "carried_make" "carried_make" (am bb) (ak bb) (af bb) .none kV3 dc3 pm3 an3 cd3 ct3),sl3⟩) (c3:codeIn K cd3 "carried_make" = true) (k3:keepIn K (.ref f3)=true)
  (a4:nsIn K mainGlobals "can_be_thrown" = some (some (.ref f4))) (l4:K.lookup f4=some ⟨oc4,od4,.func (fnOf "can_be_thrown" "can_be_thrown" (am be) (ak be) (af be) .none kV4 dc4 pm4 an4 cd4 ct4),sl4⟩) (c4:codeIn K cd4 "can_be_thrown" = true) (k4:keepIn K (.ref f4)=true)
  (a5:nsIn K mainGlobals "drawn" = some (some (.ref f5))) (l5:K.lookup f5=some ⟨oc5,od5,.func (fnOf "drawn" "drawn" (am dY) (ak dY) (af dY) .none kV5 dc5 pm5 an5 cd5 ct5),sl5⟩) (c5:codeIn K cd5 "drawn" = true) (k5:keepIn K (.ref f5)=true)
  (a6:nsIn K mainGlobals "behind" = some (some (.ref f6))) (l6:K.lookup f6=some ⟨oc6,od6,.func (fnOf "behind" "behind" (am de) (ak de) (af de) .none kV6 dc6 pm6 an6 cd6 ct6),sl6⟩) (c6:codeIn K cd6 "behind" = true) (k6:keepIn K (.ref f6)=true)
  (a7:nsIn K mainGlobals "groups_of" = some (some (.ref f7))) (l7:K.lookup f7=some ⟨oc7,od7,.func (fnOf "groups_of" "groups_of" (am b8) (ak b8) (af b8) .none kV7 dc7 pm7 an7 cd7 ct7),sl7⟩) (c7:codeIn K cd7 "groups_of" = true) (k7:keepIn K (.ref f7)=true)
  (a8:nsIn K mainGlobals "wished" = some (some (.ref f8))) (l8:K.lookup f8=some ⟨oc8,od8,.func (fnOf "wished" "wished" (am dv) (ak dv) (af dv) .none kV8 dc8 pm8 an8 cd8 ct8),sl8⟩) (c8:codeIn K cd8 "wished" = true) (k8:keepIn K (.ref f8)=true)
  (a9:nsIn K mainGlobals "wished_of_some" = some (some (.ref f9))) (l9:K.lookup f9=some ⟨oc9,od9,.func (fnOf "wished_of_some" "wished_of_some" (am aV) (ak aV) (af aV) .none kV9 dc9 pm9 an9 cd9 ct9),sl9⟩) (c9:codeIn K cd9 "wished_of_some" = true) (k9:keepIn K (.ref f9)=true)
  (a10:nsIn K mainGlobals "wished_by" = some (some (.ref f10))) (l10:K.lookup f10=some ⟨oc10,od10,.func (fnOf "wished_by" "wished_by" (am b7) (ak b7) (af b7) .none kV10 dc10 pm10 an10 cd10 ct10),sl10⟩) (c10:codeIn K cd10 "wished_by" = true) (k10:keepIn K (.ref f10)=true)
  (a11:nsIn K mainGlobals "places_of" = some (some (.ref f11))) (l11:K.lookup f11=some ⟨oc11,od11,.func (fnOf "places_of" "places_of" (am cf) (ak cf) (af cf) .none kV11 dc11 pm11 an11 cd11 ct11),sl11⟩) (c11:codeIn K cd11 "places_of" = true) (k11:keepIn K (.ref f11)=true)
  (a12:nsIn K mainGlobals "need_number" = some (some (.ref f12))) (l12:K.lookup f12=some ⟨oc12,od12,.func (fnOf "need_number" "need_number" (am bE) (ak bE) (af bE) .none kV12 dc12 pm12 an12 cd12 ct12),sl12⟩) (c12:codeIn K cd12 "need_number" = true) (k12:keepIn K (.ref f12)=true)
  (a13:nsIn K mainGlobals "few_node" = some (some (.ref f13))) (l13:K.lookup f13=some ⟨oc13,od13,.func (fnOf "few_node" "few_node" (am bT) (ak bT) (af bT) .none kV13 dc13 pm13 an13 cd13 ct13),sl13⟩) (c13:codeIn K cd13 "few_node" = true) (k13:keepIn K (.ref f13)=true)
  (a14:nsIn K mainGlobals "start_make" = some (some (.ref f14))) (l14:K.lookup f14=some ⟨oc14,od14,.func (fnOf "start_make" "start_make" (am bH) (ak bH) (af bH) .none kV14 dc14 pm14 an14 cd14 ct14),sl14⟩) (c14:codeIn K cd14 "start_make" = true) (k14:keepIn K (.ref f14)=true)
  (a15:nsIn K mainGlobals "is_unsure" = some (some (.ref f15))) (l15:K.lookup f15=some ⟨oc15,od15,.func (fnOf "is_unsure" "is_unsure" (am bZ) (ak bZ) (af bZ) .none kV15 dc15 pm15 an15 cd15 ct15),sl15⟩) (c15:codeIn K cd15 "is_unsure" = true) (k15:keepIn K (.ref f15)=true)
  (a16:nsIn K mainGlobals "loose_node" = some (some (.ref f16))) (l16:K.lookup f16=some ⟨oc16,od16,.func (fnOf "loose_node" "loose_node" (am bz) (ak bz) (af bz) .none kV16 dc16 pm16 an16 cd16 ct16),sl16⟩) (c16:codeIn K cd16 "loose_node" = true) (k16:keepIn K (.ref f16)=true)
  (a17:nsIn K mainGlobals "parted" = some (some (.ref f17))) (l17:K.lookup f17=some ⟨oc17,od17,.func (fnOf "parted" "parted" (am dA) (ak dA) (af dA) .none kV17 dc17 pm17 an17 cd17 ct17),sl17⟩) (c17:codeIn K cd17 "parted" = true) (k17:keepIn K (.ref f17)=true)
  (a18:nsIn K mainGlobals "crowd_of_groups" = some (some (.ref f18))) (l18:K.lookup f18=some ⟨oc18,od18,.func (fnOf "crowd_of_groups" "crowd_of_groups" (am aQ) (ak aQ) (af aQ) .none kV18 dc18 pm18 an18 cd18 ct18),sl18⟩) (c18:codeIn K cd18 "crowd_of_groups" = true) (k18:keepIn K (.ref f18)=true)
  (a19:nsIn K mainGlobals "groups_node" = some (some (.ref f19))) (l19:K.lookup f19=some ⟨oc19,od19,.func (fnOf "groups_node" "groups_node" (am bv) (ak bv) (af bv) .none kV19 dc19 pm19 an19 cd19 ct19),sl19⟩) (c19:codeIn K cd19 "groups_node" = true) (k19:keepIn K (.ref f19)=true)
  (a20:nsIn K mainGlobals "_law_cell" = some (some (.ref f20))) (l20:K.lookup f20=some ⟨oc20,od20,.func (fnOf "_law_cell" "_law_cell" (am dq) (ak dq) (af dq) .none kV20 dc20 pm20 an20 cd20 ct20),sl20⟩) (c20:codeIn K cd20 "_law_cell" = true) (k20:keepIn K (.ref f20)=true)
  (a21:nsIn K mainGlobals "_law_mixed" = some (some (.ref f21))) (l21:K.lookup f21=some ⟨oc21,od21,.func (fnOf "_law_mixed" "_law_mixed" (am da) (ak da) (af da) .none kV21 dc21 pm21 an21 cd21 ct21),sl21⟩) (c21:codeIn K cd21 "_law_mixed" = true) (k21:keepIn K (.ref f21)=true)
  (a22:nsIn K mainGlobals "_law_tree" = some (some (.ref f22))) (l22:K.lookup f22=some ⟨oc22,od22,.func (fnOf "_law_tree" "_law_tree" (am dz) (ak dz) (af dz) .none kV22 dc22 pm22 an22 cd22 ct22),sl22⟩) (c22:codeIn K cd22 "_law_tree" = true) (k22:keepIn K (.ref f22)=true)
  (a23:nsIn K mainGlobals "_law_lowest" = some (some (.ref f23))) (l23:K.lookup f23=some ⟨oc23,od23,.func (fnOf "_law_lowest" "_law_lowest" (am cv) (ak cv) (af cv) .none kV23 dc23 pm23 an23 cd23 ct23),sl23⟩) (c23:codeIn K cd23 "_law_lowest" = true) (k23:keepIn K (.ref f23)=true)
  (a24:nsIn K mainGlobals "_law_wished" = some (some (.ref f24))) (l24:K.lookup f24=some ⟨oc24,od24,.func (fnOf "_law_wished" "_law_wished" (am cy) (ak cy) (af cy) .none kV24 dc24 pm24 an24 cd24 ct24),sl24⟩) (c24:codeIn K cd24 "_law_wished" = true) (k24:keepIn K (.ref f24)=true)
  (a25:nsIn K mainGlobals "_law_groups" = some (some (.ref f25))) (l25:K.lookup f25=some ⟨oc25,od25,.func (fnOf "_law_groups" "_law_groups" (am cB) (ak cB) (af cB) .none kV25 dc25 pm25 an25 cd25 ct25),sl25⟩) (c25:codeIn K cd25 "_law_groups" = true) (k25:keepIn K (.ref f25)=true)
  (a26:nsIn K mainGlobals "_law_outer" = some (some (.ref f26))) (l26:K.lookup f26=some ⟨oc26,od26,.func (fnOf "_law_outer" "_law_outer" (am cV) (ak cV) (af cV) .none kV26 dc26 pm26 an26 cd26 ct26),sl26⟩) (c26:codeIn K cd26 "_law_outer" = true) (k26:keepIn K (.ref f26)=true)
  (a27:nsIn K mainGlobals "_law_needs" = some (some (.ref f27))) (l27:K.lookup f27=some ⟨oc27,od27,.func (fnOf "_law_needs" "_law_needs" (am cZ) (ak cZ) (af cZ) .none kV27 dc27 pm27 an27 cd27 ct27),sl27⟩) (c27:codeIn K cd27 "_law_needs" = true) (k27:keepIn K (.ref f27)=true)
  (a28:nsIn K mainGlobals "_law_fitted" = some (some (.ref f28))) (l28:K.lookup f28=some ⟨oc28,od28,.func (fnOf "_law_fitted" "_law_fitted" (am cI) (ak cI) (af cI) .none kV28 dc28 pm28 an28 cd28 ct28),sl28⟩) (c28:codeIn K cd28 "_law_fitted" = true) (k28:keepIn K (.ref f28)=true)
  (a29:nsIn K mainGlobals "_law_plan" = some (some (.ref f29))) (l29:K.lookup f29=some ⟨oc29,od29,.func (fnOf "_law_plan" "_law_plan" (am dC) (ak dC) (af dC) .none kV29 dc29 pm29 an29 cd29 ct29),sl29⟩) (c29:codeIn K cd29 "_law_plan" = true) (k29:keepIn K (.ref f29)=true)
  (a30:nsIn K mainGlobals "_law_crowd" = some (some (.ref f30))) (l30:K.lookup f30=some ⟨oc30,od30,.func (fnOf "_law_crowd" "_law_crowd" (am cU) (ak cU) (af cU) .none kV30 dc30 pm30 an30 cd30 ct30),sl30⟩) (c30:codeIn K cd30 "_law_crowd" = true) (k30:keepIn K (.ref f30)=true)
  (a31:nsIn K mainGlobals "_law_thrown" = some (some (.ref f31))) (l31:K.lookup f31=some ⟨oc31,od31,.func (fnOf "_law_thrown" "_law_thrown" (am cH) (ak cH) (af cH) .none kV31 dc31 pm31 an31 cd31 ct31),sl31⟩) (c31:codeIn K cd31 "_law_thrown" = true) (k31:keepIn K (.ref f31)=true)
  (a32:nsIn K mainGlobals "_law_few" = some (some (.ref f32))) (l32:K.lookup f32=some ⟨oc32,od32,.func (fnOf "_law_few" "_law_few" (am dZ) (ak dZ) (af dZ) .none kV32 dc32 pm32 an32 cd32 ct32),sl32⟩) (c32:codeIn K cd32 "_law_few" = true) (k32:keepIn K (.ref f32)=true)
  (a33:nsIn K mainGlobals "_law_draw" = some (some (.ref f33))) (l33:K.lookup f33=some ⟨oc33,od33,.func (fnOf "_law_draw" "_law_draw" (am dB) (ak dB) (af dB) .none kV33 dc33 pm33 an33 cd33 ct33),sl33⟩) (c33:codeIn K cd33 "_law_draw" = true) (k33:keepIn K (.ref f33)=true)
  (a34:nsIn K mainGlobals "_law_right" = some (some (.ref f34))) (l34:K.lookup f34=some ⟨oc34,od34,.func (fnOf "_law_right" "_law_right" (am cX) (ak cX) (af cX) .none kV34 dc34 pm34 an34 cd34 ct34),sl34⟩) (c34:codeIn K cd34 "_law_right" = true) (k34:keepIn K (.ref f34)=true)
  (a35:nsIn K mainGlobals "law" = some (some (.ref f35))) (l35:K.lookup f35=some ⟨oc35,od35,.func (fnOf "law" "law" (am iC) (ak iC) (af iC) .none kV35 dc35 pm35 an35 cd35 ct35),sl35⟩) (c35:codeIn K cd35 "law" = true) (k35:keepIn K (.ref f35)=true)
  (b_NOUGHT:nsIn K mainGlobals "NOUGHT" = some (some (.ref k_NOUGHT))) (bt_NOUGHT:jy K k_NOUGHT [(.int 0),(.int 1)]=true)
  (b_WHOLE:nsIn K mainGlobals "WHOLE" = some (some (.ref k_WHOLE))) (bt_WHOLE:jy K k_WHOLE [(.int 1),(.int 1)]=true)
  (b0:nsIn K mainGlobals "MOST_MANY" = some (some u0))
  (b1:nsIn K mainGlobals "MOST_STEP" = some (some u1))
  (ca_ae:nsIn K mainGlobals "SpeakError" = some (some (.ref c_ae))) (cb_ae:keepIn K (.ref c_ae)=true) (cc_ae:m9 K c_ae=true)
  (cx_ae:xIn K c_ae none=true)
  (ca_S:nsIn K mainGlobals "NoPlan" = some (some (.ref c_S))) (cb_S:keepIn K (.ref c_S)=true) (cc_S:m9 K c_S=true)
  (cf_S:findIn K (.ref c_S) "__init__" = some (some (.ref i_S))) (cx_S:xIn K c_S (some (.ref i_S))=true) (cg_S:isFn K (.ref i_S)=true)
  (cl_S:K.lookup i_S=some ⟨oc_12,od_12,.func (fnOf "__init__" "NoPlan.__init__" (am bS) (ak bS) (af bS) .none kV_12 dc_12 pm_12 an_12 cd_12 ct_12),sl_12⟩) (co_S:codeIn K cd_12 "NoPlan.__init__" = true) (ck_S:keepIn K (.ref i_S)=true)
  (cs_NoPlan_place:uE K c_S "place" = true)
  (ca_am:nsIn K mainGlobals "NoLevel" = some (some (.ref c_am))) (cb_am:keepIn K (.ref c_am)=true) (cc_am:m9 K c_am=true)
  (cx_am:xIn K c_am none=true)
  (ca_L:nsIn K mainGlobals "NoThrow" = some (some (.ref c_L))) (cb_L:keepIn K (.ref c_L)=true) (cc_L:m9 K c_L=true)
  (cf_L:findIn K (.ref c_L) "__init__" = some (some (.ref i_L))) (cx_L:xIn K c_L (some (.ref i_L))=true) (cg_L:isFn K (.ref i_L)=true)
  (cl_L:K.lookup i_L=some ⟨oc_13,od_13,.func (fnOf "__init__" "NoThrow.__init__" (am bL) (ak bL) (af bL) .none kV_13 dc_13 pm_13 an_13 cd_13 ct_13),sl_13⟩) (co_L:codeIn K cd_13 "NoThrow.__init__" = true) (ck_L:keepIn K (.ref i_L)=true)
  (cs_NoThrow_place:uE K c_L "place" = true)
  (ca_ai:nsIn K mainGlobals "Node" = some (some (.ref c_ai))) (pa_ai:plainGet K c_ai Str.empty=true) (pb_ai:hasDictIn K c_ai=true) (pc_ai:plainOver K c_ai=true)
  (pd_ai:findIn K (.ref c_ai) "__setattr__" = some (some (.builtin "object.__setattr__"))) (pe_ai:findIn K (.ref c_ai) "__class__" = some (some (.builtin "object.__class__"))) (pf_ai:specialIn K (.builtin "object.__class__") "__get__" = some (some (.builtin "getset_descriptor.__get__"))) (pg_ai:takesIn K (.builtin "object.__class__")=some true) (ph_ai:mroIn K c_ai (.type "object")=some true)
  (ca_i:nsIn K mainGlobals "Told" = some (some (.ref c_i))) (pa_i:plainGet K c_i Str.empty=true) (pb_i:hasDictIn K c_i=true) (pc_i:plainOver K c_i=true)
  (pd_i:findIn K (.ref c_i) "__setattr__" = some (some (.builtin "object.__setattr__"))) (pe_i:findIn K (.ref c_i) "__class__" = some (some (.builtin "object.__class__"))) (pf_i:specialIn K (.builtin "object.__class__") "__get__" = some (some (.builtin "getset_descriptor.__get__"))) (pg_i:takesIn K (.builtin "object.__class__")=some true) (ph_i:mroIn K c_i (.type "object")=some true)
  (qa_i:makesIn K c_i=true) (qb_i:findIn K (.ref c_i) "__init__" = some (some (.ref i_i))) (qc_i:isFn K (.ref i_i)=true) (qd_i:keepIn K (.ref c_i)=true)
  (qn_Told_rising:findIn K (.ref c_i) "rising" = some none)
  (cl_i:K.lookup i_i=some ⟨oc_17,od_17,.func (fnOf "__init__" "Told.__init__" (am bc) (ak bc) (af bc) .none kV_17 dc_17 pm_17 an_17 cd_17 ct_17),sl_17⟩) (co_i:codeIn K cd_17 "Told.__init__" = true) (ck_i:keepIn K (.ref i_i)=true)
  (ca_p:nsIn K mainGlobals "Die" = some (some (.ref c_p))) (pa_p:plainGet K c_p Str.empty=true) (pb_p:hasDictIn K c_p=true) (pc_p:plainOver K c_p=true)
  (pd_p:findIn K (.ref c_p) "__setattr__" = some (some (.builtin "object.__setattr__"))) (pe_p:findIn K (.ref c_p) "__class__" = some (some (.builtin "object.__class__"))) (pf_p:specialIn K (.builtin "object.__class__") "__get__" = some (some (.builtin "getset_descriptor.__get__"))) (pg_p:takesIn K (.builtin "object.__class__")=some true) (ph_p:mroIn K c_p (.type "object")=some true)
  (qa_p:makesIn K c_p=true) (qb_p:findIn K (.ref c_p) "__init__" = some (some (.ref i_p))) (qc_p:isFn K (.ref i_p)=true) (qd_p:keepIn K (.ref c_p)=true)
  (qn_Die_makes:findIn K (.ref c_p) "makes" = some none)
  (cl_p:K.lookup i_p=some ⟨oc_0,od_0,.func (fnOf "__init__" "Die.__init__" (am bq) (ak bq) (af bq) .none kV_0 dc_0 pm_0 an_0 cd_0 ct_0),sl_0⟩) (co_p:codeIn K cd_0 "Die.__init__" = true) (ck_p:keepIn K (.ref i_p)=true)
  (ca_aj:nsIn K mainGlobals "Plan" = some (some (.ref c_aj))) (pa_aj:plainGet K c_aj Str.empty=true) (pb_aj:hasDictIn K c_aj=true) (pc_aj:plainOver K c_aj=true)
  (pd_aj:findIn K (.ref c_aj) "__setattr__" = some (some (.builtin "object.__setattr__"))) (pe_aj:findIn K (.ref c_aj) "__class__" = some (some (.builtin "object.__class__"))) (pf_aj:specialIn K (.builtin "object.__class__") "__get__" = some (some (.builtin "getset_descriptor.__get__"))) (pg_aj:takesIn K (.builtin "object.__class__")=some true) (ph_aj:mroIn K c_aj (.type "object")=some true)
  (ca_x:nsIn K mainGlobals "Few" = some (some (.ref c_x))) (pa_x:plainGet K c_x Str.empty=true) (pb_x:hasDictIn K c_x=true) (pc_x:plainOver K c_x=true)
  (pd_x:findIn K (.ref c_x) "__setattr__" = some (some (.builtin "object.__setattr__"))) (pe_x:findIn K (.ref c_x) "__class__" = some (some (.builtin "object.__class__"))) (pf_x:specialIn K (.builtin "object.__class__") "__get__" = some (some (.builtin "getset_descriptor.__get__"))) (pg_x:takesIn K (.builtin "object.__class__")=some true) (ph_x:mroIn K c_x (.type "object")=some true)
  (qa_x:makesIn K c_x=true) (qb_x:findIn K (.ref c_x) "__init__" = some (some (.ref i_x))) (qc_x:isFn K (.ref i_x)=true) (qd_x:keepIn K (.ref c_x)=true)
  (qn_Few_many:findIn K (.ref c_x) "many" = some none)
  (cl_x:K.lookup i_x=some ⟨oc_9,od_9,.func (fnOf "__init__" "Few.__init__" (am bx) (ak bx) (af bx) .none kV_9 dc_9 pm_9 an_9 cd_9 ct_9),sl_9⟩) (co_x:codeIn K cd_9 "Few.__init__" = true) (ck_x:keepIn K (.ref i_x)=true)
  (ca_f:nsIn K mainGlobals "Start" = some (some (.ref c_f))) (pa_f:plainGet K c_f Str.empty=true) (pb_f:hasDictIn K c_f=true) (pc_f:plainOver K c_f=true)
  (pd_f:findIn K (.ref c_f) "__setattr__" = some (some (.builtin "object.__setattr__"))) (pe_f:findIn K (.ref c_f) "__class__" = some (some (.builtin "object.__class__"))) (pf_f:specialIn K (.builtin "object.__class__") "__get__" = some (some (.builtin "getset_descriptor.__get__"))) (pg_f:takesIn K (.builtin "object.__class__")=some true) (ph_f:mroIn K c_f (.type "object")=some true)
  (qa_f:makesIn K c_f=true) (qb_f:findIn K (.ref c_f) "__init__" = some (some (.ref i_f))) (qc_f:isFn K (.ref i_f)=true) (qd_f:keepIn K (.ref c_f)=true)
  (qn_Start_step:findIn K (.ref c_f) "step" = some none)
  (cl_f:K.lookup i_f=some ⟨oc_14,od_14,.func (fnOf "__init__" "Start.__init__" (am aY) (ak aY) (af aY) .none kV_14 dc_14 pm_14 an_14 cd_14 ct_14),sl_14⟩) (co_f:codeIn K cd_14 "Start.__init__" = true) (ck_f:keepIn K (.ref i_f)=true)
  (ca_g:nsIn K mainGlobals "Loose" = some (some (.ref c_g))) (pa_g:plainGet K c_g Str.empty=true) (pb_g:hasDictIn K c_g=true) (pc_g:plainOver K c_g=true)
  (pd_g:findIn K (.ref c_g) "__setattr__" = some (some (.builtin "object.__setattr__"))) (pe_g:findIn K (.ref c_g) "__class__" = some (some (.builtin "object.__class__"))) (pf_g:specialIn K (.builtin "object.__class__") "__get__" = some (some (.builtin "getset_descriptor.__get__"))) (pg_g:takesIn K (.builtin "object.__class__")=some true) (ph_g:mroIn K c_g (.type "object")=some true)
  (qa_g:makesIn K c_g=true) (qb_g:findIn K (.ref c_g) "__init__" = some (some (.ref i_g))) (qc_g:isFn K (.ref i_g)=true) (qd_g:keepIn K (.ref c_g)=true)
  (qn_Loose_many:findIn K (.ref c_g) "many" = some none)
  (cl_g:K.lookup i_g=some ⟨oc_f,od_f,.func (fnOf "__init__" "Loose.__init__" (am aW) (ak aW) (af aW) .none kV_f dc_f pm_f an_f cd_f ct_f),sl_f⟩) (co_g:codeIn K cd_f "Loose.__init__" = true) (ck_g:keepIn K (.ref i_g)=true)
  (ca_l:nsIn K mainGlobals "Each" = some (some (.ref c_l))) (pa_l:plainGet K c_l Str.empty=true) (pb_l:hasDictIn K c_l=true) (pc_l:plainOver K c_l=true)
  (pd_l:findIn K (.ref c_l) "__setattr__" = some (some (.builtin "object.__setattr__"))) (pe_l:findIn K (.ref c_l) "__class__" = some (some (.builtin "object.__class__"))) (pf_l:specialIn K (.builtin "object.__class__") "__get__" = some (some (.builtin "getset_descriptor.__get__"))) (pg_l:takesIn K (.builtin "object.__class__")=some true) (ph_l:mroIn K c_l (.type "object")=some true)
  (qa_l:makesIn K c_l=true) (qb_l:findIn K (.ref c_l) "__init__" = some (some (.ref i_l))) (qc_l:isFn K (.ref i_l)=true) (qd_l:keepIn K (.ref c_l)=true)
  (qn_Each_inside:findIn K (.ref c_l) "inside" = some none)
  (cl_l:K.lookup i_l=some ⟨oc_6,od_6,.func (fnOf "__init__" "Each.__init__" (am bf) (ak bf) (af bf) .none kV_6 dc_6 pm_6 an_6 cd_6 ct_6),sl_6⟩) (co_l:codeIn K cd_6 "Each.__init__" = true) (ck_l:keepIn K (.ref i_l)=true)
  (ca_c:nsIn K mainGlobals "First" = some (some (.ref c_c))) (pa_c:plainGet K c_c Str.empty=true) (pb_c:hasDictIn K c_c=true) (pc_c:plainOver K c_c=true)
  (pd_c:findIn K (.ref c_c) "__setattr__" = some (some (.builtin "object.__setattr__"))) (pe_c:findIn K (.ref c_c) "__class__" = some (some (.builtin "object.__class__"))) (pf_c:specialIn K (.builtin "object.__class__") "__get__" = some (some (.builtin "getset_descriptor.__get__"))) (pg_c:takesIn K (.builtin "object.__class__")=some true) (ph_c:mroIn K c_c (.type "object")=some true)
  (qa_c:makesIn K c_c=true) (qb_c:findIn K (.ref c_c) "__init__" = some (some (.ref i_c))) (qc_c:isFn K (.ref i_c)=true) (qd_c:keepIn K (.ref c_c)=true)
  (qn_First_outside:findIn K (.ref c_c) "outside" = some none)
  (qn_First_inside:findIn K (.ref c_c) "inside" = some none)
  (cl_c:K.lookup i_c=some ⟨oc_c,od_c,.func (fnOf "__init__" "First.__init__" (am aX) (ak aX) (af aX) .none kV_c dc_c pm_c an_c cd_c ct_c),sl_c⟩) (co_c:codeIn K cd_c "First.__init__" = true) (ck_c:keepIn K (.ref i_c)=true)
  (mf_18:findIn K (.ref c_i) "is_told" = some (some (.ref x_v)))
  (ml_18:K.lookup x_v=some ⟨oc_18,od_18,.func (fnOf "is_told" "Told.is_told" (am bw) (ak bw) (af bw) .none kV_18 dc_18 pm_18 an_18 cd_18 ct_18),sl_18⟩) (mo_18:codeIn K cd_18 "Told.is_told" = true) (mk_18:keepIn K (.ref x_v)=true) (mi_18:isFn K (.ref x_v)=true)
  (mf_3:findIn K (.ref c_p) "is_told" = some (some (.ref x_z)))
  (ml_3:K.lookup x_z=some ⟨oc_3,od_3,.func (fnOf "is_told" "Die.is_told" (am bF) (ak bF) (af bF) .none kV_3 dc_3 pm_3 an_3 cd_3 ct_3),sl_3⟩) (mo_3:codeIn K cd_3 "Die.is_told" = true) (mk_3:keepIn K (.ref x_z)=true) (mi_3:isFn K (.ref x_z)=true)
  (mf_19:findIn K (.ref c_i) "kept" = some (some (.ref x_K)))
  (ml_19:K.lookup x_K=some ⟨oc_19,od_19,.func (fnOf "kept" "Told.kept" (am cb) (ak cb) (af cb) .none kV_19 dc_19 pm_19 an_19 cd_19 ct_19),sl_19⟩) (mo_19:codeIn K cd_19 "Told.kept" = true) (mk_19:keepIn K (.ref x_K)=true) (mi_19:isFn K (.ref x_K)=true)
  (mf_4:findIn K (.ref c_p) "kept" = some (some (.ref x_O)))
  (ml_4:K.lookup x_O=some ⟨oc_4,od_4,.func (fnOf "kept" "Die.kept" (am cE) (ak cE) (af cE) .none kV_4 dc_4 pm_4 an_4 cd_4 ct_4),sl_4⟩) (mo_4:codeIn K cd_4 "Die.kept" = true) (mk_4:keepIn K (.ref x_O)=true) (mi_4:isFn K (.ref x_O)=true)
  (mf_1a:findIn K (.ref c_i) "sides" = some (some (.ref x_M)))
  (ml_1a:K.lookup x_M=some ⟨oc_1a,od_1a,.func (fnOf "sides" "Told.sides" (am bR) (ak bR) (af bR) .none kV_1a dc_1a pm_1a an_1a cd_1a ct_1a),sl_1a⟩) (mo_1a:codeIn K cd_1a "Told.sides" = true) (mk_1a:keepIn K (.ref x_M)=true) (mi_1a:isFn K (.ref x_M)=true)
  (mf_5:findIn K (.ref c_p) "sides" = some (some (.ref x_T)))
  (ml_5:K.lookup x_T=some ⟨oc_5,od_5,.func (fnOf "sides" "Die.sides" (am ce) (ak ce) (af ce) .none kV_5 dc_5 pm_5 an_5 cd_5 ct_5),sl_5⟩) (mo_5:codeIn K cd_5 "Die.sides" = true) (mk_5:keepIn K (.ref x_T)=true) (mi_5:isFn K (.ref x_T)=true)
  (mf_1:findIn K (.ref c_p) "after" = some (some (.ref x_H)))
  (ml_1:K.lookup x_H=some ⟨oc_1,od_1,.func (fnOf "after" "Die.after" (am bX) (ak bX) (af bX) .none kV_1 dc_1 pm_1 an_1 cd_1 ct_1),sl_1⟩) (mo_1:codeIn K cd_1 "Die.after" = true) (mk_1:keepIn K (.ref x_H)=true) (mi_1:isFn K (.ref x_H)=true)
  (mf_2:findIn K (.ref c_p) "carried" = some (some (.ref x_P)))
  (ml_2:K.lookup x_P=some ⟨oc_2,od_2,.func (fnOf "carried" "Die.carried" (am bG) (ak bG) (af bG) .none kV_2 dc_2 pm_2 an_2 cd_2 ct_2),sl_2⟩) (mo_2:codeIn K cd_2 "Die.carried" = true) (mk_2:keepIn K (.ref x_P)=true) (mi_2:isFn K (.ref x_P)=true)
  (mf_b:findIn K (.ref c_x) "node" = some (some (.ref x_G)))
  (ml_b:K.lookup x_G=some ⟨oc_b,od_b,.func (fnOf "node" "Few.node" (am cz) (ak cz) (af cz) .none kV_b dc_b pm_b an_b cd_b ct_b),sl_b⟩) (mo_b:codeIn K cd_b "Few.node" = true) (mk_b:keepIn K (.ref x_G)=true) (mi_b:isFn K (.ref x_G)=true)
  (mf_16:findIn K (.ref c_f) "node" = some (some (.ref x_r)))
  (ml_16:K.lookup x_r=some ⟨oc_16,od_16,.func (fnOf "node" "Start.node" (am bM) (ak bM) (af bM) .none kV_16 dc_16 pm_16 an_16 cd_16 ct_16),sl_16⟩) (mo_16:codeIn K cd_16 "Start.node" = true) (mk_16:keepIn K (.ref x_r)=true) (mi_16:isFn K (.ref x_r)=true)
  (mf_11:findIn K (.ref c_g) "node" = some (some (.ref x_s)))
  (ml_11:K.lookup x_s=some ⟨oc_11,od_11,.func (fnOf "node" "Loose.node" (am bN) (ak bN) (af bN) .none kV_11 dc_11 pm_11 an_11 cd_11 ct_11),sl_11⟩) (mo_11:codeIn K cd_11 "Loose.node" = true) (mk_11:keepIn K (.ref x_s)=true) (mi_11:isFn K (.ref x_s)=true)
  (mf_8:findIn K (.ref c_l) "node" = some (some (.ref x_t)))
  (ml_8:K.lookup x_t=some ⟨oc_8,od_8,.func (fnOf "node" "Each.node" (am bY) (ak bY) (af bY) .none kV_8 dc_8 pm_8 an_8 cd_8 ct_8),sl_8⟩) (mo_8:codeIn K cd_8 "Each.node" = true) (mk_8:keepIn K (.ref x_t)=true) (mi_8:isFn K (.ref x_t)=true)
  (mf_e:findIn K (.ref c_c) "node" = some (some (.ref x_a)))
  (ml_e:K.lookup x_a=some ⟨oc_e,od_e,.func (fnOf "node" "First.node" (am bI) (ak bI) (af bI) .none kV_e dc_e pm_e an_e cd_e ct_e),sl_e⟩) (mo_e:codeIn K cd_e "First.node" = true) (mk_e:keepIn K (.ref x_a)=true) (mi_e:isFn K (.ref x_a)=true)
  (mf_a:findIn K (.ref c_x) "bounds" = some (some (.ref x_A)))
  (ml_a:K.lookup x_A=some ⟨oc_a,od_a,.func (fnOf "bounds" "Few.bounds" (am bQ) (ak bQ) (af bQ) .none kV_a dc_a pm_a an_a cd_a ct_a),sl_a⟩) (mo_a:codeIn K cd_a "Few.bounds" = true) (mk_a:keepIn K (.ref x_A)=true) (mi_a:isFn K (.ref x_A)=true)
  (mf_15:findIn K (.ref c_f) "bounds" = some (some (.ref x_w)))
  (ml_15:K.lookup x_w=some ⟨oc_15,od_15,.func (fnOf "bounds" "Start.bounds" (am bu) (ak bu) (af bu) .none kV_15 dc_15 pm_15 an_15 cd_15 ct_15),sl_15⟩) (mo_15:codeIn K cd_15 "Start.bounds" = true) (mk_15:keepIn K (.ref x_w)=true) (mi_15:isFn K (.ref x_w)=true)
  (mf_10:findIn K (.ref c_g) "bounds" = some (some (.ref x_q)))
  (ml_10:K.lookup x_q=some ⟨oc_10,od_10,.func (fnOf "bounds" "Loose.bounds" (am br) (ak br) (af br) .none kV_10 dc_10 pm_10 an_10 cd_10 ct_10),sl_10⟩) (mo_10:codeIn K cd_10 "Loose.bounds" = true) (mk_10:keepIn K (.ref x_q)=true) (mi_10:isFn K (.ref x_q)=true)
  (mf_7:findIn K (.ref c_l) "bounds" = some (some (.ref x_o)))
  (ml_7:K.lookup x_o=some ⟨oc_7,od_7,.func (fnOf "bounds" "Each.bounds" (am bD) (ak bD) (af bD) .none kV_7 dc_7 pm_7 an_7 cd_7 ct_7),sl_7⟩) (mo_7:codeIn K cd_7 "Each.bounds" = true) (mk_7:keepIn K (.ref x_o)=true) (mi_7:isFn K (.ref x_o)=true)
  (mf_d:findIn K (.ref c_c) "bounds" = some (some (.ref x_k)))
  (ml_d:K.lookup x_k=some ⟨oc_d,od_d,.func (fnOf "bounds" "First.bounds" (am bp) (ak bp) (af bp) .none kV_d dc_d pm_d an_d cd_d ct_d),sl_d⟩) (mo_d:codeIn K cd_d "First.bounds" = true) (mk_d:keepIn K (.ref x_k)=true) (mi_d:isFn K (.ref x_k)=true)
  (lca_e:cd_e=.ref lc_a) (lct_e:K.lookup lc_a=some ⟨lo_e,lod_e,.fields lvs_e,lsl_e⟩) (lcq_e:lvs_e[11]? = some (.ref lp_a)) (lch_a:codeHdIn K lc_a lp_a=true)
  (lca_1b:cd6=.ref lc_u) (lct_1b:K.lookup lc_u=some ⟨lo_1b,lod_1b,.fields lvs_1b,lsl_1b⟩) (lcq_1b:lvs_1b[11]? = some (.ref lp_u)) (lch_u:codeHdIn K lc_u lp_u=true)
  (lca_1e:cd19=.ref lc_b) (lct_1e:K.lookup lc_b=some ⟨lo_1e,lod_1e,.fields lvs_1e,lsl_1e⟩) (lcq_1e:lvs_1e[11]? = some (.ref lp_b)) (lch_b:codeHdIn K lc_b lp_b=true)
  (lca_1f:cd16=.ref lc_h) (lct_1f:K.lookup lc_h=some ⟨lo_1f,lod_1f,.fields lvs_1f,lsl_1f⟩) (lcq_1f:lvs_1f[11]? = some (.ref lp_h)) (lch_h:codeHdIn K lc_h lp_h=true)
  (lca_20:cd14=.ref lc_n) (lct_20:K.lookup lc_n=some ⟨lo_20,lod_20,.fields lvs_20,lsl_20⟩) (lcq_20:lvs_20[11]? = some (.ref lp_n)) (lch_n:codeHdIn K lc_n lp_n=true)
  (lca_1c:cd3=.ref lc_j) (lct_1c:K.lookup lc_j=some ⟨lo_1c,lod_1c,.fields lvs_1c,lsl_1c⟩) (lcq_1c:lvs_1c[11]? = some (.ref lp_j)) (lch_j:codeHdIn K lc_j lp_j=true)
  (lca_1d:cd13=.ref lc_m) (lct_1d:K.lookup lc_m=some ⟨lo_1d,lod_1d,.fields lvs_1d,lsl_1d⟩) (lcq_1d:lvs_1d[11]? = some (.ref lp_m)) (lch_m:codeHdIn K lc_m lp_m=true)
  (ltnd:([lp_a,lp_u,lp_b,lp_h,lp_n,lp_j,lp_m]:List Addr).Nodup)
  (z0:nsIn K mainGlobals "abs" = some none)
  (z1:nsIn K mainGlobals "bool" = some none)
  (z2:nsIn K mainGlobals "enumerate" = some none)
  (z3:nsIn K mainGlobals "int" = some none)
  (z4:nsIn K mainGlobals "isinstance" = some none)
  (z5:nsIn K mainGlobals "len" = some none)
  (z6:nsIn K mainGlobals "list" = some none)
  (z7:nsIn K mainGlobals "max" = some none)
  (z8:nsIn K mainGlobals "min" = some none)
  (z9:nsIn K mainGlobals "range" = some none)
  (z10:nsIn K mainGlobals "sorted" = some none)
  (z11:nsIn K mainGlobals "sum" = some none)
  (z12:nsIn K mainGlobals "tuple" = some none)
  (z13:nsIn K mainGlobals "zip" = some none) (r0:RelV (.int 24) u0) (r1:RelV (.int 100) u1):∃ a:Ad,Txt K mg a/\(tabs a).map (·.1)=[lp_a,lp_u,lp_b,lp_h,lp_n,lp_j,lp_m]:=by
 refine⟨{ f_B:=f0,d_B:=fnOf "greatest_divisor" "greatest_divisor" (am aN) (ak aN) (af aN) .none kV0 dc0 pm0 an0 cd0 ct0,f_ag:=f1,d_ag:=fnOf "share" "share" (am dX) (ak dX) (af dX) .none kV1 dc1 pm1 an1 cd1 ct1,f_ac:=f2,d_ac:=fnOf "is_whole" "is_whole" (am cx) (ak cx) (af cx) .none kV2 dc2 pm2 an2 cd2 ct2,f_j:=f3,d_j:=fnOf "carried_make" "carried_make" (am bb) (ak bb) (af bb) .none kV3 dc3 pm3 an3 cd3 ct3,f_I:=f4,d_I:=fnOf "can_be_thrown" "can_be_thrown" (am be) (ak be) (af be) .none kV4 dc4 pm4 an4 cd4 ct4,f_al:=f5,d_al:=fnOf "drawn" "drawn" (am dY) (ak dY) (af dY) .none kV5 dc5 pm5 an5 cd5 ct5,f_u:=f6,d_u:=fnOf "behind" "behind" (am de) (ak de) (af de) .none kV6 dc6 pm6 an6 cd6 ct6,f_W:=f7,d_W:=fnOf "groups_of" "groups_of" (am b8) (ak b8) (af b8) .none kV7 dc7 pm7 an7 cd7 ct7,f_an:=f8,d_an:=fnOf "wished" "wished" (am dv) (ak dv) (af dv) .none kV8 dc8 pm8 an8 cd8 ct8,f_y:=f9,d_y:=fnOf "wished_of_some" "wished_of_some" (am aV) (ak aV) (af aV) .none kV9 dc9 pm9 an9 cd9 ct9,f_Y:=f10,d_Y:=fnOf "wished_by" "wished_by" (am b7) (ak b7) (af b7) .none kV10 dc10 pm10 an10 cd10 ct10,f_R:=f11,d_R:=fnOf "places_of" "places_of" (am cf) (ak cf) (af cf) .none kV11 dc11 pm11 an11 cd11 ct11,f_F:=f12,d_F:=fnOf "need_number" "need_number" (am bE) (ak bE) (af bE) .none kV12 dc12 pm12 an12 cd12 ct12,f_m:=f13,d_m:=fnOf "few_node" "few_node" (am bT) (ak bT) (af bT) .none kV13 dc13 pm13 an13 cd13 ct13,f_n:=f14,d_n:=fnOf "start_make" "start_make" (am bH) (ak bH) (af bH) .none kV14 dc14 pm14 an14 cd14 ct14,f_af:=f15,d_af:=fnOf "is_unsure" "is_unsure" (am bZ) (ak bZ) (af bZ) .none kV15 dc15 pm15 an15 cd15 ct15,f_h:=f16,d_h:=fnOf "loose_node" "loose_node" (am bz) (ak bz) (af bz) .none kV16 dc16 pm16 an16 cd16 ct16,f_ab:=f17,d_ab:=fnOf "parted" "parted" (am dA) (ak dA) (af dA) .none kV17 dc17 pm17 an17 cd17 ct17,f_d:=f18,d_d:=fnOf "crowd_of_groups" "crowd_of_groups" (am aQ) (ak aQ) (af aQ) .none kV18 dc18 pm18 an18 cd18 ct18,f_b:=f19,d_b:=fnOf "groups_node" "groups_node" (am bv) (ak bv) (af bv) .none kV19 dc19 pm19 an19 cd19 ct19,f_ao:=f20,d_ao:=fnOf "_law_cell" "_law_cell" (am dq) (ak dq) (af dq) .none kV20 dc20 pm20 an20 cd20 ct20,f_E:=f21,d_E:=fnOf "_law_mixed" "_law_mixed" (am da) (ak da) (af da) .none kV21 dc21 pm21 an21 cd21 ct21,f_V:=f22,d_V:=fnOf "_law_tree" "_law_tree" (am dz) (ak dz) (af dz) .none kV22 dc22 pm22 an22 cd22 ct22,f_ad:=f23,d_ad:=fnOf "_law_lowest" "_law_lowest" (am cv) (ak cv) (af cv) .none kV23 dc23 pm23 an23 cd23 ct23,f_J:=f24,d_J:=fnOf "_law_wished" "_law_wished" (am cy) (ak cy) (af cy) .none kV24 dc24 pm24 an24 cd24 ct24,f_aa:=f25,d_aa:=fnOf "_law_groups" "_law_groups" (am cB) (ak cB) (af cB) .none kV25 dc25 pm25 an25 cd25 ct25,f_ah:=f26,d_ah:=fnOf "_law_outer" "_law_outer" (am cV) (ak cV) (af cV) .none kV26 dc26 pm26 an26 cd26 ct26,f_D:=f27,d_D:=fnOf "_law_needs" "_law_needs" (am cZ) (ak cZ) (af cZ) .none kV27 dc27 pm27 an27 cd27 ct27,f_C:=f28,d_C:=fnOf "_law_fitted" "_law_fitted" (am cI) (ak cI) (af cI) .none kV28 dc28 pm28 an28 cd28 ct28,f_N:=f29,d_N:=fnOf "_law_plan" "_law_plan" (am dC) (ak dC) (af dC) .none kV29 dc29 pm29 an29 cd29 ct29,f_Z:=f30,d_Z:=fnOf "_law_crowd" "_law_crowd" (am cU) (ak cU) (af cU) .none kV30 dc30 pm30 an30 cd30 ct30,f_U:=f31,d_U:=fnOf "_law_thrown" "_law_thrown" (am cH) (ak cH) (af cH) .none kV31 dc31 pm31 an31 cd31 ct31,f_ak:=f32,d_ak:=fnOf "_law_few" "_law_few" (am dZ) (ak dZ) (af dZ) .none kV32 dc32 pm32 an32 cd32 ct32,f_Q:=f33,d_Q:=fnOf "_law_draw" "_law_draw" (am dB) (ak dB) (af dB) .none kV33 dc33 pm33 an33 cd33 ct33,f_X:=f34,d_X:=fnOf "_law_right" "_law_right" (am cX) (ak cX) (af cX) .none kV34 dc34 pm34 an34 cd34 ct34,f_ap:=f35,d_ap:=fnOf "law" "law" (am iC) (ak iC) (af iC) .none kV35 dc35 pm35 an35 cd35 ct35,c_ae:=c_ae,c_S:=c_S,i_S:=i_S,e_S:=fnOf "__init__" "NoPlan.__init__" (am bS) (ak bS) (af bS) .none kV_12 dc_12 pm_12 an_12 cd_12 ct_12,c_am:=c_am,c_L:=c_L,i_L:=i_L,e_L:=fnOf "__init__" "NoThrow.__init__" (am bL) (ak bL) (af bL) .none kV_13 dc_13 pm_13 an_13 cd_13 ct_13,c_ai:=c_ai,c_i:=c_i,i_i:=i_i,e_i:=fnOf "__init__" "Told.__init__" (am bc) (ak bc) (af bc) .none kV_17 dc_17 pm_17 an_17 cd_17 ct_17,c_p:=c_p,i_p:=i_p,e_p:=fnOf "__init__" "Die.__init__" (am bq) (ak bq) (af bq) .none kV_0 dc_0 pm_0 an_0 cd_0 ct_0,c_aj:=c_aj,c_x:=c_x,i_x:=i_x,e_x:=fnOf "__init__" "Few.__init__" (am bx) (ak bx) (af bx) .none kV_9 dc_9 pm_9 an_9 cd_9 ct_9,c_f:=c_f,i_f:=i_f,e_f:=fnOf "__init__" "Start.__init__" (am aY) (ak aY) (af aY) .none kV_14 dc_14 pm_14 an_14 cd_14 ct_14,c_g:=c_g,i_g:=i_g,e_g:=fnOf "__init__" "Loose.__init__" (am aW) (ak aW) (af aW) .none kV_f dc_f pm_f an_f cd_f ct_f,c_l:=c_l,i_l:=i_l,e_l:=fnOf "__init__" "Each.__init__" (am bf) (ak bf) (af bf) .none kV_6 dc_6 pm_6 an_6 cd_6 ct_6,c_c:=c_c,i_c:=i_c,e_c:=fnOf "__init__" "First.__init__" (am aX) (ak aX) (af aX) .none kV_c dc_c pm_c an_c cd_c ct_c,x_v:=x_v,y_v:=fnOf "is_told" "Told.is_told" (am bw) (ak bw) (af bw) .none kV_18 dc_18 pm_18 an_18 cd_18 ct_18,x_z:=x_z,y_z:=fnOf "is_told" "Die.is_told" (am bF) (ak bF) (af bF) .none kV_3 dc_3 pm_3 an_3 cd_3 ct_3,x_K:=x_K,y_K:=fnOf "kept" "Told.kept" (am cb) (ak cb) (af cb) .none kV_19 dc_19 pm_19 an_19 cd_19 ct_19,x_O:=x_O,y_O:=fnOf "kept" "Die.kept" (am cE) (ak cE) (af cE) .none kV_4 dc_4 pm_4 an_4 cd_4 ct_4,x_M:=x_M,y_M:=fnOf "sides" "Told.sides" (am bR) (ak bR) (af bR) .none kV_1a dc_1a pm_1a an_1a cd_1a ct_1a,x_T:=x_T,y_T:=fnOf "sides" "Die.sides" (am ce) (ak ce) (af ce) .none kV_5 dc_5 pm_5 an_5 cd_5 ct_5,x_H:=x_H,y_H:=fnOf "after" "Die.after" (am bX) (ak bX) (af bX) .none kV_1 dc_1 pm_1 an_1 cd_1 ct_1,x_P:=x_P,y_P:=fnOf "carried" "Die.carried" (am bG) (ak bG) (af bG) .none kV_2 dc_2 pm_2 an_2 cd_2 ct_2,x_G:=x_G,y_G:=fnOf "node" "Few.node" (am cz) (ak cz) (af cz) .none kV_b dc_b pm_b an_b cd_b ct_b,x_r:=x_r,y_r:=fnOf "node" "Start.node" (am bM) (ak bM) (af bM) .none kV_16 dc_16 pm_16 an_16 cd_16 ct_16,x_s:=x_s,y_s:=fnOf "node" "Loose.node" (am bN) (ak bN) (af bN) .none kV_11 dc_11 pm_11 an_11 cd_11 ct_11,x_t:=x_t,y_t:=fnOf "node" "Each.node" (am bY) (ak bY) (af bY) .none kV_8 dc_8 pm_8 an_8 cd_8 ct_8,x_a:=x_a,y_a:=fnOf "node" "First.node" (am bI) (ak bI) (af bI) .none kV_e dc_e pm_e an_e cd_e ct_e,x_A:=x_A,y_A:=fnOf "bounds" "Few.bounds" (am bQ) (ak bQ) (af bQ) .none kV_a dc_a pm_a an_a cd_a ct_a,x_w:=x_w,y_w:=fnOf "bounds" "Start.bounds" (am bu) (ak bu) (af bu) .none kV_15 dc_15 pm_15 an_15 cd_15 ct_15,x_q:=x_q,y_q:=fnOf "bounds" "Loose.bounds" (am br) (ak br) (af br) .none kV_10 dc_10 pm_10 an_10 cd_10 ct_10,x_o:=x_o,y_o:=fnOf "bounds" "Each.bounds" (am bD) (ak bD) (af bD) .none kV_7 dc_7 pm_7 an_7 cd_7 ct_7,x_k:=x_k,y_k:=fnOf "bounds" "First.bounds" (am bp) (ak bp) (af bp) .none kV_d dc_d pm_d an_d cd_d ct_d,k_NOUGHT:=k_NOUGHT,k_WHOLE:=k_WHOLE,lc_a:=lc_a,lp_a:=lp_a,lc_u:=lc_u,lp_u:=lp_u,lc_b:=lc_b,lp_b:=lp_b,lc_h:=lc_h,lp_h:=lp_h,lc_n:=lc_n,lp_n:=lp_n,lc_j:=lc_j,lp_j:=lp_j,lc_m:=lc_m,lp_m:=lp_m },?_,rfl⟩
 exact {
  lcd_a:=lca_e
  lch_a:=lch_a
  lcd_u:=lca_1b
  lch_u:=lch_u
  lcd_b:=lca_1e
  lch_b:=lch_b
  lcd_h:=lca_1f
  lch_h:=lch_h
  lcd_n:=lca_20
  lch_n:=lch_n
  lcd_j:=lca_1c
  lch_j:=lch_j
  lcd_m:=lca_1d
  lch_m:=lch_m
  tnd:=ltnd
  F_B:=aq l0 c0 k0
  B_B:=(aq l0 c0 k0).binds (ps:=["one","other"]) λ_ _ _ _ _ _ us hl=>(by obtain⟨_,_,rfl⟩:=us2 hl;rfl)
  m_B:=mg_of X G a0
  F_ag:=aq l1 c1 k1
  B_ag:=(aq l1 c1 k1).binds (ps:=["top","bottom"]) λ_ _ _ _ _ _ us hl=>(by obtain⟨_,_,rfl⟩:=us2 hl;rfl)
  m_ag:=mg_of X G a1
  F_ac:=aq l2 c2 k2
  B_ac:=(aq l2 c2 k2).binds (ps:=["thing","low","high"]) λ_ _ _ _ _ _ us hl=>(by obtain⟨_,_,_,rfl⟩:=us3 hl;rfl)
  m_ac:=mg_of X G a2
  F_j:=aq l3 c3 k3
  B_j:=(aq l3 c3 k3).binds (ps:=["make","carry"]) λ_ _ _ _ _ _ us hl=>(by obtain⟨_,_,rfl⟩:=us2 hl;rfl)
  m_j:=mg_of X G a3
  F_I:=aq l4 c4 k4
  B_I:=(aq l4 c4 k4).binds (ps:=["node","throw"]) λ_ _ _ _ _ _ us hl=>(by obtain⟨_,_,rfl⟩:=us2 hl;rfl)
  m_I:=mg_of X G a4
  F_al:=aq l5 c5 k5
  B_al:=(aq l5 c5 k5).binds (ps:=["node","throws"]) λ_ _ _ _ _ _ us hl=>(by obtain⟨_,_,rfl⟩:=us2 hl;rfl)
  m_al:=mg_of X G a5
  F_u:=aq l6 c6 k6
  B_u:=(aq l6 c6 k6).binds (ps:=["node","go"]) λ_ _ _ _ _ _ us hl=>(by obtain⟨_,_,rfl⟩:=us2 hl;rfl)
  m_u:=mg_of X G a6
  F_W:=aq l7 c7 k7
  B_W:=(aq l7 c7 k7).binds (ps:=["crowd"]) λ_ _ _ _ _ _ us hl=>(by obtain⟨_,rfl⟩:=us1 hl;rfl)
  m_W:=mg_of X G a7
  F_an:=aq l8 c8 k8
  B_an:=(aq l8 c8 k8).binds (ps:=["sizes","many"]) λ_ _ _ _ _ _ us hl=>(by obtain⟨_,_,rfl⟩:=us2 hl;rfl)
  m_an:=mg_of X G a8
  F_y:=aq l9 c9 k9
  B_y:=(aq l9 c9 k9).binds (ps:=["sizes","many"]) λ_ _ _ _ _ _ us hl=>(by obtain⟨_,_,rfl⟩:=us2 hl;rfl)
  m_y:=mg_of X G a9
  F_Y:=aq l10 c10 k10
  B_Y:=(aq l10 c10 k10).binds (ps:=["crowd","many"]) λ_ _ _ _ _ _ us hl=>(by obtain⟨_,_,rfl⟩:=us2 hl;rfl)
  m_Y:=mg_of X G a10
  F_R:=aq l11 c11 k11
  B_R:=(aq l11 c11 k11).binds (ps:=["crowd"]) λ_ _ _ _ _ _ us hl=>(by obtain⟨_,rfl⟩:=us1 hl;rfl)
  m_R:=mg_of X G a11
  F_F:=aq l12 c12 k12
  B_F:=(aq l12 c12 k12).binds (ps:=["thing","low","high"]) λ_ _ _ _ _ _ us hl=>(by obtain⟨_,_,_,rfl⟩:=us3 hl;rfl)
  m_F:=mg_of X G a12
  F_m:=aq l13 c13 k13
  B_m:=(aq l13 c13 k13).binds (ps:=["ahead","wanted","taken"]) λ_ _ _ _ _ _ us hl=>(by obtain⟨_,_,_,rfl⟩:=us3 hl;rfl)
  m_m:=mg_of X G a13
  F_n:=aq l14 c14 k14
  B_n:=(aq l14 c14 k14).binds (ps:=["places","step","first"]) λ_ _ _ _ _ _ us hl=>(by obtain⟨_,_,_,rfl⟩:=us3 hl;rfl)
  m_n:=mg_of X G a14
  F_af:=aq l15 c15 k15
  B_af:=(aq l15 c15 k15).binds (ps:=["chance"]) λ_ _ _ _ _ _ us hl=>(by obtain⟨_,rfl⟩:=us1 hl;rfl)
  m_af:=mg_of X G a15
  F_h:=aq l16 c16 k16
  B_h:=(aq l16 c16 k16).binds (ps:=["ahead","taken"]) λ_ _ _ _ _ _ us hl=>(by obtain⟨_,_,rfl⟩:=us2 hl;rfl)
  m_h:=mg_of X G a16
  F_ab:=aq l17 c17 k17
  B_ab:=(aq l17 c17 k17).binds (ps:=["crowd"]) λ_ _ _ _ _ _ us hl=>(by obtain⟨_,rfl⟩:=us1 hl;rfl)
  m_ab:=mg_of X G a17
  F_d:=aq l18 c18 k18
  B_d:=(aq l18 c18 k18).binds (ps:=["groups"]) λ_ _ _ _ _ _ us hl=>(by obtain⟨_,rfl⟩:=us1 hl;rfl)
  m_d:=mg_of X G a18
  F_b:=aq l19 c19 k19
  B_b:=(aq l19 c19 k19).binds (ps:=["plan","groups","taken"]) λ_ _ _ _ _ _ us hl=>(by obtain⟨_,_,_,rfl⟩:=us3 hl;rfl)
  m_b:=mg_of X G a19
  F_ao:=aq l20 c20 k20
  B_ao:=(aq l20 c20 k20).binds (ps:=["_law_script","_law_k"]) λ_ _ _ _ _ _ us hl=>(by obtain⟨_,_,rfl⟩:=us2 hl;rfl)
  m_ao:=mg_of X G a20
  F_E:=aq l21 c21 k21
  B_E:=(aq l21 c21 k21).binds (ps:=["_law_cell_here","_law_k"]) λ_ _ _ _ _ _ us hl=>(by obtain⟨_,_,rfl⟩:=us2 hl;rfl)
  m_E:=mg_of X G a21
  F_V:=aq l22 c22 k22
  B_V:=(aq l22 c22 k22).binds (ps:=["_law_number","_law_deep","_law_wide"]) λ_ _ _ _ _ _ us hl=>(by obtain⟨_,_,_,rfl⟩:=us3 hl;rfl)
  m_V:=mg_of X G a22
  F_ad:=aq l23 c23 k23
  B_ad:=(aq l23 c23 k23).binds (ps:=["_law_top","_law_bottom"]) λ_ _ _ _ _ _ us hl=>(by obtain⟨_,_,rfl⟩:=us2 hl;rfl)
  m_ad:=mg_of X G a23
  F_J:=aq l24 c24 k24
  B_J:=(aq l24 c24 k24).binds (ps:=["_law_sizes","_law_many"]) λ_ _ _ _ _ _ us hl=>(by obtain⟨_,_,rfl⟩:=us2 hl;rfl)
  m_J:=mg_of X G a24
  F_aa:=aq l25 c25 k25
  B_aa:=(aq l25 c25 k25).binds (ps:=["_law_crowd_here"]) λ_ _ _ _ _ _ us hl=>(by obtain⟨_,rfl⟩:=us1 hl;rfl)
  m_aa:=mg_of X G a25
  F_ah:=aq l26 c26 k26
  B_ah:=(aq l26 c26 k26).binds (ps:=["_law_groups_here"]) λ_ _ _ _ _ _ us hl=>(by obtain⟨_,rfl⟩:=us1 hl;rfl)
  m_ah:=mg_of X G a26
  F_D:=aq l27 c27 k27
  B_D:=(aq l27 c27 k27).binds (ps:=["_law_tree_here"]) λ_ _ _ _ _ _ us hl=>(by obtain⟨_,rfl⟩:=us1 hl;rfl)
  m_D:=mg_of X G a27
  F_C:=aq l28 c28 k28
  B_C:=(aq l28 c28 k28).binds (ps:=["_law_tree_here"]) λ_ _ _ _ _ _ us hl=>(by obtain⟨_,rfl⟩:=us1 hl;rfl)
  m_C:=mg_of X G a28
  F_N:=aq l29 c29 k29
  B_N:=(aq l29 c29 k29).binds (ps:=["_law_tree_here"]) λ_ _ _ _ _ _ us hl=>(by obtain⟨_,rfl⟩:=us1 hl;rfl)
  m_N:=mg_of X G a29
  F_Z:=aq l30 c30 k30
  B_Z:=(aq l30 c30 k30).binds (ps:=["_law_cell_here"]) λ_ _ _ _ _ _ us hl=>(by obtain⟨_,rfl⟩:=us1 hl;rfl)
  m_Z:=mg_of X G a30
  F_U:=aq l31 c31 k31
  B_U:=(aq l31 c31 k31).binds (ps:=["_law_state","_law_sides"]) λ_ _ _ _ _ _ us hl=>(by obtain⟨_,_,rfl⟩:=us2 hl;rfl)
  m_U:=mg_of X G a31
  F_ak:=aq l32 c32 k32
  B_ak:=(aq l32 c32 k32).binds (ps:=["_law_many","_law_crowd_here","_law_state"]) λ_ _ _ _ _ _ us hl=>(by obtain⟨_,_,_,rfl⟩:=us3 hl;rfl)
  m_ak:=mg_of X G a32
  F_Q:=aq l33 c33 k33
  B_Q:=(aq l33 c33 k33).binds (ps:=["_law_tree_here","_law_crowd_here","_law_state"]) λ_ _ _ _ _ _ us hl=>(by obtain⟨_,_,_,rfl⟩:=us3 hl;rfl)
  m_Q:=mg_of X G a33
  F_X:=aq l34 c34 k34
  B_X:=(aq l34 c34 k34).binds (ps:=["_law_tree_here","_law_crowd_here","_law_rest"]) λ_ _ _ _ _ _ us hl=>(by obtain⟨_,_,_,rfl⟩:=us3 hl;rfl)
  m_X:=mg_of X G a34
  F_ap:=aq l35 c35 k35
  m_ap:=mg_of X G a35
  g_NOUGHT:=⟨_,mg_of X G b_NOUGHT,rfl⟩
  t_NOUGHT:=bt_NOUGHT
  g_WHOLE:=⟨_,mg_of X G b_WHOLE,rfl⟩
  t_WHOLE:=bt_WHOLE
  F_v:=aq ml_18 mo_18 mk_18
  B_v:=(aq ml_18 mo_18 mk_18).binds (ps:=["self"]) λ_ _ _ _ _ _ us hl=>(by obtain⟨_,rfl⟩:=us1 hl;rfl)
  F_z:=aq ml_3 mo_3 mk_3
  B_z:=(aq ml_3 mo_3 mk_3).binds (ps:=["self"]) λ_ _ _ _ _ _ us hl=>(by obtain⟨_,rfl⟩:=us1 hl;rfl)
  F_K:=aq ml_19 mo_19 mk_19
  B_K:=(aq ml_19 mo_19 mk_19).binds (ps:=["self"]) λ_ _ _ _ _ _ us hl=>(by obtain⟨_,rfl⟩:=us1 hl;rfl)
  F_O:=aq ml_4 mo_4 mk_4
  B_O:=(aq ml_4 mo_4 mk_4).binds (ps:=["self"]) λ_ _ _ _ _ _ us hl=>(by obtain⟨_,rfl⟩:=us1 hl;rfl)
  F_M:=aq ml_1a mo_1a mk_1a
  B_M:=(aq ml_1a mo_1a mk_1a).binds (ps:=["self"]) λ_ _ _ _ _ _ us hl=>(by obtain⟨_,rfl⟩:=us1 hl;rfl)
  F_T:=aq ml_5 mo_5 mk_5
  B_T:=(aq ml_5 mo_5 mk_5).binds (ps:=["self"]) λ_ _ _ _ _ _ us hl=>(by obtain⟨_,rfl⟩:=us1 hl;rfl)
  F_H:=aq ml_1 mo_1 mk_1
  B_H:=(aq ml_1 mo_1 mk_1).binds (ps:=["self","throw"]) λ_ _ _ _ _ _ us hl=>(by obtain⟨_,_,rfl⟩:=us2 hl;rfl)
  F_P:=aq ml_2 mo_2 mk_2
  B_P:=(aq ml_2 mo_2 mk_2).binds (ps:=["self","carry"]) λ_ _ _ _ _ _ us hl=>(by obtain⟨_,_,rfl⟩:=us2 hl;rfl)
  F_G:=aq ml_b mo_b mk_b
  B_G:=(aq ml_b mo_b mk_b).binds (ps:=["self","crowd"]) λ_ _ _ _ _ _ us hl=>(by obtain⟨_,_,rfl⟩:=us2 hl;rfl)
  F_r:=aq ml_16 mo_16 mk_16
  B_r:=(aq ml_16 mo_16 mk_16).binds (ps:=["self","crowd"]) λ_ _ _ _ _ _ us hl=>(by obtain⟨_,_,rfl⟩:=us2 hl;rfl)
  F_s:=aq ml_11 mo_11 mk_11
  B_s:=(aq ml_11 mo_11 mk_11).binds (ps:=["self","crowd"]) λ_ _ _ _ _ _ us hl=>(by obtain⟨_,_,rfl⟩:=us2 hl;rfl)
  F_t:=aq ml_8 mo_8 mk_8
  B_t:=(aq ml_8 mo_8 mk_8).binds (ps:=["self","crowd"]) λ_ _ _ _ _ _ us hl=>(by obtain⟨_,_,rfl⟩:=us2 hl;rfl)
  F_a:=aq ml_e mo_e mk_e
  B_a:=(aq ml_e mo_e mk_e).binds (ps:=["self","crowd"]) λ_ _ _ _ _ _ us hl=>(by obtain⟨_,_,rfl⟩:=us2 hl;rfl)
  F_A:=aq ml_a mo_a mk_a
  B_A:=(aq ml_a mo_a mk_a).binds (ps:=["self","crowd"]) λ_ _ _ _ _ _ us hl=>(by obtain⟨_,_,rfl⟩:=us2 hl;rfl)
  F_w:=aq ml_15 mo_15 mk_15
  B_w:=(aq ml_15 mo_15 mk_15).binds (ps:=["self","crowd"]) λ_ _ _ _ _ _ us hl=>(by obtain⟨_,_,rfl⟩:=us2 hl;rfl)
  F_q:=aq ml_10 mo_10 mk_10
  B_q:=(aq ml_10 mo_10 mk_10).binds (ps:=["self","crowd"]) λ_ _ _ _ _ _ us hl=>(by obtain⟨_,_,rfl⟩:=us2 hl;rfl)
  F_o:=aq ml_7 mo_7 mk_7
  B_o:=(aq ml_7 mo_7 mk_7).binds (ps:=["self","crowd"]) λ_ _ _ _ _ _ us hl=>(by obtain⟨_,_,rfl⟩:=us2 hl;rfl)
  F_k:=aq ml_d mo_d mk_d
  B_k:=(aq ml_d mo_d mk_d).binds (ps:=["self","crowd"]) λ_ _ _ _ _ _ us hl=>(by obtain⟨_,_,rfl⟩:=us2 hl;rfl)
  mt_v:=⟨mf_18,mi_18,mk_18⟩
  mt_z:=⟨mf_3,mi_3,mk_3⟩
  mt_K:=⟨mf_19,mi_19,mk_19⟩
  mt_O:=⟨mf_4,mi_4,mk_4⟩
  mt_M:=⟨mf_1a,mi_1a,mk_1a⟩
  mt_T:=⟨mf_5,mi_5,mk_5⟩
  mt_H:=⟨mf_1,mi_1,mk_1⟩
  mt_P:=⟨mf_2,mi_2,mk_2⟩
  mt_G:=⟨mf_b,mi_b,mk_b⟩
  mt_r:=⟨mf_16,mi_16,mk_16⟩
  mt_s:=⟨mf_11,mi_11,mk_11⟩
  mt_t:=⟨mf_8,mi_8,mk_8⟩
  mt_a:=⟨mf_e,mi_e,mk_e⟩
  mt_A:=⟨mf_a,mi_a,mk_a⟩
  mt_w:=⟨mf_15,mi_15,mk_15⟩
  mt_q:=⟨mf_10,mi_10,mk_10⟩
  mt_o:=⟨mf_7,mi_7,mk_7⟩
  mt_k:=⟨mf_d,mi_d,mk_d⟩
  mc_i:=mg_of X G ca_i
  cl_i:=⟨pa_i,pb_i,pc_i,pd_i⟩
  mk_i:=⟨qa_i,qb_i,qc_i,qd_i⟩
  na_Told_rising:=qn_Told_rising
  Fi_i:=aq cl_i co_i ck_i
  Bi_i:=(aq cl_i co_i ck_i).binds (ps:=["self","kept"]) λ_ _ _ _ _ _ us hl=>(by obtain⟨_,_,rfl⟩:=us2 hl;rfl)
  mc_p:=mg_of X G ca_p
  cl_p:=⟨pa_p,pb_p,pc_p,pd_p⟩
  mk_p:=⟨qa_p,qb_p,qc_p,qd_p⟩
  na_Die_makes:=qn_Die_makes
  Fi_p:=aq cl_p co_p ck_p
  Bi_p:=(aq cl_p co_p ck_p).binds (ps:=["self","parts"]) λ_ _ _ _ _ _ us hl=>(by obtain⟨_,_,rfl⟩:=us2 hl;rfl)
  mc_x:=mg_of X G ca_x
  cl_x:=⟨pa_x,pb_x,pc_x,pd_x⟩
  mk_x:=⟨qa_x,qb_x,qc_x,qd_x⟩
  na_Few_many:=qn_Few_many
  Fi_x:=aq cl_x co_x ck_x
  Bi_x:=(aq cl_x co_x ck_x).binds (ps:=["self","many"]) λ_ _ _ _ _ _ us hl=>(by obtain⟨_,_,rfl⟩:=us2 hl;rfl)
  mc_f:=mg_of X G ca_f
  cl_f:=⟨pa_f,pb_f,pc_f,pd_f⟩
  mk_f:=⟨qa_f,qb_f,qc_f,qd_f⟩
  na_Start_step:=qn_Start_step
  Fi_f:=aq cl_f co_f ck_f
  Bi_f:=(aq cl_f co_f ck_f).binds (ps:=["self","step"]) λ_ _ _ _ _ _ us hl=>(by obtain⟨_,_,rfl⟩:=us2 hl;rfl)
  mc_g:=mg_of X G ca_g
  cl_g:=⟨pa_g,pb_g,pc_g,pd_g⟩
  mk_g:=⟨qa_g,qb_g,qc_g,qd_g⟩
  na_Loose_many:=qn_Loose_many
  Fi_g:=aq cl_g co_g ck_g
  Bi_g:=(aq cl_g co_g ck_g).binds (ps:=["self","many"]) λ_ _ _ _ _ _ us hl=>(by obtain⟨_,_,rfl⟩:=us2 hl;rfl)
  mc_l:=mg_of X G ca_l
  cl_l:=⟨pa_l,pb_l,pc_l,pd_l⟩
  mk_l:=⟨qa_l,qb_l,qc_l,qd_l⟩
  na_Each_inside:=qn_Each_inside
  Fi_l:=aq cl_l co_l ck_l
  Bi_l:=(aq cl_l co_l ck_l).binds (ps:=["self","inside"]) λ_ _ _ _ _ _ us hl=>(by obtain⟨_,_,rfl⟩:=us2 hl;rfl)
  mc_c:=mg_of X G ca_c
  cl_c:=⟨pa_c,pb_c,pc_c,pd_c⟩
  mk_c:=⟨qa_c,qb_c,qc_c,qd_c⟩
  na_First_outside:=qn_First_outside
  na_First_inside:=qn_First_inside
  Fi_c:=aq cl_c co_c ck_c
  Bi_c:=(aq cl_c co_c ck_c).binds (ps:=["self","outside","inside"]) λ_ _ _ _ _ _ us hl=>(by obtain⟨_,_,_,rfl⟩:=us3 hl;rfl)
  g_MOST_MANY:=⟨u0,mg_of X G b0,r0⟩
  g_MOST_STEP:=⟨u1,mg_of X G b1,r1⟩
  z_abs:=mg_none_of X G z0
  z_bool:=mg_none_of X G z1
  z_enumerate:=mg_none_of X G z2
  z_int:=mg_none_of X G z3
  z_isinstance:=mg_none_of X G z4
  z_len:=mg_none_of X G z5
  z_list:=mg_none_of X G z6
  z_max:=mg_none_of X G z7
  z_min:=mg_none_of X G z8
  z_range:=mg_none_of X G z9
  z_sorted:=mg_none_of X G z10
  z_sum:=mg_none_of X G z11
  z_tuple:=mg_none_of X G z12
  z_zip:=mg_none_of X G z13
  bl:=λs u=>.of_eq rfl }
end My
open PySem PySem.W PyProof.Rows
namespace PySem.W.Fast
def tw2051342165511068034:=0
def tw8926365385149691523:=0
def tw16740393460979738565:=0
def tw17670854660137727271:=0
def tw14174476367606278983:=0
def tw373517226165335911:=0
def tw15723245012259634023:=0
def tw12723226887664819372:=0
def tw17907022803130498863:=0
def tw16443944539916693327:=0
def tw14622681915230844815:=0
def tw6240618836844761039:=0
def tw7040700220442617328:=0
def tw11071761278255210352:=0
def tw14256828228772041329:=0
def tw8698900627166731860:=0
def tw3959898017868703636:=0
def tw2081245622700660341:=0
def tw6892597019497217147:=0
def tw12173027660549449051:=0
def tw9716888593099157915:=0
def tw13659287718532206237:=0
def tw14214572535581438687:=0
def tw10003831556247516260:=0
def tw10037452613424339790:=0
def tw10050561647556337304:=0
def tw10056717573550756236:=0
def tw10088155566415660383:=0
def tw10214858792696134676:=0
def tw10229610227124577362:=0
def tw10235015070611171015:=0
def tw10270649822850081089:=0
def tw10278592439303645587:=0
def tw10334250434295544296:=0
def tw10361304131328807401:=0
def tw10364564110246976750:=0
def tw10380346412361156242:=0
def tw1041014406698177148:=0
def tw10437470687883558530:=0
def tw10439322664274516816:=0
def tw10456381885254775520:=0
def tw10547801600223776744:=0
def tw10612544278160465803:=0
def tw10621465404975029249:=0
def tw1066303963577549034:=0
def tw10671223332848351433:=0
def tw1067245692078965275:=0
def tw10679366281001980750:=0
def tw1071975305108655909:=0
def tw10731876252231102680:=0
def tw1076644843696140396:=0
def tw10825737710612500299:=0
def tw10836598548008114614:=0
def tw11044592969407273041:=0
def tw11078117255044900276:=0
def tw11079308828938392897:=0
def tw11100591672873640365:=0
def tw11109165548799548426:=0
def tw11133245378013846323:=0
def tw1120170710474413698:=0
def tw11224793895836971986:=0
def tw11226996718991269350:=0
def tw11237993286493793631:=0
def tw11261318805102566268:=0
def tw11267684117104559804:=0
def tw11273331807091964369:=0
def tw11278274666838192473:=0
def tw11291894928790001914:=0
def tw11314720710596863103:=0
def tw1132085330975263451:=0
def tw11355527279526880131:=0
def tw1137228435451644213:=0
def tw11386663730643384198:=0
def tw11396385805876792375:=0
def tw11446999704817797448:=0
def tw11453273304245116573:=0
def tw11470350260628995055:=0
def tw11521178381743888106:=0
def tw11533158473167358311:=0
def tw11534463780025367074:=0
def tw11577676635435446969:=0
def tw11597530203041341260:=0
def tw11613067298034824649:=0
def tw11625687354360440342:=0
def tw1168555624340204157:=0
def tw1171071147856953170:=0
def tw11738318325540378350:=0
def tw11766073430340729678:=0
def tw11773074580494330544:=0
def tw11778002892883896622:=0
def tw11844361659440163711:=0
def tw11861705491552174920:=0
def tw11899103889662815455:=0
def tw11899337094977352838:=0
def tw11932649033586124564:=0
def tw11946265066503434755:=0
def tw11949904361728258760:=0
def tw11966842441780738947:=0
def tw11973512592239422539:=0
def tw11993602454680206140:=0
def tw11996512709973379227:=0
def tw1205168288983724640:=0
def tw12089002688485295026:=0
def tw12129534179582719225:=0
def tw12207829239258457746:=0
def tw12273626399395220213:=0
def tw12363928831157292112:=0
def tw12368379629845263650:=0
def tw12392749651897276253:=0
def tw12465813407486272245:=0
def tw12485608858414225917:=0
def tw12517360443805056691:=0
def tw12547318002647450865:=0
def tw12548631014191019464:=0
def tw12563322928796443689:=0
def tw1258836297224749764:=0
def tw12661771424300064164:=0
def tw12713941311314461938:=0
def tw12770198993343974773:=0
def tw12770365152752806695:=0
def tw12771294569975892872:=0
def tw12806051523110025662:=0
def tw12809219346917794096:=0
def tw12832869973805238649:=0
def tw12854111968409559175:=0
def tw12970088394747227019:=0
def tw12983637993684283137:=0
def tw1298747799249218457:=0
def tw12990315178687599151:=0
def tw13010758889802084110:=0
def tw13011121341904850024:=0
def tw13052957339590074593:=0
def tw13132197814889648066:=0
def tw13158838282758324946:=0
def tw13233382538599355519:=0
def tw13283216806145250432:=0
def tw13338268881745594794:=0
def tw13415928983508558309:=0
def tw13427782429028990608:=0
def tw13443122118708608241:=0
def tw13452927608282225133:=0
def tw134675229751360665:=0
def tw13471596074176348284:=0
def tw13472538373527132697:=0
def tw13500478194347582478:=0
def tw13508835767903509153:=0
def tw13536534666871881360:=0
def tw13539674116835398008:=0
def tw13539800500668191553:=0
def tw13594736275494148988:=0
def tw13618308714138159372:=0
def tw13643035891513847755:=0
def tw13710361466200218660:=0
def tw13762997981503456178:=0
def tw13824932113494654935:=0
def tw13837007056647032277:=0
def tw1386300725035525610:=0
def tw13881336520263333044:=0
def tw13897900659718743633:=0
def tw13939210097818927324:=0
def tw13950144543096411406:=0
def tw13971072405105253367:=0
def tw14005733710870131917:=0
def tw14010985978984915755:=0
def tw14039398951442811132:=0
def tw14090528084807671905:=0
def tw14105096112292512929:=0
def tw14146483892771424095:=0
def tw14162231633662787226:=0
def tw14191911558613630326:=0
def tw14216271496163105734:=0
def tw14239707148348954082:=0
def tw14270041149624239159:=0
def tw14277767032729133311:=0
def tw14278117139646938715:=0
def tw14314250248430731792:=0
def tw14354863609636442511:=0
def tw14367930776746664816:=0
def tw14369925116251611750:=0
def tw14450043451036348661:=0
def tw14468284636066148018:=0
def tw14580094140884735345:=0
def tw1463835831729597557:=0
def tw14642244194735372695:=0
def tw14694657883181316229:=0
def tw14696081267371254970:=0
def tw14703943907484909019:=0
def tw14719346828352136517:=0
def tw14726220680331650527:=0
def tw14729367903859020232:=0
def tw14757203541699886438:=0
def tw14761017147544005554:=0
def tw14775238090197514190:=0
def tw147936931696897996:=0
def tw14802844586791737347:=0
def tw14807209883488004362:=0
def tw14830862717734874595:=0
def tw14839676113586890091:=0
def tw14863176852831951996:=0
def tw14900252119886811590:=0
def tw14916398053769679453:=0
def tw14926303986345554074:=0
def tw14937001345011034167:=0
def tw14941890856823913288:=0
def tw14947739944591556083:=0
def tw14958626901494192050:=0
def tw1497272384038251347:=0
def tw14975601265819990528:=0
def tw15005504843350365915:=0
def tw15027009251339521801:=0
def tw15038564531137266522:=0
def tw15100859310005195472:=0
def tw15128149009146349045:=0
def tw15193832022923684203:=0
def tw15222623264662005414:=0
def tw15231626678936227676:=0
def tw15254948560467192893:=0
def tw15318236089304001603:=0
def tw15348360539941600753:=0
def tw15355095700953283105:=0
def tw15366932065919972165:=0
def tw1536909760330034154:=0
def tw15498012700883522099:=0
def tw15535678211494123967:=0
def tw15544487970105898620:=0
def tw15545446366526796382:=0
def tw15547348263558757554:=0
def tw15555789626557356432:=0
def tw15559363069974021059:=0
def tw15578325938929880317:=0
def tw15587735550348243418:=0
def tw15597894210651742227:=0
def tw15598087150218813948:=0
def tw15605003654949387249:=0
def tw15621381913283190722:=0
def tw15623959224596214453:=0
def tw15643195493666617538:=0
def tw15644448776406606649:=0
def tw15663492470459705080:=0
def tw15684766103218144605:=0
def tw1571106268163184950:=0
def tw15713742652672999339:=0
def tw15726628290831440014:=0
def tw15744675207089689467:=0
def tw1577167084681744519:=0
def tw15773862772491412191:=0
def tw15777474753187659468:=0
def tw15809940633251875793:=0
def tw15819649383063781189:=0
def tw15847376060403285114:=0
def tw15872400081661247434:=0
def tw15875725961459423826:=0
def tw15965471467049591306:=0
def tw15973357304990827006:=0
def tw15999296413511359441:=0
def tw16025544525178467440:=0
def tw1602676669811506503:=0
def tw16026930628969198098:=0
def tw16045885870965907159:=0
def tw1604768572442441543:=0
def tw16056976063008234381:=0
def tw16063204572685451878:=0
def tw16080080208174904172:=0
def tw16088201994686414367:=0
def tw16135629973228937961:=0
def tw1616150740581690188:=0
def tw16192702862482537426:=0
def tw16207994591359051397:=0
def tw16245631483637054398:=0
def tw1628236228999328903:=0
def tw16291880213283201829:=0
def tw16306612424087031725:=0
def tw16367020908878370728:=0
def tw16385289007278596644:=0
def tw16397014738298369756:=0
def tw16397659086644300158:=0
def tw16471677229259022052:=0
def tw16471818263805126527:=0
def tw16484905615227056728:=0
def tw16486615513296427192:=0
def tw16493013905992432182:=0
def tw16536318031489084237:=0
def tw16541336875622136697:=0
def tw16557539477132581593:=0
def tw16591488903447630854:=0
def tw16640725465920144838:=0
def tw16703883928774343998:=0
def tw167381473048323379:=0
def tw16769939175172702803:=0
def tw16771413108638280761:=0
def tw16923807828712080762:=0
def tw16985046566707303605:=0
def tw17002448635153209831:=0
def tw17014422369818459970:=0
def tw17033110173717541924:=0
def tw1703820222227252631:=0
def tw17042863144622028346:=0
def tw17048227275028467922:=0
def tw17063121362806917273:=0
def tw17068566334330372322:=0
def tw17071526004680940425:=0
def tw17073206006555639213:=0
def tw17081036479154870727:=0
def tw17117587145168446491:=0
def tw17137730614411898030:=0
def tw17162899355602704855:=0
def tw17173605924965873365:=0
def tw1720295861117096678:=0
def tw17242833383654702308:=0
def tw17244037541994627747:=0
def tw17289622328611238661:=0
def tw17293647809857308023:=0
def tw17336084621297833224:=0
def tw17340766459854111536:=0
def tw17381886805029675996:=0
def tw17392336730897531622:=0
def tw17403827616050868487:=0
def tw17409359423615288641:=0
def tw17412273195356115331:=0
def tw17420127025592248159:=0
def tw17426566016406877522:=0
def tw17432983872424026214:=0
def tw17465034084709992848:=0
def tw17562824404764443910:=0
def tw17625878537231798922:=0
def tw17669416129890402917:=0
def tw17690251165900017127:=0
def tw17716537665063231207:=0
def tw17745715498619668762:=0
def tw17839715924180059173:=0
def tw17844924245615891771:=0
def tw17846160155735630930:=0
def tw17895665141586936315:=0
def tw17937155478852229541:=0
def tw17962166447135315003:=0
def tw18023487749612876500:=0
def tw18031851702257002931:=0
def tw1804844261930274531:=0
def tw18060365819667462355:=0
def tw18093912892937001594:=0
def tw18099283544553612497:=0
def tw18123111301176879131:=0
def tw18155387323836091881:=0
def tw18155864026144876471:=0
def tw18210822892237790186:=0
def tw18229447370202631448:=0
def tw18230973229654869671:=0
def tw18371273559124200201:=0
def tw18398600096372111390:=0
def tw18422197974973609875:=0
def tw18435662940879718782:=0
def tw1874800677072957463:=0
def tw1910933800669860148:=0
def tw1960659265940586581:=0
def tw1964070375499425235:=0
def tw1984381718886364330:=0
def tw2021373418109614071:=0
def tw203265730156691083:=0
def tw2081313152290366946:=0
def tw2120714412272528303:=0
def tw2131552780010111893:=0
def tw2154986939579490571:=0
def tw217216725818985941:=0
def tw2172743199869050809:=0
def tw2205608281505427170:=0
def tw2219058179952621073:=0
def tw2246315074724178068:=0
def tw2274041584389681483:=0
def tw2285983400135332062:=0
def tw2320046891981869385:=0
def tw2379626043520467995:=0
def tw2432285916579370370:=0
def tw2495557199556252563:=0
def tw2504670869323718115:=0
def tw2551230453207687399:=0
def tw2568839810332501265:=0
def tw2598494300328900400:=0
def tw2600311045551777088:=0
def tw2623614459834338631:=0
def tw2635095353064540275:=0
def tw2648729666907707931:=0
def tw2667945702955170557:=0
def tw2677054171914246521:=0
def tw2689339169617307533:=0
def tw2701036435513061111:=0
def tw2753987761171396180:=0
def tw2754155344175609409:=0
def tw2760602987650267543:=0
def tw2800974243879700222:=0
def tw2808819778116919154:=0
def tw2827753840485802508:=0
def tw2974495731557681467:=0
def tw2998993504132656085:=0
def tw3015150510948744903:=0
def tw3020777905687605307:=0
def tw305336650808548705:=0
def tw3067907871090658393:=0
def tw3099808473977929846:=0
def tw3224984742982468524:=0
def tw3259116266383667634:=0
def tw3303544650274902049:=0
def tw3310118568427801451:=0
def tw3343345189059169367:=0
def tw3371215291406499890:=0
def tw3375700016349305579:=0
def tw3381721441735720678:=0
def tw3424113899921065954:=0
def tw3428631246024284838:=0
def tw3499775185232382488:=0
def tw3522722373096258957:=0
def tw355475014245190633:=0
def tw3577767547963614804:=0
def tw3629171403565152246:=0
def tw3638814819934868808:=0
def tw3680161582116725721:=0
def tw3694298317916719705:=0
def tw3726953560351960949:=0
def tw373392786495890608:=0
def tw3761548490926936535:=0
def tw3789524522785046044:=0
def tw3809419913080465989:=0
def tw3818854211572497372:=0
def tw3873760785676905228:=0
def tw3905963690816093191:=0
def tw3982528538698852395:=0
def tw4003199639011116680:=0
def tw4023839662417561712:=0
def tw4040510809845257613:=0
def tw4067011622344319744:=0
def tw4071221039780073157:=0
def tw4087726727425568973:=0
def tw4124127440370982558:=0
def tw4137912042308307333:=0
def tw4206152149225580443:=0
def tw4218163252404448460:=0
def tw4235457055694965530:=0
def tw4271411390417666002:=0
def tw4302878926543500106:=0
def tw4323102563213308820:=0
def tw4357554339791340932:=0
def tw4380948404474813950:=0
def tw4417591616315894886:=0
def tw4440330473841174490:=0
def tw4520245557945652195:=0
def tw4524629041901056095:=0
def tw4549037606472694744:=0
def tw4600656519985439459:=0
def tw4686101342911124342:=0
def tw468959045885390805:=0
def tw4689732690925728846:=0
def tw4690993426995120651:=0
def tw472932189900781650:=0
def tw473416049752527054:=0
def tw4755089782527006802:=0
def tw476243726165389267:=0
def tw4796530830827367286:=0
def tw4820071832105114896:=0
def tw4844368501470772423:=0
def tw4857680353276023792:=0
def tw4935531823314933015:=0
def tw4942376449624311700:=0
def tw49522249296784662:=0
def tw4956161702740763687:=0
def tw4988879212354795487:=0
def tw5017465521524544573:=0
def tw5045130244308900865:=0
def tw5046959424804043905:=0
def tw5089055934502538031:=0
def tw5124591310179230138:=0
def tw5159818176571019772:=0
def tw5170119769258756412:=0
def tw5182277808185793383:=0
def tw5210226431069512837:=0
def tw5224775965900319486:=0
def tw5244689527785882258:=0
def tw5306495558978200865:=0
def tw5372127316488325532:=0
def tw5389343473143686329:=0
def tw543786208115372835:=0
def tw5455507542641916373:=0
def tw5465838012166152225:=0
def tw5468012840921606617:=0
def tw5484785876489196534:=0
def tw5522159569096529034:=0
def tw5528987016438078826:=0
def tw5564351170774423598:=0
def tw5587985206057709836:=0
def tw5588362060927502619:=0
def tw5629274268547308079:=0
def tw5677606137440230002:=0
def tw5785492827219306920:=0
def tw5786951147404004772:=0
def tw583368042485196680:=0
def tw5837777043862344555:=0
def tw5853453250090507140:=0
def tw5855347335253476379:=0
def tw5858397448848238467:=0
def tw5880033118788688634:=0
def tw5906708553121189161:=0
def tw6001008269562444402:=0
def tw6025696643114840206:=0
def tw6046490602323812236:=0
def tw612490734474945631:=0
def tw6131288289507207493:=0
def tw6139361396252306135:=0
def tw6164739414140984527:=0
def tw6194809610815653544:=0
def tw6195644140361120693:=0
def tw6202820754547614026:=0
def tw6259262029659577484:=0
def tw6308757234407682183:=0
def tw631451428404730556:=0
def tw6329818363111459486:=0
def tw6384866624290712340:=0
def tw6392615798244224706:=0
def tw6433073862986270578:=0
def tw6454981094143176665:=0
def tw6455886598854025219:=0
def tw6480521613698506704:=0
def tw6495249326329917241:=0
def tw6551355377709833854:=0
def tw6559426310304080952:=0
def tw6570385238562385196:=0
def tw6572206955562871017:=0
def tw6575890513154185124:=0
def tw658504114948522150:=0
def tw6608570474586544262:=0
def tw6627089973412139831:=0
def tw663126997190858445:=0
def tw664993495068163352:=0
def tw6669773101122674323:=0
def tw6714052383296556436:=0
def tw6787523138209975884:=0
def tw6816094023491812469:=0
def tw6820778141326111547:=0
def tw6833930024050303940:=0
def tw6867017755666757716:=0
def tw6884395983956675821:=0
def tw6891742848150024461:=0
def tw6916351419167689646:=0
def tw6930279787936717674:=0
def tw6940497433067364129:=0
def tw6990652981115180943:=0
def tw700921784477258854:=0
def tw7011321285140453659:=0
def tw702002254392978919:=0
def tw7074055088856213604:=0
def tw7131934160389100938:=0
def tw7153431756352154767:=0
def tw7157975650513931068:=0
def tw7200793736804348288:=0
def tw7214497152495718639:=0
def tw7229699397046135623:=0
def tw7284682241373829611:=0
def tw7286658971844519329:=0
def tw7336124519352743699:=0
def tw7352019250484359670:=0
def tw7371376712285301979:=0
def tw7419625737360521912:=0
def tw7437776751248887599:=0
def tw7452467091570157340:=0
def tw7463193272511050451:=0
def tw746547555981395501:=0
def tw748870565754963666:=0
def tw7501724825338251533:=0
def tw7502256852011354554:=0
def tw7540277082126090152:=0
def tw7556047531653972424:=0
def tw7609537529522332027:=0
def tw7610393411425851642:=0
def tw7633149911394700666:=0
def tw7675325015922293597:=0
def tw7701341744689295004:=0
def tw772070739523916869:=0
def tw7747240408203041674:=0
def tw7811005800023024141:=0
def tw7832582769757405478:=0
def tw7832837275204822202:=0
def tw7879674152046274993:=0
def tw7926446384747863399:=0
def tw7944752138114658778:=0
def tw7988212304893252261:=0
def tw8000395254772525208:=0
def tw8011357096201292781:=0
def tw8028320601956412339:=0
def tw8052761198583541825:=0
def tw8087168608326816296:=0
def tw8116127938736115665:=0
def tw8122925217905986673:=0
def tw8191496523680663657:=0
def tw8239404177616759051:=0
def tw8299373523040549882:=0
def tw8322077577422332561:=0
def tw8374940230429603912:=0
def tw8380546658570029973:=0
def tw8387867592314930519:=0
def tw844572212884036956:=0
def tw8537213132242162469:=0
def tw85525798829879140:=0
def tw8603934665026024012:=0
def tw8620422006232264447:=0
def tw8684881121426695079:=0
def tw8764630190436876157:=0
def tw8785422365846616786:=0
def tw8801896294808953787:=0
def tw881716775635000465:=0
def tw8825282288282813211:=0
def tw8866775840214578037:=0
def tw887249247825365555:=0
def tw8907514658328418593:=0
def tw8908069015815066119:=0
def tw8950563184047287564:=0
def tw8968701817443956820:=0
def tw8969533566683159601:=0
def tw899440371291110533:=0
def tw903397920126150095:=0
def tw9036755437260858920:=0
def tw9040062937599173731:=0
def tw9041750472024172683:=0
def tw907944249779140224:=0
def tw9083389482817592842:=0
def tw9120037587932959274:=0
def tw9133036936125925763:=0
def tw9145519335912864546:=0
def tw9193765969020668242:=0
def tw9194936734171395756:=0
def tw9201776931919300160:=0
def tw9238850186561478368:=0
def tw9241914636649767089:=0
def tw9259140536292320931:=0
def tw9313031639202977525:=0
def tw9380494980515269323:=0
def tw9412953272345679786:=0
def tw9445927734201807818:=0
def tw9454808306487851020:=0
def tw952092014193080644:=0
def tw9528513719852037815:=0
def tw9571212583437474450:=0
def tw9641549871682122245:=0
def tw9645171670346461477:=0
def tw9692689583434951789:=0
def tw9775205540348998434:=0
def tw9778390453606424507:=0
def tw9815875210639054806:=0
def tw986695090716641824:=0
def tw9871737682268129683:=0
def tw9890357401875138280:=0
def tw9908934950321165560:=0
def tw9995544853457307067:=0
end PySem.W.Fast
set_option maxRecDepth 100000 in
set_option maxHeartbeats 0 in
theorem PySem.Challenge.cw_fewspeak_k43_whole_nested_throws_holds : PySem.Challenge.rw_fewspeak_k43_whole_nested_throws.Holds := by
 w_on;o_law;k_head;(case hw=>w_witness2)
 k_fill
 refine L2.walk_ofT (l:=PySem.Challenge.rw_fewspeak_k43_whole_nested_throws) (n:=63) (k:=My.lawK) (x := "_law_script") (CX:=L2.CX0) (sp:=My.spLaw) rfl (by decide) rfl ⟨rfl,by decide,by decide⟩ (λw h Y=>⟨PySem.W.km_in_of Y,PySem.W.km_tabs_of Y⟩) ?F ?S ?C
 case F =>
  intro ts' hts w mg fa h KX G hmg
  have T:∃ a,My.Txt (L2.KOf KX) mg a/\(My.tabs a).map (·.1)=ts':=by
   rw[hts];dsimp only[L2.KOf]
   refine' My.txt_mk KX G ?a0 ?l0 ?c0 ?k0 ?a1 ?l1 ?c1 ?k1 ?a2 ?l2 ?c2 ?k2 ?a3 ?l3 ?c3 ?k3 ?a4 ?l4 ?c4 ?k4 ?a5 ?l5 ?c5 ?k5 ?a6 ?l6 ?c6 ?k6 ?a7 ?l7 ?c7 ?k7 ?a8 ?l8 ?c8 ?k8 ?a9 ?l9 ?c9 ?k9 ?a10 ?l10 ?c10 ?k10 ?a11 ?l11 ?c11 ?k11 ?a12 ?l12 ?c12 ?k12 ?a13 ?l13 ?c13 ?k13 ?a14 ?l14 ?c14 ?k14 ?a15 ?l15 ?c15 ?k15 ?a16 ?l16 ?c16 ?k16 ?a17 ?l17 ?c17 ?k17 ?a18 ?l18 ?c18 ?k18 ?a19 ?l19 ?c19 ?k19 ?a20 ?l20 ?c20 ?k20 ?a21 ?l21 ?c21 ?k21 ?a22 ?l22 ?c22 ?k22 ?a23 ?l23 ?c23 ?k23 ?a24 ?l24 ?c24 ?k24 ?a25 ?l25 ?c25 ?k25 ?a26 ?l26 ?c26 ?k26 ?a27 ?l27 ?c27 ?k27 ?a28 ?l28 ?c28 ?k28 ?a29 ?l29 ?c29 ?k29 ?a30 ?l30 ?c30 ?k30 ?a31 ?l31 ?c31 ?k31 ?a32 ?l32 ?c32 ?k32 ?a33 ?l33 ?c33 ?k33 ?a34 ?l34 ?c34 ?k34 ?a35 ?l35 ?c35 ?k35 ?b_NOUGHT ?bt_NOUGHT ?b_WHOLE ?bt_WHOLE ?b0 ?b1 ?ca_ae ?cb_ae ?cc_ae ?cx_ae ?ca_S ?cb_S ?cc_S ?cf_S ?cx_S ?cg_S ?cl_S ?co_S ?ck_S ?cs_NoPlan_place ?ca_am ?cb_am ?cc_am ?cx_am ?ca_L ?cb_L ?cc_L ?cf_L ?cx_L ?cg_L ?cl_L ?co_L ?ck_L ?cs_NoThrow_place ?ca_ai ?pa_ai ?pb_ai ?pc_ai ?pd_ai ?pe_ai ?pf_ai ?pg_ai ?ph_ai ?ca_i ?pa_i ?pb_i ?pc_i ?pd_i ?pe_i ?pf_i ?pg_i ?ph_i ?qa_i ?qb_i ?qc_i ?qd_i ?qn_Told_rising ?cl_i ?co_i ?ck_i ?ca_p ?pa_p ?pb_p ?pc_p ?pd_p ?pe_p ?pf_p ?pg_p ?ph_p ?qa_p ?qb_p ?qc_p ?qd_p ?qn_Die_makes ?cl_p ?co_p ?ck_p ?ca_aj ?pa_aj ?pb_aj ?pc_aj ?pd_aj ?pe_aj ?pf_aj ?pg_aj ?ph_aj ?ca_x ?pa_x ?pb_x ?pc_x ?pd_x ?pe_x ?pf_x ?pg_x ?ph_x ?qa_x ?qb_x ?qc_x ?qd_x ?qn_Few_many ?cl_x ?co_x ?ck_x ?ca_f ?pa_f ?pb_f ?pc_f ?pd_f ?pe_f ?pf_f ?pg_f ?ph_f ?qa_f ?qb_f ?qc_f ?qd_f ?qn_Start_step ?cl_f ?co_f ?ck_f ?ca_g ?pa_g ?pb_g ?pc_g ?pd_g ?pe_g ?pf_g ?pg_g ?ph_g ?qa_g ?qb_g ?qc_g ?qd_g ?qn_Loose_many ?cl_g ?co_g ?ck_g ?ca_l ?pa_l ?pb_l ?pc_l ?pd_l ?pe_l ?pf_l ?pg_l ?ph_l ?qa_l ?qb_l ?qc_l ?qd_l ?qn_Each_inside ?cl_l ?co_l ?ck_l ?ca_c ?pa_c ?pb_c ?pc_c ?pd_c ?pe_c ?pf_c ?pg_c ?ph_c ?qa_c ?qb_c ?qc_c ?qd_c ?qn_First_outside ?qn_First_inside ?cl_c ?co_c ?ck_c ?mf_18 ?ml_18 ?mo_18 ?mk_18 ?mi_18 ?mf_3 ?ml_3 ?mo_3 ?mk_3 ?mi_3 ?mf_19 ?ml_19 ?mo_19 ?mk_19 ?mi_19 ?mf_4 ?ml_4 ?mo_4 ?mk_4 ?mi_4 ?mf_1a ?ml_1a ?mo_1a ?mk_1a ?mi_1a ?mf_5 ?ml_5 ?mo_5 ?mk_5 ?mi_5 ?mf_1 ?ml_1 ?mo_1 ?mk_1 ?mi_1 ?mf_2 ?ml_2 ?mo_2 ?mk_2 ?mi_2 ?mf_b ?ml_b ?mo_b ?mk_b ?mi_b ?mf_16 ?ml_16 ?mo_16 ?mk_16 ?mi_16 ?mf_11 ?ml_11 ?mo_11 ?mk_11 ?mi_11 ?mf_8 ?ml_8 ?mo_8 ?mk_8 ?mi_8 ?mf_e ?ml_e ?mo_e ?mk_e ?mi_e ?mf_a ?ml_a ?mo_a ?mk_a ?mi_a ?mf_15 ?ml_15 ?mo_15 ?mk_15 ?mi_15 ?mf_10 ?ml_10 ?mo_10 ?mk_10 ?mi_10 ?mf_7 ?ml_7 ?mo_7 ?mk_7 ?mi_7 ?mf_d ?ml_d ?mo_d ?mk_d ?mi_d ?lca_e ?lct_e ?lcq_e ?lch_a ?lca_1b ?lct_1b ?lcq_1b ?lch_u ?lca_1e ?lct_1e ?lcq_1e ?lch_b ?lca_1f ?lct_1f ?lcq_1f ?lch_h ?lca_20 ?lct_20 ?lcq_20 ?lch_n ?lca_1c ?lct_1c ?lcq_1c ?lch_j ?lca_1d ?lct_1d ?lcq_1d ?lch_m ?ltnd ?z0 ?z1 ?z2 ?z3 ?z4 ?z5 ?z6 ?z7 ?z8 ?z9 ?z10 ?z11 ?z12 ?z13 ?r0 ?r1
   case a0|l0|c0|k0|a1|l1|c1|k1|a2|l2|c2|k2|a3|l3|c3|k3|a4|l4|c4|k4|a5|l5|c5|k5|a6|l6|c6|k6|a7|l7|c7|k7|a8|l8|c8|k8|a9|l9|c9|k9|a10|l10|c10|k10|a11|l11|c11|k11|a12|l12|c12|k12|a13|l13|c13|k13|a14|l14|c14|k14|a15|l15|c15|k15|a16|l16|c16|k16|a17|l17|c17|k17|a18|l18|c18|k18|a19|l19|c19|k19|a20|l20|c20|k20|a21|l21|c21|k21|a22|l22|c22|k22|a23|l23|c23|k23|a24|l24|c24|k24|a25|l25|c25|k25|a26|l26|c26|k26|a27|l27|c27|k27|a28|l28|c28|k28|a29|l29|c29|k29|a30|l30|c30|k30|a31|l31|c31|k31|a32|l32|c32|k32|a33|l33|c33|k33|a34|l34|c34|k34|a35|l35|c35|k35|b_NOUGHT =>k_is
   case bt_NOUGHT =>kernel_rfl
   case b_WHOLE =>k_is
   case bt_WHOLE =>kernel_rfl
   case b0|b1|ca_ae|cb_ae =>k_is
   case cc_ae|cx_ae =>kernel_rfl
   case ca_S|cb_S =>k_is
   case cc_S =>kernel_rfl
   case cf_S =>k_is
   case cx_S =>kernel_rfl
   case cg_S|cl_S|co_S|ck_S =>k_is
   case cs_NoPlan_place =>kernel_rfl
   case ca_am|cb_am =>k_is
   case cc_am|cx_am =>kernel_rfl
   case ca_L|cb_L =>k_is
   case cc_L =>kernel_rfl
   case cf_L =>k_is
   case cx_L =>kernel_rfl
   case cg_L|cl_L|co_L|ck_L =>k_is
   case cs_NoThrow_place =>kernel_rfl
   case ca_ai =>k_is
   case pa_ai|pb_ai|pc_ai|pd_ai|pe_ai|pf_ai|pg_ai|ph_ai =>(first | k_is | kernel_rfl)
   case ca_i =>k_is
   case pa_i|pb_i|pc_i|pd_i|pe_i|pf_i|pg_i|ph_i|qa_i|qb_i|qc_i|qd_i|qn_Told_rising =>(first | k_is | kernel_rfl)
   case cl_i|co_i|ck_i|ca_p =>k_is
   case pa_p|pb_p|pc_p|pd_p|pe_p|pf_p|pg_p|ph_p|qa_p|qb_p|qc_p|qd_p|qn_Die_makes =>(first | k_is | kernel_rfl)
   case cl_p|co_p|ck_p|ca_aj =>k_is
   case pa_aj|pb_aj|pc_aj|pd_aj|pe_aj|pf_aj|pg_aj|ph_aj =>(first | k_is | kernel_rfl)
   case ca_x =>k_is
   case pa_x|pb_x|pc_x|pd_x|pe_x|pf_x|pg_x|ph_x|qa_x|qb_x|qc_x|qd_x|qn_Few_many =>(first | k_is | kernel_rfl)
   case cl_x|co_x|ck_x|ca_f =>k_is
   case pa_f|pb_f|pc_f|pd_f|pe_f|pf_f|pg_f|ph_f|qa_f|qb_f|qc_f|qd_f|qn_Start_step =>(first | k_is | kernel_rfl)
   case cl_f|co_f|ck_f|ca_g =>k_is
   case pa_g|pb_g|pc_g|pd_g|pe_g|pf_g|pg_g|ph_g|qa_g|qb_g|qc_g|qd_g|qn_Loose_many =>(first | k_is | kernel_rfl)
   case cl_g|co_g|ck_g|ca_l =>k_is
   case pa_l|pb_l|pc_l|pd_l|pe_l|pf_l|pg_l|ph_l|qa_l|qb_l|qc_l|qd_l|qn_Each_inside =>(first | k_is | kernel_rfl)
   case cl_l|co_l|ck_l|ca_c =>k_is
   case pa_c|pb_c|pc_c|pd_c|pe_c|pf_c|pg_c|ph_c|qa_c|qb_c|qc_c|qd_c|qn_First_outside|qn_First_inside =>(first | k_is | kernel_rfl)
   case cl_c|co_c|ck_c =>k_is
   case mf_18 =>(first | k_is | kernel_rfl)
   case ml_18|mo_18|mk_18 =>k_is
   case mi_18|mf_3 =>(first | k_is | kernel_rfl)
   case ml_3|mo_3|mk_3 =>k_is
   case mi_3|mf_19 =>(first | k_is | kernel_rfl)
   case ml_19|mo_19|mk_19 =>k_is
   case mi_19|mf_4 =>(first | k_is | kernel_rfl)
   case ml_4|mo_4|mk_4 =>k_is
   case mi_4|mf_1a =>(first | k_is | kernel_rfl)
   case ml_1a|mo_1a|mk_1a =>k_is
   case mi_1a|mf_5 =>(first | k_is | kernel_rfl)
   case ml_5|mo_5|mk_5 =>k_is
   case mi_5|mf_1 =>(first | k_is | kernel_rfl)
   case ml_1|mo_1|mk_1 =>k_is
   case mi_1|mf_2 =>(first | k_is | kernel_rfl)
   case ml_2|mo_2|mk_2 =>k_is
   case mi_2|mf_b =>(first | k_is | kernel_rfl)
   case ml_b|mo_b|mk_b =>k_is
   case mi_b|mf_16 =>(first | k_is | kernel_rfl)
   case ml_16|mo_16|mk_16 =>k_is
   case mi_16|mf_11 =>(first | k_is | kernel_rfl)
   case ml_11|mo_11|mk_11 =>k_is
   case mi_11|mf_8 =>(first | k_is | kernel_rfl)
   case ml_8|mo_8|mk_8 =>k_is
   case mi_8|mf_e =>(first | k_is | kernel_rfl)
   case ml_e|mo_e|mk_e =>k_is
   case mi_e|mf_a =>(first | k_is | kernel_rfl)
   case ml_a|mo_a|mk_a =>k_is
   case mi_a|mf_15 =>(first | k_is | kernel_rfl)
   case ml_15|mo_15|mk_15 =>k_is
   case mi_15|mf_10 =>(first | k_is | kernel_rfl)
   case ml_10|mo_10|mk_10 =>k_is
   case mi_10|mf_7 =>(first | k_is | kernel_rfl)
   case ml_7|mo_7|mk_7 =>k_is
   case mi_7|mf_d =>(first | k_is | kernel_rfl)
   case ml_d|mo_d|mk_d =>k_is
   case mi_d =>(first | k_is | kernel_rfl)
   case lca_e =>exact rfl
   case lct_e =>k_is
   case lcq_e =>exact rfl
   case lch_a =>kernel_rfl
   case lca_1b =>exact rfl
   case lct_1b =>k_is
   case lcq_1b =>exact rfl
   case lch_u =>kernel_rfl
   case lca_1e =>exact rfl
   case lct_1e =>k_is
   case lcq_1e =>exact rfl
   case lch_b =>kernel_rfl
   case lca_1f =>exact rfl
   case lct_1f =>k_is
   case lcq_1f =>exact rfl
   case lch_h =>kernel_rfl
   case lca_20 =>exact rfl
   case lct_20 =>k_is
   case lcq_20 =>exact rfl
   case lch_n =>kernel_rfl
   case lca_1c =>exact rfl
   case lct_1c =>k_is
   case lcq_1c =>exact rfl
   case lch_j =>kernel_rfl
   case lca_1d =>exact rfl
   case lct_1d =>k_is
   case lcq_1d =>exact rfl
   case lch_m =>kernel_rfl
   case ltnd =>decide
   case z0|z1|z2|z3|z4|z5|z6|z7|z8|z9|z10|z11|z12|z13 =>k_is
   case r0|r1 =>first | exact rfl | exact⟨_,rfl⟩
  obtain⟨a,T,e1⟩:=T;have e1:=e1.trans hts;have e0:=hmg.symm.trans T.m_ap;cases e0;refine' ⟨a.d_ap,?b,?t,?u,λbase kb nb hB=>My.ok_law T hB ?v⟩
  case b=>exact T.bl
  case t =>
   intro P hP;have hP:=e1.symm ▸ hP;simp only[My.tabs,map_cons,map_nil,mem_cons,not_mem_nil,or_false]at hP
   rcases hP with rfl | rfl | rfl | rfl | rfl | rfl | rfl
   .exact⟨_,T.lch_a⟩
   .exact⟨_,T.lch_u⟩
   .exact⟨_,T.lch_b⟩
   .exact⟨_,T.lch_h⟩
   .exact⟨_,T.lch_n⟩
   .exact⟨_,T.lch_j⟩
   .exact⟨_,T.lch_m⟩
  case u =>
   intro P hP;simp only[mem_cons,not_mem_nil,or_false]at hP
   rcases hP with rfl | rfl | rfl | rfl | rfl | rfl | rfl <;> kernel_rfl
  case v =>
   intro q hq;rw[<- e1];exact List.mem_map_of_mem hq
 case S=>exact λK H a ns hl hO hS=>My.law_start hl hO hS
 case C=>exact λH s e s' z=>z
