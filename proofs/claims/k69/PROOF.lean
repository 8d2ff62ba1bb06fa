import PyProof.Rows.All
import Wide.All
import OpenK.AllK
import Wide.FinOn
import Lean
import PyProof.EqAt
import PyProof.EqKinds
import PyProof.TupleCall
import PySem.Challenge.RW_fewspeak_k69_whole_poured_in_any_order
open PySem.W(CodeHd FnAt Frag InstAt any_some callWith_K callWith_K0 cellsFrom_some clsIn codeHdIn codeHd_of_K codeIn codeRec_of emptyDict findIn fnOf handedIn hasDictIn instObj isFn keepIn kitOne kitx_dict kitx_list kitx_tuple kla_fn kla_obj lookIn looks_clsIn looks_findIn looks_mroIn makesIn methodCall_KW methodObj mg_none_of mg_of mroIn nsIn nsOkIn osa_eq plainGet plainGet_of plainOver specialIn tabObj tailIn takerIn takesIn typeIn)
open List(all_cons all_eq_true all_map all_toArray any_cons append_assoc append_nil cons_append filter_append filter_cons foldl_cons getElem_map getElem_mem getElem_set length_append length_cons length_filter_le length_map length_nil length_pos_of_mem length_range length_set length_singleton length_take lookup_cons mapM_toArray map_append map_congr_left map_cons map_id map_map map_nil mem_append mem_append_left mem_append_right mem_cons mem_cons_of_mem mem_cons_self mem_filter mem_flatMap mem_iff_getElem mem_map mem_range mem_singleton nodup_append nodup_cons nodup_nil nodup_range not_mem_nil of_mem_zip pairwise_cons pairwise_iff_getElem pairwise_map size_toArray sum_append sum_cons sum_nil take_add_one take_length take_of_length_le take_zero)
noncomputable section
set_option Elab.async false
set_option linter.all false
set_option maxRecDepth 100000
namespace L2
open PySem PySem.Spec PyProof.Rows
abbrev Key:=Sum Int Str
def kr:Key->Value->Bool
 | .inl k,v=>Value.isInt k v
 | .inr x,v=>Value.isStrOf x v
def Cu(w:World):Key->Int
 | .inl k=>hashInt k
 | .inr x=>hashStr w x
theorem bP:∀{k:Key}{v:Value},kr k v=true->(∃ i t,k=Sum.inl i/\v=Value.int i t)\/(∃ x t,k=Sum.inr x/\v=Value.str x t)
 | .inl i,v,h=>by
  obtain⟨t,e⟩:=Value.isInt_shape (k:=i) (v:=v) h;exact .inl ⟨i,t,rfl,e⟩
 | .inr x,v,h=>by
  obtain⟨t,e⟩:=Value.isStrOf_shape (x:=x) (v:=v) h;exact .inr ⟨x,t,rfl,e⟩
theorem sS(i:Int)(t:Tok):kr (.inl i) (.int i t)=true:=by simp[kr,Value.isInt]
theorem tq(x:Str)(t:Tok):kr (.inr x) (.str x t)=true:=by simp[kr,Value.isStrOf]
theorem zn(a b:Int):decide ((Sum.inl a:Key)=Sum.inl b)=(a == b):=by
 by_cases e:a=b
 .subst e;simp
 .have h:¬(Sum.inl a:Key)=Sum.inl b:=λq=>e (Sum.inl.inj q)
  rw[decide_eq_false h];exact(beq_eq_false_iff_ne.mpr e).symm
theorem As(a b:Str):decide ((Sum.inr a:Key)=Sum.inr b)=decide (a=b):=by
 by_cases e:a=b
 .subst e;simp
 .have h:¬(Sum.inr a:Key)=Sum.inr b:=λq=>e (Sum.inr.inj q)
  rw[decide_eq_false h,decide_eq_false e]
theorem zU(a:Int)(b:Str):decide ((Sum.inl a:Key)=Sum.inr b)=false:=decide_eq_false (λq=>nomatch q)
theorem zI(a:Str)(b:Int):decide ((Sum.inr a:Key)=Sum.inl b)=false:=decide_eq_false (λq=>nomatch q)
def aO(prog:Program)(w:World):PySem.KeyKind prog w Key where
 is:=kr
 hash:=Cu w
 inj:=λv a b ha hb=>by
  rcases bP ha with⟨i,t,rfl,rfl⟩ | ⟨x,t,rfl,rfl⟩
  .rcases bP hb with⟨j,u,rfl,e⟩ | ⟨y,u,rfl,e⟩
   .injection e with e1 _;rw[e1]
   .exact nomatch e
  .rcases bP hb with⟨j,u,rfl,e⟩ | ⟨y,u,rfl,e⟩
   .exact nomatch e
   .injection e with e1 _;rw[e1]
 byValue:=λk v h=>by
  rcases bP h with⟨i,t,rfl,rfl⟩ | ⟨x,t,rfl,rfl⟩ <;> rfl
 pyHash:=λhv h=>by
  rcases bP hv with⟨i,t,rfl,rfl⟩ | ⟨x,t,rfl,rfl⟩
  .exact wpAny_pyHash_int h
  .exact wpAny_pyHash_str h
 eqBool:=λhu hv h=>by
  rcases bP hu with⟨i,t,rfl,rfl⟩ | ⟨x,t,rfl,rfl⟩
  .rcases bP hv with⟨j,u,rfl,rfl⟩ | ⟨y,u,rfl,rfl⟩
   .rw[zn]at h;exact wpAny_eqBool_int h
   .rw[zU]at h;exact SeqAt.EqAt.int_str i t y u _ _ _ _ h
  .rcases bP hv with⟨j,u,rfl,rfl⟩ | ⟨y,u,rfl,rfl⟩
   .rw[zI]at h;exact SeqAt.EqAt.str_int x t j u _ _ _ _ h
   .rw[As]at h;exact wpAny_eqBool_str h
 «strs»:=λk x t v h=>by
  rcases bP h with⟨i,u,rfl,e⟩ | ⟨y,u,rfl,e⟩
  .exact nomatch e
  .injection e with e1 _
   subst e1
   cases v <;> rfl
theorem mF(prog:Program)(w:World)(i:Int)(t:Tok):(aO prog w).is (.inl i) (.int i t)=true:=sS i t
theorem nZ(prog:Program)(w:World)(x:Str)(t:Tok):(aO prog w).is (.inr x) (.str x t)=true:=tq x t
inductive V where
 | non | bl (b:Bool) | int (i:Int) | str (x:Str) | byt (b:Array UInt8) | flt (b:UInt64) | ref (a:Addr) | ty (n:String)
 deriving DecidableEq
def RelV:V->Value->Prop
 | .non,u=>u=Value.none
 | .bl b,u=>u=Value.bool b
 | .int i,u=>∃ t,u=Value.int i t
 | .str x,u=>∃ t,u=Value.str x t
 | .byt b,u=>∃ t,u=Value.bytes b t
 | .flt b,u=>∃ t,u=Value.float b t
 | .ref a,u=>u=Value.ref a
 | .ty n,u=>u=Value.type n
abbrev Vals:List V->List Value->Prop:=Paired RelV
theorem Vals.length{xs:List V}{us:List Value}(r:Vals xs us):xs.length=us.length:=Paired.length r
theorem Vals.get:∀{xs:List V}{us:List Value}{i:Nat}{x:V},Vals xs us->xs[i]? = some x->∃ u,us[i]? = some u/\RelV x u
 | _,_,_,_,.nil,e=>by simp at e
 | _,_,0,_,.cons r _,e=>by simp at e;subst e;exact⟨_,rfl,r⟩
 | _,_,i+1,x,.cons _ t,e=>by
  obtain⟨u,b,a⟩:=Vals.get (i:=i) (x:=x) t (by simpa using e);exact⟨u,by simpa using b,a⟩
theorem Vals.append:∀{xs ys:List V}{us ws:List Value},Vals xs us->Vals ys ws->Vals (xs++ys) (us++ws)
 | _,_,_,_,.nil,s=>s
 | _,_,_,_,.cons r t,s=>.cons r (Vals.append t s)
theorem Vals.take:∀{xs:List V}{us:List Value}(n:Nat),Vals xs us->Vals (xs.take n) (us.take n)
 | _,_,0,_=>.nil
 | _,_,_+1,.nil=>.nil
 | _,_,n+1,.cons r t=>.cons r (Vals.take n t)
theorem Vals.drop:∀{xs:List V}{us:List Value}(n:Nat),Vals xs us->Vals (xs.drop n) (us.drop n)
 | _,_,0,r=>r
 | _,_,_+1,.nil=>.nil
 | _,_,n+1,.cons _ t=>Vals.drop n t
def RelO:Option V->Option Value->Prop
 | some v,some u=>RelV v u
 | none,none=>True
 | _,_=>False
def KV{κ:Type}:List (κ×V)->List (κ×Value)->Prop:=Paired λ(p:κ×V) (q:κ×Value)=>p.1=q.1/\RelV p.2 q.2
def kV:Key->V
 | .inl i=>.int i
 | .inr x=>.str x
inductive HO where
 | lst (xs:List V)
 | tup (xs:List V)
 | dK (kvs:List (Key×V)) | dT (kvs:List (List Key×V))
 | set (S:Int->Bool) (n:Nat)
 | ins (C dx:Addr) (fs:List (Str×V))
 | own (x:Addr)
 | xd (fs:List (Str×V))
 | met (f x:Addr)
 | rng (lo hi:Int)
 | frz (o:Obj) (u:HO)
 | tbl (ps:Array Value)
 | ext (φ:Heap->Prop)
abbrev Hp:=Addr->Option HO
def upd(H:Hp)(a:Addr)(o:HO):Hp:=λb=>if b=a then some o else H b
theorem ad{H:Hp}{a:Addr}{o:HO}:upd H a o a=some o:=by unfold upd;rw[if_pos rfl]
theorem af{H:Hp}{a b:Addr}{o:HO}(h:b≠a):upd H a o b=H b:=by unfold upd;rw[if_neg h]
theorem xS{H:Hp}{a:Addr}{o u:HO}:upd (upd H a o) a u=upd H a u:=by
 funext b;unfold upd;split <;> rfl
theorem fZ{H:Hp}{a b:Addr}{o u:HO}(h:H a=some o)(h':H b=some u)(d:o≠u):a≠b:=by
 intro e;subst e;rw[h]at h';exact d (Option.some.inj h')
theorem ay{H:Hp}{a b:Addr}{o:HO}(h:H a=some o)(h':H b=none):a≠b:=by
 intro e;subst e;rw[h]at h';cases h'
section
variable (P:Program) (w:World)
def ObjOk(H:Hp)(h:Heap)(a:Addr):HO->Prop
 | .lst xs=>xs.length<=sizeLine/\∃(its:List Value) (n:Nat),Vals xs its/\h.get? a=some { cls:=.type "list",data:=.seq its.toArray n }
 | .tup xs=>xs.length<=sizeLine/\∃ its:List Value,Vals xs its/\IsTup h a its.toArray
 | .dK kvs=>kvs.length<=sizeLine/\(a == sysModules)=false/\∃ vs,KV kvs vs/\h.DictOf (aO P w) a vs
 | .dT kvs=>kvs.length<=sizeLine/\(a == sysModules)=false/\∃ xs:List (List Key×Addr×Value),
   Paired (λ(p:List Key×V) (q:List Key×Addr×Value)=>p.1=q.1/\H q.2.1=some (.tup (p.1.map kV))/\RelV p.2 q.2.2) kvs xs /\
   ∃ o es ep,h.get? a=some o/\o.ExactDict/\o.data=.dict es ep/\es.toList=xs.map (entryOfKey (tupleKind (aO P w)))/\(xs.map (·.1)).Nodup
 | .set S n=>h.SetOf (intKind P w) a S n
 | .ins C dx fs=>H dx=some (.own a)/\fs.length<=1000/\dx≠a/\h.get? a=some (instObj C dx) /\
   ∃ mA,h.Ns1 dx mA/\(∀ f,RelO (fs.lookup f) (mA f))/\PySem.Within mA (fs.map (·.1))
 | .own _=>∃ o,h.get? a=some o
 | .xd fs=>∃ mA,h.Ns1 a mA/\∀ f,RelO (fs.lookup f) (mA f)
 | .rng lo hi=>∃ t u v,h.get? a=some { cls:=.type "range",data:=.fields #[.int lo t,.int hi u,.int 1 v] }
 | .frz o u=>h.get? a=some o/\ObjOk H h a u
 | .tbl ps=>h.get? a=some { cls:=.none,data:=.fields ps }
 | .met f x=>h.get? a=some (methodObj (.ref f) (.ref x))
 | .ext φ=>φ h/\(∃ o,h.get? a=some o)/\∀ h1 h2:Heap,φ h1->(∀ o,h1.get? a=some o->h2.get? a=some o)->φ h2
def HOk(H:Hp)(h:Heap):Prop:=∀ a o,H a=some o->ObjOk P w H h a o
end
section
variable {P:Program}{w:World}{H H':Hp}{h h':Heap}{a:Addr}{o:HO}
theorem ObjOk.lt(x:ObjOk P w H h a o):a<h.objs.size:=by
 cases o with
 | lst xs=>obtain⟨_,_,_,_,e⟩:=x;exact Heap.lt_size e
 | tup xs=>obtain⟨_,_,_,p⟩:=x;exact p.lt
 | dK kvs=>obtain⟨_,_,_,_,o,_,_,e,_⟩:=x;exact Heap.lt_size e
 | dT kvs=>obtain⟨_,_,_,_,o,_,_,e,_⟩:=x;exact Heap.lt_size e
 | set S n=>obtain⟨o,_,_,_,e,_⟩:=x;exact Heap.lt_size e
 | ins C dx fs=>obtain⟨_,_,_,e,_⟩:=x;exact Heap.lt_size e
 | own y=>obtain⟨_,e⟩:=x;exact Heap.lt_size e
 | xd fs=>obtain⟨_,⟨_,_,_,e,_⟩,_⟩:=x;exact Heap.lt_size e
 | rng lo hi=>obtain⟨_,_,_,e⟩:=x;exact Heap.lt_size e
 | frz ob u=>obtain⟨e,_⟩:=x;exact Heap.lt_size e
 | tbl ps=>exact Heap.lt_size (show h.get? a=some _ from x)
 | met f y=>exact Heap.lt_size (show h.get? a=some _ from x)
 | ext φ=>obtain⟨_,⟨_,e⟩,_⟩:=x;exact Heap.lt_size e
theorem Paired.mapP{c d:Type}{F G:c->d->Prop}:∀{l₁:List c}{l₂:List d},Paired F l₁ l₂->(∀ a b,F a b->G a b)->Paired G l₁ l₂
 | _,_,.nil,_=>.nil
 | _,_,.cons r t,f=>.cons (f _ _ r) (Paired.mapP t f)
theorem ObjOk.stay(x:ObjOk P w H h a o)(k:∀ b u,(b=a\/H b=some (.own a))->h.get? b=some u->h'.get? b=some u)
  (F:∀ b,H b=some (.own a)->H' b=some (.own a)) (I:∀ b xs,H b=some (.tup xs)->H' b=some (.tup xs)):ObjOk P w H' h' a o:=by
 induction o with
 | lst xs=>obtain⟨z,l,n,r,e⟩:=x;exact⟨z,l,n,r,k _ _ (.inl rfl) e⟩
 | tup xs=>obtain⟨z,l,r,g,e,c⟩:=x;exact⟨z,l,r,g,k _ _ (.inl rfl) e,c⟩
 | dK kvs=>obtain⟨z,y,D,r,g,i,j,e,c⟩:=x;exact⟨z,y,D,r,g,i,j,k _ _ (.inl rfl) e,c⟩
 | dT kvs =>
  obtain⟨z,y,xs,r,g,i,j,e,c⟩:=x;exact⟨z,y,xs,Paired.mapP r λp q z=>⟨z.1,I _ _ z.2.1,z.2.2⟩,g,i,j,k _ _ (.inl rfl) e,c⟩
 | set S n=>obtain⟨g,i,j,t,e,c⟩:=x;exact⟨g,i,j,t,k _ _ (.inl rfl) e,c⟩
 | ins C dx fs =>
  obtain⟨d,z,G,e,A,⟨s,i,j,E,c⟩,r⟩:=x;exact⟨F _ d,z,G,k _ _ (.inl rfl) e,A,⟨s,i,j,k _ _ (.inr d) E,c⟩,r⟩
 | own y=>obtain⟨g,e⟩:=x;exact⟨g,k _ _ (.inl rfl) e⟩
 | xd fs=>obtain⟨A,⟨s,i,j,e,c⟩,r⟩:=x;exact⟨A,⟨s,i,j,k _ _ (.inl rfl) e,c⟩,r⟩
 | rng lo hi=>obtain⟨t,u,v,e⟩:=x;exact⟨t,u,v,k _ _ (.inl rfl) e⟩
 | frz g u ih=>obtain⟨e,q⟩:=x;exact⟨k _ _ (.inl rfl) e,ih q⟩
 | tbl ps =>
  have e:h.get? a=some { cls:=.none,data:=.fields ps }:=x;show h'.get? a=some { cls:=.none,data:=.fields ps };exact k a _ (.inl rfl) e
 | met f y =>
  have e:h.get? a=some (methodObj (.ref f) (.ref y)):=x;show h'.get? a=some (methodObj (.ref f) (.ref y));exact k a _ (.inl rfl) e
 | ext φ=>obtain⟨p,⟨o,e⟩,B⟩:=x;exact⟨B _ _ p λo q=>k _ _ (.inl rfl) q,⟨o,k _ _ (.inl rfl) e⟩,B⟩
theorem HOk.lt(x:HOk P w H h)(e:H a=some o):a<h.objs.size:=(x a o e).lt
theorem HOk.fresh(x:HOk P w H h)(e:h.objs.size<=a):H a=none:=by
 cases q:H a with
 | none=>rfl
 | some u=>exact absurd (Nat.lt_of_lt_of_le (x.lt q) e) (Nat.lt_irrefl _)
theorem HOk.kept(x:HOk P w H h)(k:∀ b u,h.get? b=some u->h'.get? b=some u):HOk P w H h':=λa o e =>
 (x a o e).stay (λb u _ q=>k b u q) (λ_ q=>q) λ_ _ q=>q
theorem HOk.laid(x:HOk P w H h)(k:∀ b u,h.get? b=some u->h'.get? b=some u)(g:h.objs.size<=a)(d:ObjOk P w (upd H a o) h' a o):HOk P w (upd H a o) h':=λb u e=>by
 have f:=x.fresh g
 by_cases hb:b=a
 .subst hb;rw[ad]at e;cases e;exact d
 .rw[af hb]at e
  exact(x b u e).stay (λc v _ q=>k c v q) (λc q=>by rw[af (ay q f)];exact q) λc xs q=>by rw[af (ay q f)];exact q
end
def Rd(H:Hp)(a:Addr)(u:HO):Prop:=H a=some u\/∃ o,H a=some (.frz o u)
theorem Rd.ok{P:Program}{w:World}{H:Hp}{h:Heap}{a:Addr}{u:HO}(r:Rd H a u)(x:HOk P w H h):ObjOk P w H h a u:=by
 rcases r with r | ⟨o,r⟩
 .exact x a u r
 .obtain⟨_,q⟩:=x a _ r
  exact q
def Mut:Option HO->Prop
 | some (.lst _)=>True
 | some (.dK _)=>True
 | some (.dT _)=>True
 | some (.set _ _)=>True
 | some (.ins _ _ _)=>True
 | some (.ext _)=>True
 | _=>False
section
variable {P:Program}{w:World}{H:Hp}{h h':Heap}{x e:Addr}{o':HO}
theorem HOk.write(o:HOk P w H h)(g:Mut (H x))(l:e=x\/H e=some (.own x))(k:∀ b u,b≠e->h.get? b=some u->h'.get? b=some u)(j:∃ u,h'.get? e=some u)
  (i:ObjOk P w (upd H x o') h' x o'):HOk P w (upd H x o') h':=λb u q=>by
 have a:∀ c y,H c=some (.own y)->c≠x:=λc y r z=>by subst z;rw[r]at g;exact g
 have d:∀ c f,H c=some (.tup f)->c≠x:=λc f r z=>by subst z;rw[r]at g;exact g
 by_cases hb:b=x
 .subst hb;rw[ad]at q;cases q;exact i
 .rw[af hb]at q
  by_cases hbe:b=e
  .have n:H b=some (.own x):=by
    rcases l with z | z
    .exact absurd (hbe.trans z) hb
    .rw[hbe];exact z
   rw[q]at n;cases n;obtain⟨v,p⟩:=j;exact⟨v,by rw[hbe];exact p⟩
  .refine(o b u q).stay (λc v hc r=>k c v ?_ r) (λc r=>by rw[af (a c b r)];exact r) λc f r=>by rw[af (d c f r)];exact r
   rcases hc with rfl | hc
   .exact hbe
   .rintro rfl
    rcases l with z | z
    .exact a c b hc z
    .rw[hc]at z;cases z;exact hb rfl
end
structure Un(fs ex:List Addr)(H H':Hp)(h h':Heap):Prop where
 keep:∀ b o,h.get? b=some o->H b=none->b ∉ fs->b ∉ ex->h'.get? b=some o
 slot:∀ b o,h.get? b=some o->H b=none->b∈fs->b ∉ ex->∃ sl,h'.get? b=some { o with slots:=sl }
 free:∀ b o,h.get? b=some o->H b=none->b ∉ ex->H' b=none
 there:∀ b o,h.get? b=some o->b ∉ ex->∃ o',h'.get? b=some o'
 tups:∀ b xs,H b=some (.tup xs)->H' b=some (.tup xs)
 frzs:∀ b o u,H b=some (.frz o u)->H' b=some (.frz o u)
 tbls:∀ b ps,H b=some (.tbl ps)->∃ more,H' b=some (.tbl (ps++more))
section
variable {fs fs' ex ex':List Addr}{H H1 H2:Hp}{h h1 h2 h':Heap}{a x e:Addr}{o:HO}
theorem Un.any(u:Un fs ex H H1 h h1){b:Addr}{ob:Obj}(q:h.get? b=some ob)(n:H b=none)(a:b ∉ ex):∃ sl,h1.get? b=some { ob with slots:=sl }:=by
 by_cases hb:b∈fs
 .exact u.slot b ob q n hb a
 .exact⟨ob.slots,u.keep b ob q n hb a⟩
theorem Un.kept(k:∀ b u,h.get? b=some u->h'.get? b=some u):Un fs ex H H h h' :=
 ⟨λb a q _ _ _=>k b a q,λb a q _ _ _=>⟨a.slots,k b a q⟩,λ_ _ _ n _=>n,λb a q _=>⟨a,k b a q⟩,λ_ _ q=>q,λ_ _ _ q=>q,λ_ ps q=>⟨#[],by rw[q];simp⟩⟩
theorem Un.refl:Un fs ex H H h h:=Un.kept λ_ _ q=>q
theorem Un.laid(k:∀ b u,h.get? b=some u->h'.get? b=some u)(f:h.objs.size<=a)(c:H a=none):Un fs ex H (upd H a o) h h' where
 keep:=λb u q _ _ _=>k b u q
 slot:=λb u q _ _ _=>⟨u.slots,k b u q⟩
 free:=λb u q n _=>by rw[af (Nat.ne_of_lt (Nat.lt_of_lt_of_le (Heap.lt_size q) f))];exact n
 there:=λb u q _=>⟨u,k b u q⟩
 tups:=λb d q=>by rw[af (ay q c)];exact q
 frzs:=λb u d q=>by rw[af (ay q c)];exact q
 tbls:=λb g q=>⟨#[],by rw[af (ay q c),q];simp⟩
theorem Un.write(a:Mut (H x))(l:e=x\/H e=some (.own x))(k:∀ b u,b≠e->h.get? b=some u->h'.get? b=some u)(d:∃ u,h'.get? e=some u):Un fs ex H (upd H x o) h h':=by
 have g:∀ b,H b=none->b≠x:=λb n z=>by subst z;rw[n]at a;exact a
 have f:∀ b,H b=none->b≠e:=λb n z=>by
  subst z
  rcases l with r | r
  .exact g b n r
  .rw[n]at r;cases r
 have c:∀ b u,H b=some u->¬Mut (some u)->b≠x:=λb u q j z=>by subst z;rw[q]at a;exact j a
 refine⟨λb u q n _ _=>k b u (f b n) q,λb u q n _ _=>⟨u.slots,k b u (f b n) q⟩,λb u q n _=>by rw[af (g b n)];exact n,λb u q _=>?_,
  λb i q=>by rw[af (c b _ q λz=>z)];exact q,λb u i q=>by rw[af (c b _ q λz=>z)];exact q,λb ps q=>⟨#[],by rw[af (c b _ q λz=>z),q];simp⟩⟩
 by_cases hbe:b=e
 .subst hbe;exact d
 .exact⟨u,k b u hbe q⟩
end
def trk(h:Heap)(H:Hp):List Addr:=(List.range h.objs.size).filter λa=>(H a).isSome
def j2(h:Heap)(H:Hp):Heap:=PySem.W.hideAll h (trk h H)
theorem tP(h:Heap)(H:Hp):(j2 h H).objs.size=h.objs.size:=PySem.W.hideAll_size _ _
theorem uC{h:Heap}{H:Hp}{b:Addr}{o:Obj}(e:h.get? b=some o)(n:H b=none):(j2 h H).get? b=some o :=
 PySem.W.hideAll_get _ e λa=>by
  have q:(H b).isSome=true:=(mem_filter.mp a).2;rw[n]at q;simp at q
theorem wK{h:Heap}{H:Hp}{b:Addr}{o:Obj}(e:(j2 h H).get? b=some o):h.get? b=some o/\H b=none:=by
 have a:h.get? b=some o:=PySem.W.of_hideAll (trk h H) e;refine⟨a,?_⟩;cases q:H b with
 | none=>rfl
 | some x =>
  have c:b∈trk h H:=mem_filter.mpr ⟨mem_range.mpr (Heap.lt_size a),by simp[q]⟩;have z:(j2 h H).get? b=none:=PySem.W.hideAll_none (trk h H) c;rw[z]at e;cases e
def wV(g h:Heap)(L:Addr):List (Addr×Obj):=(List.range h.objs.size).filterMap λa=>if a=L\/(g.get? a).isSome=true then none else (h.get? a).map λo=>(a,o)
def rest(g h:Heap)(L d:Addr):List (Addr×Obj):=(wV g h L).filter λp=>decide (p.1≠d)
structure Mod(K:Frag)(mg:Str->Option Value)(base:Heap):Prop where
 kin:K.In base
 glob:base.Ns mainGlobals mg
 blt:∃ mb,base.Ns builtinsNs mb/\∀ x:Str,x ≠ "__name__" -> mb x=bootBuiltins x
 nolimit:base.NoLimit
structure Cx where
 prog:Program
 w:World
 K:Frag
 mg:Str->Option Value
 base:Heap
 A:Around
 N:List Str
 s₀:Shared
 H₀:Hp
 env:Env
 outer:List Env
 stack:List Env
 ex:List Addr
 fn:Str->Bool
 calm:Bool
 pn:List (Addr×Obj)
 xe:Value->Shared->Prop
def frs(l:List Env):List Addr:=l.filterMap (·.frame)
abbrev Cx.fs(X:Cx):List Addr:=frs X.outer
def Vis(sc:Scope)(x:Str):Prop:=sc.names.lookup x = some .local\/sc.names.lookup x = some .cell\/sc.names.lookup x = some .free
def Loc(sc:Scope)(x:Str):Prop:=sc.names.lookup x = some .local\/sc.names.lookup x = some .cell
def Cp(env:Env)(h:Heap)(m:Str->Option Value)(x:Str)(u:Value):Prop :=
 (env.kindOf x = some .local/\m x = some u)\/((env.kindOf x = some .cell\/env.kindOf x = some .free)/\∃ c,env.cells.lookup x = some c/\h.IsCell c (some u))
structure Cx.Ok(X:Cx):Prop where
 mod:Mod X.K X.mg X.base
 kind:X.env.scope.kind=.function
 glob:X.env.globals=mainGlobals
 blt:X.env.builtins=builtinsNs
 above:X.s₀.heap.objs.size<=X.env.locals
 inj:∀ x y c,X.env.cells.lookup x=some c->X.env.cells.lookup y=some c->x=y
 has:∀ x,(X.env.kindOf x=some .cell\/X.env.kindOf x=some .free)->∃ c,X.env.cells.lookup x=some c
 cab:∀ x c,X.fn x=true->X.env.cells.lookup x=some c->X.s₀.heap.objs.size<=c
 hd:X.calm=true->X.A.handled=none
 frames:X.A.frames=some X.stack
 stk:X.stack = X.outer\/(X.stack = X.env :: X.outer/\X.env.frame = some X.env.locals)
 exf:∀ b ∈ X.ex,b≠X.env.locals/\∀ x c,X.env.cells.lookup x = some c->c≠b
 bs:∀ b o,X.base.get? b=some o->X.s₀.heap.get? b=some o/\X.H₀ b=none
 bsz:X.base.objs.size<=X.s₀.heap.objs.size
 noex:∀ b o,X.base.get? b=some o->b ∉ X.ex
 exfs:∀ b∈X.ex,b ∉ X.fs
 funs:X.s₀.heap.FunFrames X.base X.outer
 frf:∀ b∈X.fs,X.H₀ b=none
structure Inv(X:Cx)(pins:List (Addr×Obj))(σ:List (Option V))(H:Hp)(s:Shared):Prop where
 ok:X.Ok
 os:s.os=X.s₀.os
 bare:AllBare s.gens
 base:Un X.fs X.ex X.H₀ H X.s₀.heap s.heap
 loc:∃ m,s.heap.Ns X.env.locals m/\∀(i:Nat) (x:Str) (v:V),X.N[i]? = some x->σ[i]? = some (some v)->Vis X.env.scope x->∃ u,RelV v u/\Cp X.env s.heap m x u
 cell:∀ x c,X.env.cells.lookup x=some c->∃ v,s.heap.IsCell c v
 free:H X.env.locals = none
 freeC:∀ x c,X.env.cells.lookup x=some c->H c=none
 pin:∀ p ∈ X.pn ++ pins,s.heap.get? p.1 = some p.2/\H p.1 = none/\p.1≠X.env.locals/\p.1 ∉ X.fs/\∀ v,p.2.data≠.cell v
 hok:HOk X.prog X.w H s.heap
 len:σ.length=X.N.length
section
variable {X:Cx}{pins:List (Addr×Obj)}{σ:List (Option V)}{H H':Hp}{s:Shared}{h':Heap}
theorem Cx.Ok.nofr(c:X.Ok){b:Addr}{o:Obj}(e:X.base.get? b=some o):b ∉ X.fs:=λa=>by
 have:=(c.funs.mem a).1;rw[e]at this;cases this
theorem Inv.bs(I:Inv X pins σ H s):∀ b o,X.base.get? b=some o->s.heap.get? b=some o/\H b=none:=λb o e =>
 ⟨I.base.keep b o (I.ok.bs b o e).1 (I.ok.bs b o e).2 (I.ok.nofr e) (I.ok.noex b o e),I.base.free b o (I.ok.bs b o e).1 (I.ok.bs b o e).2 (I.ok.noex b o e)⟩
theorem Inv.bk(I:Inv X pins σ H s):∀ b o,X.base.get? b=some o->s.heap.get? b=some o:=λb o e=>(I.bs b o e).1
theorem Inv.mod(I:Inv X pins σ H s):Mod X.K X.mg X.base:=I.ok.mod
theorem Inv.kIn(I:Inv X pins σ H s):X.K.In s.heap:=I.ok.mod.kin.keeps I.bk
theorem Inv.lt(I:Inv X pins σ H s):X.env.locals < s.heap.objs.size:=let ⟨_,hn,_⟩:=I.loc;hn.lt
theorem Inv.sz(I:Inv X pins σ H s):X.s₀.heap.objs.size<=s.heap.objs.size:=Nat.le_trans I.ok.above (Nat.le_of_lt I.lt)
theorem Inv.nofs(I:Inv X pins σ H s){a:Addr}(h:s.heap.objs.size<=a):a ∉ X.fs:=λb=>by
 obtain⟨_,o,c,_⟩:=I.ok.funs.mem b;exact absurd (Nat.lt_of_lt_of_le (Heap.lt_size c) (Nat.le_trans I.sz h)) (Nat.lt_irrefl _)
theorem Inv.cne(I:Inv X pins σ H s):∀ x c,X.env.cells.lookup x = some c->c≠X.env.locals:=λx c e z=>by
 obtain⟨v,o,d,f⟩:=I.cell x c e;obtain⟨m,⟨i,g,h,b,a,_⟩,_⟩:=I.loc;rw[z,b]at d;cases d;rw[a]at f;cases f
theorem Inv.funs(I:Inv X pins σ H s):s.heap.FunFrames X.base X.outer:=by
 have c:∀(l:List Env),(∀ b∈frs l,b∈X.fs)->X.s₀.heap.FunFrames X.base l->s.heap.FunFrames X.base l:=by
  intro l
  induction l with
  | nil=>intro _ _;trivial
  | cons env r ih =>
   intro g n;obtain⟨i,⟨L,o,f,q,j,p⟩,h⟩:=n;have d:L∈X.fs:=g L (by unfold frs;rw[List.filterMap_cons,f];exact mem_cons_self);obtain⟨u,e⟩:=I.base.slot L o j (I.ok.frf L d) d λz=>I.ok.exfs L z d
   exact⟨i,⟨L,_,f,q,e,p⟩,ih (λb a=>g b (by unfold frs;rw[List.filterMap_cons,f];exact mem_cons_of_mem _ a)) h⟩
 exact c X.outer (λ_ a=>a) I.ok.funs
theorem Inv.stack(I:Inv X pins σ H s):s.heap.FunFrames X.base X.stack:=by
 rcases I.ok.stk with e | ⟨e,a⟩
 .rw[e];exact I.funs
 .rw[e]
  obtain⟨m,b,_⟩:=I.loc;refine .cons (by rw[I.ok.kind];decide) a b ?_ I.funs;exact Heap.get?_none_of_le (Nat.le_trans I.ok.bsz I.ok.above)
theorem Inv.stkSub(I:Inv X pins σ H s):∀ b ∈ frs X.stack,b ∈ X.env.locals :: X.fs:=λb a=>by
 rcases I.ok.stk with e | ⟨e,c⟩
 .rw[e]at a;exact mem_cons_of_mem _ a
 .rw[e]at a
  unfold frs at a;rw[List.filterMap_cons,c]at a;exact a
theorem Inv.stkFree(I:Inv X pins σ H s):∀ b∈frs X.stack,H b=none:=λb hb=>by
 rcases mem_cons.mp (I.stkSub b hb) with e | hb
 .rw[e];exact I.free
 .obtain⟨_,o,a,_⟩:=I.ok.funs.mem hb
  exact I.base.free b o a (I.ok.frf b hb) λz=>I.ok.exfs b z hb
theorem Inv.step{g':Array GenState}{t':Nat}{d':Drawn}{ch:List Addr}(I:Inv X pins σ H s)
  (w:∀ b ∈ ch,(b ∈ X.ex\/X.s₀.heap.objs.size<=b)/\b≠X.env.locals/\(∀ x c,X.env.cells.lookup x = some c->c≠b)/\∀ p ∈ X.pn ++ pins,p.1≠b)
  (j:∀ b o,b≠X.env.locals->b ∉ X.fs->b ∉ ch->s.heap.get? b = some o->H b = none->h'.get? b = some o)
  (B:∀ b o,b≠X.env.locals->b ∈ X.fs->b ∉ ch->s.heap.get? b = some o->H b = none->∃ sl,h'.get? b = some { o with slots:=sl }) (f:∀ b o,b ∉ ch->s.heap.get? b = some o->H b = none->H' b = none)
  (D:∀ b o,b ∉ ch->s.heap.get? b=some o->∃ o',h'.get? b=some o')
  (J:∀ b xs,H b=some (.tup xs)->H' b=some (.tup xs)) (K:∀ b o u,H b=some (.frz o u)->H' b=some (.frz o u)) (G:∀ b ps,H b=some (.tbl ps)->∃ more,H' b=some (.tbl (ps++more)))
  (T:∀ m,s.heap.Ns X.env.locals m->h'.Ns X.env.locals m) (N:HOk X.prog X.w H' h') (Z:AllBare g') :
  Inv X pins σ H' { s with heap:=h',gens:=g',drawn:=d',toks:=t' }:=by
 have L:∀ b o,X.s₀.heap.get? b = some o->b≠X.env.locals:=λb o e=>Nat.ne_of_lt (Nat.lt_of_lt_of_le (Heap.lt_size e) I.ok.above)
 have y:∀ b o,X.s₀.heap.get? b=some o->b ∉ X.ex->b ∉ ch:=λb o e a C=>by
  rcases(w b C).1 with z | z
  .exact a z
  .exact absurd (Nat.lt_of_lt_of_le (Heap.lt_size e) z) (Nat.lt_irrefl _)
 have g:∀ x c,X.env.cells.lookup x=some c->∀ v,s.heap.IsCell c v->h'.IsCell c v:=λx c e v ⟨o,E,M⟩=>by
  have h:c ∉ ch:=λz=>(w c z).2.2.1 x c e rfl
  by_cases hc:c∈X.fs
  .obtain⟨sl,q⟩:=B c o (I.cne x c e) hc h E (I.freeC x c e)
   exact⟨_,q,M⟩
  .exact⟨o,j c o (I.cne x c e) hc h E (I.freeC x c e),M⟩
 refine⟨I.ok,I.os,Z,⟨λb o e n C a=>?_,λb o e n C a=>?_,λb o e n a=>?_,λb o e a=>?_,λb xs e=>J b xs (I.base.tups b xs e),λb o xs e=>K b o xs (I.base.frzs b o xs e),λb ps e=>?_⟩,?_,λx c e=>?_,?_,λx c e=>?_,λp hp=>?_,N,I.len⟩
 .exact j b o (L b o e) C (y b o e a) (I.base.keep b o e n C a) (I.base.free b o e n a)
 .obtain⟨sl,A⟩:=I.base.slot b o e n C a
  obtain⟨O,F⟩:=B b _ (L b o e) C (y b o e a) A (I.base.free b o e n a);exact⟨O,F⟩
 .obtain⟨o',A⟩:=I.base.there b o e a
  exact f b o' (y b o e a) A (I.base.free b o e n a)
 .obtain⟨o',A⟩:=I.base.there b o e a
  exact D b o' (y b o e a) A
 .obtain⟨W,A⟩:=I.base.tbls b ps e
  obtain⟨R,F⟩:=G b _ A;exact⟨W++R,by rw[F,Array.append_assoc]⟩
 .obtain⟨m,S,Y⟩:=I.loc
  refine⟨m,T m S,λi x v A F e3=>?_⟩;obtain⟨u,r,l⟩:=Y i x v A F e3;refine⟨u,r,?_⟩
  rcases l with l | ⟨k,c,e,z⟩
  .exact .inl l
  .exact .inr ⟨k,c,e,g x c e _ z⟩
 .obtain⟨v,z⟩:=I.cell x c e
  exact⟨v,g x c e v z⟩
 .obtain⟨m,⟨o,_,_,E,_⟩,_⟩:=I.loc
  exact f _ o (λz=>(w _ z).2.1 rfl) E I.free
 .obtain⟨v,o,E,M⟩:=I.cell x c e
  exact f c o (λz=>(w c z).2.2.1 x c e rfl) E (I.freeC x c e)
 .obtain⟨e,n,Q,P,d⟩:=I.pin p hp
  have h:p.1 ∉ ch:=λz=>(w p.1 z).2.2.2 p hp rfl
  exact⟨j p.1 p.2 Q P h e n,f p.1 p.2 h e n,Q,P,d⟩
theorem Inv.un{t':Nat}(I:Inv X pins σ H s)(u:Un X.fs [] H H' s.heap h')(c:HOk X.prog X.w H' h'):Inv X pins σ H' { s with heap:=h',toks:=t' }:=by
 obtain⟨m,⟨o,j,l,g,r⟩,_⟩:=id I.loc;obtain⟨q,i⟩:=u.any g I.free (by simp)
 exact I.step (g':=s.gens) (d':=s.drawn) (ch:=[]) (λ_ z=>nomatch z) (λb o _ hb _ e n=>u.keep b o e n hb (by simp)) (λb o _ hb _ e n=>u.slot b o e n hb (by simp)) (λb o _ e n=>u.free b o e n (by simp)) (λb o _ e=>u.there b o e (by simp)) u.tups u.frzs u.tbls (λm' hm=>by
  obtain⟨p,d,f,a,h⟩:=hm;rw[g]at a;cases a
  exact⟨_,d,f,i,h⟩) c I.bare
theorem Inv.call{g':Array GenState}{t':Nat}{d':Drawn}{ch:List Addr}(I:Inv X pins σ H s)(u:Un (frs X.stack) ch H H' s.heap h')(g:HOk X.prog X.w H' h')(w:AllBare g')
  (d:∀ b ∈ ch,(b ∈ X.ex\/X.s₀.heap.objs.size<=b)/\b≠X.env.locals/\(∀ x c,X.env.cells.lookup x = some c->c≠b)/\∀ p ∈ X.pn ++ pins,p.1≠b) :
  Inv X pins σ H' { s with heap:=h',gens:=g',drawn:=d',toks:=t' }:=by
 obtain⟨m,⟨o,y,A,l,r⟩,_⟩:=id I.loc;obtain⟨C,h⟩:=u.any l I.free λz=>(d _ z).2.1 rfl
 exact I.step (ch:=ch) d (λb o h q a e n=>u.keep b o e n (λz=>(mem_cons.mp (I.stkSub b z)).elim h q) a) (λb o _ _ a e n=>u.any e n a) (λb o a e n=>u.free b o e n a) (λb o a e=>u.there b o e a) u.tups u.frzs u.tbls (λm' hm=>by
  obtain⟨B,i,j,f,v⟩:=hm;rw[l]at f;cases f
  exact⟨_,i,j,h,v⟩) g w
theorem Inv.turned{t':Nat}{a:Addr}(I:Inv X pins σ H s)(k:∀ b o,b≠a->s.heap.get? b = some o->h'.get? b = some o)(A:H a = none)(g:a≠X.env.locals)
  (y:a∈X.ex\/X.s₀.heap.objs.size<=a) (B:∀ x c,X.env.cells.lookup x=some c->c≠a) (j:∀ p∈X.pn++pins,p.1≠a):Inv X pins σ H { s with heap:=h',toks:=t' }:=by
 have f:∀ b u,H b=some u->b≠a:=λb u e z=>by rw[z,A]at e;cases e
 refine I.step (g':=s.gens) (d':=s.drawn) (ch:=[a]) (λb h=>?_) (λb o _ _ d e _=>k b o (λz=>d (by simp[z])) e) (λb o _ _ d e _=>⟨o.slots,k b o (λz=>d (by simp[z])) e⟩) (λ_ _ _ _ n=>n)
  (λb o d e=>⟨o,k b o (λz=>d (by simp[z])) e⟩) (λ_ _ e=>e) (λ_ _ _ e=>e) (λb ps e=>⟨#[],by rw[e];simp⟩) (λm hm=>?_) (λb u e=>?_) I.bare
 .have e:b=a:=by simpa using h
  subst e;exact⟨y,g,B,j⟩
 .obtain⟨o,i,l,w,r⟩:=hm
  exact⟨o,i,l,k _ o (Ne.symm g) w,r⟩
 .refine(I.hok b u e).stay (λc v d q=>k c v ?_ q) (λ_ q=>q) λ_ _ q=>q
  rcases d with z | z
  .rw[z];exact f b u e
  .exact f c _ z
theorem Inv.tok(I:Inv X pins σ H s)(t:Nat):Inv X pins σ H { s with toks:=t }:=I.un (h':=s.heap) (t':=t) Un.refl I.hok
theorem Inv.kept{t':Nat}(I:Inv X pins σ H s)(k:∀ b u,s.heap.get? b=some u->h'.get? b=some u):Inv X pins σ H { s with heap:=h',toks:=t' }:=I.un (Un.kept k) (I.hok.kept k)
theorem Inv.laid{a:Addr}{o:HO}{t':Nat}(I:Inv X pins σ H s)(k:∀ b u,s.heap.get? b=some u->h'.get? b=some u)(c:s.heap.objs.size<=a)(d:ObjOk X.prog X.w (upd H a o) h' a o) :
  Inv X pins σ (upd H a o) { s with heap:=h',toks:=t' }:=I.un (Un.laid k c (I.hok.fresh c)) (I.hok.laid k c d)
theorem Inv.write{x e:Addr}{o:HO}{t':Nat}(I:Inv X pins σ H s)(d:Mut (H x))(f:e=x\/H e=some (.own x))(k:∀ b u,b≠e->s.heap.get? b=some u->h'.get? b=some u)(a:∃ u,h'.get? e=some u)
  (c:ObjOk X.prog X.w (upd H x o) h' x o):Inv X pins σ (upd H x o) { s with heap:=h',toks:=t' }:=I.un (Un.write d f k a) (I.hok.write d f k a c)
theorem Inv.weak{σ':List (Option V)}(I:Inv X pins σ H s)(c:σ'.length=σ.length)(w:∀(i:Nat) v,σ'[i]? = some (some v)->σ[i]? = some (some v)):Inv X pins σ' H s :=
 ⟨I.ok,I.os,I.bare,I.base,let ⟨m,hn,hl'⟩:=I.loc;⟨m,hn,λi x v a b d=>hl' i x v a (w i v b) d⟩,I.cell,I.free,I.freeC,I.pin,I.hok,c.trans I.len⟩
theorem Inv.pins_of{a:List (Addr×Obj)}(I:Inv X pins σ H s)(h:∀ p ∈ a,s.heap.get? p.1 = some p.2/\H p.1 = none/\p.1≠X.env.locals/\p.1 ∉ X.fs/\∀ v,p.2.data≠.cell v):Inv X a σ H s :=
 ⟨I.ok,I.os,I.bare,I.base,I.loc,I.cell,I.free,I.freeC,λp b=>(mem_append.mp b).elim (λz=>I.pin p (mem_append_left _ z)) (h p),I.hok,I.len⟩
theorem jR{N:List Str}(f:N.Nodup){i j:Nat}{x:Str}(a:N[i]? = some x)(b:N[j]? = some x):i=j:=by
 obtain⟨g,d⟩:=List.getElem?_eq_some_iff.mp a;obtain⟨h,c⟩:=List.getElem?_eq_some_iff.mp b;exact(List.getElem_inj f).mp (d.trans c.symm)
theorem kM{M:Model}{A:Around}{E:Value->Shared->Prop}{i:Nat}{x:Str}{v:V}{u:Value}{Q:Unit->Shared->Prop}(I:Inv X pins σ H s)(hN:X.N.Nodup)(K:X.N[i]? = some x)(w:Loc X.env.scope x)(r:RelV v u)
  (h:∀ s',Inv X pins (σ.set i (some v)) H s'->(∃ a,Heap.SameBut a s.heap s'.heap/\(a = X.env.locals\/X.env.cells.lookup x = some a))->Q () s') (hf:X.fn x = true\/X.env.scope.names.lookup x = some .local:=by first | exact .inl rfl | exact .inr rfl | assumption):wpAny M A (storeName X.env x u) Q E s:=by
 obtain⟨m,hn,hl⟩:=id I.loc;have N:(X.env.scope.kind == .class || (X.env.scope.kind == .module && X.env.locals != X.env.globals)) = false:=by rw[I.ok.kind];rfl
 have C:i<σ.length:=by rw[I.len];exact(List.getElem?_eq_some_iff.mp K).1
 have F:=I.cne
 have l:∀{a:Addr}{J:Heap},(∃ o,s.heap.get? a=some o/\H a=none)->Heap.SameBut a s.heap J->HOk X.prog X.w H J:=λ{a J} ha f b ob e=>by
  obtain⟨_,_,B⟩:=ha;refine(I.hok b ob e).stay (λc R hc q=>(f.2 c ?_).trans q) (λ_ q=>q) λ_ _ q=>q
  rintro rfl
  rcases hc with rfl | hc
  .rw[B]at e;cases e
  .rw[B]at hc;cases hc
 rcases w with hk | hk
 .refine wpAny_storeName_local hk hn (λJ Z f=>?_) N
  obtain⟨oL,_,_,W,_⟩:=id hn;refine h _ ⟨I.ok,I.os,I.bare,⟨λb o e n D w=>?_,λb o e n D w=>?_,I.base.free,λb o e w=>?_,I.base.tups,I.base.frzs,I.base.tbls⟩,⟨_,Z,λj y v' g e2 e3=>?_⟩,λy c e=>?_,I.free,I.freeC,λp hp=>?_,l ⟨oL,W,I.free⟩ f,by simpa using I.len⟩ ⟨_,f,.inl rfl⟩
  .exact(f.2 b (Nat.ne_of_lt (Nat.lt_of_lt_of_le (Heap.lt_size e) I.ok.above))).trans (I.base.keep b o e n D w)
  .obtain⟨sl,g⟩:=I.base.slot b o e n D w
   exact⟨sl,(f.2 b (Nat.ne_of_lt (Nat.lt_of_lt_of_le (Heap.lt_size e) I.ok.above))).trans g⟩
  .obtain⟨o',g⟩:=I.base.there b o e w
   exact⟨o',(f.2 b (Nat.ne_of_lt (Nat.lt_of_lt_of_le (Heap.lt_size e) I.ok.above))).trans g⟩
  .by_cases hj:j=i
   .subst hj
    rw[K]at g;cases g;rw[List.getElem?_set_self C]at e2;cases e2;exact⟨u,r,.inl ⟨hk,by simp⟩⟩
   .rw[List.getElem?_set_ne (Ne.symm hj)]at e2
    obtain⟨u',Y,q⟩:=hl j y v' g e2 e3;refine⟨u',Y,?_⟩
    rcases q with⟨k,e⟩ | ⟨k,c,e,z⟩
    .refine .inl ⟨k,?_⟩
     have:y≠x:=λe=>hj (jR hN g (e ▸ K))
     simp[this,e]
    .exact .inr ⟨k,c,e,z.sameBut f (F y c e)⟩
  .obtain⟨R,z⟩:=I.cell y c e
   exact⟨R,z.sameBut f (F y c e)⟩
  .obtain⟨e,n,T,nf,d⟩:=I.pin p hp
   exact⟨(f.2 p.1 T).trans e,n,T,nf,d⟩
 .have G:X.fn x=true:=by
   rcases hf with z | z
   .exact z
   .rw[z]at hk;cases hk
  obtain⟨c,hc⟩:=I.ok.has x (.inl hk);obtain⟨R,z⟩:=I.cell x c hc;refine wpAny_storeName_cell I.ok.kind hk hc z (λJ L f=>?_);obtain⟨oc,O,P⟩:=id z;refine h { s with heap:=J } ⟨I.ok,I.os,I.bare,⟨λb o e n D w=>?_,λb o e n D w=>?_,I.base.free,λb o e w=>?_,I.base.tups,I.base.frzs,I.base.tbls⟩,⟨m,hn.sameBut f (Ne.symm (F x c hc)),λj y v' g e2 e3=>?_⟩,λy S e=>?_,I.free,I.freeC,λp hp=>?_,l ⟨oc,O,I.freeC x c hc⟩ f,by simpa using I.len⟩ ⟨c,f,.inr hc⟩
  .exact(f.2 b (Nat.ne_of_lt (Nat.lt_of_lt_of_le (Heap.lt_size e) (I.ok.cab x c G hc)))).trans (I.base.keep b o e n D w)
  .obtain⟨sl,g⟩:=I.base.slot b o e n D w
   exact⟨sl,(f.2 b (Nat.ne_of_lt (Nat.lt_of_lt_of_le (Heap.lt_size e) (I.ok.cab x c G hc)))).trans g⟩
  .obtain⟨o',g⟩:=I.base.there b o e w
   exact⟨o',(f.2 b (Nat.ne_of_lt (Nat.lt_of_lt_of_le (Heap.lt_size e) (I.ok.cab x c G hc)))).trans g⟩
  .by_cases hj:j=i
   .subst hj
    rw[K]at g;cases g;rw[List.getElem?_set_self C]at e2;cases e2;exact⟨u,r,.inr ⟨.inl hk,c,hc,L⟩⟩
   .rw[List.getElem?_set_ne (Ne.symm hj)]at e2
    obtain⟨u',Y,q⟩:=hl j y v' g e2 e3;refine⟨u',Y,?_⟩
    rcases q with q | ⟨k,S,e,z'⟩
    .exact .inl q
    .refine .inr ⟨k,S,e,z'.sameBut f ?_⟩
     rintro rfl;exact hj (jR hN g (I.ok.inj _ _ _ e hc ▸ K))
  .by_cases hcc:S=c
   .subst hcc;exact⟨_,L⟩
   .obtain⟨w2,z2⟩:=I.cell y S e
    exact⟨w2,z2.sameBut f hcc⟩
  .obtain⟨e,n,T,nf,d⟩:=I.pin p hp
   refine⟨(f.2 p.1 ?_).trans e,n,T,nf,d⟩;intro q;rw[q,O]at e;have q':oc=p.2:=Option.some.inj e;exact d R (by rw[<- q'];exact P)
theorem gB{M:Model}{A:Around}{E:Value->Shared->Prop}{i:Nat}{x:Str}{v:V}{u:Value}{Q:Unit->Shared->Prop}(I:Inv X pins σ H s)(f:X.N.Nodup)(c:X.N[i]? = some x)(b:Loc X.env.scope x)(r:RelV v u)
  (h:∀ s',Inv X pins (σ.set i (some v)) H s'->Q () s') (d:X.fn x = true\/X.env.scope.names.lookup x = some .local:=by first | exact .inl rfl | exact .inr rfl | assumption):wpAny M A (storeName X.env x u) Q E s :=
 kM I f c b r (λs' a _=>h s' a) d
theorem Inv.call'{a:Shared}{ch:List Addr}(I:Inv X pins σ H s)(h:a.os=s.os)(u:Un (frs X.stack) ch H H' s.heap a.heap)(d:HOk X.prog X.w H' a.heap)(g:AllBare a.gens)
  (f:∀ b ∈ ch,(b ∈ X.ex\/X.s₀.heap.objs.size<=b)/\b≠X.env.locals/\(∀ x c,X.env.cells.lookup x = some c->c≠b)/\∀ p ∈ X.pn ++ pins,p.1≠b):Inv X pins σ H' a:=by
 obtain⟨j,g',d',t',i⟩:=a;have e:i=s.os:=h;subst e;exact I.call (g':=g') (t':=t') (d':=d') u d g f
end
abbrev XK:=Value->Option Addr->Hp->Prop
abbrev St:=List (Option V)
abbrev VK:=V->Hp->Prop
abbrev TE:=St->Hp->VK->Prop
abbrev TT:=St->Hp->(Bool->Hp->Prop)->Prop
abbrev TA:=St->Hp->(List V->Hp->Prop)->Prop
structure Ends where
 nx:St->Hp->Prop
 rt:VK
 bk:St->Hp->Prop:=λ_ _=>False
 ct:St->Hp->Prop:=λ_ _=>False
abbrev TS:=Ends->St->Hp->Prop
def EP(X:Cx)(pins:List (Addr×Obj))(σ:St)(Q:VK)(u:Value)(s':Shared):Prop:=∃ v H',Inv X pins σ H' s'/\RelV v u/\Q v H'
def TP(X:Cx)(pins:List (Addr×Obj))(σ:St)(Q:Bool->Hp->Prop)(b:Bool)(s':Shared):Prop:=∃ H',Inv X pins σ H' s'/\Q b H'
def AP(X:Cx)(pins:List (Addr×Obj))(σ:St)(Q:List V->Hp->Prop)(us:List Value)(s':Shared):Prop:=∃ vs H',Inv X pins σ H' s'/\Vals vs us/\Q vs H'
def SP(X:Cx)(pins:List (Addr×Obj))(D:Ends)(f:Flow)(s':Shared):Prop :=
 match f with
 | .next=>∃ σ' H',Inv X pins σ' H' s'/\D.nx σ' H'
 | .brk=>∃ σ' H',Inv X pins σ' H' s'/\D.bk σ' H'
 | .cont=>∃ σ' H',Inv X pins σ' H' s'/\D.ct σ' H'
 | .ret u=>∃ v σ' H',Inv X pins σ' H' s'/\RelV v u/\D.rt v H'
def PE(X:Cx)(e:Expr)(t:TE):Prop :=
 ∀(pins:List (Addr×Obj)) (s:Shared) (σ:St) (H:Hp) (Q:VK),Inv X pins σ H s->t σ H Q->wpAny (model X.prog X.w) X.A (eval e X.env) (EP X pins σ Q) X.xe s
def PT(X:Cx)(e:Expr)(t:TT):Prop :=
 ∀(pins:List (Addr×Obj)) (s:Shared) (σ:St) (H:Hp) (Q:Bool->Hp->Prop),Inv X pins σ H s->t σ H Q->wpAny (model X.prog X.w) X.A (isTrue e X.env (eval e X.env)) (TP X pins σ Q) X.xe s
def PW(X:Cx)(e:Expr)(t:TT):Prop :=
 ∀(whole:Sem Value) (pins:List (Addr×Obj)) (s:Shared) (σ:St) (H:Hp) (Q:Bool->Hp->Prop),Inv X pins σ H s->t σ H Q->wpAny (model X.prog X.w) X.A (isTrue e X.env whole) (TP X pins σ Q) X.xe s
theorem PW.pt{X:Cx}{e:Expr}{t:TT}(h:PW X e t):PT X e t:=h _
def PA(X:Cx)(es:List Expr)(t:TA):Prop :=
 ∀(pos:Pos) (pins:List (Addr×Obj)) (s:Shared) (σ:St) (H:Hp) (Q:List V->Hp->Prop),Inv X pins σ H s->t σ H Q->wpAny (model X.prog X.w) X.A (spliced (backTo pos (starEach es X.env))) (AP X pins σ Q) X.xe s
def PS(X:Cx)(st:Stmt)(t:TS):Prop :=
 ∀(pins:List (Addr×Obj)) (s:Shared) (σ:St) (H:Hp) (D:Ends),Inv X pins σ H s->t D σ H->wpAny (model X.prog X.w) X.A (exec st X.env) (SP X pins D) X.xe s
def PSs(X:Cx)(st:List Stmt)(t:TS):Prop :=
 ∀(pins:List (Addr×Obj)) (s:Shared) (σ:St) (H:Hp) (D:Ends),Inv X pins σ H s->t D σ H->wpAny (model X.prog X.w) X.A (execs st X.env) (SP X pins D) X.xe s
theorem thn{b:Type}{t:Sem b}{Q c:b->Shared->Prop}{M:Model}{A:Around}{E:Value->Shared->Prop}{s:Shared}(h:wpAny M A t Q E s)(d:∀ a s,Q a s->c a s):wpAny M A t c E s:=wpAny_mono h d λ_ _ x=>x
section
variable {X:Cx}
def CI(i:Nat):TE:=λσ H Q=>∃ v,σ[i]? = some (some v)/\Q v H
def tC(v:V):TE:=λ_ H Q=>Q v H
theorem zv{i:Nat}{x:Str}{g:Pos}(w:X.N[i]? = some x)(y:Vis X.env.scope x)(j:(x == ("__debug__" : Str))=false:=by decide)(f:(x == ("__classdict__" : Str))=false:=by decide):PE X (.Name x g) (CI i):=by
 intro d s o H Q I h;obtain⟨v,e,h⟩:=h;obtain⟨m,z,p⟩:=I.loc;obtain⟨u,r,l⟩:=p i x v w e y
 have b:EP X d o Q u s:=⟨v,H,I,r,h⟩
 rcases l with⟨hk,q⟩ | ⟨hk,c,n,a⟩
 .exact wpAny_Name (wpAny_loadName_local I.ok.kind hk z q b) j
 .rcases hk with hk | hk
  .exact wpAny_Name (wpAny_loadName_cell I.ok.kind hk n a b) j
  .exact wpAny_Name (wpAny_loadName_free I.ok.kind hk n a b f) j
theorem am{i j pos}:PE X (.Constant (.int i) j pos) (tC (.int i)):=λ_ _ _ H _ I h=>wpAny_Constant_int ⟨.int i,H,I.tok _,⟨_,rfl⟩,h⟩
theorem gw{b j pos}:PE X (.Constant (.bool b) j pos) (tC (.bl b)):=λ_ _ _ H _ I h=>Constant_bool ⟨.bl b,H,I,rfl,h⟩
theorem zW{j pos}:PE X (.Constant .none j pos) (tC .non):=λ_ _ _ H _ I h=>Constant_none ⟨.non,H,I,rfl,h⟩
theorem vq{x j pos}:PE X (.Constant (.str x) j pos) (tC (.str x)):=λ_ _ _ H _ I h=>Calls.Constant_str ⟨.str x,H,I.tok _,⟨_,rfl⟩,h⟩
def Gl(X:Cx)(x:Str):Prop:=X.env.kindOf x=some .globalImplicit
theorem fR{E:Value->Shared->Prop}{a:List (Addr×Obj)}{s:Shared}{σ:St}{H:Hp}{x:Str}{u:Value}{b:Pos}{Q:Value->Shared->Prop}(I:Inv X a σ H s)(c:Gl X x)(f:X.mg x=some u)(h:Q u s)
  (d:(x == ("__debug__" : Str))=false:=by decide):wpAny (model X.prog X.w) X.A (eval (.Name x b) X.env) Q E s :=
 Calls.Name_function_global I.ok.kind c (Calls.loadGlobal_global (by rw[I.ok.glob];exact I.mod.glob.keeps I.bk) f h) d
theorem jt{E:Value->Shared->Prop}{a:List (Addr×Obj)}{s:Shared}{σ:St}{H:Hp}{x:Str}{u:Value}{b:Pos}{Q:Value->Shared->Prop}(I:Inv X a σ H s)(c:Gl X x)(d:X.mg x=none)(g:bootBuiltins x=some u)(h:Q u s)
  (j:x ≠ "__name__" := by decide) (f:(x == ("__debug__" : Str))=false:=by decide):wpAny (model X.prog X.w) X.A (eval (.Name x b) X.env) Q E s:=by
 obtain⟨n,i,l⟩:=I.mod.blt;exact Calls.Name_function_global I.ok.kind c (Calls.loadGlobal_builtin (by rw[I.ok.glob];exact I.mod.glob.keeps I.bk) d (by rw[I.ok.blt];exact i.keeps I.bk) ((l x j).trans g) h) f
theorem wL{x:Str}{v:V}{u:Value}{a:Pos}(b:Gl X x)(c:X.mg x=some u)(r:RelV v u)(d:(x == ("__debug__" : Str))=false:=by decide):PE X (.Name x a) (tC v) :=
 λ_ _ _ H _ I h=>fR I b c ⟨v,H,I,r,h⟩ d
theorem kZ{x:Str}{v:V}{u:Value}{a:Pos}(b:Gl X x)(d:X.mg x=none)(f:bootBuiltins x=some u)(r:RelV v u)(g:x ≠ "__name__" := by decide)(c:(x == ("__debug__" : Str))=false:=by decide):PE X (.Name x a) (tC v) :=
 λ_ _ _ H _ I h=>jt I b d f ⟨v,H,I,r,h⟩ g c
variable {a b:Expr}{ta tb:TE}{pos:Pos}
variable {tA tB':TT}{rest:List Expr}
def CL(t u:TT):TT:=λσ H Q=>t σ H λc H1=>if c=true then u σ H1 Q else Q false H1
def tOr(t u:TT):TT:=λσ H Q=>t σ H λc H1=>if c=true then Q true H1 else u σ H1 Q
def CG(t:TT):TT:=λσ H Q=>t σ H λc H1=>Q (!c) H1
theorem yp(f:PT X a tA):PW X (.BoolOp .And [a] pos) tA:=by
 intro g b s d H Q I h;refine isTrue_and (thn (f b s d H Q I h) λc i e=>?_);cases c with
 | true=>exact isTrue_and_nil e
 | false=>exact e
theorem o8(f:PT X a tA):PW X (.BoolOp .Or [a] pos) tA:=by
 intro g b s d H Q I h;refine isTrue_or (thn (f b s d H Q I h) λc i e=>?_);cases c with
 | false=>exact isTrue_or_nil e
 | true=>exact e
theorem Aj(o:PT X a tA)(l:PW X (.BoolOp .And (b::rest) pos) tB'):PW X (.BoolOp .And (a::b::rest) pos) (CL tA tB'):=by
 intro n d s g H Q I h;refine isTrue_and (thn (o d s g H _ I h) λc p ⟨f,i,j⟩=>?_);cases c with
 | true=>exact l n d p g f Q i j
 | false=>exact⟨f,i,j⟩
theorem vj(o:PT X a tA)(l:PW X (.BoolOp .Or (b::rest) pos) tB'):PW X (.BoolOp .Or (a::b::rest) pos) (tOr tA tB'):=by
 intro n d s g H Q I h;refine isTrue_or (thn (o d s g H _ I h) λc p ⟨f,i,j⟩=>?_);cases c with
 | true=>exact⟨f,i,j⟩
 | false=>exact l n d p g f Q i j
theorem iu(g:PT X a tA):PT X (.UnaryOp .Not a pos) (CG tA):=by
 intro b s f H Q I h;exact isTrue_not (g b s f H (λc d=>Q (!c) d) I h)
theorem pM{op}{t:TE}(h:PE X a t):PE X (.BoolOp op [a] pos) t:=λb s d H Q I c=>BoolOp_one (h b s d H Q I c)
def tIf(t:TT)(ta tb:TE):TE:=λσ H Q=>t σ H λc H1=>if c=true then ta σ H1 Q else tb σ H1 Q
theorem uN{c:Expr}(p:PT X c tA)(q:PE X a ta)(o:PE X b tb):PE X (.IfExp c a b pos) (tIf tA ta tb):=by
 intro f s g H Q I h;refine wpAny_IfExp (thn (p f s g H _ I h) λd j ⟨i,l,n⟩=>?_);cases d with
 | true=>exact q f j g i Q l n
 | false=>exact o f j g i Q l n
end
def SqL(K:Frag)(H:Hp)(a:Addr)(xs:List V):Prop :=
 Rd H a (.lst xs) \/
  ∃(o:Obj) (its:Array Value) (n:Nat),K.lookup a=some o/\o.cls=.type "list" /\ o.dict=none/\o.data=.seq its n/\its.size<=sizeLine/\Vals xs its.toList
def SqT(K:Frag)(H:Hp)(a:Addr)(xs:List V):Prop :=
 Rd H a (.tup xs) \/
  ∃(o:Obj) (its:Array Value) (n:Nat),K.lookup a=some o/\o.cls=.type "tuple" /\ o.data=.seq its n/\its.size<=sizeLine/\Vals xs its.toList
def CT:Value->Option V
 | .none=>some .non
 | .bool b=>some (.bl b)
 | .int i _=>some (.int i)
 | .str x _=>some (.str x)
 | .bytes b _=>some (.byt b)
 | .float b _=>some (.flt b)
 | .ref a=>some (.ref a)
 | .type n=>some (.ty n)
 | _=>none
theorem RelV.abs{x:V}{u:Value}(r:RelV x u):CT u=some x:=by
 cases x with
 | non=>cases r;rfl
 | bl _=>cases r;rfl
 | int _=>obtain⟨t,rfl⟩:=r;rfl
 | str _=>obtain⟨t,rfl⟩:=r;rfl
 | byt _=>obtain⟨t,rfl⟩:=r;rfl
 | flt _=>obtain⟨t,rfl⟩:=r;rfl
 | ref _=>cases r;rfl
 | ty _=>cases r;rfl
theorem RelV.inj{x y:V}{u:Value}(r:RelV x u)(q:RelV y u):x=y:=Option.some.inj (r.abs.symm.trans q.abs)
theorem Vals.inj:∀{xs ys:List V}{us:List Value},Vals xs us->Vals ys us->xs=ys
 | _,_,_,.nil,.nil=>rfl
 | _,_,_,.cons r t,.cons r' t'=>by rw[r.inj r',Vals.inj t t']
section
variable {X:Cx}{pins:List (Addr×Obj)}{σ:St}{H:Hp}{s:Shared}{a:Addr}{xs ys:List V}
theorem SqL.of{K:Frag}(h:H a=some (.lst xs)):SqL K H a xs:=.inl (.inl h)
theorem SqT.of{K:Frag}(h:H a=some (.tup xs)):SqT K H a xs:=.inl (.inl h)
theorem Inv.list(I:Inv X pins σ H s)(h:SqL X.K H a xs):∃ its:List Value,Vals xs its/\PlainL s.heap a its.toArray/\xs.length<=sizeLine:=by
 rcases h with h | ⟨o,its,n,b,c,d,f,g,r⟩
 .obtain⟨z,its,n,r,e⟩:=h.ok I.hok
  exact⟨its,r,⟨_,n,e,rfl,rfl,rfl⟩,z⟩
 .refine⟨its.toList,r,⟨o,n,I.kIn a o b,c,d,by simpa using f⟩,?_⟩
  have e:=r.length;simp only[Array.length_toList]at e;lia
theorem Inv.tuple(I:Inv X pins σ H s)(h:SqT X.K H a xs):∃ its:List Value,Vals xs its/\IsTup s.heap a its.toArray/\xs.length<=sizeLine:=by
 rcases h with h | ⟨o,its,n,b,d,c,f,r⟩
 .obtain⟨z,its,r,p⟩:=h.ok I.hok
  exact⟨its,r,p,z⟩
 .refine⟨its.toList,r,⟨o,I.kIn a o b,d,n,by simpa using c⟩,?_⟩
  have e:=r.length;simp only[Array.length_toList]at e;lia
theorem Inv.list_inj(I:Inv X pins σ H s)(h:SqL X.K H a xs)(h':SqL X.K H a ys):xs=ys:=by
 obtain⟨c,r,⟨o,n,e,_,_,d⟩,_⟩:=I.list h;obtain⟨b,i,⟨j,l,g,_,_,f⟩,_⟩:=I.list h';rw[e]at g;cases g;rw[d]at f;injection f with d1 _
 have:c=b:=by simpa using congrArg Array.toList d1
 subst this;exact r.inj i
theorem Inv.tuple_inj(I:Inv X pins σ H s)(h:SqT X.K H a xs)(h':SqT X.K H a ys):xs=ys:=by
 obtain⟨c,r,⟨o,e,_,n,d⟩,_⟩:=I.tuple h;obtain⟨b,i,⟨j,g,_,l,f⟩,_⟩:=I.tuple h';rw[e]at g;cases g;rw[d]at f;injection f with d1 _
 have:c=b:=by simpa using congrArg Array.toList d1
 subst this;exact r.inj i
end
abbrev Cx.wish(X:Cx)(E:Value->Shared->Prop):Cx:={ X with xe:=E }
abbrev Cx.nox(X:Cx):Cx:=X.wish λ_ _=>False
theorem Cx.Ok.wish{X:Cx}(a:X.Ok)(E:Value->Shared->Prop):(X.wish E).Ok :=
 ⟨a.mod,a.kind,a.glob,a.blt,a.above,a.inj,a.has,a.cab,a.hd,a.frames,a.stk,a.exf,a.bs,a.bsz,a.noex,a.exfs,a.funs,a.frf⟩
theorem Cx.Ok.unwish{X:Cx}{E:Value->Shared->Prop}(a:(X.wish E).Ok):X.Ok :=
 ⟨a.mod,a.kind,a.glob,a.blt,a.above,a.inj,a.has,a.cab,a.hd,a.frames,a.stk,a.exf,a.bs,a.bsz,a.noex,a.exfs,a.funs,a.frf⟩
section
variable {X:Cx}{pins:List (Addr×Obj)}{σ:St}{H:Hp}{s:Shared}{E:Value->Shared->Prop}
theorem Inv.wish(I:Inv X pins σ H s)(E:Value->Shared->Prop):Inv (X.wish E) pins σ H s:=⟨I.ok.wish E,I.os,I.bare,I.base,I.loc,I.cell,I.free,I.freeC,I.pin,I.hok,I.len⟩
theorem Inv.unwish(I:Inv (X.wish E) pins σ H s):Inv X pins σ H s:=⟨I.ok.unwish,I.os,I.bare,I.base,I.loc,I.cell,I.free,I.freeC,I.pin,I.hok,I.len⟩
theorem SP.unwish{D:Ends}{f:Flow}{c:Shared}(h:SP (X.wish E) pins D f c):SP X pins D f c:=by
 cases f with
 | next=>obtain⟨a,b,I,q⟩:=h;exact⟨a,b,I.unwish,q⟩
 | brk=>obtain⟨a,b,I,q⟩:=h;exact⟨a,b,I.unwish,q⟩
 | cont=>obtain⟨a,b,I,q⟩:=h;exact⟨a,b,I.unwish,q⟩
 | ret u=>obtain⟨v,a,b,I,r,q⟩:=h;exact⟨v,a,b,I.unwish,r,q⟩
theorem PSs.nox{b:List Stmt}{t:TS}(h:PSs X.nox b t):PSs X b t:=λa s d H D I c =>
 wpAny_mono (h a s d H D (I.wish _) c) (λ_ _ q=>q.unwish) λ_ _ z=>False.elim z
end
section
variable {X:Cx}{st:Stmt}{rest:List Stmt}{t u:TS}{e:Expr}{te:TE}{pos:Pos}
def yL:TS:=λD σ H=>D.nx σ H
def bJ(t u:TS):TS:=λD σ H=>t { D with nx:=u D } σ H
theorem aT:PSs X [] yL:=λ_ _ a H _ I h=>wpAny_execs_nil ⟨a,H,I,h⟩
theorem ai(j:PS X st t)(l:PSs X rest u):PSs X (st::rest) (bJ t u):=by
 intro a s d H D I h;refine wpAny_execs_cons (thn (j a s d H { D with nx:=u D } I h) λf i q=>?_);cases f with
 | next =>
  obtain⟨b,g,c,q⟩:=q;exact l a i b g D c q
 | ret v=>exact q
 | brk=>exact q
 | cont=>exact q
theorem aj(b:PS X st t):PSs X [st] t:=by
 intro a s c H D I h;refine wpAny_execs_cons (thn (b a s c H D I h) λf d q=>?_);cases f with
 | next=>exact wpAny_execs_nil q
 | ret v=>exact q
 | brk=>exact q
 | cont=>exact q
theorem Inv.quiet{a:List (Addr×Obj)}{σ:St}{H:Hp}{s:Shared}(I:Inv X a σ H s):interactive X.env=false:=by simp[interactive,I.ok.kind]
def Bp(te:TE):TS:=λD σ H=>te σ H λ_ H1=>D.nx σ H1
theorem cX(f:PE X e te)(g:swapsWith e none pos.line X.env=pure false:=by rfl):PS X (.Expr e pos) (Bp te):=by
 intro a s b H D I h;exact wpAny_Expr_any (thn (f a s b H _ I h) λv j ⟨x,c,d,l,i⟩=>⟨b,c,d,i⟩) I.quiet g
def BM(te:TE):TS:=λD σ H=>te σ H D.rt
theorem ax(f:PE X e te):PS X (.Return (some e) pos) (BM te):=by
 intro a s b H D I h;exact wpAny_Return_some (thn (f a s b H _ I h) λv j ⟨x,c,d,g,i⟩=>⟨x,b,c,d,g,i⟩)
def AV(c:TT)(t u:TS):TS:=λD σ H=>c σ H λb H1=>if b=true then t D σ H1 else u D σ H1
theorem cg{c:Expr}{a b:List Stmt}{n:TT}(q:PT X c n)(r:PSs X a t)(p:PSs X b u):PS X (.If c a b pos) (AV n t u):=by
 intro f s g H D I h;refine wpAny_If (thn (q f s g H _ I h) λd j ⟨i,l,o⟩=>?_);cases d with
 | true=>exact r f j g i D l o
 | false=>exact p f j g i D l o
def zG:TS:=λ_ _ _=>False
theorem uM:PS X st zG:=λ_ _ _ _ _ _ h=>h.elim
end
abbrev TG:=V->St->Hp->(St->Hp->Prop)->Prop
abbrev TGs:=List V->St->Hp->(St->Hp->Prop)->Prop
def PG(X:Cx)(target:Expr)(t:TG):Prop :=
 ∀(pins:List (Addr×Obj)) (s:Shared) (σ:St) (H:Hp) (v:V) (u:Value) (Q:St->Hp->Prop),Inv X pins σ H s->RelV v u->t v σ H Q ->
  wpAny (model X.prog X.w) X.A (assign target X.env u) (λ_ s'=>∃ σ' H',Inv X pins σ' H' s'/\Q σ' H') X.xe s
def PGs(X:Cx)(ts:List Expr)(t:TGs):Prop :=
 ∀(pins:List (Addr×Obj)) (s:Shared) (σ:St) (H:Hp) (vs:List V) (us:List Value) (Q:St->Hp->Prop),Inv X pins σ H s->Vals vs us->t vs σ H Q ->
  wpAny (model X.prog X.w) X.A (assignInOrder ((assignEach ts X.env).map (·.2)) us) (λ_ s'=>∃ σ' H',Inv X pins σ' H' s'/\Q σ' H') X.xe s
section
variable {X:Cx}{pos:Pos}
def nU(i:Nat):TG:=λv σ H Q=>Q (σ.set i (some v)) H
theorem ar{i:Nat}{x:Str}(g:X.N.Nodup)(d:X.N[i]? = some x)(c:Loc X.env.scope x)(f:X.fn x = true\/X.env.scope.names.lookup x = some .local:=by first | exact .inl rfl | exact .inr rfl | assumption):PG X (.Name x pos) (nU i):=by
 intro a s l H v u Q I r h;exact wpAny_assign_Name (gB I g d c r (λj b=>⟨_,H,b,h⟩) f)
def CU:TGs:=λvs σ H Q=>vs=[]/\Q σ H
inductive gCons(t:TG)(u:TGs)(vs:List V)(σ:St)(H:Hp)(Q:St->Hp->Prop):Prop
 | mk(v:V)(r:List V)(h0:vs=v::r)(h1:t v σ H λσ' H'=>u r σ' H' Q):gCons t u vs σ H Q
theorem bR:PGs X [] CU:=by
 intro a s b H d c Q I r h;obtain⟨e,h⟩:=h;subst e;cases r;exact assignInOrder_nil ⟨b,H,I,h⟩
theorem au{e:Expr}{es:List Expr}{t:TG}{u:TGs}(i:PG X e t)(f:PGs X es u)
  (n:(assignEach (e::es) X.env).map (·.2)=assign e X.env::(assignEach es X.env).map (·.2):=by rfl):PGs X (e::es) (gCons t u):=by
 intro a s d H p q Q I r h;obtain⟨v,w,j,h⟩:=h;subst j;cases r with
 | cons r rr =>
  rw[n];refine assignInOrder_cons (thn (i a s d H _ _ _ I r h) λ_ g ⟨b,c,l,o⟩=>?_);exact f a g b c _ _ Q l rr o
inductive gTup(K:Frag)(n:Nat)(t:TGs)(v:V)(σ:St)(H:Hp)(Q:St->Hp->Prop):Prop
 | mk(a:Addr)(xs:List V)(h0:v=.ref a)(h1:SqT K H a xs)(h2:xs.length=n)(h3:t xs σ H Q):gTup K n t v σ H Q
theorem dU{es:List Expr}{k:Nat}{t:TGs}{n:Nat}(l:X.calm=true)(h:PGs X es t)
  (A:(assignEach es X.env).length=n:=by rfl) (f:(assignEach es X.env).findIdx? (·.1)=none:=by rfl):PG X (.Tuple es k pos) (gTup X.K n t):=by
 intro c s g H v u Q I r d;obtain⟨a,q,B,j,w,d⟩:=d;subst B;cases r;obtain⟨z,i,y,D⟩:=I.tuple j;refine assign_Tuple_tuple (I.ok.hd l) y (by simp[A,<- w,i.length]) f λx p=>?_
 have C:Inv X c g H { s with heap:=x }:=I.kept (t':=s.toks) λb o e=>p b o (Nat.ne_of_lt (Heap.lt_size e)) e
 exact h c _ g H q _ Q C (by simpa using i) d
def xE(te:TE)(g:TG):TS:=λD σ H=>te σ H λx H1=>g x σ H1 D.nx
theorem pi{tg e:Expr}{c:TE}{g:TG}(o:PE X e c)(i:PG X tg g)(r:swapsWithSole [tg] e pos.line X.env=pure false:=by rfl)(d:swappedStores [tg] e X.env=pure none:=by rfl)
  (l:(assignEach [tg] X.env).map (·.2)=[assign tg X.env]:=by rfl):PS X (.Assign [tg] e pos) (xE c g):=by
 intro a s b H D I h;refine wpAny_Assign_stores (thn (o a s b H _ I h) λv j ⟨x,f,n,p,u⟩=>?_) r d;rw[l];exact thn (i a j b f x v _ n p u) λ_ w q=>q
theorem aM{i:Nat}{x:Str}{e:Expr}{c:TE}{a:Pos}(o:X.N.Nodup)(l:X.N[i]? = some x)(j:Loc X.env.scope x)(q:PE X e c)(u:swapsWith e (some (.Name x a)) pos.line X.env = pure false:=by rfl)(n:X.fn x = true\/X.env.scope.names.lookup x = some .local:=by first | exact .inl rfl | exact .inr rfl | assumption) :
  PS X (.Assign [.Name x a] e pos) (xE c (nU i)):=by
 intro b s g H D I h;refine wpAny_Assign_Name (thn (q b s g H _ I h) λv z ⟨y,d,p,r,w⟩=>?_) u;exact gB p o l j r (λA f=>⟨_,d,f,w⟩) n
def CJ(i j:Nat)(ta:TA):TS:=λD σ H=>ta σ H λvs H1=>∃ v w,vs=[v,w]/\D.nx ((σ.set i (some v)).set j (some w)) H1
theorem Ap{i j:Nat}{x y:Str}{a b:Expr}{G:TA}{r n l:Pos}{kt k2 pt2}(R:X.calm=true)(B:X.N.Nodup)(L:X.N[i]? = some x)(P:X.N[j]? = some y)(g:i≠j)
  (E:X.env.scope.names.lookup x = some .local) (z:X.env.scope.names.lookup y = some .local) (O:PA X [a,b] G)
  (W:swappedStores [.Tuple [.Name x r,.Name y n] kt l] (.Tuple [a,b] k2 pt2) X.env=pure (some [x,y]))
  (T:swapsWithSole [.Tuple [.Name x r,.Name y n] kt l] (.Tuple [a,b] k2 pt2) pos.line X.env=pure false:=by rfl) :
  PS X (.Assign [.Tuple [.Name x r,.Name y n] kt l] (.Tuple [a,b] k2 pt2) pos) (CJ i j G):=by
 intro c s C H D I h;rw[exec_Assign_arm];refine wpAny_bind (wpAny_standAt ?_);rw[T];refine wpAny_bind (wpAny_pure ?_);rw[if_neg (by decide)];refine wpAny_bind (Tuple_ (thn (O _ c s C H _ I h) λQ d ⟨vs,A,M,N,f⟩=>?_));obtain⟨v,w,S,f⟩:=f;subst S
 obtain⟨u1,u2,rfl,rv,rw'⟩:∃ u1 u2,Q=[u1,u2]/\RelV v u1/\RelV w u2:=by
  cases N with
  | cons p q =>
   cases q with
   | cons p' q' =>
    cases q';exact⟨_,_,rfl,p,p'⟩
 refine wpAny_newObj_type ?_ (by show 2<=sizeLine;decide);have J:Inv X c C A { d with heap:=d.heap.push { cls:=.type "tuple",data:=.seq [u1,u2].toArray } }:=M.kept (t':=d.toks) λb o e=>Heap.get?_push_of_some _ e
 rw[W];refine wpAny_bind (wpAny_pure ?_);show wpAny (model X.prog X.w) X.A (do rule "assign.swapped-stores";let items <- unpackItems (.ref d.heap.objs.size) 2 none;assignInOrder [λv=>bindName X.env y v,λv=>bindName X.env x v] items.reverse;pure Flow.next) _ _ _;refine wpAny_bind (wpAny_rule (wpAny_bind (unpackItems_tuple (items:=#[u1,u2]) (I.ok.hd R) (IsTup.new d.heap _) λh' u=>?_)));have K:=J.kept (h':=h') (t':=d.toks) λb o e=>u b o (Nat.ne_of_lt (Heap.lt_size e)) e
 show wpAny _ _ (assignInOrder [λv=>bindName X.env y v,λv=>bindName X.env x v] [u2,u1] >>= λ_=>pure Flow.next) _ _ _;refine wpAny_bind (assignInOrder_cons (wpAny_bindName (gB K B P (.inl z) rw' (λZ Y=>?_) (.inr z))));refine assignInOrder_cons (wpAny_bindName (gB Y B L (.inl E) rv (λs3 F=>assignInOrder_nil (wpAny_pure ?_)) (.inr E)));rw[List.set_comm _ _ (Ne.symm g)]at F;exact⟨_,A,F,f⟩
end
section
variable {X:Cx}{pos:Pos}
def zi(c:TT)(tb:TS):TS:=λD σ H=>∃ W:Nat->St->Hp->Prop,(∃ m,W m σ H)/\∀ m σ H,W m σ H ->
 c σ H λb H1=>if b=true then ∃ N:St->Hp->Prop,(∀ σ' H',N σ' H'->∃ m',m'<m/\W m' σ' H')/\tb { D with nx:=N,ct:=N,bk:=D.nx } σ H1 else D.nx σ H1
theorem m4{c:Expr}{body:List Stmt}{E:TT}{A:TS}(z:PassesOwn (model X.prog X.w) X.A X.env X.xe)(M:PT X c E)(F:PSs X body A):PS X (.While c body [] pos) (zi E A):=by
 intro d s L H D I h;obtain⟨W,⟨O,R⟩,j⟩:=h;refine wpAny_While (codeAny_whileLoop (λn G=>∃ σ' H',Inv X d σ' H' G/\W n σ' H') ?_ O ⟨L,H,I,R⟩);rintro n Q ⟨g,x,K,P⟩;refine wpAny_passesOwn z (thn (M d Q g x _ K (j n g x P)) λb J ⟨C,y,l⟩=>?_);cases b with
 | true =>
  obtain⟨N,B,l⟩:=l;rw[if_pos rfl];refine wpAny_passesOwn z (thn (F d J g C _ y l) λf S o=>?_);cases f with
  | next =>
   obtain⟨a,i,r,p⟩:=o;obtain⟨u,q,w⟩:=B a i p;exact⟨u,q,a,i,r,w⟩
  | cont =>
   obtain⟨a,i,r,p⟩:=o;obtain⟨u,q,w⟩:=B a i p;exact⟨u,q,a,i,r,w⟩
  | brk=>exact o
  | ret v=>exact o
 | false =>
  rw[if_neg Bool.false_ne_true];exact wpAny_execs_nil ⟨g,C,y,l⟩
end
structure It where
 go:Nat->Hp->Prop
 yld:Nat->Hp->V->Hp->Prop
 stop:Nat->Hp->Prop
def gt(X:Cx)(pins:List (Addr×Obj))(H:Hp)(b:Addr):Prop :=
 H b = none/\b≠X.env.locals/\b ∉ X.fs/\(b ∈ X.ex\/X.s₀.heap.objs.size<=b)/\(∀ x c,X.env.cells.lookup x = some c->c≠b)/\∀ p ∈ X.pn ++ pins,p.1≠b
theorem Inv.fpOk{X:Cx}{a:List (Addr×Obj)}{σ:St}{H f:Hp}{s:Shared}{b:Addr}(I:Inv X a σ H s)(d:s.heap.objs.size<=b)(g:f b=none):gt X a f b:=by
 refine⟨g,Nat.ne_of_gt (Nat.lt_of_lt_of_le I.lt d),I.nofs d,.inr (Nat.le_trans I.sz d),λx c e z=>?_,λp hp z=>?_⟩
 .obtain⟨v,q⟩:=I.cell x c e
  exact absurd (Nat.lt_of_lt_of_le q.lt (by rw[z];exact d)) (Nat.lt_irrefl _)
 .exact absurd (Nat.lt_of_lt_of_le (Heap.lt_size (I.pin p hp).1) (by rw[z];exact d)) (Nat.lt_irrefl _)
structure Turn(P:Program)(w:World)(K:Frag)(tg:Expr)(J:It)(fp:List Addr)(it:Addr)(tn:Nat->Heap->Prop):Prop where
 mem:it∈fp
 obj:∀ i h,tn i h->∀ b∈fp,∃ o,h.get? b=some o/\∀ v,o.data≠.cell v
 keep:∀ i h h',tn i h->(∀ b∈fp,∀ o,h.get? b=some o->h'.get? b=some o)->tn i h'
 item:∀(X:Cx),X.prog=P->X.w=w->X.K=K->X.calm=true->∀(i:Nat) (pins:List (Addr×Obj)) (s:Shared) (σ:St) (H:Hp) (E:Value->Shared->Prop),Inv X pins σ H s->(∀ b∈fp,gt X pins H b)->tn i s.heap->J.go i H ->
  wpAny (model P w) X.A (pyNext (.ref it)) (λr s1=>∃ u,r=some u /\
   wpAny (model P w) X.A (letOwnedTupleGo tg (.ref it) u) (λ_ s2=>∃ x H',Inv X pins σ H' s2/\RelV x u/\J.yld i H x H'/\tn (i+1) s2.heap/\∀ b∈fp,H' b=none) E s1) E s
 done:∀(X:Cx),X.prog=P->X.w=w->X.K=K->X.calm=true->∀(i:Nat) (pins:List (Addr×Obj)) (s:Shared) (σ:St) (H:Hp) (E:Value->Shared->Prop),Inv X pins σ H s->(∀ b∈fp,gt X pins H b)->tn i s.heap->J.stop i H ->
  wpAny (model P w) X.A (pyNext (.ref it)) (λr s1=>r=none/\Inv X pins σ H s1) E s
 self:∀(A:Around) (i:Nat) (s:Shared) (Q:Value->Shared->Prop) (E:Value->Shared->Prop),tn i s.heap->Q (.ref it) s->wpAny (model P w) A (pyIter (.ref it)) Q E s
abbrev TI:=St->Hp->(It->Hp->Prop)->Prop
def PIE(X:Cx)(pins:List (Addr×Obj))(σ:St)(tg:Expr)(R:It->Hp->Prop)(itv:Value)(s2:Shared):Prop :=
 ∃(it:Addr) (fp:List Addr) (tn:Nat->Heap->Prop) (J:It) (H':Hp),itv=.ref it/\Inv X pins σ H' s2/\Turn X.prog X.w X.K tg J fp it tn/\tn 0 s2.heap/\(∀ b∈fp,gt X pins H' b)/\R J H'
def PI(X:Cx)(tg iter:Expr)(wi:TI):Prop :=
 ∀(pins:List (Addr×Obj)) (s:Shared) (σ:St) (H:Hp) (R:It->Hp->Prop),Inv X pins σ H s->wi σ H R ->
  wpAny (model X.prog X.w) X.A (eval iter X.env) (λv s1=>wpAny (model X.prog X.w) X.A (pyIter v) (PIE X pins σ tg R) X.xe s1) X.xe s
theorem m8{M:Model}{A:Around}{E:Value->Shared->Prop}{s:Shared}{tg:Expr}{b:Addr}{u:Value}{o:Obj}{n:String}{vs:Array Value}{Q:Unit->Shared->Prop}(d:s.heap.get? b=some o)(c:o.cls=.type n)(f:o.data=.fields vs)
  (g:["enumerate","zip","dict_itemiterator","dict_reverseitemiterator","odict_iterator","itertools.zip_longest","itertools.pairwise"].contains n=false) (a:Q () s):wpAny M A (letOwnedTupleGo tg (.ref b) u) Q E s:=by
 unfold letOwnedTupleGo
 cases tg <;> first
  | exact wpAny_pure a
  | (cases u <;> first
    | exact wpAny_pure a
    | (refine wpAny_bind (wpAny_load d ?_)
       rw[c,f];show wpAny M A (if (["enumerate","zip","dict_itemiterator","dict_reverseitemiterator","odict_iterator","itertools.zip_longest","itertools.pairwise"].contains n && vs[0]? == some (rawInt _))=true then _ else _) Q E s;rw[if_neg (by intro h;rw[g,Bool.false_and]at h;cases h)]
       exact wpAny_pure a))
def Itl(K:Frag)(a:Addr):It :=
 ⟨λi H=>∃ xs x,SqL K H a xs/\xs[i]? = some x,λi H x H'=>H'=H/\∀ xs,SqL K H a xs->xs[i]? = some x,λi H=>∃ xs,SqL K H a xs/\xs.length<=i⟩
def Itt(K:Frag)(a:Addr):It :=
 ⟨λi H=>∃ xs x,SqT K H a xs/\xs[i]? = some x,λi H x H'=>H'=H/\∀ xs,SqT K H a xs->xs[i]? = some x,λi H=>∃ xs,SqT K H a xs/\xs.length<=i⟩
def Itr(lo:Int)(n:Nat):It:=⟨λi _=>i<n,λi H x H'=>H'=H/\x=.int (lo+i),λi _=>n<=i⟩
theorem rT{P:Program}{w:World}{K:Frag}{tg:Expr}(a l:Addr):Turn P w K tg (Itl K a) [l] l (λi h=>h.IsListIter l a i) where
 mem:=by simp
 obj:=λi h f b j=>by
  have e:b=l:=by simpa using j
  subst e;obtain⟨o,e,c,d⟩:=f;exact⟨o,e,λv z=>by rw[d]at z;cases z⟩
 keep:=λi h r f k=>f.at λo e=>k l (by simp) o e
 item:=by
  intro X Q M L S i g s R H E I y f J;subst Q M L;obtain⟨Y,x,q,G⟩:=J;obtain⟨F,D,p,hz⟩:=I.list q;obtain⟨u,hu,ru⟩:=D.get G;obtain⟨B,A,f2,O,C,N⟩:=y l (by simp);refine wpAny_pyNext_list_item f p.isList (x:=u) (by simpa using hu) λr n sb=>?_
  have W:Inv X g R H { s with heap:=r }:=I.turned (t':=s.toks) (λb o j e=>(sb.2 b j).trans e) B A O C N;obtain⟨o,e,c,d⟩:=id n;exact⟨u,rfl,m8 (s:={ s with heap:=r }) e c d (by decide) ⟨x,H,W,ru,⟨rfl,λys T=>by rw[I.list_inj T q];exact G⟩,n,λb j=>(y b j).1⟩⟩
 done:=by
  intro X Q M L S i g s R H E I y f J;subst Q M L;obtain⟨Y,q,G⟩:=J;obtain⟨F,D,p,hz⟩:=I.list q;obtain⟨B,A,f2,O,C,N⟩:=y l (by simp);have hl:=D.length
  exact wpAny_pyNext_list_end (I.ok.hd S) f p.isList (by simp;lia) λr Z=>⟨rfl,I.turned (t':=s.toks) (λb o j e=>Z b o j e) B A O C N⟩
 self:=λ_ _ _ _ _ f h=>wpAny_pyIter_listiter f h
theorem oZ{P:Program}{w:World}{K:Frag}{tg:Expr}(a l:Addr):Turn P w K tg (Itt K a) [l] l (λi h=>h.IsTupleIter l a i) where
 mem:=by simp
 obj:=λi h f b j=>by
  have e:b=l:=by simpa using j
  subst e;obtain⟨o,e,c,d⟩:=f;exact⟨o,e,λv z=>by rw[d]at z;cases z⟩
 keep:=λi h y f k=>f.at λo e=>k l (by simp) o e
 item:=by
  intro X Q M L S i g s R H E I A f J;subst Q M L;obtain⟨Y,x,r,G⟩:=J;obtain⟨n,F,p,hz⟩:=I.tuple r;obtain⟨u,hu,ru⟩:=F.get G;obtain⟨C,B,f2,O,D,N⟩:=A l (by simp);refine wpAny_pyNext_tuple_item f (show s.heap.IsTuple a n.toArray from p) (x:=u) (by simpa using hu) λy q sb=>?_
  have W:Inv X g R H { s with heap:=y }:=I.turned (t':=s.toks) (λb o j e=>(sb.2 b j).trans e) C B O D N;obtain⟨o,e,c,d⟩:=id q;exact⟨u,rfl,m8 (s:={ s with heap:=y }) e c d (by decide) ⟨x,H,W,ru,⟨rfl,λys T=>by rw[I.tuple_inj T r];exact G⟩,q,λb j=>(A b j).1⟩⟩
 done:=by
  intro X Q M L S i g s R H E I A f J;subst Q M L;obtain⟨Y,r,G⟩:=J;obtain⟨n,F,p,hz⟩:=I.tuple r;obtain⟨C,B,f2,O,D,N⟩:=A l (by simp);have hl:=F.length
  exact wpAny_pyNext_tuple_end (I.ok.hd S) f (show s.heap.IsTuple a n.toArray from p) (by simp;lia) λy Z=>⟨rfl,I.turned (t':=s.toks) (λb o j e=>Z b o j e) C B O D N⟩
 self:=λ_ _ _ _ _ f h=>wpAny_pyIter_tupleiter f h
theorem oW{P:Program}{w:World}{K:Frag}{tg:Expr}(c:Addr)(lo:Int)(n:Nat):Turn P w K tg (Itr lo n) [c] c (λi h=>IsRangeIter h c (lo+(i:Nat)*1) ((n:Int) - (i:Nat)) 1) where
 mem:=by simp
 obj:=λi h a b f=>by
  have e:b=c:=by simpa using f
  subst e
  exact⟨_,a,λv z=>by
   have L:Data.fields _=Data.cell v:=z
   cases L⟩
 keep:=λi h j a k=>k c (by simp) _ a
 item:=by
  intro X D A y u i d s F H E I l a x;subst D A y;obtain⟨q,p,N,C,r,B⟩:=l c (by simp);have W:=Walks.range (prog:=X.prog) (w:=X.w) (I.ok.hd u) c lo 1 n;refine W.item i s _ _ x a λv j G Q g O=>?_
  obtain⟨t,rfl⟩:=Q;have J:Inv X d F H { s with heap:=j,toks:=G }:=I.turned (λb o f e=>O b o (by simpa using f) e) q p C r B;refine⟨_,rfl,m8 (s:={ s with heap:=j,toks:=G }) (n := "range_iterator") g rfl rfl (by decide) ⟨.int (lo+i),H,J,⟨t,?_⟩,⟨rfl,rfl⟩,g,λb f=>(l b f).1⟩⟩;rw[Int.mul_one]
 done:=by
  intro X D A y u i d s F H E I l a x;subst D A y;obtain⟨q,p,N,C,r,B⟩:=l c (by simp)
  exact wpAny_pyNext_range_end (I.ok.hd u) a (by have:n<=i:=x;lia) λj M=>⟨rfl,I.turned (t':=s.toks) (λb o f e=>M b o f e) q p C r B⟩
 self:=λ_ _ _ _ _ a h=>wpAny_pyIter_rangeiter a h
section
variable {X:Cx}{tg:Expr}
theorem u8{c:List (Addr×Obj)}{σ:St}{H:Hp}{s:Shared}{R:It->Hp->Prop}{E:Value->Shared->Prop}{lo a:Int}{t u v:Tok}{tk:Nat}(I:Inv X c σ H s)(i:-(2 ^ 62)<=lo)(j:lo<2 ^ 62)(f:-(2 ^ 62)<=a)(l:a<2 ^ 62)
  (q:R (Itr lo (a - lo).toNat) H):wpAny (model X.prog X.w) X.A (pyIter (.ref s.heap.objs.size)) (PIE X c σ tg R) E { s with heap:=s.heap.push { cls:=.type "range",data:=.fields #[.int lo t,.int a u,.int 1 v] },toks:=tk }:=by
 refine wpAny_pyIter_range (IsRange.new ..) (small_one i j f l) ?_;have d:Inv X c σ H { s with heap:=s.heap.push { cls:=.type "range",data:=.fields #[.int lo t,.int a u,.int 1 v] },toks:=tk }:=I.kept λb o e=>Heap.get?_push_of_some _ e
 refine⟨(s.heap.push { cls:=.type "range",data:=.fields #[.int lo t,.int a u,.int 1 v] }).objs.size,[(s.heap.push { cls:=.type "range",data:=.fields #[.int lo t,.int a u,.int 1 v] }).objs.size],_,_,H,rfl,
  d.kept (t':=tk) λb o e=>Heap.get?_push_of_some _ e,oW _ lo (a - lo).toNat,?_,λb hb=>?_,q⟩
 .have h:lo+((0:Nat):Int)*1=lo:=by simp
  have g:(((a - lo).toNat:Nat):Int) - ((0:Nat):Int)=Builtin.Range.rangeSize lo a 1:=by rw[rangeSize_one];split <;> lia
  show IsRangeIter _ _ (lo+((0:Nat):Int)*1) ((((a - lo).toNat:Nat):Int) - ((0:Nat):Int)) 1;rw[h,g];exact Heap.get?_push_size _ rfl
 .have e:b=(s.heap.push { cls:=.type "range",data:=.fields #[.int lo t,.int a u,.int 1 v] }).objs.size:=by simpa using hb
  subst e;exact d.fpOk (Nat.le_refl _) (d.hok.fresh (Nat.le_refl _))
def BN(ta:TA):TI:=λσ H R=>ta σ H λvs H1=>∃ j:Int,vs=[.int j]/\-(2 ^ 62)<=j/\j<2 ^ 62/\R (Itr 0 j.toNat) H1
theorem ee{a:Expr}{f:TA}{p c:Pos}(i:Gl X "range")(o:X.mg "range" = none)(n:PA X [a] f)(w:starEach [a] X.env=[(false,eval a X.env)]:=by rfl):PI X tg (.Call (.Name "range" p) [a] [] c) (BN f):=by
 intro b s g H R I h;refine Call_ (jt I i o boot_range (PyProof.Rows.callWith_type1 (thn (n c b s g H _ I h) λz A ⟨x,y,u,v,d⟩=>?_) w rfl));obtain⟨j,e,d,l,q⟩:=d;subst e;cases v with
 | cons r rr =>
  cases rr;obtain⟨t,rfl⟩:=r;exact call_range_1 (u8 u (by lia) (by lia) d l (by simpa using q))
def Co(wi:TI)(g:TG)(tb:TS):TS:=λD σ H=>wi σ H λJ H1=>∃ W:Nat->Nat->St->Hp->Prop,(∃ m,W 0 m σ H1)/\∀ i m σ H,W i m σ H ->
 (J.stop i H/\D.nx σ H)\/(J.go i H/\∃ N:St->Hp->Prop,(∀ σ' H',N σ' H'->∃ m',m'<m/\W (i+1) m' σ' H')/\∀ x H',J.yld i H x H'->g x σ H' λσ2 H2=>tb { D with nx:=N,ct:=N,bk:=D.nx } σ2 H2)
def jB(fp:List Addr)(h:Heap):List (Addr×Obj):=fp.filterMap λb=>(h.get? b).map λo=>(b,o)
theorem eQ{a:List Addr}{h:Heap}{b:Addr}{o:Obj}(c:b∈a)(e:h.get? b=some o):(b,o)∈jB a h:=List.mem_filterMap.mpr ⟨b,c,by rw[e];rfl⟩
theorem tN{a:List Addr}{h:Heap}{p:Addr×Obj}(f:p∈jB a h):p.1∈a/\h.get? p.1=some p.2:=by
 obtain⟨b,c,e⟩:=List.mem_filterMap.mp f;cases q:h.get? b with
 | none=>rw[q]at e;cases e
 | some o =>
  rw[q]at e;have d:(b,o)=p:=Option.some.inj e;subst d;exact⟨c,q⟩
theorem Inv.pinned{a:List (Addr×Obj)}{σ:St}{H:Hp}{s:Shared}{c:List Addr}(I:Inv X a σ H s)(j:∀ b∈c,gt X a H b)(i:∀ b∈c,∃ o,s.heap.get? b=some o/\∀ v,o.data≠.cell v):Inv X (a++jB c s.heap) σ H s :=
 I.pins_of λp l=>(mem_append.mp l).elim (λz=>I.pin p (mem_append_right _ z)) λz=>by
  obtain⟨f,e⟩:=tN z;obtain⟨n,h,q,_⟩:=j p.1 f;obtain⟨o,g,d⟩:=i p.1 f;rw[e]at g;cases g;exact⟨e,n,h,q,d⟩
theorem Inv.unpinned{a pl:List (Addr×Obj)}{σ:St}{H:Hp}{s:Shared}(I:Inv X (a++pl) σ H s):Inv X a σ H s:=I.pins_of λp b=>I.pin p (mem_append_right _ (mem_append_left _ b))
theorem da{y:Expr}{body:List Stmt}{wi:TI}{g:TG}{tb:TS}{Y:Pos}(E:PassesOwn (model X.prog X.w) X.A X.env X.xe)(hc:X.calm=true)(hi:PI X tg y wi)(hg:PG X tg g)(j:PSs X body tb)
  (hs:∀ x,foldedSetIterable y X.env x=pure x:=by intro _;rfl):PS X (.For tg y body [] Y) (Co wi g tb):=by
 intro c s σ H D I h;refine wpAny_For (thn (hi c s σ H _ I h) λv s1 h1=>thn h1 λitv s2 h2=>?_) hs;obtain⟨it,F,tn,J,H2,e,I2,T,R,f2,W,⟨m0,w0⟩,O⟩:=h2;subst e
 have z:∀{H':Hp},(∀ b∈F,H' b=none)->∀ b∈F,gt X c H' b:=λhn b j=>⟨hn b j,(f2 b j).2⟩
 refine codeAny_forLoop_any (λn s'=>∃ i σ' H',Inv X c σ' H' s'/\tn i s'.heap/\(∀ b∈F,H' b=none)/\W i n σ' H') ?_ m0 ⟨0,σ,H2,I2,R,λb j=>(f2 b j).1,w0⟩;rintro n s3 ⟨i,p,P,I3,L,M,w3⟩
 rcases O i n p P w3 with⟨G,qn⟩ | ⟨go,N,hN,K⟩
 .refine wpAny_passesOwn E (thn (T.done X rfl rfl rfl hc i c s3 p P X.xe I3 (z M) L G) λr s4 ⟨Q,I4⟩=>?_)
  subst Q;exact wpAny_execs_nil ⟨p,P,I4,qn⟩
 .refine wpAny_passesOwn E (thn (T.item X rfl rfl rfl hc i c s3 p P X.xe I3 (z M) L go) λr s4 ⟨u,Q,h4⟩=>?_)
  subst Q;refine wpAny_passesOwn E (thn h4 λ_ s5 ⟨x,H5,I5,r5,y5,B,ab⟩=>?_);have S:=I5.pinned (z ab) (T.obj _ _ B);refine wpAny_passesOwn E (thn (hg _ s5 p H5 x u _ S r5 (K x H5 y5)) λ_ s6 ⟨Z,H6,I6,q6⟩=>?_);refine wpAny_passesOwn E (thn (j _ s6 Z H6 _ I6 q6) λf s7 A=>?_)
  have q:∀{a:St}{w:Hp},Inv X (c++jB F s5.heap) a w s7->N a w->∃ m,m<n/\∃ i σ' H',Inv X c σ' H' s7/\tn i s7.heap/\(∀ b∈F,H' b=none)/\W i m σ' H':=λ{a w} l C=>by
   obtain⟨m',hm,w7⟩:=hN a w C;refine⟨m',hm,i+1,a,w,l.unpinned,T.keep _ _ _ B λb j o e=>(l.pin (b,o) (mem_append_right _ (mem_append_right _ (eQ j e)))).1,λb j=>?_,w7⟩;obtain⟨o,e,d⟩:=T.obj _ _ B b j;exact(l.pin (b,o) (mem_append_right _ (mem_append_right _ (eQ j e)))).2.1
  cases f with
  | next=>obtain⟨a,w,l,C⟩:=A;exact q l C
  | cont=>obtain⟨a,w,l,C⟩:=A;exact q l C
  | brk=>obtain⟨a,w,l,A⟩:=A;exact⟨a,w,l.unpinned,A⟩
  | ret v=>obtain⟨x7,a,w,l,r7,A⟩:=A;exact⟨x7,a,w,l.unpinned,r7,A⟩
end
theorem cY{K:Frag}{a:Addr}{xs:List V}{g:TG}{b:TS}{D:Ends}{σ:St}{H:Hp}(Pv:Nat->St->Hp->Prop)(c:Pv 0 σ H)(h:∀ i σ H,i<=xs.length->Pv i σ H->SqL K H a xs)
  (l:∀ i x σ H,xs[i]? = some x->Pv i σ H->g x σ H λσ2 H2=>b { D with nx:=Pv (i+1),ct:=Pv (i+1),bk:=D.nx } σ2 H2) (j:∀ σ H,Pv xs.length σ H->D.nx σ H) :
  ∃ W:Nat->Nat->St->Hp->Prop,(∃ m,W 0 m σ H)/\∀ i m σ H,W i m σ H ->
   ((Itl K a).stop i H/\D.nx σ H)\/((Itl K a).go i H/\∃ N:St->Hp->Prop,(∀ σ' H',N σ' H'->∃ m',m'<m/\W (i+1) m' σ' H')/\∀ x H',(Itl K a).yld i H x H'->g x σ H' λσ2 H2=>b { D with nx:=N,ct:=N,bk:=D.nx } σ2 H2):=by
 refine⟨λi m σ H=>m=xs.length - i/\i<=xs.length/\Pv i σ H,⟨xs.length,by simp,Nat.zero_le _,c⟩,?_⟩;rintro i m σ H ⟨rfl,d,p⟩;have q:=h i σ H d p
 by_cases hlt:i<xs.length
 .refine .inr ⟨⟨xs,xs[i],q,by simp[hlt]⟩,Pv (i+1),λσ' H' f=>⟨xs.length - (i+1),by lia,rfl,hlt,f⟩,λx H' y=>?_⟩
  obtain⟨e,y⟩:=y;subst e;exact l i x σ _ (y xs q) p
 .have e:i=xs.length:=by lia
  subst e;exact .inl ⟨⟨xs,q,Nat.le_refl _⟩,j σ H p⟩
theorem io{lo:Int}{n:Nat}{g:TG}{a:TS}{D:Ends}{σ:St}{H:Hp}(Pv:Nat->St->Hp->Prop)(b:Pv 0 σ H)
  (f:∀ i σ H,i<n->Pv i σ H->g (.int (lo+i)) σ H λσ2 H2=>a { D with nx:=Pv (i+1),ct:=Pv (i+1),bk:=D.nx } σ2 H2) (d:∀ σ H,Pv n σ H->D.nx σ H) :
  ∃ W:Nat->Nat->St->Hp->Prop,(∃ m,W 0 m σ H)/\∀ i m σ H,W i m σ H ->
   ((Itr lo n).stop i H/\D.nx σ H)\/((Itr lo n).go i H/\∃ N:St->Hp->Prop,(∀ σ' H',N σ' H'->∃ m',m'<m/\W (i+1) m' σ' H')/\∀ x H',(Itr lo n).yld i H x H'->g x σ H' λσ2 H2=>a { D with nx:=N,ct:=N,bk:=D.nx } σ2 H2):=by
 refine⟨λi m σ H=>m=n - i/\i<=n/\Pv i σ H,⟨n,by simp,Nat.zero_le _,b⟩,?_⟩;rintro i m σ H ⟨rfl,h,p⟩
 by_cases hlt:i<n
 .refine .inr ⟨hlt,Pv (i+1),λσ' H' c=>⟨n - (i+1),by lia,rfl,hlt,c⟩,λx H' y=>?_⟩
  obtain⟨e,y⟩:=y;subst e y;exact f i σ _ hlt p
 .have e:i=n:=by lia
  subst e;exact .inl ⟨Nat.le_refl _,d σ H p⟩
abbrev R2:=V->V->Hp->VK->Prop
def OpR(X:Cx)(f:Value->Value->Sem Value)(r:R2):Prop :=
 ∀(pins:List (Addr×Obj)) (s:Shared) (σ:St) (H:Hp) (x y:V) (v u:Value) (Q:VK),Inv X pins σ H s->RelV x v->RelV y u->r x y H Q ->
  wpAny (model X.prog X.w) X.A (f v u) (EP X pins σ Q) X.xe s
def UnR(X:Cx)(f:Value->Sem Value)(r:V->Hp->VK->Prop):Prop :=
 ∀(pins:List (Addr×Obj)) (s:Shared) (σ:St) (H:Hp) (x:V) (v:Value) (Q:VK),Inv X pins σ H s->RelV x v->r x H Q ->
  wpAny (model X.prog X.w) X.A (f v) (EP X pins σ Q) X.xe s
def CallR(X:Cx)(f:Value)(r:List V->Hp->VK->Prop):Prop :=
 ∀(pins:List (Addr×Obj)) (s:Shared) (σ:St) (H:Hp) (xs:List V) (us:List Value) (Q:VK),Inv X pins σ H s->Vals xs us->r xs H Q ->
  wpAny (model X.prog X.w) X.A (call f us) (EP X pins σ Q) X.xe s
def CF(X:Cx)(r:V->Hp->(Bool->Hp->Prop)->Prop):Prop :=
 ∀(pins:List (Addr×Obj)) (s:Shared) (σ:St) (H:Hp) (x:V) (v:Value) (Q:Bool->Hp->Prop),Inv X pins σ H s->RelV x v->r x H Q ->
  wpAny (model X.prog X.w) X.A (truthy v) (TP X pins σ Q) X.xe s
def tOp(r:R2)(ta tb:TE):TE:=λσ H Q=>ta σ H λx H1=>tb σ H1 λy H2=>r x y H2 Q
def tUn(r:V->Hp->VK->Prop)(ta:TE):TE:=λσ H Q=>ta σ H λx H1=>r x H1 Q
def rI(C:Int->Int->Prop)(g:Int->Int->V):R2:=λx y H Q=>∃ i j,x=.int i/\y=.int j/\C i j/\Q (g i j) H
def rI0(g:Int->Int->V):R2:=λx y H Q=>∃ i j,x=.int i/\y=.int j/\Q (g i j) H
def rU(g:Int->V):V->Hp->VK->Prop:=λx H Q=>∃ i,x=.int i/\Q (g i) H
section
variable {X:Cx}{a b c:Expr}{ta tb tc:TE}{pos:Pos}
theorem zh(l:PE X a ta)(d:PE X b tb){c:List (Addr×Obj)}{s:Shared}{σ:St}{H:Hp}{R:V->V->Hp->Prop}(I:Inv X c σ H s)
  (h:ta σ H λx H1=>tb σ H1 λy H2=>R x y H2){Q:Value->Shared->Prop}{f:Value->Value->Sem Value}
  (j:∀ v u s2 x y H2,Inv X c σ H2 s2->RelV x v->RelV y u->R x y H2->wpAny (model X.prog X.w) X.A (f v u) Q X.xe s2) :
  wpAny (model X.prog X.w) X.A (eval a X.env) (λv s₁=>wpAny (model X.prog X.w) X.A (eval b X.env) (λu s₂=>wpAny (model X.prog X.w) X.A (f v u) Q X.xe s₂) X.xe s₁) X.xe s:=by
 refine thn (l c s σ H _ I h) λv o ⟨x,H1,p,q,r⟩=>?_
 refine thn (d c o σ H1 _ p r) λu s2 ⟨y,H2,g,n,i⟩=>?_
 exact j v u s2 x y H2 g q n i
theorem aw{op:Operator}{r:R2}(j:OpR X (binaryOp op) r)(n:PE X a ta)(d:PE X b tb):PE X (.BinOp a op b pos) (tOp r ta tb):=by
 intro c s i H Q I h;exact wpAny_BinOp (zh n d I h λv u o x y l g p f q=>j c o i l x y v u Q g p f q)
theorem yP{op:UnaryOp}{r:V->Hp->VK->Prop}(f:UnR X (unaryOp op) r)(g:PE X a ta):PE X (.UnaryOp op a pos) (tUn r ta):=by
 intro b s c H Q I h;exact UnaryOp_ (thn (g b s c H _ I h) λv i ⟨x,d,j,l,n⟩=>f b i c d x v Q j l n)
theorem opI{f:Value->Value->Sem Value}{C:Int->Int->Prop}{g:Int->Int->Int}
  (a:∀(i j:Int) (t u:Tok) (s:Shared) (Q:Value->Shared->Prop) (E:Value->Shared->Prop),C i j->Q (.int (g i j) s.toks) { s with toks:=s.toks+1 }->wpAny (model X.prog X.w) X.A (f (.int i t) (.int j u)) Q E s) :
  OpR X f (rI C λi j=>.int (g i j)):=by
 intro b s o H x y v u Q I n c h;obtain⟨i,j,rfl,rfl,d,q⟩:=h;obtain⟨t,rfl⟩:=n;obtain⟨l,rfl⟩:=c;exact a i j t l s _ _ d ⟨.int (g i j),H,I.tok _,⟨_,rfl⟩,q⟩
theorem Ce{f:Value->Value->Sem Value}{g:Int->Int->Int}
  (a:∀(i j:Int) (t u:Tok) (s:Shared) (Q:Value->Shared->Prop) (E:Value->Shared->Prop),Q (.int (g i j) s.toks) { s with toks:=s.toks+1 }->wpAny (model X.prog X.w) X.A (f (.int i t) (.int j u)) Q E s) :
  OpR X f (rI0 λi j=>.int (g i j)):=by
 intro b s n H x y v u Q I l c h;obtain⟨i,j,rfl,rfl,q⟩:=h;obtain⟨t,rfl⟩:=l;obtain⟨d,rfl⟩:=c;exact a i j t d s _ _ ⟨.int (g i j),H,I.tok _,⟨_,rfl⟩,q⟩
theorem xp{f:Value->Value->Sem Value}{g:Int->Int->Bool}
  (a:∀(i j:Int) (t u:Tok) (s:Shared) (Q:Value->Shared->Prop) (E:Value->Shared->Prop),Q (.bool (g i j)) s->wpAny (model X.prog X.w) X.A (f (.int i t) (.int j u)) Q E s) :
  OpR X f (rI0 λi j=>.bl (g i j)):=by
 intro b s n H x y v u Q I l c h;obtain⟨i,j,rfl,rfl,q⟩:=h;obtain⟨t,rfl⟩:=l;obtain⟨d,rfl⟩:=c;exact a i j t d s _ _ ⟨.bl (g i j),H,I,rfl,q⟩
def Cz(i j:Int):Prop:=0<j/\j<1073741824
def CMul(i j:Int):Prop:=(-(2 ^ 64)<i/\i<2 ^ 64)\/(-(2 ^ 64)<j/\j<2 ^ 64)
theorem CMul.ok{i j:Int}(h:CMul i j):IntMulOk i j:=by
 rcases h with⟨b,a⟩ | ⟨b,a⟩
 .exact .of_left (intBits_le_64 b a)
 .exact .of_right (intBits_le_64 b a)
theorem op_add:OpR X (binaryOp .Add) (rI0 λi j=>.int (i+j)):=Ce λ_ _ _ _ _ _ _ q=>add_int q
theorem op_sub:OpR X (binaryOp .Sub) (rI0 λi j=>.int (i - j)):=Ce λ_ _ _ _ _ _ _ q=>sub_int q
theorem op_mod:OpR X (binaryOp .Mod) (rI (λ_ j=>0<j) λi j=>.int (i % j)):=opI λi j _ _ _ _ _ a q=>by
 have b:(0:Int)<j:=a;exact mod_int' (by lia) (by rw[Int.fmod_eq_emod_of_nonneg i (by lia)];exact q)
theorem unI{f:Value->Sem Value}{g:Int->Int}
  (a:∀(i:Int) (t:Tok) (s:Shared) (Q:Value->Shared->Prop) (E:Value->Shared->Prop),Q (.int (g i) s.toks) { s with toks:=s.toks+1 }->wpAny (model X.prog X.w) X.A (f (.int i t)) Q E s) :
  UnR X f (rU λi=>.int (g i)):=by
 intro b s d H x v Q I c h;obtain⟨i,rfl,q⟩:=h;obtain⟨t,rfl⟩:=c;exact a i t s _ _ ⟨.int (g i),H,I.tok _,⟨_,rfl⟩,q⟩
theorem An:UnR X (unaryOp .USub) (rU λi=>.int (-i)):=unI λ_ _ _ _ _ q=>neg_int q
end
def Ba:V->V->Bool
 | .non,.non=>true | .non,.int _=>true | .int _,.non=>true | .non,.bl _=>true | .bl _,.non=>true | .non,.str _=>true | .str _,.non=>true
 | .int _,.int _=>true | .bl _,.bl _=>true | .str _,.str _=>true | .byt _,.byt _=>true
 | .int _,.str _=>true | .str _,.int _=>true | .bl _,.str _=>true | .str _,.bl _=>true
 | _,_=>false
def rEq:R2:=λx y H Q=>Ba x y=true/\Q (.bl (decide (x=y))) H
def rNe:R2:=λx y H Q=>Ba x y=true/\Q (.bl (!decide (x=y))) H
theorem iW{i j:Int}:decide (V.int i=V.int j)=(i == j):=by
 rw[Bool.eq_iff_iff];simp
theorem ma{i j:Bool}:decide (V.bl i=V.bl j)=(i == j):=by
 rw[Bool.eq_iff_iff];simp
theorem i6{i j:Str}:decide (V.str i=V.str j)=(i == j):=by
 rw[Bool.eq_iff_iff];simp
theorem qb{i j:Array UInt8}:decide (V.byt i=V.byt j)=(i.toList == j.toList):=by
 rw[Bool.eq_iff_iff];cases i;cases j;simp
section
variable {X:Cx}{a b c:Expr}{ta tb tc:TE}{pos:Pos}
theorem aN{a:List (Addr×Obj)}{σ:St}{H:Hp}{s:Shared}{Q:VK}{k b:Bool}(I:Inv X a σ H s)(q:Q (.bl k) H)(e:k=b):EP X a σ Q (.bool b) s:=by
 subst e;exact⟨.bl k,H,I,rfl,q⟩
theorem op_eq:OpR X (compareOp .Eq) rEq:=by
 intro f s g H x y v u Q I d a h;obtain⟨c,q⟩:=h;cases x with
 | non =>
  cases d;cases y with
  | non=>cases a;exact PySem.EqNone.eq_none_none (aN I q (by simp))
  | bl j=>cases a;exact PySem.EqNone.eq_none_bool (aN I q (by simp))
  | int j=>obtain⟨b,rfl⟩:=a;exact PySem.EqNone.eq_none_int (aN I q (by simp))
  | str j=>obtain⟨b,rfl⟩:=a;exact PySem.EqNone.eq_none_str (aN I q (by simp))
  | _=>exact absurd (show false=true from c) Bool.false_ne_true
 | bl i =>
  cases d;cases y with
  | non=>cases a;exact PySem.EqNone.eq_bool_none (aN I q (by simp))
  | bl j=>cases a;exact eq_bool (aN I q ma)
  | str j=>obtain⟨b,rfl⟩:=a;exact PySem.EqMixed.eq_bool_str (aN I q (by simp))
  | _=>exact absurd (show false=true from c) Bool.false_ne_true
 | int i =>
  obtain⟨t,rfl⟩:=d;cases y with
  | non=>cases a;exact PySem.EqNone.eq_int_none (aN I q (by simp))
  | int j=>obtain⟨b,rfl⟩:=a;exact eq_int (aN I q iW)
  | str j=>obtain⟨b,rfl⟩:=a;exact PySem.EqMixed.eq_int_str (aN I q (by simp))
  | _=>exact absurd (show false=true from c) Bool.false_ne_true
 | str i =>
  obtain⟨t,rfl⟩:=d;cases y with
  | non=>cases a;exact PySem.EqNone.eq_str_none (aN I q (by simp))
  | bl j=>cases a;exact PySem.EqMixed.eq_str_bool (aN I q (by simp))
  | int j=>obtain⟨b,rfl⟩:=a;exact PySem.EqMixed.eq_str_int (aN I q (by simp))
  | str j=>obtain⟨b,rfl⟩:=a;exact eq_str (aN I q i6)
  | _=>exact absurd (show false=true from c) Bool.false_ne_true
 | byt i =>
  obtain⟨t,rfl⟩:=d;cases y with
  | byt j=>obtain⟨b,rfl⟩:=a;exact PySem.W.eq_bytes (aN I q qb)
  | _=>exact absurd (show false=true from c) Bool.false_ne_true
 | _=>cases y <;> exact absurd (show false=true from c) Bool.false_ne_true
theorem op_ne:OpR X (compareOp .NotEq) rNe:=by
 intro f s g H x y v u Q I d a h;obtain⟨c,q⟩:=h;cases x with
 | non =>
  cases d;cases y with
  | non=>cases a;exact PySem.EqNone.ne_none_none (aN I q (by simp))
  | bl j=>cases a;exact PySem.EqNone.ne_none_bool (aN I q (by simp))
  | int j=>obtain⟨b,rfl⟩:=a;exact PySem.EqNone.ne_none_int (aN I q (by simp))
  | str j=>obtain⟨b,rfl⟩:=a;exact PySem.EqNone.ne_none_str (aN I q (by simp))
  | _=>exact absurd (show false=true from c) Bool.false_ne_true
 | bl i =>
  cases d;cases y with
  | non=>cases a;exact PySem.EqNone.ne_bool_none (aN I q (by simp))
  | bl j=>cases a;exact ne_bool (aN I q (congrArg not ma))
  | str j=>obtain⟨b,rfl⟩:=a;exact PySem.EqMixed.ne_bool_str (aN I q (by simp))
  | _=>exact absurd (show false=true from c) Bool.false_ne_true
 | int i =>
  obtain⟨t,rfl⟩:=d;cases y with
  | non=>cases a;exact PySem.EqNone.ne_int_none (aN I q (by simp))
  | int j=>obtain⟨b,rfl⟩:=a;exact ne_int (aN I q (congrArg not iW))
  | str j=>obtain⟨b,rfl⟩:=a;exact PySem.EqMixed.ne_int_str (aN I q (by simp))
  | _=>exact absurd (show false=true from c) Bool.false_ne_true
 | str i =>
  obtain⟨t,rfl⟩:=d;cases y with
  | non=>cases a;exact PySem.EqNone.ne_str_none (aN I q (by simp))
  | bl j=>cases a;exact PySem.EqMixed.ne_str_bool (aN I q (by simp))
  | int j=>obtain⟨b,rfl⟩:=a;exact PySem.EqMixed.ne_str_int (aN I q (by simp))
  | str j=>obtain⟨b,rfl⟩:=a;exact ne_str (aN I q (congrArg not i6))
  | _=>exact absurd (show false=true from c) Bool.false_ne_true
 | byt i =>
  obtain⟨t,rfl⟩:=d;cases y with
  | byt j=>obtain⟨b,rfl⟩:=a;exact PySem.W.ne_bytes (aN I q (congrArg not qb))
  | _=>exact absurd (show false=true from c) Bool.false_ne_true
 | _=>cases y <;> exact absurd (show false=true from c) Bool.false_ne_true
theorem op_lt:OpR X (compareOp .Lt) (rI0 λi j=>.bl (decide (i<j))):=xp λ_ _ _ _ _ _ _ q=>lt_int q
theorem op_le:OpR X (compareOp .LtE) (rI0 λi j=>.bl (decide (i<=j))):=xp λ_ _ _ _ _ _ _ q=>le_int q
theorem op_gt:OpR X (compareOp .Gt) (rI0 λi j=>.bl (decide (j<i))):=xp λ_ _ _ _ _ _ _ q=>gt_int q
theorem op_ge:OpR X (compareOp .GtE) (rI0 λi j=>.bl (decide (j<=i))):=xp λ_ _ _ _ _ _ _ q=>ge_int q
theorem tw:OpR X (compareOp .Lt) (λx y H Q=>∃ i j,x=.str i/\y=.str j/\Q (.bl (decide (i.cps.toList<j.cps.toList))) H):=by
 intro a s d H x y v u Q I c b h;obtain⟨i,j,rfl,rfl,q⟩:=h;obtain⟨t,rfl⟩:=c;obtain⟨f,rfl⟩:=b;exact lt_str (aN I q rfl)
theorem op_in_str:OpR X (compareOp .In) (λx y H Q=>∃ i j,x=.str i/\y=.str j/\Q (.bl (!(Builtin.Str.occurrences j i 0 j.length 1).isEmpty)) H):=by
 intro a s d H x y v u Q I c b h;obtain⟨i,j,rfl,rfl,q⟩:=h;obtain⟨t,rfl⟩:=c;obtain⟨f,rfl⟩:=b;exact in_str (aN I q rfl)
theorem OpR.or{f:Value->Value->Sem Value}{r b:R2}(h:OpR X f r)(h':OpR X f b):OpR X f (λx y H Q=>r x y H Q\/b x y H Q):=by
 intro a s d H x y v u Q I g c q
 rcases q with q | q
 .exact h a s d H x y v u Q I g c q
 .exact h' a s d H x y v u Q I g c q
theorem bp(b:Expr){op:CmpOp}(h:op≠.In:=by decide)(a:op≠.NotIn:=by decide):behindInMarks op b=false:=by
 have d:(op == CmpOp.In)=false:=by cases op <;> first | rfl | exact absurd rfl h
 have c:(op == CmpOp.NotIn)=false:=by cases op <;> first | rfl | exact absurd rfl a
 cases b <;> simp[behindInMarks,d,c]
theorem rm{op:CmpOp}{r:R2}(j:OpR X (compareOp op) r)(n:PE X a ta)(d:PE X b tb)(o:behindInMarks op b=false):PE X (.Compare a [op] [b] pos) (tOp r ta tb):=by
 intro c s i H Q I h;exact wpAny_Compare1 (zh n d I h λv u p x y l g w f q=>j c p i l x y v u Q g w f q) o
def BU(K:Frag)(x:V)(H:Hp)(k:Bool):Prop :=
 match x with
 | .non=>k=false
 | .bl b=>k=b
 | .int i=>k=(i != 0)
 | .str y=>y.length<=sizeLine/\k=((y.length:Int) != 0)
 | .byt y=>y.size<=sizeLine/\k=((y.size:Int) != 0)
 | .ref p=>(∃ xs,SqL K H p xs/\k = !xs.isEmpty)\/(∃ xs,SqT K H p xs/\k = !xs.isEmpty)\/∃ kvs,H p=some (.dK kvs)/\k = !kvs.isEmpty
 | _=>False
theorem pj{κ:Type}{a:List (κ×V)}{vs:List (κ×Value)}(r:KV a vs):(!vs.isEmpty) = !a.isEmpty:=by
 cases r <;> rfl
theorem jv{xs:List V}{its:List Value}(r:Vals xs its):(!its.toArray.isEmpty) = !xs.isEmpty:=by
 cases r <;> simp
theorem g9:(sizeLine:Nat)<2 ^ 63:=by rw[sizeLine_eq];decide
theorem zR:CF X (λx H Q=>∃ k,BU X.K x H k/\Q k H):=by
 intro o s w H x v Q I g h;obtain⟨k,e,q⟩:=h;have z:=g9;have A:sizeLine=16777216:=sizeLine_eq;cases x with
 | non =>
  cases g;have a:k=false:=e;subst a;exact truthy_none ⟨H,I,q⟩
 | bl b =>
  cases g;have a:k=b:=e;subst a;exact wpAny_truthy_bool ⟨H,I,q⟩
 | int i =>
  obtain⟨t,rfl⟩:=g;have a:k=(i != 0):=e;subst a;exact PySem.P.truthy_int ⟨H,I,q⟩
 | str y =>
  obtain⟨t,rfl⟩:=g;obtain⟨hy,a⟩:y.length<=sizeLine/\k=((y.length:Int) != 0):=e;subst a;exact PySem.P.truthy_str (by lia) ⟨H,I.tok _,q⟩
 | byt y =>
  obtain⟨t,rfl⟩:=g;obtain⟨hy,a⟩:y.size<=sizeLine/\k=((y.size:Int) != 0):=e;subst a;exact PySem.W.truthy_bytes (by lia) ⟨H,I.tok _,q⟩
 | ref p =>
  cases g;have a:(∃ f,SqL X.K H p f/\k = !f.isEmpty)\/(∃ f,SqT X.K H p f/\k = !f.isEmpty)\/∃ c,H p=some (.dK c)/\k = !c.isEmpty:=e
  rcases a with⟨f,j,a⟩ | ⟨f,j,a⟩ | ⟨c,j,a⟩
  .subst a
   obtain⟨n,r,l,u⟩:=I.list j;have d:=r.length;exact wpAny_truthy_list l.isList (by simp only[size_toArray];lia) ⟨H,I.tok _,by rw[jv r];exact q⟩
  .subst a
   obtain⟨n,r,l,u⟩:=I.tuple j;have d:=r.length;exact truthy_tuple l (by simp only[size_toArray];lia) ⟨H,I.tok _,by rw[jv r];exact q⟩
  .subst a
   obtain⟨u,hS,vs,r,m⟩:c.length<=sizeLine/\(p == sysModules)=false/\∃ vs,KV c vs/\s.heap.DictOf (aO X.prog X.w) p vs:=I.hok p _ j;have d:c.length=vs.length:=Paired.length r;exact wpAny_truthy_dict hS m (by lia) ⟨H,I.tok _,by rw[pj r];exact q⟩
 | _=>exact(show False from e).elim
theorem mR(d:PE X a ta)(i:∀ whole,isTrue a X.env whole=(do let v <- whole;standAt a.pos;holding [v] (truthy v))) :
  PT X a (λσ H Q=>ta σ H λx H'=>∃ k,BU X.K x H' k/\Q k H'):=by
 intro b s σ H Q I h;exact isTrue_plain (thn (d b s σ H _ I h) λv f ⟨x,c,g,j,l⟩=>zR b f σ c x v Q g j l) (i _)
theorem oR:OpR X (binaryOp .Add) (λx y H Q=>∃ i j,x=.str i/\y=.str j/\i.length+j.length<=sizeLine/\Q (.str (i++j)) H):=by
 intro a s g H x y v u Q I f b h;obtain⟨i,j,rfl,rfl,c,q⟩:=h;obtain⟨t,rfl⟩:=f;obtain⟨d,rfl⟩:=b;exact add_str (λd l=>⟨.str (i++j),H,I.tok _,⟨_,rfl⟩,q⟩) c
theorem dJ{x:V}{us:List Value}(r:Vals [x] us):∃ u,us=[u]/\RelV x u:=by
 cases r with
 | cons r1 r2=>cases r2;exact⟨_,rfl,r1⟩
theorem yS{x y:V}{us:List Value}(r:Vals [x,y] us):∃ u w',us=[u,w']/\RelV x u/\RelV y w':=by
 cases r with
 | cons r1 r2 =>
  cases r2 with
  | cons r3 r4=>cases r4;exact⟨_,_,rfl,r1,r3⟩
theorem ul:CallR X (.builtin "abs") (λxs H Q=>∃ i,xs=[.int i]/\Q (.int (if i<0 then -i else i)) H):=by
 intro a s d H xs c Q I r h;obtain⟨i,rfl,q⟩:=h;obtain⟨u,rfl,t,rfl⟩:=dJ r
 exact call_abs_int λu b=>⟨.int (if i<0 then -i else i),H,I.tok _,⟨_,rfl⟩,q⟩
inductive rTwo(f:Int->Int->Int)(xs:List V)(H:Hp)(Q:VK):Prop
 | mk(i j:Int)(h0:xs=[.int i,.int j])(h1:Q (.int (f i j)) H):rTwo f xs H Q
theorem g7(b:X.calm=true):CallR X (.builtin "min") (rTwo λi j=>if j<i then j else i):=by
 intro a s d H g c Q I r h;obtain⟨i,j,rfl,q⟩:=h;obtain⟨u,f,rfl,⟨t,rfl⟩,⟨o,rfl⟩⟩:=yS r
 refine min_two_ints (I.ok.hd b) λn l k=>⟨_,H,I.kept k,?_,q⟩
 by_cases hj:j<i
 .rw[if_pos hj,if_pos hj];exact⟨_,rfl⟩
 .rw[if_neg hj,if_neg hj];exact⟨_,rfl⟩
end
structure ObjM(h:Heap)(x dx C:Addr)(mA:Str->Option Value):Prop where
 obj:h.get? x=some (instObj C dx)
 ns:h.Ns1 dx mA
 ne:dx≠x
theorem sA{h:Heap}{dx:Addr}{d:Str->Option Value}(n:h.Ns1 dx d):∃ od,h.get? dx=some od/\∀ name,lookIn name od=some (d name):=by
 obtain⟨o,c,r,i,l,g,_,p⟩:=n;refine⟨o,i,λname=>?_⟩;have e:=p name;unfold nsFind findBy at e;rw[<- Array.find?_toList]at e;unfold lookIn;rw[l];dsimp only
 split
 .rename_i y q
  rw[q]at e;exact congrArg some e
 .rename_i q
  rw[q]at e
  have a:c.toList.any (·.refKey)=false:=by
   rw[List.any_eq_false];intro y f;obtain⟨z,t,b⟩:=g y (Array.mem_toList_iff.mp f);simp[DictEntry.refKey,b]
  have j:¬c.toList.any (·.refKey)=true:=by rw[a];exact Bool.false_ne_true
  rw[if_neg j];exact congrArg some e
theorem ObjM.look{h:Heap}{x dx C:Addr}{a:Str->Option Value}(I:ObjM h x dx C a):∃ od,InstAt h x (instObj C dx) C (some od)/\∀ name,lookIn name od=some (a name) :=
 let ⟨od,ho,hl⟩:=sA I.ns
 ⟨od,⟨I.obj,rfl,rfl,ho⟩,hl⟩
section
variable {prog:Program}{w:World}{A:Around}{E:Value->Shared->Prop}{s:Shared}{K:Frag}{x dx C f:Addr}{mA:Str->Option Value}{name:Str}{v:Value}
theorem xL{a:Bool}{Q:Value->Shared->Prop}(X:K.In s.heap)(I:ObjM s.heap x dx C mA)(c:plainGet K C name=true)(d:hasDictIn K C=true)
  (g:findIn K (.ref C) name=some none) (i:mA name=some v) (b:handedIn v=true) (h:Q v { s with toks:=s.toks+1 }) :
  wpAny (model prog w) A (getAttr (.ref x) name a) Q E s:=by
 obtain⟨j,J,f⟩:=I.look;exact PySem.W.get_value X J (plainGet_of c).1 (PySem.W.findObj_own d g rfl (by rw[f,i])) b h
theorem vn{pl:Sem Bool}{Q:Value×List Value->Shared->Prop}(X:K.In s.heap)(I:ObjM s.heap x dx C mA)(a:plainGet K C name=true)
  (c:findIn K (.ref C) name=some (some (.ref f))) (g:isFn K (.ref f)=true) (i:mA name=none) (h:Q (.ref f,[.ref x]) s) :
  wpAny (model prog w) A (getMethod (.ref x) name pl) Q E s:=by
 obtain⟨b,J,d⟩:=I.look;exact PySem.W.method_fn X J (plainGet_of a).1 (plainGet_of a).2 c (beq_iff_eq.mp g) (by show(lookIn name b).map (·.isSome)=some false;rw[d,i];rfl) h
theorem xP{l:List Str}{Q:Unit->Shared->Prop}(X:K.In s.heap)(I:ObjM s.heap x dx C mA)
  (z:findIn K (.ref C) "__setattr__" = some (some (.builtin "object.__setattr__"))) (n:plainOver K C=true) (u:takerIn K C name=some none) (o:hasDictIn K C=true)
  (B:PySem.Within mA l) (hsz:l.length<=sizeLine)
  (h:∀ h',ObjM h' x dx C (λy=>if y=name then some v else mA y)->Heap.SameBut dx s.heap h'->Q () { s with heap:=h',toks:=s.toks+2 }) :
  wpAny (model prog w) A (setAttr (.ref x) name v) Q E s:=by
 obtain⟨G,J,L⟩:=I.look;refine PySem.W.set_plain X J z (PySem.W.osa_open (s:={ s with toks:=s.toks+1 }) (r:=none) X J n u λb=>?_);obtain⟨H,p,f⟩:=any_some o;have q:s.heap.get? x=some ⟨.ref C,some dx,.plain,#[]⟩:=I.obj;refine wpAny_bind (wpAny_pure (wpAny_bind (wpAny_bind (wpAny_loadPart q (wpAny_bind (PySem.W.Looks.here (s:={ s with toks:=s.toks+1 }) (looks_clsIn X p) ?_))))));rw[f];refine wpAny_pure (a:=some dx) (wpAny_bind (wpAny_pure (wpAny_bind ?_)));refine wpAny_nsSet1 (s:={ s with toks:=s.toks+1 }) I.ns λh' c d=>?_
 obtain⟨M,F,D,g,i,j⟩:=c.count (PySem.Within.cons name v B);refine wpAny_bind (wpAny_lookBehind g (by rw[i];exact pastItsLine_dict (Nat.le_trans j (by rw[length_cons];lia))) ?_);exact wpAny_pure (h _ ⟨(d.2 _ (Ne.symm I.ne)).trans I.obj,c,I.ne⟩ d)
theorem vh{R:Result->Shared->Prop}{vs:List Value}{b:List (Str×Value)}(X:K.In s.heap)(j:makesIn K C=true)
  (c:findIn K (.ref C) "__init__" = some (some (.ref f))) (i:typeIn K (.ref f)=some (.type "function"))
  (h:codeAny (model prog w) (A.under (.builtin "type.__call__" ⟨.ref C::vs,b⟩)) (.call (.ref f) ⟨.ref (s.heap.objs.size+1)::vs,b⟩) (PySem.W.InitBack (s.heap.objs.size+1) R)
   { s with heap:=(s.heap.push emptyDict).push (instObj C s.heap.objs.size) }) :
  codeAny (model prog w) A (.call (.ref C) ⟨vs,b⟩) R s:=by
 obtain⟨l,g,d,t,n⟩:=s;exact PySem.W.make_core (PySem.W.makes_of X j) (looks_findIn X c) (λa=>PySem.W.bind_fn X a i) (.inl rfl) h
end
def d4(f:Str)(v:V):List (Str×V)->List (Str×V)
 | []=>[(f,v)]
 | (g,x)::r=>if g=f then (g,v)::r else (g,x)::d4 f v r
theorem iH(f g:Str)(v:V):∀ fs:List (Str×V),(d4 f v fs).lookup g=if g=f then some v else fs.lookup g
 | []=>by
  show List.lookup g [(f,v)]=_
  by_cases h:g=f
  .have a:(g == f)=true:=beq_iff_eq.mpr h
   simp only[List.lookup,a,if_pos h]
  .have a:(g == f)=false:=beq_eq_false_iff_ne.mpr h
   simp only[List.lookup,a,if_neg h]
 | (k,x)::r=>by
  have b:=iH f g v r;rw[show d4 f v ((k,x)::r)=(if k=f then (k,v)::r else (k,x)::d4 f v r) from rfl]
  by_cases hk:k=f
  .rw[if_pos hk]
   by_cases h:g=k
   .have a:(g == k)=true:=beq_iff_eq.mpr h
    simp only[List.lookup,a,if_pos (h.trans hk)]
   .have a:(g == k)=false:=beq_eq_false_iff_ne.mpr h
    simp only[List.lookup,a,if_neg (λe:g=f=>h (e.trans hk.symm))]
  .rw[if_neg hk]
   by_cases h:g=k
   .have a:(g == k)=true:=beq_iff_eq.mpr h
    simp only[List.lookup,a,if_neg (λe:g=f=>hk (h.symm.trans e))]
   .have a:(g == k)=false:=beq_eq_false_iff_ne.mpr h
    simp only[List.lookup,a];exact b
theorem gW(f:Str)(v:V):∀ fs:List (Str×V),f∈(d4 f v fs).map (·.1)/\∀ g,g∈fs.map (·.1)->g∈(d4 f v fs).map (·.1)
 | []=>⟨by simp[d4],λg h=>by simp at h⟩
 | (k,x)::r=>by
  obtain⟨a,b⟩:=gW f v r;rw[show d4 f v ((k,x)::r)=(if k=f then (k,v)::r else (k,x)::d4 f v r) from rfl]
  by_cases hk:k=f
  .rw[if_pos hk]
   subst hk;exact⟨by simp,λg h=>by simpa using h⟩
  .rw[if_neg hk]
   refine⟨?_,λg h=>?_⟩
   .rw[map_cons]
    exact mem_cons_of_mem _ a
   .rw[map_cons]at h ⊢
    rcases mem_cons.mp h with e | e
    .exact mem_cons.mpr (.inl e)
    .exact mem_cons_of_mem _ (b g e)
theorem iF(f:Str)(v:V):∀ fs:List (Str×V),(d4 f v fs).length<=fs.length+1
 | []=>by simp[d4]
 | (k,x)::r=>by
  have a:=iF f v r;rw[show d4 f v ((k,x)::r)=(if k=f then (k,v)::r else (k,x)::d4 f v r) from rfl]
  by_cases hk:k=f
  .rw[if_pos hk,length_cons,length_cons];lia
  .rw[if_neg hk,length_cons,length_cons];lia
theorem RelO.some_of{v:V}{o:Option Value}(r:RelO (some v) o):∃ u,o=some u/\RelV v u:=by
 cases o with
 | none=>exact(show False from r).elim
 | some u=>exact⟨u,rfl,r⟩
theorem RelO.none_of{o:Option Value}(r:RelO none o):o=none:=by
 cases o with
 | none=>rfl
 | some u=>exact(show False from r).elim
theorem sE{v:V}{u:Value}(r:RelV v u):handedIn u=true:=by
 cases v with
 | non=>cases(show u=Value.none from r);rfl
 | bl b=>cases(show u=Value.bool b from r);rfl
 | int i=>obtain⟨t,e⟩:=(show ∃ t,u=Value.int i t from r);cases e;rfl
 | str x=>obtain⟨t,e⟩:=(show ∃ t,u=Value.str x t from r);cases e;rfl
 | byt b=>obtain⟨t,e⟩:=(show ∃ t,u=Value.bytes b t from r);cases e;rfl
 | flt b=>obtain⟨t,e⟩:=(show ∃ t,u=Value.float b t from r);cases e;rfl
 | ref a=>cases(show u=Value.ref a from r);rfl
 | ty n=>cases(show u=Value.type n from r);rfl
section
variable {P:Program}{w:World}{H H':Hp}{h h':Heap}{a C dx:Addr}{fs fs':List (Str×V)}
theorem iV(b:HOk P w H h)(e:H a=some (.ins C dx fs)):∃ mA,ObjM h a dx C mA/\(∀ f,RelO (fs.lookup f) (mA f))/\PySem.Within mA (fs.map (·.1))/\fs.length<=1000/\H dx=some (.own a):=by
 obtain⟨d,z,c,g,mA,n,r,q⟩:=(show ObjOk P w H h a (.ins C dx fs) from b a _ e)
 exact⟨mA,⟨g,n,c⟩,r,q,z,d⟩
end
structure Cls(K:Frag)(C:Addr):Prop where
 pg:plainGet K C Str.empty=true
 hd:hasDictIn K C=true
 po:plainOver K C=true
 sa:findIn K (.ref C) "__setattr__" = some (some (.builtin "object.__setattr__"))
theorem Cls.get{K:Frag}{C:Addr}(c:Cls K C)(f:Str):plainGet K C f=true:=c.pg
def NoAttr(K:Frag)(C:Addr)(f:Str):Prop:=findIn K (.ref C) f=some none
theorem NoAttr.taker{K:Frag}{C:Addr}{f:Str}(n:NoAttr K C f):takerIn K C f=some none:=by
 unfold takerIn;rw[show findIn K (.ref C) f=some none from n];rfl
structure Meth(K:Frag)(C:Addr)(m:Str)(f:Addr):Prop where
 at_:findIn K (.ref C) m=some (some (.ref f))
 fn:isFn K (.ref f)=true
 kp:keepIn K (.ref f)=true
section
variable {X:Cx}{pins:List (Addr×Obj)}{σ:St}{H:Hp}{s:Shared}{a C dx:Addr}{fs:List (Str×V)}{f:Str}{v:V}{A:Around}{E:Value->Shared->Prop}
theorem jm{b:Bool}{Q:Value->Shared->Prop}(I:Inv X pins σ H s)(e:H a=some (.ins C dx fs))(c:Cls X.K C)(n:NoAttr X.K C f)(l:fs.lookup f=some v)
  (h:∀ u s',Inv X pins σ H s'->RelV v u->Q u s'):wpAny (model X.prog X.w) A (getAttr (.ref a) f b) Q E s:=by
 obtain⟨i,O,r,_,_,_⟩:=iV I.hok e;obtain⟨u,g,d⟩:=RelO.some_of (v:=v) (o:=i f) (by rw[<- l];exact r f);exact xL I.kIn O (c.get f) c.hd n g (sE d) (h u _ (I.tok _) d)
theorem jo{m:Str}{g:Addr}{pl:Sem Bool}{Q:Value×List Value->Shared->Prop}(I:Inv X pins σ H s)(e:H a=some (.ins C dx fs))(c:Cls X.K C)(k:Meth X.K C m g)(l:fs.lookup m=none)
  (h:Q (.ref g,[.ref a]) s):wpAny (model X.prog X.w) A (getMethod (.ref a) m pl) Q E s:=by
 obtain⟨b,O,r,_,_,_⟩:=iV I.hok e;have d:b m=none:=RelO.none_of (by rw[<- l];exact r m);exact vn I.kIn O (c.get m) k.at_ k.fn d h
theorem jI{y:V}{u:Value}{Q:Unit->Shared->Prop}(I:Inv X pins σ H s)(e:H a=some (.ins C dx fs))(c:Cls X.K C)(n:NoAttr X.K C f)(F:fs.length<1000)(p:RelV y u)
  (h:∀ s',Inv X pins σ (upd H a (.ins C dx (d4 f y fs))) s'->Q () s'):wpAny (model X.prog X.w) A (setAttr (.ref a) f u) Q E s:=by
 obtain⟨l,O,r,j,_,i⟩:=iV I.hok e;have v:(fs.map (·.1)).length<=sizeLine:=by rw[length_map,sizeLine_eq];lia
 refine xP I.kIn O c.sa c.po n.taker c.hd j v λw d D=>h _ ?_
 have B:∃ o,w.get? dx=some o:=let ⟨o,_,_,e',_⟩:=d.ns;⟨o,e'⟩;refine I.write (x:=a) (e:=dx) (by rw[e];exact True.intro) (.inr i) (λb q hb z=>(D.2 b hb).trans z) B ?_;refine⟨by rw[af O.ne];exact i,?_,O.ne,d.obj,_,d.ns,λg=>?_,λg hg=>?_⟩
 .have:=iF f y fs;lia
 .show RelO ((d4 f y fs).lookup g) (if g=f then some u else l g)
  rw[iH]
  by_cases q:g=f
  .rw[if_pos q,if_pos q];exact p
  .rw[if_neg q,if_neg q];exact r g
 .by_cases q:g=f
  .rw[q];exact(gW f y fs).1
  .refine(gW f y fs).2 g (j g λz=>hg ?_)
   show(if g=f then some u else l g)=none;rw[if_neg q];exact z
theorem Inv.made(I:Inv X pins σ H s):Inv X pins σ (upd (upd H s.heap.objs.size (.own (s.heap.objs.size+1))) (s.heap.objs.size+1) (.ins C s.heap.objs.size []))
  { s with heap:=(s.heap.push emptyDict).push (instObj C s.heap.objs.size) }:=by
 have d:(s.heap.push emptyDict).get? s.heap.objs.size=some emptyDict:=Heap.get?_push_size s.heap rfl
 have f:((s.heap.push emptyDict).push (instObj C s.heap.objs.size)).get? (s.heap.objs.size+1)=some (instObj C s.heap.objs.size):=by
  have:=Heap.get?_push_size (s.heap.push emptyDict) (o:=instObj C s.heap.objs.size) rfl;rwa [Heap.size_push]at this
 have g:(s.heap.push emptyDict).Ns s.heap.objs.size (λ_=>none):=⟨emptyDict,#[],_,d,rfl,(λe he=>absurd he (by simp)),λ_=>rfl⟩
 have h:=I.laid (a:=s.heap.objs.size) (o:=.own (s.heap.objs.size+1)) (h':=s.heap.push emptyDict) (t':=s.toks) (λb u q=>Heap.get?_push_of_some _ q) (Nat.le_refl _) ⟨_,d⟩;refine h.laid (a:=s.heap.objs.size+1) (o:=.ins C s.heap.objs.size []) (t':=s.toks) (λb u q=>Heap.get?_push_of_some _ q) (Nat.le_of_eq (Heap.size_push _ _)) ?_;have c:s.heap.objs.size≠s.heap.objs.size+1:=Nat.ne_of_lt (Nat.lt_succ_self _);refine⟨by rw[af c,ad],Nat.zero_le _,c,f,λ_=>none,(Heap.Ns1.of_empty g).at λo q=>Heap.get?_push_of_some _ q,λ_=>True.intro,λy hy=>absurd rfl hy⟩
theorem xZ{prog:Program}{w:World}{env:Env}{e:Expr}{f:Str}{a:Pos}{s:Shared}{Q:Value->Shared->Prop}(b:attributeBase e f env (eval e env)=eval e env)
  (h:wpAny (model prog w) A (eval e env) (λo s₁=>wpAny (model prog w) A (getAttr o f true) Q E s₁) E s):wpAny (model prog w) A (eval (.Attribute e f a) env) Q E s :=
 Attribute_any_ h (by rw[arm_eval_Attribute,b])
end
def Cs(K:Frag)(ta:TE)(f:Str):TE:=λσ H Q=>ta σ H λx H1=>∃ a C dx fs v,x=.ref a/\H1 a=some (.ins C dx fs)/\Cls K C/\NoAttr K C f/\fs.lookup f=some v/\Q v H1
def Ct(K:Frag)(ta tv:TE)(f:Str):TS:=λD σ H=>tv σ H λy H1=>ta σ H1 λx H2=>∃ a C dx fs,x=.ref a/\H2 a=some (.ins C dx fs)/\Cls K C/\NoAttr K C f/\fs.length<1000 /\
 D.nx σ (upd H2 a (.ins C dx (d4 f y fs)))
def BW(X:Cx)(op:Operator)(rd:V->V->Hp->VK->Prop):Prop :=
 ∀(pins:List (Addr×Obj)) (s:Shared) (σ:St) (H:Hp) (x y:V) (u v:Value) (Q:VK),Inv X pins σ H s->RelV x u->RelV y v->rd x y H Q->wpAny (model X.prog X.w) X.A (inplaceOp op u v) (EP X pins σ Q) X.xe s
def xj(K:Frag)(ta tv:TE)(rd:V->V->Hp->VK->Prop)(f:Str):TS:=λD σ H=>ta σ H λx H1=>∃ a C dx fs v,x=.ref a/\H1 a=some (.ins C dx fs)/\Cls K C/\NoAttr K C f/\fs.lookup f=some v /\
 tv σ H1 λy H2=>rd v y H2 λz H3=>∃ dx' fs',H3 a=some (.ins C dx' fs')/\fs'.length<1000/\D.nx σ (upd H3 a (.ins C dx' (d4 f z fs')))
section
variable {X:Cx}{o e value:Expr}{f:Str}{pos pos' tpos:Pos}{ta tv:TE}
theorem cL(r:PE X e ta)(d:attributeBase e f X.env (eval e X.env)=eval e X.env):PE X (.Attribute e f pos) (Cs X.K ta f):=by
 intro b s o H Q I h;refine xZ d (thn (r b s o H _ I h) λu D ⟨x,i,y,z,a,C,B,A,v,g,p,c,n,l,q⟩=>?_);subst g;obtain rfl:u=Value.ref a:=z
 exact jm y p c n l λE F j w=>⟨v,i,j,w,q⟩
theorem fE(j:PE X o ta)(r:PE X value tv)(z:swapsWith value (some (.Attribute o f pos')) pos.line X.env=pure false):PS X (.Assign [.Attribute o f pos'] value pos) (Ct X.K ta tv f):=by
 intro b s d H D I h;refine plainObj_wpAny_Assign_Attribute (thn (r b s d H _ I h) λu p ⟨y,i,v,g,q⟩=>thn (j b p d i _ v q) λov s2 ⟨x,H2,I2,rx,a,C,dx,fs,ex,ea,c,n,l,q2⟩=>?_) z;subst ex;obtain rfl:ov=Value.ref a:=rx
 exact jI I2 ea c n l g λA w=>⟨d,_,w,q2⟩
theorem rP{op:Operator}{i:V->V->Hp->VK->Prop}(A:PE X o ta)(L:PE X value tv)(g:BW X op i):PS X (.AugAssign (.Attribute o f tpos) op value pos) (xj X.K ta tv i f):=by
 intro b s d H D I h;refine wpAny_AugAssign_AttributeAny (thn (A b s d H _ I h) λF P ⟨x,j,w,B,a,C,M,N,v,G,J,c,n,l,q⟩=>?_);subst G;obtain rfl:F=Value.ref a:=B;refine jm w J c n l λu r p K=>thn (L b r d j _ p q) λw3 s3 ⟨y,H2,I3,ry,q3⟩=>thn (g b s3 d H2 v y u w3 _ I3 K ry q3) λw4 s4 ⟨z,H3,I4,rz,dx',fs',ea',l',q4⟩=>?_
 exact jI I4 ea' c n l' rz λO E=>⟨d,_,E,q4⟩
def CH:V->V->Hp->VK->Prop:=λx y H Q=>∃ i j,x=.int i/\y=.int j/\Q (.int (i+j)) H
theorem Am:BW X .Add CH:=by
 rintro a s f H x y u v Q I d c ⟨i,j,rfl,rfl,q⟩
 obtain⟨t,rfl⟩:=(show ∃ t,u=Value.int i t from d)
 obtain⟨b,rfl⟩:=(show ∃ b,v=Value.int j b from c)
 exact PyProof.Rows.iadd_int ⟨.int (i+j),H,I.tok _,⟨_,rfl⟩,q⟩
end
section
variable {X:Cx}{pins:List (Addr×Obj)}{σ:St}{H:Hp}{s:Shared}{A:Around}{E:Value->Shared->Prop}{Q:Value->Shared->Prop}{c:Value}{b:Bool}
inductive TyOf(K:Frag)(H:Hp):V->Value->Prop where
 | non:TyOf K H .non (.type "NoneType")
 | bl (x:Bool):TyOf K H (.bl x) (.type "bool")
 | int (i:Int):TyOf K H (.int i) (.type "int")
 | str (x:Str):TyOf K H (.str x) (.type "str")
 | flt (x:UInt64):TyOf K H (.flt x) (.type "float")
 | lst {a:Addr}{xs:List V}(e:H a=some (.lst xs)):TyOf K H (.ref a) (.type "list")
 | frz {a:Addr}{o:Obj}{xs:List V}(e:H a=some (.frz o (.lst xs))):TyOf K H (.ref a) (.type "list")
 | tup {a:Addr}{xs:List V}(e:H a=some (.tup xs)):TyOf K H (.ref a) (.type "tuple")
 | dK {a:Addr}{kvs:List (Key×V)}(e:H a=some (.dK kvs)):TyOf K H (.ref a) (.type "dict")
 | dT {a:Addr}{kvs:List (List Key×V)}(e:H a=some (.dT kvs)):TyOf K H (.ref a) (.type "dict")
 | ins {a C dx:Addr}{fs:List (Str×V)}(e:H a=some (.ins C dx fs)) (cl:Cls K C) (ha:findIn K (.ref C) "__class__" = some (some (.builtin "object.__class__")))
   (hn:specialIn K (.builtin "object.__class__") "__get__" = some (some (.builtin "getset_descriptor.__get__"))) (htk:takesIn K (.builtin "object.__class__")=some true)
   (hm:mroIn K C (.type "object")=some true):TyOf K H (.ref a) (.ref C)
end
structure Room(k:Nat)(A:Around):Prop where
 hd:A.handled=none
 dp:A.depth+3*k+5<recursionLimit
 un:A.units+16*k+200<cLine
theorem Room.mono{j k:Nat}{A:Around}(r:Room k A)(h:j<=k):Room j A:=⟨r.hd,by have:=r.dp;lia,by have:=r.un;lia⟩
theorem Room.deeper{k:Nat}{A:Around}(r:Room (k+1) A)(env:Env):Room k (A.deeper env) :=
 ⟨r.hd,by have:=r.dp;show A.depth+1+3*k+5<_;lia,by have:=r.un;show A.units+3+16*k+200<_;lia⟩
theorem pE{A:Around}{C:Addr}{us:List Value}{a:List (Str×Value)}:(A.under (.builtin "type.__call__" ⟨.ref C::us,a⟩)).depth=A.depth+1:=by
 first | rfl | simp[Around.under,Code.weight,Code.isCreation,Code.isGuard,Code.isCaller,Code.frames,Code.isFrame,guardIds]
theorem oO{A:Around}{C:Addr}{us:List Value}{a:List (Str×Value)}:(A.under (.builtin "type.__call__" ⟨.ref C::us,a⟩)).units=A.units+1:=by
 first | rfl | simp[Around.under,Code.cUnits,Code.frames,Code.isFrame]
theorem Room.make{k:Nat}{A:Around}(r:Room (k+1) A)(C:Addr)(us:List Value)(a:List (Str×Value)):Room k (A.under (.builtin "type.__call__" ⟨.ref C::us,a⟩)) :=
 ⟨r.hd,by have:=r.dp;rw[pE];lia,by have:=r.un;rw[oO];lia⟩
theorem Room.depth{k:Nat}{A:Around}(r:Room k A):A.depth<recursionLimit:=by have:=r.dp;lia
theorem Room.units{k:Nat}{A:Around}(r:Room k A):A.units+64<cLine:=by have:=r.un;lia
def At:TA:=λ_ H Q=>Q [] H
def qw(ta:TE)(tr:TA):TA:=λσ H Q=>ta σ H λx H1=>tr σ H1 λxs H2=>Q (x::xs) H2
section
variable {X:Cx}{e:Expr}{es:List Expr}{te:TE}{t:TA}{pos:Pos}
theorem ae:PA X [] At:=λ_ _ _ _ H Q I h=>Calls.spliced_nil ⟨[],H,I,.nil,h⟩
theorem aa(n:PE X e te)(d:PA X es t)(v:starEach (e::es) X.env=(false,eval e X.env)::starEach es X.env:=by rfl):PA X (e::es) (qw te t):=by
 intro b a s c H Q I h;rw[v];show wpAny _ _ (spliced ((false,eval e X.env)::backTo b (starEach es X.env))) _ _ s;refine Calls.spliced_cons (thn (n a s c H _ I h) λu p ⟨x,f,q,r,w⟩=>?_)
 exact thn (d b a p c f _ q w) λy z ⟨i,l,g,o,j⟩=>⟨x::i,l,g,.cons r o,j⟩
def CQ(t:TA):TE:=λσ H Q=>t σ H λxs H1=>xs.length<=sizeLine/\∀ p,H1 p=none->Q (.ref p) (upd H1 p (.tup xs))
def zq(t:TA):TE:=λσ H Q=>t σ H λxs H1=>xs.length<=sizeLine/\∀ p,H1 p=none->Q (.ref p) (upd H1 p (.lst xs))
theorem bT{x1}(h:PA X es t):PE X (.Tuple es x1 pos) (CQ t):=by
 intro a s i H Q I g;refine wpAny_Tuple_spliced (thn (h pos a s i H _ I g) λj c ⟨l,d,f,r,z,q⟩=>⟨by rw[<- r.length];exact z,?_⟩);have n:d c.heap.objs.size=none:=f.hok.fresh (Nat.le_refl _);refine⟨.ref c.heap.objs.size,upd d c.heap.objs.size (.tup l),f.laid (t':=c.toks) (λb u e=>Heap.get?_push_of_some _ e) (Nat.le_refl _) ?_,rfl,q _ n⟩;exact⟨z,j,r,⟨_,Heap.get?_push_size _ rfl,rfl,_,rfl⟩⟩
theorem bW(h:PA X es t):PE X (.List es pos) (zq t):=by
 intro a s i H Q I g;refine wpAny_List_spliced (thn (h pos a s i H _ I g) λj c ⟨l,d,f,r,z,q⟩=>⟨by rw[<- r.length];exact z,?_⟩);have n:d c.heap.objs.size=none:=f.hok.fresh (Nat.le_refl _);refine⟨.ref c.heap.objs.size,upd d c.heap.objs.size (.lst l),f.laid (t':=c.toks) (λb u e=>Heap.get?_push_of_some _ e) (Nat.le_refl _) ?_,rfl,q _ n⟩;exact⟨z,j,0,r,Heap.get?_push_size _ rfl⟩
end
abbrev Sp:=List V->Hp->VK->XK->Prop
abbrev CXT:=List Env->Hp->Shared->XK->Value->Shared->Prop
structure Env0(P:Program)(w:World)(K:Frag)(mg:Str->Option Value)(base:Heap)(A:Around)(outer:List Env)(s:Shared)(H:Hp):Prop where
 frames:A.frames=some outer
 mod:Mod K mg base
 bs:∀ b o,base.get? b=some o->s.heap.get? b=some o/\H b=none
 bsz:base.objs.size<=s.heap.objs.size
 funs:s.heap.FunFrames base outer
 frf:∀ b∈frs outer,H b=none
 hok:HOk P w H s.heap
 bare:AllBare s.gens
def CE(outer:List Env)(P:Program)(w:World)(H:Hp)(s:Shared)(Q:VK)(u:Value)(s':Shared):Prop :=
 ∃ v H',s'.os=s.os/\AllBare s'.gens/\Un (frs outer) [] H H' s.heap s'.heap/\HOk P w H' s'.heap/\RelV v u/\Q v H'
def CR(CX:CXT)(outer:List Env)(P:Program)(w:World)(H:Hp)(s:Shared)(Q:VK)(E:XK)(r:Result)(s':Shared):Prop :=
 match r with
 | .ok (.ret u)=>CE outer P w H s Q u s'
 | .ok _=>False
 | .error e=>CX outer H s E e s'
structure FnOk(P:Program)(w:World)(K:Frag)(mg:Str->Option Value)(base:Heap)(CX:CXT)(k:Nat)(f:Addr)(fd:FuncData)(ps:List Str)(sp:Sp):Prop where
 len:∀ vs H Q E,sp vs H Q E->vs.length=ps.length
 run:∀(A:Around) (outer:List Env) (s:Shared) (H:Hp) (args:Args) (us:List Value) (vs:List V) (Q:VK) (E:XK),Room k A->Env0 P w K mg base A outer s H->BindsTo s fd args (ps.zip us)->Vals vs us->sp vs H Q E ->
  codeAny (model P w) A (.call (.ref f) args) (CR CX outer P w H s Q E) s
theorem FnOk.mono{P:Program}{w:World}{K:Frag}{mg:Str->Option Value}{a:Heap}{CX:CXT}{j k:Nat}{f:Addr}{d:FuncData}{ps:List Str}{sp:Sp}(F:FnOk P w K mg a CX j f d ps sp)(h:j<=k) :
  FnOk P w K mg a CX k f d ps sp:=⟨F.len,λA b s H c l g Q E i=>F.run A b s H c l g Q E (i.mono h)⟩
theorem Env0.make{P:Program}{w:World}{K:Frag}{mg:Str->Option Value}{b:Heap}{A:Around}{a:List Env}{s:Shared}{H:Hp}(e:Env0 P w K mg b A a s H)(C:Addr)(us:List Value)(c:List (Str×Value)) :
  Env0 P w K mg b (A.under (.builtin "type.__call__" ⟨.ref C::us,c⟩)) a s H:=⟨by first | exact e.frames | (simpa[Around.under,Code.envs,Code.isFrame,pushEnvs] using e.frames),e.mod,e.bs,e.bsz,e.funs,e.frf,e.hok,e.bare⟩
section
variable {X:Cx}{pins:List (Addr×Obj)}{σ:St}{H:Hp}{s s':Shared}
theorem Inv.env0(I:Inv X pins σ H s):Env0 X.prog X.w X.K X.mg X.base X.A X.stack s H :=
 ⟨I.ok.frames,I.ok.mod,I.bs,Nat.le_trans I.ok.bsz I.sz,I.stack,I.stkFree,I.hok,I.bare⟩
theorem Inv.after{Q:VK}{u:Value}(I:Inv X pins σ H s)(h:CE X.stack X.prog X.w H s Q u s'):EP X pins σ Q u s':=by
 obtain⟨v,i,n,a,l,c,r,q⟩:=h;obtain⟨j,g,d,t,f⟩:=s';obtain rfl:f=s.os:=n;exact⟨v,i,I.call (h':=j) (g':=g) (d':=d) (t':=t) (ch:=[]) l c a (λb z=>absurd z (by simp)),r,q⟩
end
def BS(sp:Sp)(dvs:List V)(E:XK)(t:TA):TE:=λσ H Q=>t σ H λvs H1=>sp (vs++dvs) H1 Q E
def yT(C:Addr)(m:Str)(sp:Sp)(dvs:List V)(E:XK)(ta:TE)(t:TA):TE:=λσ H Q=>ta σ H λx H1=>∃ a dx fs,x=.ref a/\H1 a=some (.ins C dx fs)/\fs.lookup m=none /\
 t σ H1 λvs H2=>sp (x::(vs++dvs)) H2 Q E
def A0(C:Addr)(sp:Sp)(dvs:List V)(E:XK)(t:TA):TE:=λσ H Q=>t σ H λvs H1=>∀ x dx,H1 x=none->H1 dx=none->dx≠x ->
 sp (.ref x::(vs++dvs)) (upd (upd H1 dx (.own x)) x (.ins C dx [])) (λv H2=>v=.non/\Q (.ref x) H2) E
def Binds(K:Frag)(fd:FuncData)(ps:List Str)(ds:List Value):Prop :=
 ∀(s:Shared) (us:List Value),K.In s.heap->(us++ds).length=ps.length->BindsTo s fd ⟨us,[]⟩ (ps.zip (us++ds))
theorem Binds.all{K:Frag}{a:FuncData}{ps:List Str}(h:∀ us:List Value,us.length=ps.length->bindArgs a ⟨us,[]⟩=pure (ps.zip us)):Binds K a ps []:=λs us _ b=>by
 rw[append_nil]at b ⊢;exact .of_eq (h us b)
def fF(CX:CXT)(X:Cx)(E:XK):Prop:=∀(pins:List (Addr×Obj)) (σ:St) (H:Hp) (s:Shared) (e:Value) (s':Shared),Inv X pins σ H s->CX X.stack H s E e s'->X.xe e s'
section
variable {X:Cx}{CX:CXT}{k:Nat}{f C:Addr}{fd:FuncData}{ps:List Str}{sp:Sp}{dvs:List V}{ds:List Value}{E:XK}{x m:Str}{p pos apos:Pos}{e o:Expr}{es:List Expr}{ta:TE}{t:TA}
theorem ph{a:List (Addr×Obj)}{σ:St}{H:Hp}{s:Shared}{Q:VK}{us:List Value}{vs:List V}(F:FnOk X.prog X.w X.K X.mg X.base CX k f fd ps sp)(g:Room k X.A)(d:Binds X.K fd ps ds)(n:Vals dvs ds)(j:fF CX X E)
  (I:Inv X a σ H s) (r:Vals vs us) (h:sp (vs++dvs) H Q E):wpAny (model X.prog X.w) X.A (call (.ref f) us) (EP X a σ Q) X.xe s:=by
 have c:Vals (vs++dvs) (us++ds):=r.append n;have l:(us++ds).length=ps.length:=by rw[<- c.length];exact F.len _ _ _ _ h
 refine wpAny_call (codeAny_mono (F.run X.A X.stack s H ⟨us,[]⟩ (us++ds) (vs++dvs) Q E g I.env0 (d s us I.kIn l) c h) λr i b=>?_);cases r with
 | error e=>exact j a σ H s e i I b
 | ok fl =>
  cases fl with
  | ret u=>exact I.after b
  | next=>exact False.elim b
  | brk=>exact False.elim b
  | cont=>exact False.elim b
theorem ap(F:FnOk X.prog X.w X.K X.mg X.base CX k f fd ps sp)(i:Room k X.A)(n:Gl X x)(w:X.mg x=some (.ref f))(o:keepIn X.K (.ref f)=true)(g:Binds X.K fd ps ds)(v:Vals dvs ds)(l:fF CX X E)
  (u:PA X (e::es) t) (c:(x == ("__debug__" : Str))=false:=by decide) (y:starEach (e::es) X.env=(false,eval e X.env)::starEach es X.env:=by rfl) (b:(backTo pos (starEach es X.env)).any (·.1)=false:=by rfl) :
  PE X (.Call (.Name x p) (e::es) [] pos) (BS sp dvs E t):=by
 intro a s j H Q I h;refine wpAny_Call_Name_kw (fR I n w ?_ c);refine callWith_K (h₀:=X.base) I.ok.mod.kin o (thn (u pos a s j H _ I h) λB C ⟨z,A,d,r,q⟩=>⟨d.kIn,?_⟩) y b;exact ph F i g v l d r q
theorem pV{pl:Sem Bool}(L:PE X o ta)(c:Cls X.K C)(p:Meth X.K C m f)(F:FnOk X.prog X.w X.K X.mg X.base CX k f fd ps sp)(y:Room k X.A)(v:Binds X.K fd ps ds)(B:Vals dvs ds)(G:fF CX X E)(A:PA X (e::es) t)
  (g:starEach (e::es) X.env=(false,eval e X.env)::starEach es X.env:=by rfl) (d:(backTo pos (starEach es X.env)).any (·.1)=false:=by rfl)
  (J:eval (.Call (.Attribute o m apos) (e::es) [] pos) X.env=(do
   let ov <- eval o X.env
   standAt apos.atName
   let (f,first) <- holding [ov] (getMethod ov m pl)
   callWith pos f first (backTo pos (starEach (e::es) X.env)) (backToKw pos (keywordEach [] X.env))):=by rfl) :
  PE X (.Call (.Attribute o m apos) (e::es) [] pos) (yT C m sp dvs E ta t):=by
 intro b s n H Q I h;refine methodCall_KW (pl:=pl) (thn (L b s n H _ I h) λu N ⟨x,w,j,D,a,P,R,K,M,l,q⟩=>?_) J;subst K;obtain rfl:u=Value.ref a:=D;refine jo j M c p l ?_;refine callWith_K (first:=[.ref a]) (h₀:=X.base) I.ok.mod.kin p.kp (thn (A pos b N n w _ j q) λus O ⟨vs,S,i,r,z⟩=>⟨i.kIn,?_⟩) g d;exact ph (us:=.ref a::us) (vs:=.ref a::vs) F y v B G i (.cons rfl r) z
theorem aD{pl:Sem Bool}(z:PE X o ta)(c:Cls X.K C)(g:Meth X.K C m f)(F:FnOk X.prog X.w X.K X.mg X.base CX k f fd ps sp)(n:Room k X.A)(i:Binds X.K fd ps ds)(w:Vals dvs ds)(r:fF CX X E)
  (y:eval (.Call (.Attribute o m apos) [] [] pos) X.env=(do
   let ov <- eval o X.env
   standAt apos.atName
   let (f,first) <- holding [ov] (getMethod ov m pl)
   callWith pos f first (backTo pos (starEach [] X.env)) (backToKw pos (keywordEach [] X.env))):=by rfl) :
  PE X (.Call (.Attribute o m apos) [] [] pos) (yT C m sp dvs E ta At):=by
 intro b s p H Q I h;refine methodCall_KW (pl:=pl) (thn (z b s p H _ I h) λu J ⟨x,B,d,A,a,G,D,j,v,l,q⟩=>?_) y;subst j;obtain rfl:u=Value.ref a:=A;refine jo d v c g l ?_;exact callWith_K0 (first:=[.ref a]) d.kIn g.kp (ph (us:=[.ref a]) (vs:=[.ref a]) F n i w r d (.cons rfl .nil) q)
structure Mk(K:Frag)(C f:Addr):Prop where
 makes:makesIn K C=true
 init:findIn K (.ref C) "__init__" = some (some (.ref f))
 fn:isFn K (.ref f)=true
 kp:keepIn K (.ref C)=true
theorem uv{a:List (Addr×Obj)}{σ:St}{H:Hp}{s:Shared}{Q:VK}{us:List Value}{vs:List V}(M:Mk X.K C f)(F:FnOk X.prog X.w X.K X.mg X.base CX k f fd ps sp)(j:Room (k+1) X.A)(i:Binds X.K fd ps ds)(w:Vals dvs ds)
  (o:fF CX X E) (I:Inv X a σ H s) (r:Vals vs us)
  (h:∀ x dx,H x=none->H dx=none->dx≠x->sp (.ref x::(vs++dvs)) (upd (upd H dx (.own x)) x (.ins C dx [])) (λv H2=>v=.non/\Q (.ref x) H2) E) :
  wpAny (model X.prog X.w) X.A (call (.ref C) us) (EP X a σ Q) X.xe s:=by
 have d:=h (s.heap.objs.size+1) s.heap.objs.size (I.hok.fresh (Nat.le_succ _)) (I.hok.fresh (Nat.le_refl _)) (Nat.ne_of_lt (Nat.lt_succ_self _));have c:=Inv.made (C:=C) I;have g:Vals (V.ref (s.heap.objs.size+1)::(vs++dvs)) (Value.ref (s.heap.objs.size+1)::(us++ds)):=.cons rfl (r.append w)
 have q:(Value.ref (s.heap.objs.size+1)::us++ds).length=ps.length:=by
  have e:=g.length;rw[F.len _ _ _ _ d]at e;exact e.symm
 refine wpAny_call (vh (f:=f) I.kIn M.makes M.init (beq_iff_eq.mp M.fn) (codeAny_mono (F.run _ X.stack _ _ ⟨Value.ref (s.heap.objs.size+1)::us,[]⟩ (Value.ref (s.heap.objs.size+1)::(us++ds)) _ _ E (j.make C us [])
  (c.env0.make C us []) (i _ (Value.ref (s.heap.objs.size+1)::us) c.kIn q) g d) λr l b=>?_))
 cases r with
 | error e=>exact o a σ _ _ e l c b
 | ok fl =>
  cases fl with
  | ret u =>
   obtain⟨v,p,z,y,A,n⟩:=c.after b;subst A;exact⟨y,⟨V.ref (s.heap.objs.size+1),p,z,rfl,n⟩⟩
  | next=>exact False.elim b
  | brk=>exact False.elim b
  | cont=>exact False.elim b
theorem eM(M:Mk X.K C f)(F:FnOk X.prog X.w X.K X.mg X.base CX k f fd ps sp)(i:Room (k+1) X.A)(n:Gl X x)(v:X.mg x=some (.ref C))(g:Binds X.K fd ps ds)(u:Vals dvs ds)(l:fF CX X E)
  (o:PA X (e::es) t) (c:(x == ("__debug__" : Str))=false:=by decide) (w:starEach (e::es) X.env=(false,eval e X.env)::starEach es X.env:=by rfl) (b:(backTo pos (starEach es X.env)).any (·.1)=false:=by rfl) :
  PE X (.Call (.Name x p) (e::es) [] pos) (A0 C sp dvs E t):=by
 intro a s j H Q I h;refine wpAny_Call_Name_kw (fR I n v ?_ c);refine callWith_K (h₀:=X.base) I.ok.mod.kin M.kp (thn (o pos a s j H _ I h) λA B ⟨y,z,d,r,q⟩=>⟨d.kIn,?_⟩) w b;exact uv M F i g u l d r q
end
section
variable {X:Cx}{CX:CXT}{k:Nat}{f C:Addr}{fd:FuncData}{ps ks:List Str}{sp:Sp}{E:XK}{x m:Str}{p pos apos kpos:Pos}{e o:Expr}{es:List Expr}{kws:List Keyword}{te ta:TE}{t tk:TA}{nm:Option Str}
variable {g:List Value->List Value->List Value}{gV:List V->List V->List V}
end
structure FnScope(N P:List Str)(sc:Scope):Prop where
 kind:sc.kind=.function
 co:sc.isCoroutine=false
 gen:sc.isGenerator=false
 nd:N.Nodup
 pre:N.take P.length=P
 par:∀ x ∈ P,sc.names.lookup x = some .local\/sc.names.lookup x = some .cell
 nofree:∀ y∈sc.names,y.2≠.free
theorem kF{a:Str->Option NameKind}{x:Str}:∀{binds:List (Str×Value)}{m:Str->Option Value},(∀ v,(x,v) ∉ binds)->bindL a binds m x=m x
 | [],_,_=>rfl
 | (n,v)::r,m,h=>by
  unfold bindL;rw[kF λw b=>h w (mem_cons_of_mem _ b)]
  split
  .have:x≠n:=by rintro rfl;exact h v mem_cons_self
   simp[this]
  .rfl
theorem kI{a:Str->Option NameKind}{x:Str}:∀{binds:List (Str×Value)}{m:Str->Option Value},(∀ v,(x,v) ∉ binds)->bindC a binds m x=m x
 | [],_,_=>rfl
 | (n,v)::r,m,h=>by
  unfold bindC;rw[kI λw b=>h w (mem_cons_of_mem _ b)]
  split
  .rfl
  .have:x≠n:=by rintro rfl;exact h v mem_cons_self
   simp[this]
theorem kx{a:Str->Option NameKind}{x:Str}{v:Value}:∀{P:List Str}{vs:List Value}{i:Nat}{m:Str->Option Value},P.Nodup->P[i]? = some x->vs[i]? = some v->a x = some .local ->
  bindL a (P.zip vs) m x=some v
 | [],_,_,_,_,h,_,_=>by simp at h
 | _::_,[],_,_,_,_,h,_=>by simp at h
 | p::P,w::vs,0,m,nd,h1,h2,hk=>by
  simp at h1 h2;subst h1;subst h2;show bindL a ((p,w)::P.zip vs) m p=_;unfold bindL;rw[kF λv b=>(nodup_cons.mp nd).1 (of_mem_zip b).1,if_pos hk];simp
 | p::P,w::vs,i+1,m,nd,h1,h2,hk=>by
  show bindL a ((p,w)::P.zip vs) m x=_;unfold bindL;exact kx (i:=i) (nodup_cons.mp nd).2 (by simpa using h1) (by simpa using h2) hk
theorem ku{a:Str->Option NameKind}{x:Str}{v:Value}:∀{P:List Str}{vs:List Value}{i:Nat}{m:Str->Option Value},P.Nodup->P[i]? = some x->vs[i]? = some v->a x≠some .local ->
  bindC a (P.zip vs) m x=some v
 | [],_,_,_,_,h,_,_=>by simp at h
 | _::_,[],_,_,_,_,h,_=>by simp at h
 | p::P,w::vs,0,m,nd,h1,h2,hk=>by
  simp at h1 h2;subst h1;subst h2;show bindC a ((p,w)::P.zip vs) m p=_;unfold bindC;rw[kI λv b=>(nodup_cons.mp nd).1 (of_mem_zip b).1,if_neg hk];simp
 | p::P,w::vs,i+1,m,nd,h1,h2,hk=>by
  show bindC a ((p,w)::P.zip vs) m x=_;unfold bindC;exact ku (i:=i) (nodup_cons.mp nd).2 (by simpa using h1) (by simpa using h2) hk
def start(N:List Str)(vs:List V):St:=vs.map some++List.replicate (N.length - vs.length) none
def dN(CX:CXT)(P:Program)(w:World)(K:Frag)(mg:Str->Option Value)(base:Heap)(N:List Str)(qual:Str)(scope:Scope)(f:Addr)(cd:Value)(A:Around)(outer:List Env)(s:Shared)(H:Hp)(E:XK):Cx where
 prog:=P
 w:=w
 K:=K
 mg:=mg
 base:=base
 A:=A.deeper (envOfC qual scope s.heap.objs.size f cd)
 N:=N
 s₀:=s
 H₀:=H
 env:=envOfC qual scope s.heap.objs.size f cd
 outer:=outer
 stack:=envOfC qual scope s.heap.objs.size f cd::outer
 ex:=[]
 calm:=true
 fn:=λ_=>true
 pn:=[]
 xe:=λe s'=>wpAny (model P w) (A.deeper (envOfC qual scope s.heap.objs.size f cd)) (leaving (envOfC qual scope s.heap.objs.size f cd) e) (λ_ s''=>CX outer H s E e s'') (λe' s''=>CX outer H s E e' s'') s'
theorem mt{a:Scope}{n:Nat}{x:Str}(h:a.names.lookup x=some .cell):∃ c,(cellsFrom n a.names []).lookup x=some c:=by
 have q:=cellsFrom_some a.names n [] (.inl h);exact Option.isSome_iff_exists.mp q
theorem gZ{CX:CXT}{P:Program}{w:World}{K:Frag}{mg:Str->Option Value}{l:Heap}{N ps:List Str}{g:Str}{scope:Scope}{f:Addr}{I:Value}{A:Around}{d:List Env}{s M:Shared}{H:Hp}{E:XK}{us:List Value}{vs:List V}
  (S:FnScope N ps scope) (R:A.handled=none) (o:Env0 P w K mg l A d s H) (X:vs.length=ps.length) (r:Vals vs us)
  (x:InCallC s s.heap.objs.size (bindL (envOfC g scope s.heap.objs.size f I).kindOf (ps.zip us) λ_=>none) (cellsFrom (s.heap.objs.size+1) scope.names []) (bindC (envOfC g scope s.heap.objs.size f I).kindOf (ps.zip us) λ_=>none) M) :
  Inv (dN CX P w K mg l N g scope f I A d s H E) [] (start N vs) H M:=by
 have O:ps.length<=N.length:=by have:=congrArg List.length S.pre;rw[length_take]at this;lia
 obtain⟨G,W,rfl,L⟩:=x.done;have B:∀ b:Addr,b ∉ (dN CX P w K mg l N g scope f I A d s H E).ex:=λb z=>absurd (show b∈([]:List Addr) from z) (by simp)
 refine⟨⟨o.mod,S.kind,rfl,rfl,Nat.le_refl _,λy z c G j=>?_,λy hy=>?_,λy c _ h=>?_,λ_=>R,Around.frames_deeper o.frames,.inr ⟨rfl,rfl⟩,λb z=>absurd z (B b),o.bs,o.bsz,λb _ _=>B b,λb z=>absurd z (B b),o.funs,o.frf⟩,
  rfl,o.bare,Un.kept L,⟨_,x.toInCall.ns,λi y v G j Y=>?_⟩,λy c h=>⟨_,x.cell y c h⟩,o.hok.fresh (Nat.le_refl _),λy c h=>?_,λp C=>absurd (show p∈([]:List (Addr×Obj)) from C) (by simp),o.hok.kept L,?_⟩
 .exact name_of_addr x.apart (PySem.mem_of_lookup G) (PySem.mem_of_lookup j)
 .have hy:scope.names.lookup y=some .cell\/scope.names.lookup y=some .free:=hy
  rcases hy with hy | hy
  .exact mt hy
  .exact absurd rfl (S.nofree _ (PySem.mem_of_lookup hy))
 .exact Nat.le_of_lt (x.above y c (PySem.mem_of_lookup h))
 .have F:i<vs.length:=by
   unfold start at j
   by_cases F:i<vs.length
   .exact F
   .rw[List.getElem?_append_right (by simpa using F)]at j
    rw[List.getElem?_replicate]at j
    split at j <;> cases j
  have Q:vs[i]? = some v:=by
   unfold start at j;rw[List.getElem?_append_left (by simpa using F),List.getElem?_map]at j;cases e:vs[i]? with
   | none=>rw[e]at j;cases j
   | some a=>rw[e]at j;cases j;rfl
  obtain⟨u,J,T⟩:=r.get Q
  have C:ps[i]? = some y:=by
   rw[<- S.pre,List.getElem?_take_of_lt (by lia)];exact G
  have D:ps.Nodup:=by rw[<- S.pre];exact S.nd.sublist (List.take_sublist _ _)
  refine⟨u,T,?_⟩
  rcases S.par y (List.mem_of_getElem? C) with k | k
  .exact .inl ⟨k,kx D C J k⟩
  .obtain⟨c,e⟩:=mt (n:=s.heap.objs.size+1) k
   refine .inr ⟨.inl k,c,e,?_⟩;have q:=x.cell y c e;rw[ku D C J (by show scope.names.lookup y≠_;rw[k];decide)]at q;exact q
 .exact o.hok.fresh (Nat.le_of_lt (x.above y c (PySem.mem_of_lookup h)))
 .unfold start
  show _=N.length;rw[length_append,length_map,List.length_replicate];lia
theorem uA{CX:CXT}{P:Program}{w:World}{K:Frag}{mg:Str->Option Value}{g:Heap}{k:Nat}{f:Addr}{name a:Str}{d:Arguments}{body:List Stmt}{scope:Scope}{Z kV D X c ct oc:Value}{W od:Option Addr}
  {R:Array (Option Value)}{N ps:List Str}{sp:Sp}(lk:K.lookup f=some ⟨oc,od,.func (fnOf name a d body scope Z kV D X W c ct),R⟩) (O:codeIn K c a=true) (S:FnScope N ps scope)
  (C:∀ vs H Q E,sp vs H Q E->vs.length=ps.length)
  (i:∀(A:Around) (outer:List Env) (s:Shared) (H:Hp) (vs:List V) (Q:VK) (E:XK),Room k (A.deeper (envOfC a scope s.heap.objs.size f c))->sp vs H Q E ->
   ∃ t,PSs (dN CX P w K mg g N a scope f c A outer s H E) body t/\t { nx:=λ_ H'=>Q .non H',rt:=Q } (start N vs) H) :
  FnOk P w K mg g CX (k+1) f (fnOf name a d body scope Z kV D X W c ct) ps sp:=by
 refine⟨C,λA outer s H T us vs Q E L z hb r p=>?_⟩;have hl:=C _ _ _ _ p;have Y:K.In s.heap:=z.mod.kin.keeps λb o e=>(z.bs b o e).1
 have F:s.heap.NoLimit:=z.mod.nolimit.keeps λb o e=>(z.bs b o e).1
 have j:∀ y ∈ ps.zip us,scope.names.lookup y.1 = some .local\/(scope.names.lookup y.1 = some .cell/\((cellsFrom (s.heap.objs.size + 1) scope.names []).lookup y.1).isSome = true):=λ⟨n,v⟩ hy=>by
  rcases S.par n (of_mem_zip hy).1 with q | q
  .exact .inl q
  .exact .inr ⟨q,cellsFrom_some _ _ _ (.inl q)⟩
 refine codeAny_call_function L.depth (Y _ _ lk) rfl S.co S.gen rfl (codeRec_of Y O) (hb _ _ _ _ ?_);refine wpAny_newFunctionEnv_cells S.kind j λab he s1 x=>?_
 subst he;refine⟨F.keeps x.toInCall.keep,codeAny_func ?_⟩;obtain⟨t,ht,hq⟩:=i A outer s H vs Q E (L.deeper _) p;have I:Inv (dN CX P w K mg g N a scope f c A outer s H E) [] (start N vs) H s1:=gZ S L.hd z hl r x;refine wpAny_mono (ht [] s1 (start N vs) H _ I hq) (λfl G l=>?_) λe G l=>l
 have B:∀{h:St}{H':Hp}{v:V}{u:Value},Inv (dN CX P w K mg g N a scope f c A outer s H E) [] h H' G->RelV v u->Q v H'->CE outer P w H s Q u G :=
  λ{h H' v u} J M q=>⟨v,H',J.os,J.bare,J.base,J.hok,M,q⟩
 cases fl with
 | ret u =>
  obtain⟨v,h,H',J,M,q⟩:=l;exact B J M q
 | next =>
  obtain⟨h,H',J,q⟩:=l;exact B (v:=V.non) (u:=Value.none) J rfl q
 | brk =>
  obtain⟨_,_,_,q⟩:=l;exact False.elim q
 | cont =>
  obtain⟨_,_,_,q⟩:=l;exact False.elim q
section
variable {X:Cx}{x:Str}{p pos:Pos}{e:Expr}{es:List Expr}{t:TA}{id T:String}{r:List V->Hp->VK->Prop}
def tCB(r:List V->Hp->VK->Prop)(t:TA):TE:=λσ H Q=>t σ H λvs H1=>r vs H1 Q
theorem az(j:CallR X (.builtin id) r)(l:Gl X x)(q:X.mg x=none)(u:bootBuiltins x=some (.builtin id))(n:PA X (e::es) t)(v:x ≠ "__name__" := by decide)(c:(x == ("__debug__" : Str))=false:=by decide)
  (y:starEach (e::es) X.env=(false,eval e X.env)::starEach es X.env:=by rfl) (b:(backTo pos (starEach es X.env)).any (·.1)=false:=by rfl):PE X (.Call (.Name x p) (e::es) [] pos) (tCB r t):=by
 intro a s d H Q I h;refine wpAny_Call_Name_kw (jt I l q u ?_ v c);exact PyProof.Rows.callWith_builtin1 (thn (n pos a s d H _ I h) λi o ⟨f,g,w,z,A⟩=>j a o d g f i Q w z A) y b
theorem cK(j:CallR X (.type T) r)(l:Gl X x)(q:X.mg x=none)(u:bootBuiltins x=some (.type T))(n:PA X (e::es) t)(v:x ≠ "__name__" := by decide)(c:(x == ("__debug__" : Str))=false:=by decide)
  (y:starEach (e::es) X.env=(false,eval e X.env)::starEach es X.env:=by rfl) (b:(backTo pos (starEach es X.env)).any (·.1)=false:=by rfl):PE X (.Call (.Name x p) (e::es) [] pos) (tCB r t):=by
 intro a s d H Q I h;refine wpAny_Call_Name_kw (jt I l q u ?_ v c);exact PyProof.Rows.callWith_type1 (thn (n pos a s d H _ I h) λi o ⟨f,g,w,z,A⟩=>j a o d g f i Q w z A) y b
end
end L2
namespace HT
open PySem PyProof.Rows
section
open PySem.SeqAt
open PySem.AutoSeq1 (wpAny_loadPart')
open PySem.MeetsSeq PySem.MeetsSeq2 PySem.MeetsSeq3
end
section
variable {prog:Program}{w:World}{A:Around}{E:Value->Shared->Prop}{s:Shared}
def sIx(n d:Nat):Option Int->Nat
 | none=>d
 | some v=>if v<0 then (v+(n:Int)).toNat else min v.toNat n
theorem sIx_none(n d:Nat):sIx n d none=d:=rfl
theorem sIx_nat(n d k:Nat):sIx n d (some (k:Int))=min k n:=by
 show(if (k:Int)<0 then ((k:Int)+(n:Int)).toNat else min (k:Int).toNat n)=min k n;rw[if_neg (by lia),Int.toNat_natCast]
end
end HT
namespace L2
open PySem PySem.Spec PyProof.Rows
abbrev TO:=St->Hp->(Option Int->Hp->Prop)->Prop
def PO(X:Cx)(e:Option Expr)(t:TO):Prop :=
 ∀(pins:List (Addr×Obj)) (s:Shared) (σ:St) (H:Hp) (Q:Option Int->Hp->Prop),Inv X pins σ H s->t σ H Q ->
  wpAny (model X.prog X.w) X.A (evalPart e X.env) (λu s'=>∃ o H',Inv X pins σ H' s'/\IsPart u o/\Q o H') X.xe s
def xM:TO:=λ_ H Q=>Q none H
def BK(t:TE):TO:=λσ H Q=>t σ H λx H1=>∃ i,x=.int i/\Q (some i) H1
section
variable {X:Cx}{e:Expr}{te:TE}{lo hi:Option Expr}{tl th:TO}{pos p2:Pos}
theorem jc:PO X none xM:=by
 intro a s b H Q I h;rw[evalPart_none];exact wpAny_pure ⟨none,H,I,.none,h⟩
theorem dq(h:PE X e te):PO X (some e) (BK te):=by
 intro a s d H Q I b;rw[evalPart_some];refine thn (h a s d H _ I b) λu l ⟨x,c,f,g,j⟩=>?_
 obtain⟨i,rfl,q⟩:=j;obtain⟨t,rfl⟩:=g;exact⟨some i,c,f,.int i t,q⟩
def SlR(X:Cx)(r:V->Option Int->Option Int->Hp->VK->Prop):Prop :=
 ∀(pins:List (Addr×Obj)) (s:Shared) (σ:St) (H:Hp) (x:V) (v vl vu:Value) (lo hi:Option Int) (sl:Addr) (Q:VK),Inv X pins σ H s->RelV x v->s.heap.IsSliceOf sl vl vu .none->IsPart vl lo->IsPart vu hi->r x lo hi H Q ->
  ∃ T id,typeLookup (.type T) "__getitem__" = pure (some (.builtin id))/\s.TypeIs v T/\wpAny (model X.prog X.w) X.A (getItem v (.ref sl)) (EP X pins σ Q) X.xe s
def tSl(r:V->Option Int->Option Int->Hp->VK->Prop)(te:TE)(tl th:TO):TE:=λσ H Q=>te σ H λx H1=>tl σ H1 λl H2=>th σ H2 λu H3=>r x l u H3 Q
theorem dQ{r:V->Option Int->Option Int->Hp->VK->Prop}(w:SlR X r)(D:PE X e te)(A:PO X lo tl)(C:PO X hi th):PE X (.Subscript e (.Slice lo hi none p2) pos) (tSl r te tl th):=by
 intro a s c H Q I h;refine Subscript_ (thn (D a s c H _ I h) λv G ⟨x,f,n,o,p⟩=>?_);refine wpAny_Slice (thn (A a G c f _ n p) λd j ⟨l,F,g,E,y⟩=>thn (C a j c F _ g y) λvu s3 ⟨u,H3,I3,pu,q3⟩=>?_);rw[evalPart_none];refine wpAny_pure ?_;have J:Inv X a c H3 { s3 with heap:=s3.heap.push { cls:=.type "slice",data:=.fields #[d,vu,.none] } }:=I3.kept (t':=s3.toks) λb K q=>Heap.get?_push_of_some _ q
 obtain⟨T,L,i,B,z⟩:=w a { s3 with heap:=s3.heap.push { cls:=.type "slice",data:=.fields #[d,vu,.none] } } c H3 x v d vu l u s3.heap.objs.size Q J o (Heap.IsSliceOf.new ..) E pu q3;show wpAny (model X.prog X.w) X.A (subscriptTail e (.Slice lo hi none p2) v (.ref s3.heap.objs.size)) (EP X a c Q) X.xe { s3 with heap:=s3.heap.push { cls:=.type "slice",data:=.fields #[d,vu,.none] } };exact tail_any (ops:=[.ref s3.heap.objs.size,v]) B i z (by with_unfolding_all rfl)
def d9(xs:List V)(lo hi:Option Int):List V:=(xs.drop (HT.sIx xs.length 0 lo)).take (HT.sIx xs.length xs.length hi - HT.sIx xs.length 0 lo)
theorem iM(xs:List V)(lo a:Option Int):(d9 xs lo a).length<=xs.length:=by
 unfold d9;rw[length_take,List.length_drop];lia
end
def ixN(n:Nat)(i:Int):Option Nat:=if 0<=i then (if i<n then some i.toNat else none) else if -(n:Int)<=i then some (i+n).toNat else none
def atI{α:Type}(xs:List α)(i:Int):Option α:=(ixN xs.length i).bind λj=>xs[j]?
theorem w6{n:Nat}{i:Int}{j:Nat}(h:ixN n i=some j):seqIndex? i n=some j/\j<n/\-(n:Int)<=i/\i<n:=by
 unfold ixN at h
 by_cases h0:0<=i
 .rw[if_pos h0]at h
  by_cases h1:i<n
  .rw[if_pos h1]at h
   have e:i.toNat=j:=Option.some.inj h;exact⟨by rw[seqIndex_of h0 h1,e],by lia,by lia,h1⟩
  .rw[if_neg h1]at h;cases h
 .rw[if_neg h0]at h
  by_cases h1:-(n:Int)<=i
  .rw[if_pos h1]at h
   have e:(i+n).toNat=j:=Option.some.inj h;exact⟨by rw[seqIndex_neg (by lia) h1,e],by lia,h1,by lia⟩
  .rw[if_neg h1]at h;cases h
theorem mh{a:Type}{xs:List a}{i:Int}{v:a}(h:atI xs i=some v):∃ j,seqIndex? i xs.length=some j/\xs[j]? = some v/\j<xs.length/\-(xs.length:Int)<=i/\i<xs.length:=by
 unfold atI at h;cases e:ixN xs.length i with
 | none=>rw[e]at h;cases h
 | some j =>
  rw[e]at h;obtain⟨c,d,b,f⟩:=w6 e;exact⟨j,c,h,d,b,f⟩
theorem gC{a:Type}{xs:List a}{j:Nat}{v:a}(h:xs[j]? = some v):atI xs (j:Int)=some v:=by
 have b:j<xs.length:=(List.getElem?_eq_some_iff.mp h).1
 have e:ixN xs.length (j:Int)=some j:=by
  unfold ixN;rw[if_pos (by lia),if_pos (by lia)];simp
 unfold atI;rw[e];exact h
def qa(b:Expr):Prop:=∀ o i,subscripted b false o i=operate [o,i] (getItem o i)
def IxR(X:Cx)(r:R2):Prop :=
 ∀(value slice:Expr) (pins:List (Addr×Obj)) (s:Shared) (σ:St) (H:Hp) (x y:V) (v u:Value) (Q:VK),Inv X pins σ H s->RelV x v->RelV y u->r x y H Q ->
  subscripted slice false v u=operate [v,u] (getItem v u)->wpAny (model X.prog X.w) X.A (subscriptTail value slice v u) (EP X pins σ Q) X.xe s
def MtR(X:Cx)(id:String)(r:V->List V->Hp->VK->Prop):Prop :=
 ∀(pins:List (Addr×Obj)) (s:Shared) (σ:St) (H:Hp) (x:V) (xs:List V) (v:Value) (us:List Value) (Q:VK),Inv X pins σ H s->RelV x v->Vals xs us->r x xs H Q ->
  wpAny (model X.prog X.w) X.A (call (.builtin id) (v::us)) (EP X pins σ Q) X.xe s
section
variable {X:Cx}{a b:Expr}{ta tb:TE}{pos:Pos}
theorem IxR.or{r d:R2}(h:IxR X r)(h':IxR X d):IxR X (λx y H Q=>r x y H Q\/d x y H Q):=by
 intro a b c s g H x y v u Q I i f q j
 rcases q with q | q
 .exact h a b c s g H x y v u Q I i f q j
 .exact h' a b c s g H x y v u Q I i f q j
theorem ci{r:R2}(f:IxR X r)(n:PE X a ta)(d:PE X b tb)(w:qa b):PE X (.Subscript a b pos) (tOp r ta tb):=by
 intro c s j H Q I h;exact Subscript_ (zh n d I h λv u o x y l i p g q=>f a b c o j l x y v u Q i p g q (w _ _))
inductive rIxL(K:Frag)(x y:V)(H:Hp)(Q:VK):Prop
 | mk(p:Addr)(xs:List V)(i:Int)(v:V)(h0:x=.ref p)(h1:y=.int i)(h2:SqL K H p xs)(h3:atI xs i=some v)(h4:Q v H):rIxL K x y H Q
inductive rIxT(K:Frag)(x y:V)(H:Hp)(Q:VK):Prop
 | mk(p:Addr)(xs:List V)(i:Int)(v:V)(h0:x=.ref p)(h1:y=.int i)(h2:SqT K H p xs)(h3:atI xs i=some v)(h4:Q v H):rIxT K x y H Q
def BB:R2:=λx y H Q=>∃ z i c,x=.str z/\y=.int i/\z.length<=sizeLine/\atI z.cps.toList i=some c/\Q (.str ⟨#[c]⟩) H
theorem ix_list:IxR X (rIxL X.K):=by
 intro d n a s B H x y v u Q I J E h C;obtain⟨p,O,i,z,rfl,rfl,F,M,q⟩:=h;cases J;obtain⟨t,rfl⟩:=E;obtain⟨f,r,l,S⟩:=I.list F;obtain⟨j,c,L,R,N,G⟩:=mh M;obtain⟨w,A,o⟩:=r.get L;have K:=r.length;have P:=g9
 have b:EP X a B Q w s:=⟨z,H,I,o,q⟩
 by_cases h0:0<=i
 .have g:i.toNat=j:=by
   rw[seqIndex_of h0 G]at c;exact Option.some.inj c
  exact item_listR l.isList h0 (by lia) (by rw[g];simpa using A) b C
 .have g:(i+(f.toArray.size:Int)).toNat=j:=by
   rw[seqIndex_neg (by lia) N]at c;rw[size_toArray,<- K];exact Option.some.inj c
  exact subscriptTail_builtinR (x:=w) l.isList.typeIs slot_list_getitem.lookup
   (wpAny_getItem_list_neg (Q:=λr D=>r=w/\EP X a B Q r D) l.isList (by lia) (by rw[size_toArray] <;> lia) (by lia) (by rw[g];simpa using A) ⟨rfl,b⟩) C
theorem ix_tup:IxR X (rIxT X.K):=by
 intro c d a s g H x y v u Q I E B h K;obtain⟨p,L,i,z,rfl,rfl,C,J,q⟩:=h;cases E;obtain⟨t,rfl⟩:=B;obtain⟨D,r,l,P⟩:=I.tuple C;obtain⟨j,A,G,O,R,M⟩:=mh J;obtain⟨w,o,f⟩:=r.get G;have F:=r.length;have N:=g9
 have b:EP X a g Q w s:=⟨z,H,I,f,q⟩
 exact subscriptTail_builtinR (x:=w) l.typeIs slot_tuple_getitem.lookup
  (getItem_tuple (j:=j) (Q:=λr n=>r=w/\EP X a g Q r n) l (by lia) (by lia) (by rw[size_toArray,<- F];exact A) (by simpa using o) ⟨rfl,b⟩) K
theorem zH:IxR X BB:=by
 intro a b f s D H x y v u Q I o g h B;obtain⟨z,i,c,rfl,rfl,J,A,q⟩:=h;obtain⟨t,rfl⟩:=o;obtain⟨E,rfl⟩:=g;obtain⟨j,d,r,G,C,n⟩:=mh A;have p:z.cps.toList.length=z.length:=by simp[Str.length]
 rw[p]at d C n;have F:=g9
 exact tail_any (typeIs_str s z t) slot_str_getitem.lookup (getItem_str (c:=c) (by
  have w:decide (i < -(2 ^ 63:Int))=false:=decide_eq_false (by lia);have l:decide (i >= 2 ^ 63)=false:=decide_eq_false (by lia)
  rw[w,l,Bool.or_false]) (by rw[d];simpa using r) ⟨.str ⟨#[c]⟩,H,I.tok _,⟨_,rfl⟩,q⟩) B
def rIx(K:Frag):R2:=λx y H Q=>rIxL K x y H Q\/rIxT K x y H Q\/BB x y H Q
theorem bj:IxR X (rIx X.K):=ix_list.or (ix_tup.or zH)
theorem kP(lo a:Option Int)(n:Nat):(sliceBounds lo a none n).1=((HT.sIx n 0 lo:Nat):Int)/\(sliceBounds lo a none n).2.1=((HT.sIx n n a:Nat):Int)/\(sliceBounds lo a none n).2.2=1:=by
 refine⟨?_,?_,rfl⟩
 .cases lo with
  | none=>simp[sliceBounds,HT.sIx]
  | some i =>
   simp only[sliceBounds,HT.sIx,Option.getD_none,show(1:Int) > 0 by decide,if_true]
   by_cases h:i<0
   .simp only[h,if_true] <;> lia
   .simp only[h,if_false] <;> lia
 .cases a with
  | none=>simp[sliceBounds,HT.sIx]
  | some i =>
   simp only[sliceBounds,HT.sIx,Option.getD_none,show(1:Int) > 0 by decide,if_true]
   by_cases h:i<0
   .simp only[h,if_true] <;> lia
   .simp only[h,if_false] <;> lia
theorem j9(its:List Value)(lo a:Option Int):slicePick its.toArray lo a none=((its.drop (HT.sIx its.length 0 lo)).take (HT.sIx its.length its.length a - HT.sIx its.length 0 lo)).toArray:=by
 obtain⟨c,b,d⟩:=kP lo a its.toArray.size;unfold slicePick;rw[c,b,d]
 simp only[sliceRange_one,pick_run,size_toArray] <;> rfl
def Cn(K:Frag):V->Option Int->Option Int->Hp->VK->Prop:=λx lo hi H Q=>∃ a xs,x=.ref a/\SqL K H a xs/\∀ p,H p=none->Q (.ref p) (upd H p (.lst (d9 xs lo hi)))
theorem eS:SlR X (Cn X.K):=by
 intro i s A H x v C E f g D Q I z l n w h;obtain⟨a,c,rfl,p,q⟩:=h;cases z;obtain⟨y,r,j,u⟩:=I.list p;have d:=r.length;refine⟨"list",_,slot_list_getitem.lookup,j.isList.typeIs,?_⟩;refine wpAny_getItem_list_slice j.isList l n w .none (by simp) ?_ (by rw[size_toArray] <;> lia);rw[j9,<- d];refine⟨.ref s.heap.objs.size,_,I.laid (t':=s.toks) (o:=.lst (d9 c f g)) (λb B q=>Heap.get?_push_of_some _ q) (Nat.le_refl _) ?_,rfl,q _ (I.hok.fresh (Nat.le_refl _))⟩;exact⟨Nat.le_trans (iM c f g) u,_,0,(r.drop (HT.sIx c.length 0 f)).take (HT.sIx c.length c.length g - HT.sIx c.length 0 f),Heap.get?_push_size _ rfl⟩
def iI:V->Bool
 | .non=>true
 | .bl _=>true
 | .int _=>true
 | .str _=>true
 | _=>false
def eqV:V->V->Bool
 | .non,.non=>true
 | .bl a,.bl b=>a == b
 | .bl a,.int b=>(if a then 1 else 0) == b
 | .int a,.bl b=>a == (if b then 1 else 0)
 | .int a,.int b=>a == b
 | .str a,.str b=>a == b
 | _,_=>false
theorem Aq{A:Around}{s:Shared}{y x:V}{u v:Value}(f:RelV y u)(c:RelV x v)(h:iI y=true)(g:iI x=true):SeqAt.EqAt A s u v (eqV y x):=by
 cases y with
 | non =>
  cases f;cases x with
  | non=>cases c;exact SeqAt.EqAt.same _
  | bl b=>cases c;exact SeqAt.EqAt.none_bool b
  | int b=>obtain⟨t,rfl⟩:=c;exact SeqAt.EqAt.none_int b t
  | str b=>obtain⟨t,rfl⟩:=c;exact SeqAt.EqAt.none_str b t
  | _=>exact absurd (show false=true from g) Bool.false_ne_true
 | bl a =>
  cases f;cases x with
  | non=>cases c;exact SeqAt.EqAt.bool_none a
  | bl b=>cases c;exact SeqAt.EqAt.bool_bool a b
  | int b=>obtain⟨t,rfl⟩:=c;exact SeqAt.EqAt.bool_int a b t
  | str b=>obtain⟨t,rfl⟩:=c;exact SeqAt.EqAt.bool_str a b t
  | _=>exact absurd (show false=true from g) Bool.false_ne_true
 | int a =>
  obtain⟨d,rfl⟩:=f;cases x with
  | non=>cases c;exact SeqAt.EqAt.int_none a d
  | bl b=>cases c;exact SeqAt.EqAt.int_bool a d b
  | int b=>obtain⟨t,rfl⟩:=c;exact SeqAt.EqAt.int_int a d b t
  | str b=>obtain⟨t,rfl⟩:=c;exact SeqAt.EqAt.int_str a d b t
  | _=>exact absurd (show false=true from g) Bool.false_ne_true
 | str a =>
  obtain⟨d,rfl⟩:=f;cases x with
  | non=>cases c;exact SeqAt.EqAt.str_none a d
  | bl b=>cases c;exact SeqAt.EqAt.str_bool a d b
  | int b=>obtain⟨t,rfl⟩:=c;exact SeqAt.EqAt.str_int a d b t
  | str b=>obtain⟨t,rfl⟩:=c;exact SeqAt.EqAt.str_str a d b t
  | _=>exact absurd (show false=true from g) Bool.false_ne_true
 | _=>exact absurd (show false=true from h) Bool.false_ne_true
def eqU(x:V)(u:Value):Bool:=match u with
 | .none=>eqV .non x
 | .bool b=>eqV (.bl b) x
 | .int i _=>eqV (.int i) x
 | .str z _=>eqV (.str z) x
 | _=>false
theorem u7{x y:V}{u:Value}(r:RelV y u)(f:iI y=true):eqU x u=eqV y x:=by
 cases y with
 | non=>cases r;rfl
 | bl b=>cases r;rfl
 | int i=>obtain⟨t,rfl⟩:=r;rfl
 | str z=>obtain⟨t,rfl⟩:=r;rfl
 | _=>exact absurd (show false=true from f) Bool.false_ne_true
theorem gx{x:V}:∀{xs:List V}{us:List Value},Vals xs us->xs.all iI=true->us.any (eqU x)=xs.any λy=>eqV y x
 | _,_,.nil,_=>rfl
 | y::xs,u::us,.cons r t,f=>by
  rw[all_cons,Bool.and_eq_true]at f;rw[any_cons,any_cons,u7 r f.1,gx t f.2]
theorem fM{A:Around}{s:Shared}{x:V}{v:Value}(b:RelV x v)(a:iI x=true):∀{xs:List V}{us:List Value},Vals xs us->xs.all iI=true->∀ u∈us,SeqAt.EqAt A s u v (eqU x u)
 | _,_,.nil,_=>λu hu=>by cases hu
 | y::xs,u::us,.cons r t,f=>λc hu=>by
  rw[all_cons,Bool.and_eq_true]at f
  rcases mem_cons.mp hu with rfl | hu
  .rw[u7 r f.1];exact Aq r b f.1 a
  .exact fM b a t f.2 c hu
def inV(x:V)(xs:List V):Bool:=xs.any λy=>eqV y x
inductive rIn(K:Frag)(neg:Bool)(x y:V)(H:Hp)(Q:VK):Prop
 | mk(p:Addr)(xs:List V)(h0:y=.ref p)(h1:SqL K H p xs\/SqT K H p xs)(h2:iI x=true)(h3:xs.all iI=true)(h4:Q (.bl (if neg then !inV x xs else inV x xs)) H):rIn K neg x y H Q
theorem sh:OpR X (compareOp .In) (rIn X.K false):=by
 intro f s n H x y v u Q I i j h;obtain⟨p,o,rfl,hq,g,b,q⟩:=h;cases j
 rcases hq with hq | hq
 .obtain⟨a,r,d,l⟩:=I.list hq
  refine SeqAt.in_listAt (eqU x) d.isList (λw c=>fM i g r b w (by simpa using c)) ⟨.bl _,H,I,rfl,?_⟩;rw[show a.toArray.any (eqU x)=a.any (eqU x) by simp,gx r b];exact q
 .obtain⟨a,r,d,l⟩:=I.tuple hq
  refine SeqAt.in_tupleAt (eqU x) d (λw c=>fM i g r b w (by simpa using c)) ⟨.bl _,H,I,rfl,?_⟩;rw[show a.toArray.any (eqU x)=a.any (eqU x) by simp,gx r b];exact q
theorem me:OpR X (compareOp .NotIn) (rIn X.K true):=by
 intro f s n H x y v u Q I i j h;obtain⟨p,o,rfl,hq,g,b,q⟩:=h;cases j
 rcases hq with hq | hq
 .obtain⟨a,r,d,l⟩:=I.list hq
  refine SeqAt.notIn_listAt (eqU x) d.isList (λw c=>fM i g r b w (by simpa using c)) ⟨.bl _,H,I,rfl,?_⟩;rw[show a.toArray.any (eqU x)=a.any (eqU x) by simp,gx r b];exact q
 .obtain⟨a,r,d,l⟩:=I.tuple hq
  refine SeqAt.notIn_tupleAt (eqU x) d (λw c=>fM i g r b w (by simpa using c)) ⟨.bl _,H,I,rfl,?_⟩;rw[show a.toArray.any (eqU x)=a.any (eqU x) by simp,gx r b];exact q
theorem lL:CallR X (.builtin "len") (λxs H Q=>∃ p ys,xs=[.ref p]/\(SqL X.K H p ys\/SqT X.K H p ys)/\Q (.int ys.length) H):=by
 intro f s j H xs l Q I r h;obtain⟨p,ys,rfl,hq,q⟩:=h;obtain⟨u,rfl,i⟩:=dJ r;cases i;have n:=g9
 rcases hq with hq | hq
 .obtain⟨d,b,c,g⟩:=I.list hq
  have a:=b.length;exact Calls.call_len_list c.isList (by simp only[size_toArray] <;> lia) ⟨.int ys.length,H,I.tok _,⟨s.toks+1,by rw[size_toArray,a]⟩,q⟩
 .obtain⟨d,b,c,g⟩:=I.tuple hq
  have a:=b.length;exact len_tuple c (by simp only[size_toArray] <;> lia) ⟨.int ys.length,H,I.tok _,⟨s.toks+1,by rw[size_toArray,a]⟩,q⟩
theorem call_len_str:CallR X (.builtin "len") (λxs H Q=>∃ z,xs=[.str z]/\z.length<=sizeLine/\Q (.int z.length) H):=by
 intro a s c H xs b Q I r h;obtain⟨z,rfl,d,q⟩:=h;obtain⟨u,rfl,t,rfl⟩:=dJ r;have f:=g9;exact len_str (by lia) ⟨.int z.length,H,I.tok _,⟨_,rfl⟩,q⟩
theorem CallR.or{f:Value}{r b:List V->Hp->VK->Prop}(h:CallR X f r)(h':CallR X f b):CallR X f (λxs H Q=>r xs H Q\/b xs H Q):=by
 intro a s d H xs c Q I g q
 rcases q with q | q
 .exact h a s d H xs c Q I g q
 .exact h' a s d H xs c Q I g q
inductive rListOf(K:Frag)(xs:List V)(H:Hp)(Q:VK):Prop
 | mk(p:Addr)(ys:List V)(h0:xs=[.ref p])(h1:SqL K H p ys\/SqT K H p ys)(h2:∀ l,H l=none->Q (.ref l) (upd H l (.lst ys))):rListOf K xs H Q
theorem gI:CallR X (.type "list") (rListOf X.K):=by
 intro i s B H E D Q I r h;obtain⟨p,y,rfl,hq,q⟩:=h;obtain⟨u,rfl,C⟩:=dJ r;cases C
 have g:∀(a:List Value),Vals y a->y.length<=sizeLine->∀(c:Heap) (f:Nat),(∀ b o',s.heap.get? b=some o'->c.get? b=some o') ->
   c.get? s.heap.objs.size=some { cls:=.type "list",dict:=none,data:=.seq a.toArray f,slots:=#[] }->EP X i B Q (.ref s.heap.objs.size) { s with heap:=c }:=λa d j c f l e =>
  ⟨.ref s.heap.objs.size,_,I.laid (t':=s.toks) l (Nat.le_refl _) (show ObjOk X.prog X.w _ c _ (.lst y) from⟨j,a,f,d,e⟩),rfl,q _ (I.hok.fresh (Nat.le_refl _))⟩
 rcases hq with hq | hq
 .obtain⟨a,d,z,j⟩:=I.list hq
  have v:=d.length;obtain⟨o,x,w,n,A⟩:=z.isList;exact call_list_seq p (.inl rfl) x w A (λc f l e=>g a d j c f l e) (by simp only[size_toArray] <;> lia)
 .obtain⟨a,d,z,j⟩:=I.tuple hq
  have v:=d.length;obtain⟨o,x,w,n,A⟩:=z;exact call_list_seq p (.inr rfl) x w A (λc f l e=>g a d j c f l e) (by simp only[size_toArray] <;> lia)
theorem gp:CallR X (.type "tuple") (λxs H Q=>∃ p ys,xs=[.ref p]/\((SqL X.K H p ys/\∀ l,H l=none->Q (.ref l) (upd H l (.tup ys)))\/(SqT X.K H p ys/\Q (.ref p) H))):=by
 intro a s j H xs A Q I r h;obtain⟨p,ys,rfl,h⟩:=h;obtain⟨u,rfl,z⟩:=dJ r;cases z
 rcases h with⟨g,q⟩ | ⟨g,q⟩
 .obtain⟨c,f,i,n⟩:=I.list g
  have w:=f.length;refine call_tuple_list i.isList (λd y=>?_) (by simp only[size_toArray] <;> lia);have v:Inv X a j H { s with heap:=d }:=I.kept (t':=s.toks) y
  have x:Inv X a j (upd H d.objs.size (.tup ys)) { s with heap:=d.push { cls:=.type "tuple",data:=.seq c.toArray } } :=
   v.laid (t':=s.toks) (λb o e=>Heap.get?_push_of_some _ e) (Nat.le_refl _) (show ObjOk X.prog X.w _ _ _ (.tup ys) from⟨n,c,f,IsTup.new _ _⟩)
  exact⟨.ref d.objs.size,_,x,rfl,q _ (v.hok.fresh (Nat.le_refl _))⟩
 .obtain⟨c,f,i,n⟩:=I.tuple g
  exact call_tuple_same i ⟨.ref p,H,I,rfl,q⟩
def tyV(K:Frag)(T:String)(x:V)(H:Hp):Prop:=match x with
 | .str _=>T = "str"
 | .int _=>T = "int"
 | .ref p=>(T = "list" /\ ∃ xs,SqL K H p xs)\/(T = "tuple" /\ ∃ o,K.lookup p=some o/\o.cls=.type "tuple" /\ o.dict=none) \/
   (T = "dict" /\ ((∃ kvs,H p=some (.dK kvs))\/∃ kvs,H p=some (.dT kvs)))\/(T = "set" /\ ∃ S n,H p=some (.set S n))
 | _=>False
theorem vm{f:List (Addr×Obj)}{σ:St}{H:Hp}{s:Shared}{T:String}{x:V}{v:Value}(I:Inv X f σ H s)(r:RelV x v)(ty:tyV X.K T x H) :
  s.TypeIs v T/\∀ a,v=.ref a->∃ ob,s.heap.get? a=some ob/\ob.dict=none:=by
 cases x with
 | str z =>
  obtain⟨t,rfl⟩:=r;cases(show T = "str" from ty);exact⟨typeIs_str s z t,λ_ e=>nomatch e⟩
 | int i =>
  obtain⟨t,rfl⟩:=r;cases(show T = "int" from ty);exact⟨typeIs_int s i t,λ_ e=>nomatch e⟩
 | ref p =>
  cases r
  rcases ty with⟨rfl,y,q⟩ | ⟨rfl,o,b,u,h⟩ | ⟨rfl,b⟩ | ⟨rfl,S,n,b⟩
  .obtain⟨w,_,l,_⟩:=I.list q
   refine⟨l.isList.typeIs,λa e=>?_⟩;cases e;obtain⟨o,n,e,c,h,_⟩:=l;exact⟨o,e,h⟩
  .refine⟨⟨o,I.kIn p o b,u⟩,λa e=>?_⟩
   cases e;exact⟨o,I.kIn _ o b,h⟩
  .have z:∃ o,s.heap.get? p=some o/\o.ExactDict:=by
    rcases b with⟨j,b⟩ | ⟨j,b⟩
    .obtain⟨_,_,_,_,o,_,_,e,d,_⟩:=I.hok p _ b
     exact⟨o,e,d⟩
    .obtain⟨_,_,_,_,o,_,_,e,d,_⟩:=I.hok p _ b
     exact⟨o,e,d⟩
   obtain⟨o,e,d⟩:=z;refine⟨⟨o,e,d.1⟩,λa g=>?_⟩;cases g;exact⟨o,e,d.2.1⟩
  .obtain⟨o,_,_,_,e,d,_⟩:=I.hok p _ b
   refine⟨⟨o,e,d.1⟩,λa g=>?_⟩;cases g;exact⟨o,e,d.2.1⟩
 | _=>exact False.elim ty
def Ah(K:Frag)(T:String)(r:V->List V->Hp->VK->Prop)(to:TE):TE:=λσ H Q=>to σ H λx H1=>tyV K T x H1/\r x [] H1 Q
def tBM(K:Frag)(T:String)(r:V->List V->Hp->VK->Prop)(to:TE)(t:TA):TE:=λσ H Q=>to σ H λx H1=>tyV K T x H1/\t σ H1 λxs H2=>r x xs H2 Q
variable {o e:Expr}{es:List Expr}{to:TE}{t:TA}{name:Str}{apos cpos:Pos}{T id:String}{r:V->List V->Hp->VK->Prop}
theorem vK(q:PlainAttrs T)(d:Slot T name id)(f:typeOf (.builtin id)=pure (.type "method_descriptor"))(w:MtR X id r)(p:PE X o to)
  (c:attributeBase o name X.env (eval o X.env)=eval o X.env:=by rfl) (b:(apos.endLine == cpos.line)=true:=by rfl):PE X (.Call (.Attribute o name apos) [] [] cpos) (Ah X.K T r to):=by
 intro a s g H Q I h;refine wpAny_Call_method0_late c b (thn (p a s g H _ I h) λv u ⟨x,l,i,j,z,A⟩=>?_);obtain⟨y,n⟩:=vm i j z;exact⟨T,id,q,d,f,y,n,Calls.callWith_builtin rfl (PySem.evalArgs_none (w a u g l x [] v [] Q i j .nil A))⟩
theorem yQ(N:PlainAttrs T)(g:Slot T name id)(j:typeOf (.builtin id)=pure (.type "method_descriptor"))(E:MtR X id r)(G:PE X o to)(D:PA X (e::es) t)
  (c:attributeBase o name X.env (eval o X.env)=eval o X.env:=by rfl)
  (f:((backTo cpos (starEach (e::es) X.env)).all (λx=>!x.1) && (backToKw cpos (keywordEach [] X.env)).all (λx=>x.1.isSome)
   && decide ((e::es).length+([]:List Keyword).length+(if ([]:List Keyword).isEmpty then 0 else 1)<30))=true:=by rfl)
  (d:(apos.endLine == cpos.line)=true:=by rfl) (L:starEach (e::es) X.env=(false,eval e X.env)::starEach es X.env:=by rfl) (b:(backTo cpos (starEach es X.env)).any (·.1)=false:=by rfl) :
  PE X (.Call (.Attribute o name apos) (e::es) [] cpos) (tBM X.K T r to t):=by
 intro a s i H Q I h;refine wpAny_Call_method_late c f d rfl (thn (G a s i H _ I h) λv O ⟨x,q,l,n,K,A⟩=>?_);obtain⟨y,J⟩:=vm l n K;refine⟨T,id,N,g,j,y,J,?_⟩;have p:=D cpos a O i q _ l A;rw[L]at p ⊢;refine Calls.callWith_builtin (by show(false || (backTo cpos (starEach es X.env)).any (·.1))=false;rw[b] <;> rfl) (Calls.evalArgs_plain ?_);exact thn p λF z ⟨B,M,u,w,C⟩=>E a z i M x B v F Q u n w C
end
def MtM(X:Cx)(id:String)(r:V->List V->Hp->VK->Prop):Prop :=
 ∀(pins:List (Addr×Obj)) (s:Shared) (σ:St) (H:Hp) (x:V) (xs:List V) (v:Value) (us:List Value) (Q:VK),Inv X pins σ H s->RelV x v->Vals xs us->r x xs H Q ->
  wpAny (model X.prog X.w) X.A (call (.builtin id) (v::us)) (EP X pins σ Q) X.xe s
theorem Vals.one:∀{x:V}{us:List Value},Vals [x] us->∃ u,us=[u]/\RelV x u
 | _,_,.cons r .nil=>⟨_,rfl,r⟩
theorem Vals.zero:∀{us:List Value},Vals [] us->us=[]
 | _,.nil=>rfl
theorem Vals.dropLast{xs:List V}{us:List Value}(h:Vals xs us):Vals xs.dropLast us.dropLast:=by
 induction h with
 | nil=>exact .nil
 | cons r t ih =>
  cases t with
  | nil=>exact .nil
  | cons q t'=>exact .cons r ih
theorem pK{c:Type}(l:List c):l.eraseIdx (l.length - 1)=l.dropLast:=by
 induction l with
 | nil=>rfl
 | cons a r ih =>
  cases r with
  | nil=>rfl
  | cons b r =>
   have e:(a::b::r).length - 1=((b::r).length - 1)+1:=by
    have f:(a::b::r).length=r.length+2:=rfl;have d:(b::r).length=r.length+1:=rfl;lia
   rw[e,List.eraseIdx_cons_succ,ih]
   all_goals rfl
section
variable {X:Cx}{pins:List (Addr×Obj)}{σ:St}{H:Hp}{s:Shared}{l b:Addr}{xs ys zs:List V}
theorem Inv.lset{its its':List Value}{n:Nat}{f:Array Value->Array Value}{t':Nat}(I:Inv X pins σ H s)(c:H l=some (.lst xs))
  (e:s.heap.get? l=some { cls:=.type "list",data:=.seq its.toArray n }) (b:f its.toArray=its'.toArray) (d:Vals ys its') (hz:ys.length<=sizeLine) :
  Inv X pins σ (upd H l (.lst ys)) { s with heap:=s.heap.update l (Obj.mapSeq f),toks:=t' }:=by
 have q:=PySem.IsL.update e f;rw[b]at q;refine I.write (x:=l) (e:=l) (by rw[c];exact trivial) (.inl rfl) (λh u a g=>(Heap.get?_update_other s.heap (Obj.mapSeq f) (Ne.symm a)).trans g) ⟨_,q⟩ ?_;exact⟨hz,its',_,d,q⟩
theorem Inv.lnew{its:List Value}{t':Nat}(I:Inv X pins σ H s)(a:Vals ys its)(hz:ys.length<=sizeLine) :
  Inv X pins σ (upd H s.heap.objs.size (.lst ys)) { s with heap:=s.heap.push { cls:=.type "list",data:=.seq its.toArray },toks:=t' } :=
 I.laid (λ_ _ q=>Heap.get?_push_of_some _ q) (Nat.le_refl _) ⟨hz,its,0,a,Heap.get?_push_size _ rfl⟩
theorem Inv.fresh(I:Inv X pins σ H s):H s.heap.objs.size=none:=I.hok.fresh (Nat.le_refl _)
theorem Inv.lstM(I:Inv X pins σ H s)(a:H l=some (.lst xs)):xs.length<=sizeLine/\∃(its:List Value) (n:Nat),Vals xs its/\xs.length=its.length/\s.heap.get? l=some { cls:=.type "list",data:=.seq its.toArray n }:=by
 obtain⟨z,its,n,r,e⟩:=I.hok l _ a;exact⟨z,its,n,r,r.length,e⟩
theorem vw{n:Nat}(h:n<=sizeLine):Builtin.List.listTooLong n=false:=by
 unfold Builtin.List.listTooLong;exact decide_eq_false (by lia)
end
section
variable {X:Cx}
inductive rAppend(x:V)(vs:List V)(H:Hp)(Q:VK):Prop
 | mk(l:Addr)(xs:List V)(y:V)(h0:x=.ref l)(h1:vs=[y])(h2:H l=some (.lst xs))(h3:xs.length<sizeLine)(h4:Q .non (upd H l (.lst (xs++[y])))):rAppend x vs H Q
theorem ko:MtM X "list.append" rAppend:=by
 intro b s j H x i v o Q I g f h;obtain⟨l,w,y,rfl,rfl,c,p,q⟩:=h;cases g;obtain⟨u,rfl,d⟩:=f.one;obtain⟨z,a,n,r,A,e⟩:=I.lstM c;refine call_meets F.slot_list_append ⟨_,e,rfl⟩ F.entry_list_append (F.args_list_append_2 _ _) (PySem.list_append l a.toArray n u (by rw[size_toArray];lia)) ⟨e,?_⟩;refine⟨.non,_,I.lset (its':=a++[u]) c e (by simp) (r.append (.cons d .nil)) ?_,rfl,q⟩;rw[length_append,length_singleton];lia
def qj:V->List V->Hp->VK->Prop:=λx vs H Q=>∃ l b xs zs,x=.ref l/\vs=[.ref b]/\H l=some (.lst xs)/\H b=some (.lst zs)/\xs.length+zs.length<=sizeLine/\Q .non (upd H l (.lst (xs++zs)))
theorem sk:MtM X "list.extend" qj:=by
 intro i s G H x E v K Q I y w h;obtain⟨l,b,J,D,rfl,rfl,g,A,M,q⟩:=h;cases y;obtain⟨u,rfl,C⟩:=w.one;cases C;obtain⟨z,c,n,r,L,e⟩:=I.lstM g;obtain⟨N,a,B,o,j,p⟩:=I.lstM A;have f:c.toArray.size+a.toArray.size<=sizeLine:=by rw[size_toArray,size_toArray];lia
 have d:¬(!c.toArray.isEmpty && Builtin.List.listTooLong (c.toArray.size+a.toArray.size))=true:=by
  rw[vw f,Bool.and_false];exact Bool.false_ne_true
 refine call_meets F.slot_list_extend ⟨_,e,rfl⟩ F.entry_list_extend (F.args_list_extend_2 _ _)
  (AutoSeq1.list_extend_list_list_0 l c.toArray n b a.toArray B d (by rw[size_toArray];lia) (by lia)) ⟨e,p,?_⟩
 refine⟨.non,_,I.lset (its':=c++a) g e (by simp) (r.append o) ?_,rfl,q⟩;rw[length_append];lia
def AW:V->List V->Hp->VK->Prop:=λx vs H Q=>∃ l xs y,x=.ref l/\vs=[]/\H l=some (.lst xs)/\xs[xs.length - 1]? = some y/\Q y (upd H l (.lst xs.dropLast))
theorem zF:MtM X "list.pop" AW:=by
 intro d s B H x A v C Q I w o h;obtain⟨l,D,y,rfl,rfl,f,g,q⟩:=h;cases w;have b:=o.zero;subst b;obtain⟨z,a,n,r,i,e⟩:=I.lstM f;obtain⟨u,p,j⟩:=r.get g
 have c:a.toArray[a.toArray.size - 1]? = some u:=by
  show a.toArray[a.length - 1]? = some u;rw[<- Array.getElem?_toList,<- i];exact p
 refine call_meets F.slot_list_pop ⟨_,e,rfl⟩ F.entry_list_pop (F.args_list_pop_1 _) (MeetsSeq.list_pop_last l a.toArray n u c (by rw[size_toArray];lia)) ⟨e,?_⟩;refine⟨y,_,I.lset (its':=a.dropLast) f e ?_ r.dropLast ?_,j,q⟩
 .show a.toArray.eraseIdxIfInBounds (a.toArray.size - 1)=a.dropLast.toArray
  rw[size_toArray,List.eraseIdxIfInBounds_toArray,pK]
 .rw[List.length_dropLast]
  lia
inductive rCat(x y:V)(H:Hp)(Q:VK):Prop
 | mk(l b:Addr)(xs zs:List V)(h0:x=.ref l)(h1:y=.ref b)(h2:H l=some (.lst xs))(h3:H b=some (.lst zs))(h4:xs.length+zs.length<=sizeLine)(h5:∀ p,H p=none->Q (.ref p) (upd H p (.lst (xs++zs)))):rCat x y H Q
theorem fo:OpR X (binaryOp .Add) rCat:=by
 intro d s B H x y v u Q I A f h;obtain⟨l,b,C,F,rfl,rfl,p,g,E,q⟩:=h;cases A;cases f;obtain⟨z,c,n,r,D,e⟩:=I.lstM p;obtain⟨G,a,J,w,i,j⟩:=I.lstM g;refine PySem.P.add_list e j ?_ (by rw[size_toArray,size_toArray];lia);have o:c.toArray++a.toArray=(c++a).toArray:=by simp
 rw[o];exact⟨.ref _,_,I.lnew (t':=s.toks) (r.append w) (by rw[length_append];lia),rfl,q _ I.fresh⟩
end
section
variable {prog:Program}{w:World}{A:Around}{E:Value->Shared->Prop}{s:Shared}
set_option maxRecDepth 100000 in
end
section
variable {X:Cx}
end
end L2
namespace Att
open PySem PySem.W PySem.Calls PyProof.Rows
theorem iQ{P:Params}{h:Heap}:∀(ns:List Int) (vs:List Value),WellAll P h vs (ns.map WData.int)->IntsAre vs ns:=by
 intro ns
 induction ns with
 | nil =>
  intro vs w;rw[map_nil]at w;cases w;exact .nil
 | cons n ns ih =>
  intro vs w;rw[map_cons]at w;cases w with
  | cons a b =>
   cases a;exact .cons _ _ (ih _ b)
theorem sK{l:OpenLaw}{n:Nat}(w:l.most=some n){P:Params}{h:Heap}{args:List WData}{c:List Value}
  (b:l.row.toRowW.claim.pre args=true) (j:WellAll P h c args) :
  ∃ a vs ns,c=[Value.ref a]/\args=[WData.list (ns.map WData.int)]/\h.get? a=some { cls:=.type "list",data:=.seq vs.toArray }/\IntsAre vs ns/\ns.length<=n:=by
 have o:WShape.hasAll [] args [.list .int]=true:=(pre_splitW b).1;have p:l.pre.holds [] { args:=args }=true:=(pre_splitW b).2;obtain⟨d,r,rfl,v,x⟩:=hasAllW_cons o;obtain rfl:=hasAllW_nil x;obtain⟨y,rfl,u⟩:=hasW_list v;obtain⟨ns,rfl⟩:=items_int u
 have f:ns.length<=n:=by
  unfold OpenLaw.pre at p
  have i:(WTm.not (.lt (.lit (.int (n:Int))) (.len (.arg 0)))).holds [] { args:=[.list (ns.map .int)] }=true:=by
   have i:=(holds_andW p).1;rw[w]at i;exact i
  have g:=condW_of i (w_not (w_lt w_lit (w_len_list (w_arg rfl))));rw[length_map]at g;refine Nat.le_of_not_lt λq=>?_
  have s:(n:Int)<((ns.length:Nat):Int):=by lia
  first
   | (rw[decide_eq_true s]at g;exact absurd g (by decide))
   | (simp at g;lia)
 cases j with
 | cons w1 w2 =>
  cases w2;cases w1 with
  | list ho hall=>exact⟨_,_,ns,rfl,rfl,ho,iQ ns _ hall,f⟩
theorem su(l:OpenLaw)(args:List WData):l.row.toRowW.claim.post args (.bool true) args=true :=
 postW_of (r:=l.row.toRowW) (X:=(true == true))
  (show WShape.has [] (.bool true) .bool=true by first | rfl | decide | simp[WShape.has,WShape.arms,WShape.armsAll])
  (show(WTm.eq .res (.lit (.bool true))).value [] { args:=args,res:=some (.bool true),after:=args }=some (.bool (true == true)) from w_eq_bool (w_res rfl) w_lit) rfl
theorem attach_call{l:OpenLaw}{n:Nat}{q:Program}{b:List Str}{B:(Str->Option Value)->Heap->Prop}{x:World->Heap->Prop}{d:DefRec}
  (H:l.most=some n) (s:d.params.defaults=[])
  (j:∀(w:World) (s₀ s₁:Shared) (mg mb:Str->Option Value) (fa:Addr) (o:Obj) (pm cd doc:Value) (a:Addr) (vs:List Value) (ns:List Int),
   Ground q b [] B w s₀ mg mb s₁.heap->x w s₁.heap ->
   s₁.heap.get? fa=some o->o.data=.func (docDef d.name d.params d.body d.scope pm cd doc)->s₁.heap.CodeRec cd d.name->mg d.name=some (.ref fa) ->
   s₁.heap.get? a=some { cls:=.type "list",data:=.seq vs.toArray }->IntsAre vs ns->ns.length<=n->s₁.gens = #[] ->
   codeAny (model l.prog w) callerA (.call (.ref fa) ⟨[.ref a],[]⟩) (λr s'=>r=.ok (.ret (.bool true))/\OldK s₁.heap s'.heap/\s'.os=s₁.os/\AllBare s'.gens) s₁) :
  WalkO q b B x l.row.toRowW d [] (λf vs=>PySem.call f vs):=by
 intro w s₀ s₁ mg mb G Y fa o pm cd doc L O K F v A p J y C Q i z I u D;obtain rfl:L=.none:=Dflts.none A s;obtain rfl:O=.none:=Dflts.noKw A;obtain⟨a,vs,ns,rfl,rfl,g,c,h⟩:=sK H i u;refine enter_call (codeAny_mono (j w s₀ s₁ mg mb fa o pm cd doc a vs ns G Y K (fd_plain F) v p g c h J) λr s' E=>?_);obtain⟨rfl,M,N,P⟩:=E;exact⟨.inl ⟨.bool true,.bool true,[],rfl,λ_=>rfl,.bool true,su l _,λ_=>⟨List.Pairwise.nil,λ_ hm=>(nomatch hm)⟩⟩,M,N,P⟩
section
variable {prog:Program}{w:World}{A:Around}{E:Value->Shared->Prop}{s:Shared}{K:Frag}
end
end Att
namespace L2
open PySem PySem.Spec PyProof.Rows
theorem km:∀{vs:List Value}{ns:List Int},IntsAre vs ns->Vals (ns.map V.int) vs
 | _,_,.nil=>.nil
 | _,_,.cons n t h=>.cons ⟨t,rfl⟩ (km h)
abbrev KOf{K:Frag}{h:Heap}(_:K.In h):Frag:=K
def cf(s:Stmt)(j:Nat):Stmt:=match s with
 | .ClassDef _ _ _ body _ _ _ _ _ _ _=>body.getD j (.Pass ⟨0,0,0,0⟩)
 | _=>.Pass ⟨0,0,0,0⟩
def ah(s:Stmt):Arguments:=match s with
 | .FunctionDef _ a _ _ _ _ _ _ _ _=>a
 | _=>{ posonlyargs:=[],args:=[],vararg:=none,kwonlyargs:=[],kw_defaults:=[],kwarg:=none,defaults:=[] }
def ag(s:Stmt):List Stmt:=match s with
 | .FunctionDef _ _ b _ _ _ _ _ _ _=>b
 | _=>[]
def ac(s:Stmt):Scope:=match s with
 | .FunctionDef _ _ _ _ _ _ sc _ _ _=>sc
 | _=>{ kind:=.function,names:=[],isGenerator:=false,isCoroutine:=false }
abbrev CX0:CXT:=λ_ _ _ _ _ _=>False
abbrev E0:XK:=λ_ _ _=>False
theorem aq{X:Cx}:fF CX0 X E0:=λ_ _ _ _ _ _ _ h=>h.elim
structure Fun(K:Frag)(x qual:Str)(st:Stmt)(f:Addr)(fd:FuncData):Prop where
 ex:∃(oc:Value) (od:Option Addr) (kV doc pm:Value) (an:Option Addr) (cdv ct:Value) (osl:Array (Option Value)),
  fd=fnOf x qual (ah st) (ag st) (ac st) .none kV doc pm an cdv ct/\K.lookup f=some ⟨oc,od,.func fd,osl⟩/\codeIn K cdv qual=true
 kp:keepIn K (.ref f)=true
section
variable {P:Program}{w:World}{K:Frag}{mg:Str->Option Value}{base:Heap}
theorem Fun.ok{x a:Str}{c:Stmt}{f:Addr}{j:FuncData}{N ps:List Str}{k:Nat}{sp:Sp}(F:Fun K x a c f j)(S:FnScope N ps (ac c))(i:∀ vs H Q E,sp vs H Q E->vs.length=ps.length)
  (b:∀(cdv:Value) (A:Around) (outer:List Env) (s:Shared) (H:Hp) (vs:List V) (Q:VK) (E:XK),Room k (A.deeper (envOfC a (ac c) s.heap.objs.size f cdv))->sp vs H Q E ->
   ∃ t,PSs (dN CX0 P w K mg base N a (ac c) f cdv A outer s H E).nox (ag c) t/\t { nx:=λ_ H'=>Q .non H',rt:=Q } (start N vs) H):FnOk P w K mg base CX0 (k+1) f j ps sp:=by
 obtain⟨v,r,z,p,u,B,cdv,y,o,rfl,n,g⟩:=F.ex;refine uA n g S i λA outer s H vs Q E l d=>?_
 obtain⟨t,h,q⟩:=b cdv A outer s H vs Q E l d;exact⟨t,h.nox,q⟩
theorem Fun.binds{x a:Str}{b:Stmt}{f:Addr}{c:FuncData}{ps:List Str}(F:Fun K x a b f c)
  (h:∀(kV doc pm:Value) (an:Option Addr) (cdv ct:Value) (us:List Value),us.length=ps.length->bindArgs (fnOf x a (ah b) (ag b) (ac b) .none kV doc pm an cdv ct) ⟨us,[]⟩=pure (ps.zip us)):Binds K c ps []:=by
 obtain⟨j,i,kV,doc,pm,an,cdv,ct,g,rfl,l,d⟩:=F.ex;exact .all (h kV doc pm an cdv ct)
theorem ao{x a:Str}{d:Stmt}{f:Addr}{p:Value}{od o:Option Addr}{h:Array (Option Value)}{j g i b n:Value}(l:K.lookup f=some ⟨p,od,.func (fnOf x a (ah d) (ag d) (ac d) .none j g i o b n),h⟩)
  (c:codeIn K b a=true) (k:keepIn K (.ref f)=true):Fun K x a d f (fnOf x a (ah d) (ag d) (ac d) .none j g i o b n):=⟨⟨p,od,j,g,i,o,b,n,h,rfl,l,c⟩,k⟩
end
theorem qG{A:Around}{k:Nat}(a:Room k A):A.units+1<cLine:=Nat.lt_of_le_of_lt (Nat.add_le_add_left (by decide:1<=64) _) a.units
section
variable {X:Cx}
end
theorem Cq{A B:Prop}(h:B):if false=true then A else B:=by
 rw[if_neg Bool.false_ne_true];exact h
theorem CN{c A B:Prop}[Decidable c](b:c->A)(a:¬c->B):if c then A else B:=by
 by_cases h:c
 .rw[if_pos h]
  exact b h
 .rw[if_neg h]
  exact a h
def Same(H H':Hp):Prop:=∀ b o,H b=some o->H' b=some o
theorem Same.refl(H:Hp):Same H H:=λ_ _ h=>h
theorem Same.trans{H f d:Hp}(a:Same H f)(b:Same f d):Same H d:=λc o h=>b c o (a c o h)
theorem Same.free{H a:Hp}(e:Same H a){l:Addr}(h:a l=Option.none):H l=Option.none:=by
 cases q:H l with
 | none=>rfl
 | some o =>
  rw[e l o q]at h;cases h
theorem Same.seq{K:Frag}{H b:Hp}{a:Addr}{xs:List V}(e:Same H b)(h:SqL K H a xs):SqL K b a xs:=by
 rcases h with(h | ⟨o,h⟩) | h
 .exact .inl (.inl (e _ _ h))
 .exact .inl (.inr ⟨o,e _ _ h⟩)
 .exact .inr h
end L2
set_option maxHeartbeats 4000000
namespace L2
open PySem PySem.Spec PyProof.Rows
def Its(x:Str):It:=⟨λi _=>i<x.cps.size,λi H y H'=>H'=H/\∃ c,x.cps[i]? = some c/\y=.str ⟨#[c]⟩,λi _=>x.cps.size<=i⟩
theorem m5{P:Program}{w:World}{K:Frag}{tg:Expr}(x:Str)(p:Addr){ty:String}{t:Tok}(q:ty = "str_ascii_iterator" \/ ty = "str_iterator") :
  Turn P w K tg (Its x) [p] p (λi h=>h.IsStrIter p ty x t i) where
 mem:=by simp
 obj:=λi h f b a=>by
  have e:b=p:=by simpa using a
  subst e;obtain⟨o,e,c,d⟩:=f;exact⟨o,e,λv z=>by rw[d]at z;cases z⟩
 keep:=λi h l f k=>by
  obtain⟨o,e,r⟩:=f;exact⟨o,k p (by simp) o e,r⟩
 item:=by
  intro X R Q O L i j s G H E I B f M;subst R Q O;have n:i<x.cps.size:=M;obtain⟨y,u,S,D,A,C⟩:=B p (by simp)
  rcases q with rfl | rfl
  .refine wpAny_pyNext_ascii_item f (c:=x.cps[i]) (by simp[n]) λl g N=>?_
   have F:Inv X j G H { s with heap:=l,toks:=s.toks+1 }:=I.turned (λb o a e=>(N.2 b a).trans e) y u D A C;obtain⟨o,e,c,d⟩:=id g;exact⟨_,rfl,m8 (s:={ s with heap:=l,toks:=s.toks+1 }) e c d (by decide) ⟨.str ⟨#[x.cps[i]]⟩,H,F,⟨_,rfl⟩,⟨rfl,x.cps[i],by simp[n],rfl⟩,g,λb a=>(B b a).1⟩⟩
  .refine wpAny_pyNext_wide_item f (c:=x.cps[i]) (by simp[n]) λl g N=>?_
   have F:Inv X j G H { s with heap:=l,toks:=s.toks+1 }:=I.turned (λb o a e=>(N.2 b a).trans e) y u D A C;obtain⟨o,e,c,d⟩:=id g;exact⟨_,rfl,m8 (s:={ s with heap:=l,toks:=s.toks+1 }) e c d (by decide) ⟨.str ⟨#[x.cps[i]]⟩,H,F,⟨_,rfl⟩,⟨rfl,x.cps[i],by simp[n],rfl⟩,g,λb a=>(B b a).1⟩⟩
 done:=by
  intro X R Q O L i j s G H E I B f M;subst R Q O;have n:x.cps.size<=i:=M;obtain⟨y,u,S,D,A,C⟩:=B p (by simp)
  rcases q with rfl | rfl
  .exact wpAny_pyNext_ascii_end (I.ok.hd L) f (by simp[n]) λl J=>⟨rfl,I.turned (t':=s.toks) (λb o a e=>J b o a e) y u D A C⟩
  .exact wpAny_pyNext_wide_end (I.ok.hd L) f (by simp[n]) λl J=>⟨rfl,I.turned (t':=s.toks) (λb o a e=>J b o a e) y u D A C⟩
 self:=λ_ _ _ _ _ f h=>by
  rcases q with rfl | rfl
  .exact wpAny_pyIter_striter_ascii f h
  .exact wpAny_pyIter_striter_wide f h
def Cm(tl:TE):TI:=λσ H R=>tl σ H λx H1=>∃ z,x=.str z/\R (Its z) H1
theorem AF{X:Cx}{tg l:Expr}{tl:TE}(i:PE X l tl):PI X tg l (Cm tl):=by
 intro a s g H R I h;refine thn (i a s g H _ I h) λv c ⟨x,f,d,j,n⟩=>?_
 obtain⟨z,e,q⟩:=n;subst e;obtain⟨t,rfl⟩:=j;refine wpAny_pyIter_strU ?_;refine⟨c.heap.objs.size,[c.heap.objs.size],_,_,f,rfl,d.kept (t':=c.toks) λb o e=>Heap.get?_push_of_some _ e,m5 (ty:=strIterType z) (t:=t) z _ ?_,⟨_,Heap.get?_push_size _ rfl,rfl,rfl⟩,λb hb=>?_,q⟩
 .unfold strIterType
  split
  .exact .inl rfl
  .exact .inr rfl
 .have e:b=c.heap.objs.size:=by simpa using hb
  subst e;exact d.fpOk (Nat.le_refl _) (d.hok.fresh (Nat.le_refl _))
def Wk:St->St->Prop
 | [],[]=>True
 | Option.none::r,_::q=>Wk r q
 | some a::r,b::q=>b=some a/\Wk r q
 | _,_=>False
theorem Wk.len:∀{a b:St},Wk a b->a.length=b.length
 | [],[],_=>rfl
 | Option.none::r,_::q,h=>congrArg (· + 1) (Wk.len (a:=r) (b:=q) h)
 | some _::r,_::q,h=>congrArg (· + 1) (Wk.len (a:=r) (b:=q) h.2)
 | [],_::_,h=>h.elim
 | Option.none::_,[],h=>h.elim
 | some _::_,[],h=>h.elim
theorem Wk.get:∀{a b:St},Wk a b->∀(i:Nat) v,a[i]? = some (some v)->b[i]? = some (some v)
 | [],[],_,i,v,e=>by simp at e
 | Option.none::r,y::q,h,0,v,e=>by simp at e
 | Option.none::r,y::q,h,i+1,v,e=>by simpa using Wk.get (a:=r) (b:=q) h i v (by simpa using e)
 | some x::r,y::q,h,0,v,e=>by
  have c:x=v:=by simpa using e
  rw[h.1,c] <;> simp
 | some x::r,y::q,h,i+1,v,e=>by simpa using Wk.get (a:=r) (b:=q) h.2 i v (by simpa using e)
 | [],_::_,h,_,_,_=>h.elim
 | Option.none::_,[],h,_,_,_=>h.elim
 | some _::_,[],h,_,_,_=>h.elim
def dX(cells:List (Str×Addr)):List (Str×NameKind)->List (Str×Addr)->List (Str×Addr)
 | [],acc=>acc
 | (n,k)::r,acc=>if k == .free then dX cells r ((n,(cells.lookup n).getD 0)::acc) else dX cells r acc
theorem eZ{d:Scope}{env:Env}(h:∀ y∈d.names,y.2=.free->∃ c,env.cells.lookup y.1=some c):closureFor d env=pure (dX env.cells d.names []):=by
 unfold closureFor
 have f:∀(l:List (Str×NameKind)) (b:List (Str×Addr)),(∀ y∈l,y.2=.free->∃ c,env.cells.lookup y.1=some c) ->
   (forIn l b λx r=>match x with | (name,kind)=>if (kind == .free)=true then do let a <- cellOf env name;pure (ForInStep.yield ((name,a)::r)) else pure (ForInStep.yield r):Sem (List (Str×Addr)))=pure (dX env.cells l b):=by
  intro l
  induction l with
  | nil=>intro b _;rfl
  | cons y r ih =>
   intro b j;obtain⟨n,k⟩:=y;have o:∀ y∈r,y.2=.free->∃ c,env.cells.lookup y.1=some c:=λy q=>j y (mem_cons_of_mem _ q)
   rw[List.forIn_cons]
   by_cases hk:k=.free
   .subst hk
    obtain⟨c,p⟩:=j (n,.free) mem_cons_self rfl;have s:cellOf env n=pure c:=by unfold cellOf;rw[p]
    have g:dX env.cells ((n,.free)::r) b=dX env.cells r ((n,c)::b):=by
     show(if (NameKind.free == NameKind.free)=true then dX env.cells r ((n,(env.cells.lookup n).getD 0)::b) else dX env.cells r b)=_;rw[if_pos (by decide),p];rfl
    rw[g,<- ih ((n,c)::b) o];show(do let x <- (if (NameKind.free == NameKind.free)=true then do let a <- cellOf env n;pure (ForInStep.yield ((n,a)::b)) else pure (ForInStep.yield b):Sem _);_)=_;rw[if_pos (by decide),s];rfl
   .have i:(k == NameKind.free)=false:=by simpa using hk
    have g:dX env.cells ((n,k)::r) b=dX env.cells r b:=by
     show(if (k == NameKind.free)=true then dX env.cells r ((n,(env.cells.lookup n).getD 0)::b) else dX env.cells r b)=_;rw[i];rfl
    rw[g,<- ih b o];show(do let x <- (if (k == NameKind.free)=true then do let a <- cellOf env n;pure (ForInStep.yield ((n,a)::b)) else pure (ForInStep.yield b):Sem _);_)=_;rw[i];rfl
 have:=f d.names [] h
 first | exact this | (rw[this];rfl) | simpa using this
theorem dZ{a:List (Str×Addr)}:∀{l:List (Str×NameKind)}{acc:List (Str×Addr)}{n:Str}{c:Addr},(∀ y∈l,y.2=.free->∃ c,a.lookup y.1=some c)->(∀ n c,acc.lookup n=some c->a.lookup n=some c) ->
  (dX a l acc).lookup n=some c->a.lookup n=some c
 | [],acc,n,c,_,ha,e=>ha n c e
 | (m,k)::r,acc,n,c,hl,ha,e=>by
  have h:∀ y∈r,y.2=.free->∃ c,a.lookup y.1=some c:=λy j=>hl y (mem_cons_of_mem _ j)
  have b:(if (k == NameKind.free)=true then dX a r ((m,(a.lookup m).getD 0)::acc) else dX a r acc).lookup n=some c:=e
  by_cases hk:(k == NameKind.free)=true
  .rw[if_pos hk]at b
   refine dZ h (λn c z=>?_) b;obtain⟨d,i⟩:=hl (m,k) mem_cons_self (by simpa using hk);rw[lookup_cons]at z
   by_cases hn:(n == m)=true
   .rw[hn]at z
    have:n=m:=by simpa using hn
    subst this;have f:a.lookup n=some d:=i;rw[f]at z ⊢;simpa using z
   .have g:(n == m)=false:=by simpa using hn
    rw[g]at z;exact ha n c z
  .rw[if_neg hk]at b
   exact dZ h ha b
theorem fV{b:List (Str×Addr)}:∀{l:List (Str×NameKind)}{acc:List (Str×Addr)}{n:Str},((n,NameKind.free)∈l\/∃ c,acc.lookup n=some c)->∃ c,(dX b l acc).lookup n=some c
 | [],acc,n,h=>by
  rcases h with h | h
  .cases h
  .exact h
 | (m,k)::r,acc,n,h=>by
  show ∃ c,(if (k == NameKind.free)=true then dX b r ((m,(b.lookup m).getD 0)::acc) else dX b r acc).lookup n=some c
  have d:∀ a,n=m\/(∃ c,acc.lookup n=some c)->∃ c,((m,a)::acc).lookup n=some c:=λa z=>by
   rw[lookup_cons]
   by_cases hn:(n == m)=true
   .rw[hn];exact⟨_,rfl⟩
   .have f:(n == m)=false:=by simpa using hn
    rw[f]
    rcases z with z | z
    .exact absurd (by simpa using z) hn
    .exact z
  by_cases hk:(k == NameKind.free)=true
  .rw[if_pos hk]
   refine fV ?_
   rcases h with h | h
   .rcases mem_cons.mp h with e | h
    .exact .inr (d _ (.inl (congrArg Prod.fst e)))
    .exact .inl h
   .exact .inr (d _ (.inr h))
  .rw[if_neg hk]
   refine fV ?_
   rcases h with h | h
   .rcases mem_cons.mp h with e | h
    .have:k=.free:=(congrArg Prod.snd e).symm
     rw[this]at hk;exact absurd (by decide) hk
    .exact .inl h
   .exact .inr h
def rlb(env:Env)(p:Str×NameKind):Str×NameKind:=if (p.2 == NameKind.free && env.scope.kind == ScopeKind.function && env.kindOf p.1 == some NameKind.cell)=true then (p.1,NameKind.cell) else p
theorem j6(a:Scope)(env:Env):(relabel a env).names=a.names.map (rlb env):=rfl
theorem wS(env:Env)(p:Str×NameKind):(rlb env p).1=p.1:=by
 unfold rlb
 split <;> rfl
theorem v4{env:Env}{p:Str×NameKind}(h:p.2≠.cell)(h2:(rlb env p).2=.cell\/(rlb env p).2=.free):p.2=.free:=by
 unfold rlb at h2
 split at h2
 .rename_i q
  rw[Bool.and_eq_true,Bool.and_eq_true]at q;simpa using q.1.1
 .rcases h2 with h2 | h2
  .exact absurd h2 h
  .exact h2
theorem gh{env:Env}:∀{names:List (Str×NameKind)}{x:Str}{k:NameKind},(∀ y∈names,y.2≠.cell)->(k=.cell\/k=.free)->(names.map (rlb env)).lookup x=some k->(x,NameKind.free)∈names
 | [],x,k,_,_,e=>by simp at e
 | p::r,x,k,hc,hk,e=>by
  have b:∀ y∈r,y.2≠.cell:=λy g=>hc y (mem_cons_of_mem _ g)
  have d:rlb env p=(p.1,(rlb env p).2):=by rw[<- wS env p]
  rw[map_cons,d,lookup_cons]at e
  by_cases hx:x=p.1
  .have a:(x == p.1)=true:=by simpa using hx
   rw[a]at e;have f:(rlb env p).2=k:=Option.some.inj e;have c:=v4 (env:=env) (hc p mem_cons_self) (by rw[f];exact hk);have:(x,NameKind.free)=p:=by rw[hx,<- c]
   rw[this];exact mem_cons_self
  .have a:(x == p.1)=false:=by simpa using hx
   rw[a]at e;exact mem_cons_of_mem _ (gh b hk e)
theorem eX{env:Env}{a:Scope}{x:Str}{k:NameKind}(c:∀ y∈a.names,y.2≠.cell)(b:k=.cell\/k=.free)(e:(relabel a env).names.lookup x=some k):(x,NameKind.free)∈a.names :=
 gh (env:=env) c b (by rw[<- j6];exact e)
def sY(ix:List (Option Nat))(σ:St):St:=ix.map λo=>o.bind λi=>(σ[i]?).join
def FreeOk(XN:List Str)(env:Env)(sc:Scope):List Str->List (Option Nat)->Prop
 | [],[]=>True
 | _::N,Option.none::ix=>FreeOk XN env sc N ix
 | y::N,some i::ix=>XN[i]? = some y/\env.kindOf y=some .cell/\(relabel sc env).names.lookup y=some .cell/\FreeOk XN env sc N ix
 | _,_=>False
theorem FreeOk.len{b:List Str}{env:Env}{a:Scope}:∀{N:List Str}{ix:List (Option Nat)},FreeOk b env a N ix->ix.length=N.length
 | [],[],_=>rfl
 | _::N,Option.none::ix,h=>congrArg (· + 1) (FreeOk.len (N:=N) (ix:=ix) h)
 | _::N,some _::ix,h=>congrArg (· + 1) (FreeOk.len (N:=N) (ix:=ix) h.2.2.2)
 | [],_::_,h=>h.elim
 | _::_,[],h=>h.elim
theorem FreeOk.get{b:List Str}{env:Env}{c:Scope}:∀{N:List Str}{ix:List (Option Nat)},FreeOk b env c N ix->∀(j:Nat) (y:Str) (i:Nat),N[j]? = some y->ix[j]? = some (some i) ->
  b[i]? = some y/\env.kindOf y=some .cell/\(relabel c env).names.lookup y=some .cell
 | [],[],_,j,y,i,e,_=>by simp at e
 | _::N,Option.none::ix,h,0,y,i,e,e2=>by simp at e2
 | _::N,Option.none::ix,h,j+1,y,i,e,e2=>FreeOk.get (N:=N) (ix:=ix) h j y i (by simpa using e) (by simpa using e2)
 | z::N,some k::ix,h,0,y,i,e,e2=>by
  have d:z=y:=by simpa using e
  have a:k=i:=by simpa using e2
  subst d;subst a;exact⟨h.1,h.2.1,h.2.2.1⟩
 | _::N,some _::ix,h,j+1,y,i,e,e2=>FreeOk.get (N:=N) (ix:=ix) h.2.2.2 j y i (by simpa using e) (by simpa using e2)
 | [],_::_,h,_,_,_,_,_=>h.elim
 | _::_,[],h,_,_,_,_,_=>h.elim
def cxB(X:Cx)(sc:Scope)(C:Addr)(N:List Str)(s₀:Shared)(H₀:Hp)(fp:List Addr):Cx :=
 { X with N:=N,s₀:=s₀,H₀:=H₀,env:=compEnvC sc (dX X.env.cells sc.names []) C X.env,outer:=X.stack,ex:=fp,fn:=λ_=>false,pn:=[],xe:=λ_ _=>False }
structure CompOk(X:Cx)(sc:Scope)(N:List Str)(ix:List (Option Nat)):Prop where
 kind:sc.kind=.function
 nocell:(sc.names.all λy=>y.2 != .cell)=true
 names:(sc.names.all λy=>y.2 != .local || sc.names.lookup y.1 == some .local) = true
 free:(sc.names.all λy=>y.2 != .free || X.env.scope.names.lookup y.1 == some .cell)=true
 fr:FreeOk X.N X.env sc N ix
section
variable {X:Cx}{sc:Scope}{N:List Str}{ix:List (Option Nat)}{pins:List (Addr×Obj)}{σ:St}{H:Hp}{s:Shared}
theorem CompOk.cells(c:CompOk X sc N ix)(b:X.Ok):∀ y∈sc.names,y.2=.free->∃ c,X.env.cells.lookup y.1=some c:=λy a e=>by
 have h:=all_eq_true.mp c.free y a;rw[e]at h;have d:X.env.scope.names.lookup y.1=some .cell:=by simpa using h
 exact b.has y.1 (.inl d)
theorem CompOk.nc(c:CompOk X sc N ix):∀ y∈sc.names,y.2≠.cell:=λy a=>by simpa using all_eq_true.mp c.nocell y a
theorem CompOk.nm(c:CompOk X sc N ix):∀ y ∈ sc.names,y.2 = .local->sc.names.lookup y.1 = some .local:=λy a e=>by
 have h:=all_eq_true.mp c.names y a;rw[e]at h;simpa using h
theorem tF{C:Addr}{F:List Addr}{h₁:Heap}{t':Nat}(c:CompOk X sc N ix)(I:Inv X pins σ H s)(D:∀ b∈F,gt X pins H b)(G:∀ b∈F,b<s.heap.objs.size)(E:s.heap.objs.size<=C)
  (P:h₁.Ns C (λ_=>none)) (f:∀ b o,s.heap.get? b=some o->h₁.get? b=some o):Inv (cxB X sc C N s H F) [] (sY ix σ) H { s with heap:=h₁,toks:=t' }:=by
 have h:=c.cells I.ok;have a:∀ n c,(dX X.env.cells sc.names []).lookup n=some c->X.env.cells.lookup n=some c:=λn c e=>dZ h (λn c z=>by simp at z) e
 refine⟨⟨I.ok.mod,c.kind,I.ok.glob,I.ok.blt,E,λx y d M T=>I.ok.inj x y d (a x d M) (a y d T),λx hx=>?_,λx d z=>absurd z (by simp[cxB]),I.ok.hd,I.ok.frames,.inl rfl,λb hb=>⟨?_,λx d e=>?_⟩,I.bs,Nat.le_trans I.ok.bsz I.sz,λb o e hb=>?_,λb hb hs=>?_,I.stack,I.stkFree⟩,
  rfl,I.bare,Un.kept f,⟨_,P,λj y v W A e3=>?_⟩,λx d e=>?_,I.hok.fresh E,λx d e=>I.freeC x d (a x d e),λp hp=>absurd (show p∈([]:List (Addr×Obj)) from hp) (by simp),I.hok.kept f,?_⟩
 .refine fV (.inl ?_)
  rcases hx with hx | hx
  .exact eX c.nc (.inl rfl) (show(relabel sc X.env).names.lookup x=some .cell from hx)
  .exact eX c.nc (.inr rfl) (show(relabel sc X.env).names.lookup x=some .free from hx)
 .exact Nat.ne_of_lt (Nat.lt_of_lt_of_le (G b hb) E)
 .exact(D b hb).2.2.2.2.1 x d (a x d e)
 .rcases(D b hb).2.2.2.1 with z | z
  .exact I.ok.noex b o e z
  .exact absurd (Nat.lt_of_lt_of_le (Heap.lt_size e) (Nat.le_trans I.ok.bsz z)) (Nat.lt_irrefl _)
 .rcases mem_cons.mp (I.stkSub b hs) with z | z
  .exact(D b hb).2.1 z
  .exact(D b hb).2.2.1 z
 .have R:∃ i,ix[j]? = some (some i)/\σ[i]? = some (some v):=by
   unfold sY at A;rw[List.getElem?_map]at A;cases q:ix[j]? with
   | none=>rw[q]at A;cases A
   | some o =>
    rw[q]at A;cases o with
    | none=>cases A
    | some i =>
     refine⟨i,rfl,?_⟩;have g:(σ[i]?).join=some v:=Option.some.inj A;cases q2:σ[i]? with
     | none=>rw[q2]at g;cases g
     | some w=>rw[q2]at g;exact congrArg some g
  obtain⟨i,L,Y⟩:=R;obtain⟨Q,J,K⟩:=c.fr.get j y i W L;obtain⟨m,Z,S⟩:=I.loc;obtain⟨u,r,l⟩:=S i y v Q Y (.inr (.inl J));refine⟨u,r,?_⟩
  rcases l with⟨z,_⟩ | ⟨_,d,O,B⟩
  .rw[J]at z;cases z
  .obtain⟨d',hd'⟩:∃ d',(dX X.env.cells sc.names []).lookup y=some d':=fV (.inl (eX c.nc (.inl rfl) K))
   have:=a y d' hd';rw[O]at this;cases this;exact .inr ⟨.inl K,d,hd',B.keeps f⟩
 .obtain⟨v,z⟩:=I.cell x d (a x d e)
  exact⟨v,z.keeps f⟩
 .show(sY ix σ).length=N.length
  unfold sY;rw[length_map,c.fr.len]
theorem mD{C:Addr}{c:List Addr}{a:List (Addr×Obj)}{σ':St}{f:Hp}{d:Shared}(I:Inv X pins σ H s)(i:∀ b∈c,gt X pins H b)(J:Inv (cxB X sc C N s H c) a σ' f d):Inv X pins σ f d:=by
 refine I.call' (ch:=c) J.os J.base J.hok J.bare λb g=>?_
 obtain⟨o,h,p,n,j,l⟩:=i b g;exact⟨n,h,j,l⟩
end
def PTs(X:Cx)(ifs:List Expr)(t:TT):Prop :=
 ∀(pins:List (Addr×Obj)) (s:Shared) (σ:St) (H:Hp) (Q:Bool->Hp->Prop),Inv X pins σ H s->t σ H Q ->
  wpAny (model X.prog X.w) X.A (forIn ifs true λc r=>if r=true then do let ok <- isTrue c X.env (eval c X.env);pure (ForInStep.yield ok) else pure (ForInStep.yield r)) (TP X pins σ Q) X.xe s
def CO:TT:=λ_ H Q=>Q true H
theorem cH{X:Cx}:PTs X [] CO:=λ_ _ _ H _ I h=>wpAny_tests_nil ⟨H,I,h⟩
theorem qK{X:Cx}{c:Expr}{t:TT}(h:PT X c t):PTs X [c] t:=λa s d H Q I b=>wpAny_tests_one (h a s d H Q I b)
def iA(J:It)(D:Addr)(σb:St)(g:TG)(tt:TT)(te:TE)(Q:Hp->List V->Prop)(W:Nat->Nat->List V->Hp->Prop):Prop :=
 ∀ i m ys H,W i m ys H->H D=some (.lst ys)/\((J.stop i H/\Q H ys)\/(J.go i H/\∀ x H3,J.yld i H x H3->g x σb H3 λσ4 H4=>Wk σb σ4/\tt σ4 H4 λb H5 =>
  if b=true then te σ4 H5 λy H6=>H6 D=some (.lst ys)/\ys.length<sizeLine/\∃ m',m'<m/\W (i+1) m' (ys++[y]) (upd H6 D (.lst (ys++[y]))) else ∃ m',m'<m/\W (i+1) m' ys H5))
def yF(ix:List (Option Nat))(wi:TI)(g:TG)(tt:TT)(te:TE):TE:=λσ H Q=>wi σ H λJ H1=>∀ D,H1 D=none->∃ W,(∃ m,W 0 m [] (upd H1 D (.lst [])))/\iA J D (sY ix σ) g tt te (λH _=>Q (.ref D) H) W
section
variable {X:Cx}{sc:Scope}{N:List Str}{ix:List (Option Nat)}{elt tg iter:Expr}{ifs:List Expr}{pos:Pos}{wi:TI}{g:TG}{tt:TT}{te:TE}
structure Blk(X:Cx)(sc:Scope)(N:List Str)(tg elt:Expr)(ifs:List Expr)(g:TG)(tt:TT)(te:TE):Prop where
 tg:∀ C s H fp,PG (cxB X sc C N s H fp) tg g
 tests:∀ C s H fp,PTs (cxB X sc C N s H fp) ifs tt
 elt:∀ C s H fp,PE (cxB X sc C N s H fp) elt te
theorem sW{J:It}{j:List Addr}{O D:Addr}{I:Nat->Heap->Prop}{a:St}{Q:Hp->List V->Prop}{R:Result->Shared->Prop}{W:Nat->Nat->List V->Hp->Prop}
  (hc:X.calm=true) (Z:X.xe=λ_ _=>False) (T:Turn X.prog X.w X.K tg J j O I) (hg:PG X tg g) (ht:PTs X ifs tt) (he:PE X elt te) (F:iA J D a g tt te Q W)
  (c:∀{H':Hp},(∀ b∈j,H' b=none)->∀ b∈j,gt X [] H' b)
  (Y:∀{σ':St}{H':Hp}{s':Shared}{ys:List V},Inv X [] σ' H' s'->Q H' ys->R (.ok .next) s')
  {m0 i0:Nat}{s:List V}{H:Hp}{s0:Shared}(I0:Inv X [] a H s0) (ab:I i0 s0.heap) (M:∀ b∈j,H b=none) (w0:W i0 m0 s H) :
  codeAny (model X.prog X.w) X.A (.compLoop (.ListComp elt [⟨tg,iter,ifs,0⟩] sc pos) 0 (.ref O) (.ref D) X.env) R s0:=by
 have f:∀{E':Value->Shared->Prop}(e:Value) (s':Shared),X.xe e s'->E' e s':=λ{E'} e s' z=>by rw[Z]at z;exact z.elim
 refine codeAny_loop rfl (λn s'=>∃ i ys H',Inv X [] a H' s'/\I i s'.heap/\(∀ b∈j,H' b=none)/\W i n ys H') ?_ m0 ⟨i0,s,H,I0,ab,M,w0⟩;rintro n s3 ⟨i,ys,K,I3,B,E,w3⟩;show wpAny _ X.A ((compTurn (.ListComp elt [⟨tg,iter,ifs,0⟩] sc pos) 0 (.ref O) (.ref D) X.env).onRaise (λx=>do noteFrame x X.env;theTreesLotGoes x)) _ _ s3;refine wpAny_noted ?_;rw[compTurn_list];refine wpAny_bind (wpAny_standAt (wpAny_bind ?_));obtain⟨as,next⟩:=F i n ys K w3
 rcases next with⟨w,q⟩ | ⟨go,A⟩
 .refine thn (T.done X rfl rfl rfl hc i [] s3 a K _ I3 (c E) B w) λr s4 ⟨S,I4⟩=>?_
  subst S;exact wpAny_pure (Y I4 q)
 .refine thn (T.item X rfl rfl rfl hc i [] s3 a K _ I3 (c E) B go) λr s4 ⟨u,S,h4⟩=>?_
  subst S;refine wpAny_bind (thn h4 λ_ s5 ⟨x,H5,I5,r5,y5,h,an⟩=>?_);have al:=I5.pinned (c an) (T.obj _ _ h)
  have ml:∀{σ':St}{H':Hp}{s':Shared},Inv X ([]++jB j s5.heap) σ' H' s'->Wk a σ'->Inv X [] a H' s'/\I (i+1) s'.heap/\∀ b∈j,H' b=none:=λ{σ' H' s'} p C=>by
   refine⟨(p.unpinned).weak C.len C.get,T.keep _ _ _ h λb G o e=>(p.pin (b,o) (mem_append_right _ (mem_append_right _ (eQ G e)))).1,λb G=>?_⟩;obtain⟨o,e,d⟩:=T.obj _ _ h b G;exact(p.pin (b,o) (mem_append_right _ (mem_append_right _ (eQ G e)))).2.1
  refine wpAny_bind (wpAny_mono (hg _ s5 a H5 x u _ al r5 (A x H5 y5)) (λ_ s6 ⟨l,H6,I6,C,q6⟩=>?_) f);refine wpAny_bind (wpAny_mono (ht _ s6 l H6 _ I6 q6) (λok s7 ⟨H7,p,q7⟩=>?_) f);cases ok with
  | false =>
   obtain⟨m',hm,w7⟩:=q7;obtain⟨b1,L,b3⟩:=ml p C;exact wpAny_pure ⟨rfl,m',hm,i+1,ys,H7,b1,L,b3,w7⟩
  | true =>
   refine wpAny_bind (wpAny_bind (wpAny_mono (he _ s7 l H7 _ p q7) (λv s8 ⟨y,H8,I8,r8,N,P,m',hm,w8⟩=>?_) f));refine wpAny_bind (wpAny_mono (ko _ s8 l H8 (.ref D) [y] (.ref D) [v] (λ_ H9=>H9=upd H8 D (.lst (ys++[y]))) I8 rfl (.cons r8 .nil) ⟨D,ys,y,rfl,rfl,N,P,rfl⟩) (λ_ s9 ⟨z,H9,I9,_,e9⟩=>?_) f);subst e9;obtain⟨b1,L,b3⟩:=ml I9 C;exact wpAny_pure (wpAny_pure ⟨rfl,m',hm,i+1,ys++[y],_,b1,L,b3,w8⟩)
theorem kB{a:List (Addr×Obj)}{σ:St}{H:Hp}{s:Shared}{E:Value->Shared->Prop}{RR:Value->Addr->Result->Shared->Prop}{O:Addr}{i:List Addr}{A:Nat->Heap->Prop}{J:It}{Q:Addr->Hp->List V->Prop}
  (hc:X.calm=true) (c:CompOk X sc N ix) (B:Blk X sc N tg elt ifs g tt te) (I:Inv X a σ H s) (T:Turn X.prog X.w X.K tg J i O A) (Z:A 0 s.heap) (hf:∀ b∈i,gt X a H b)
  (h:∀ D,H D=none->∃ W,(∃ m,W 0 m [] (upd H D (.lst [])))/\iA J D (sY ix σ) g tt te (Q D) W)
  (hR:∀ D C H' s' ys,Inv X a σ H' s'->gt X a H' C->(∃ m,s'.heap.Ns C m)->Q D H' ys->RR (.ref D) C (.ok .next) s') :
  wpAny (model X.prog X.w) X.A (newList []) (λacc s₃=>wpAny (model X.prog X.w) X.A (newFunctionEnv sc X.env.globals (dX X.env.cells sc.names []) [] X.env.qual none .none (some X.env)) (λcenv s₄ =>
   codeAny (model X.prog X.w) X.A (.compStart (.ListComp elt [⟨tg,iter,ifs,0⟩] sc pos) 0 (.ref O) acc { cenv with scope:=relabel sc X.env }) (RR acc cenv.locals) s₄) E s₃) E s:=by
 have Y:∀ b∈i,b<s.heap.objs.size:=λb f=>let ⟨o,e,_⟩:=T.obj _ _ Z b f;Heap.lt_size e
 refine wpAny_newObj_type ?_ (by show 0<=sizeLine;exact Nat.zero_le _);have hD:H s.heap.objs.size=none:=I.hok.fresh (Nat.le_refl _);obtain⟨W,⟨m0,w0⟩,L⟩:=h s.heap.objs.size hD;have w:Inv X a σ (upd H s.heap.objs.size (.lst [])) { s with heap:=s.heap.push { cls:=.type "list",data:=.seq ([]:List Value).toArray } }:=I.lnew (t':=s.toks) (its:=[]) .nil (Nat.zero_le _);have k1:∀ b o,s.heap.get? b=some o->(s.heap.push { cls:=.type "list",data:=.seq ([]:List Value).toArray }).get? b=some o:=λb o e=>Heap.get?_push_of_some _ e
 have P:∀ b∈i,b≠s.heap.objs.size:=λb f=>Nat.ne_of_lt (Y b f)
 have j:∀ b∈i,gt X a (upd H s.heap.objs.size (.lst [])) b:=λb f=>⟨by rw[af (P b f)];exact(hf b f).1,(hf b f).2⟩
 have G:A 0 (s.heap.push { cls:=.type "list",data:=.seq ([]:List Value).toArray }):=T.keep _ _ _ Z λb _ o e=>k1 b o e
 generalize hs1:({ s with heap:=s.heap.push { cls:=.type "list",data:=.seq ([]:List Value).toArray } }:Shared)=s1 at w;have r:s1.heap=s.heap.push { cls:=.type "list",data:=.seq ([]:List Value).toArray }:=by rw[<- hs1]
 generalize hDe:s.heap.objs.size=D at *;show wpAny _ _ _ _ _ s1;refine wpAny_newFunctionEnv c.nc (by intro y hy;simp at hy) (λh₁ hns₁ hsb₁=>?_) c.kind;have F:∀ b o,s1.heap.get? b=some o->h₁.get? b=some o:=λb o e=>(hsb₁.2 b (Nat.ne_of_lt (Heap.lt_size e))).trans (Heap.get?_push_of_some _ e)
 have u:∀ b∈i,b<s1.heap.objs.size:=λb f=>by
  obtain⟨o,e,_⟩:=T.obj _ _ G b f;rw[r];exact Heap.lt_size e
 have J0:=tF (h₁:=h₁) (t':=s1.toks+([]:List (Str×Value)).length) c w j u (Nat.le_refl _) (by simpa using hns₁) F;have K:A 0 h₁:=T.keep _ _ _ (by rw[r];exact G:A 0 s1.heap) λb _ o e=>F b o e
 have M:∀{H':Hp},(∀ b∈i,H' b=none)->∀ b∈i,gt (cxB X sc s1.heap.objs.size N s1 (upd H D (.lst [])) i) [] H' b:=λ{H'} S b f=>by
  obtain⟨f0,f1,f2,f3,f4,f5⟩:=j b f;refine⟨S b f,Nat.ne_of_lt (u b f),?_,.inl f,λx d e=>f4 x d (dZ (c.cells I.ok) (λn c z=>by simp at z) e),λp hp=>absurd (show p∈([]:List (Addr×Obj)) from hp) (by simp)⟩;intro z
  rcases mem_cons.mp (w.stkSub b z) with q | q
  .exact f1 q
  .exact f2 q
 have R:∀{v:St}{H':Hp}{s':Shared}{ys:List V},Inv (cxB X sc s1.heap.objs.size N s1 (upd H D (.lst [])) i) [] v H' s'->Q D H' ys->RR (.ref D) s1.heap.objs.size (.ok .next) s':=λ{v H' s' ys} J q =>
  hR D _ H' s' ys (mD w j J) (w.fpOk (Nat.le_refl _) J.free) (let ⟨m,S,_⟩:=J.loc;⟨m,S⟩) q
 have l:codeAny (model X.prog X.w) X.A (.compLoop (.ListComp elt [⟨tg,iter,ifs,0⟩] sc pos) 0 (.ref O) (.ref D) (cxB X sc s1.heap.objs.size N s1 (upd H D (.lst [])) i).env) (RR (.ref D) s1.heap.objs.size) { s1 with heap:=h₁,toks:=s1.toks+([]:List (Str×Value)).length } :=
  sW (X:=cxB X sc s1.heap.objs.size N s1 (upd H D (.lst [])) i) hc rfl T (B.tg _ _ _ _) (B.tests _ _ _ _) (B.elt _ _ _ _) L M R J0 K (λb f=>(j b f).1) w0
 exact codeAny_compStart_list l (T.self _ 0 _ _ _ K l)
theorem cJ(L:X.calm=true)(c:CompOk X sc N ix)(w:PI X tg iter wi)(B:Blk X sc N tg elt ifs g tt te)(O:∀ x,foldedSetIterable iter X.env x=pure x:=by intro _;rfl):PE X (.ListComp elt [⟨tg,iter,ifs,0⟩] sc pos) (yF ix wi g tt te):=by
 intro a s l H Q I h;rw[eval_ListComp];refine wpAny_comprehension_free (use:=none) rfl O (eZ (c.cells I.ok)) c.kind c.nm (thn (w a s l H _ I h) λxv j d=>thn d λitv s₂ h₂=>?_);obtain⟨S,W,Y,J,H2,e,v,T,f,n,F⟩:=h₂;subst e;refine kB (RR:=λi C=>compPost (model X.prog X.w) X.A X.xe none (EP X a l Q) i C) (Q:=λD H _=>Q (.ref D) H) L c B v T f n F ?_;intro D C E r ys A z K q;refine⟨_,K.choose_spec,λZ M=>⟨.ref D,E,?_,rfl,q⟩⟩;obtain⟨y,u,n,R,G,P⟩:=z;exact A.turned (t':=r.toks) (λb o p e=>(M.2 b p).trans e) y u R G P
theorem lf{i:Nat}{y:Str}{j f:Pos}(hc:X.calm = true)(Z:X.N.Nodup)(R:X.N[i]? = some y)(O:X.env.scope.names.lookup y = some .local)
  (p:swapsWith (.ListComp elt [⟨tg,iter,ifs,0⟩] sc pos) (some (.Name y j)) f.line X.env=pure true)
  (c:CompOk X sc N ix) (W:PI X tg iter wi) (B:Blk X sc N tg elt ifs g tt te) (hs:∀ x,foldedSetIterable iter X.env x=pure x:=by intro _;rfl) :
  PS X (.Assign [.Name y j] (.ListComp elt [⟨tg,iter,ifs,0⟩] sc pos) f) (xE (yF ix wi g tt te) (nU i)):=by
 intro d s K H r I h;rw[exec_Assign_Name_used _ _ _ _ p];refine wpAny_bind (wpAny_standAt (wpAny_bind ?_));show wpAny _ X.A (do let _ <- comprehension (.ListComp elt [⟨tg,iter,ifs,0⟩] sc pos) sc X.env _ (newList []) false (eval iter X.env) (some (assign (.Name y j) X.env))) _ _ s
 refine wpAny_bind (wpAny_mono (wpAny_comprehension_free (use:=some (assign (.Name y j) X.env)) (Q:=λ_ l=>SP X d r .next l) rfl hs (eZ (c.cells I.ok)) c.kind c.nm
  (thn (W d s K H _ I h) λxv G n=>thn n λitv s₂ h₂=>?_)) (λ_ l hq=>wpAny_pure (wpAny_pure hq)) λ_ _ e=>e)
 obtain⟨it,fp,tn,J,H2,e,S,T,u,M,q2⟩:=h₂;subst e;refine kB (RR:=λE C=>compPost (model X.prog X.w) X.A X.xe (some (assign (.Name y j) X.env)) (λ_ l=>SP X d r .next l) E C) (Q:=λD H _=>r.nx (K.set i (some (.ref D))) H) hc c B S T u M q2 ?_;intro D C H' l ys I' fC ns q;show wpAny _ X.A (assign (.Name y j) X.env (.ref D)) _ _ _;obtain⟨Y,F,M,f3,L,f5⟩:=fC;refine wpAny_assign_Name (kM I' Z R (.inl O) (v:=.ref D) rfl (λs2 J2 ⟨a,sb,ha⟩=>?_) (.inr O));obtain⟨m,hn⟩:=ns
 have w:C≠a:=by
  rcases ha with z | z
  .rw[z];exact F
  .exact λe=>L y a z e.symm
 refine⟨m,hn.sameBut sb w,λh3 A=>⟨_,H',?_,q⟩⟩;exact J2.turned (t':=s2.toks) (λb o P e=>(A.2 b P).trans e) Y F f3 L f5
end
section
variable {κ:Type} [DecidableEq κ]
def dh(kvs:List (κ×V))(k:κ):Option V:=(kvs.find? λkv=>decide (kv.1=k)).map (·.2)
def fA(kvs:List (κ×V))(k:κ)(v:V):List (κ×V) :=
 if (kvs.any λkv=>decide (kv.1=k))=true then kvs.map (λkv=>if kv.1=k then (kv.1,v) else kv) else kvs++[(k,v)]
theorem eC{p:κ×V}{r:List (κ×V)}{k:κ}(e:p.1=k):dh (p::r) k=some p.2:=by simp[dh,List.find?_cons,e]
theorem eh{p:κ×V}{r:List (κ×V)}{k:κ}(e:¬p.1=k):dh (p::r) k=dh r k:=by simp[dh,List.find?_cons,e]
theorem jT(k:κ):∀ kvs:List (κ×V),(kvs.any λkv=>decide (kv.1=k))=(dh kvs k).isSome
 | []=>rfl
 | p::r=>by
  rw[any_cons]
  by_cases e:p.1=k
  .simp only[eC e,decide_eq_true e,Bool.true_or,Option.isSome_some]
  .rw[eh e,decide_eq_false e,Bool.false_or];exact jT k r
theorem iG(a:List (κ×V))(k:κ)(v:V):(fA a k v).length<=a.length+1:=by
 unfold fA
 split
 .rw[length_map];lia
 .rw[length_append,length_cons,length_nil];lia
theorem uW{a:List (κ×V)}{k:κ}(v:V)(h:dh a k=none):fA a k v=a++[(k,v)]:=by
 unfold fA;rw[jT,h];exact if_neg (by decide)
theorem RelO.isSome_eq{o:Option V}{u:Option Value}(r:RelO o u):o.isSome=u.isSome:=by
 cases o with
 | none=>cases u with
  | none=>rfl
  | some _=>exact(show False from r).elim
 | some _=>cases u with
  | none=>exact(show False from r).elim
  | some _=>rfl
theorem RelO.getD{o:Option V}{u:Option Value}{d:V}{d':Value}(r:RelO o u)(a:RelV d d'):RelV (o.getD d) (u.getD d'):=by
 cases o with
 | none=>cases u with
  | none=>exact a
  | some _=>exact(show False from r).elim
 | some _=>cases u with
  | none=>exact(show False from r).elim
  | some _=>exact r
theorem KV.val{a:List (κ×V)}{vs:List (κ×Value)}(r:KV a vs)(k:κ):RelO (dh a k) (valueAt vs k):=by
 unfold KV at r
 induction r with
 | nil=>exact True.intro
 | @cons p q ps qs h t ih =>
  obtain⟨d,f⟩:=h
  by_cases e:p.1=k
  .have c:q.1=k:=d.symm.trans e
   have b:valueAt (q::qs) k=some q.2:=by simp[valueAt,List.find?_cons,c]
   rw[eC e,b];exact f
  .have c:¬q.1=k:=λz=>e (d.trans z)
   have b:valueAt (q::qs) k=valueAt qs k:=by simp[valueAt,List.find?_cons,c]
   rw[eh e,b];exact ih
theorem KV.any{a:List (κ×V)}{vs:List (κ×Value)}(r:KV a vs)(k:κ):(a.any λkv=>decide (kv.1=k))=vs.any λkv=>decide (kv.1=k):=by
 unfold KV at r
 induction r with
 | nil=>rfl
 | cons h t ih=>rw[any_cons,any_cons,ih,h.1]
theorem KV.repl{a:List (κ×V)}{vs:List (κ×Value)}(r:KV a vs)(k:κ){y:V}{u:Value}(d:RelV y u) :
  KV (a.map λkv=>if kv.1=k then (kv.1,y) else kv) (vs.map λkv=>if kv.1=k then (kv.1,u) else kv):=by
 unfold KV at r ⊢
 induction r with
 | nil=>exact .nil
 | @cons p q ps qs h t ih =>
  rw[map_cons,map_cons];refine .cons ?_ ih;obtain⟨b,c⟩:=h
  by_cases e:p.1=k
  .rw[if_pos e,if_pos (b.symm.trans e)];exact⟨b,d⟩
  .rw[if_neg e,if_neg (λz=>e (b.trans z))];exact⟨b,c⟩
theorem KV.put{a:List (κ×V)}{vs:List (κ×Value)}(r:KV a vs)(k:κ){y:V}{u:Value}(b:RelV y u):KV (fA a k y) (stored vs k u):=by
 unfold fA stored;rw[r.any k]
 by_cases e:(vs.any λc=>decide (c.1=k))=true
 .rw[if_pos e,if_pos e];exact r.repl k b
 .rw[if_neg e,if_neg e];exact Paired.snoc r ⟨rfl,b⟩
theorem KV.length{a:List (κ×V)}{vs:List (κ×Value)}(r:KV a vs):a.length=vs.length:=Paired.length r
end
theorem pR{P:Program}{w:World}{k:Key}{u:Value}(r:RelV (kV k) u):(aO P w).is k u=true:=by
 cases k with
 | inl i=>obtain⟨t,e⟩:=(show ∃ t,u=Value.int i t from r);subst e;exact mF P w i t
 | inr x=>obtain⟨t,e⟩:=(show ∃ t,u=Value.str x t from r);subst e;exact nZ P w x t
theorem kK{P:Program}{w:World}:∀{ks:List Key}{us:List Value},Vals (ks.map kV) us->ItemsAre (aO P w) ks us
 | [],_,r=>by rw[map_nil]at r;cases r;exact .nil
 | k::ks,_,r=>by
  rw[map_cons]at r;cases r with
  | cons h t=>exact .cons (pR h) (kK t)
abbrev KT(H:Hp):List (List Key×V)->List (List Key×Addr×Value)->Prop:=Paired λp q=>p.1=q.1/\H q.2.1=some (.tup (p.1.map kV))/\RelV p.2 q.2.2
theorem KT.val{H:Hp}{a:List (List Key×V)}{xs:List (List Key×Addr×Value)}(r:KT H a xs)(k:List Key):RelO (dh a k) ((atKey xs k).map (·.2)):=by
 induction r with
 | nil=>exact True.intro
 | @cons p q ps qs h t ih =>
  obtain⟨d,_,f⟩:=h
  by_cases e:p.1=k
  .have c:q.1=k:=d.symm.trans e
   have b:atKey (q::qs) k=some q.2:=by simp[atKey,List.find?_cons,c]
   rw[eC e,b];exact f
  .have c:¬q.1=k:=λz=>e (d.trans z)
   have b:atKey (q::qs) k=atKey qs k:=by simp[atKey,List.find?_cons,c]
   rw[eh e,b];exact ih
theorem KT.repl{H:Hp}{a:List (List Key×V)}{xs:List (List Key×Addr×Value)}(r:KT H a xs)(k:List Key){y:V}{u:Value}(d:RelV y u) :
  KT H (a.map λkv=>if kv.1=k then (kv.1,y) else kv) (xs.map (putAt k u)):=by
 induction r with
 | nil=>exact .nil
 | @cons p q ps qs h t ih =>
  rw[map_cons,map_cons];refine .cons ?_ ih;obtain⟨b,c,f⟩:=h;unfold putAt
  by_cases e:p.1=k
  .rw[if_pos e,if_pos (b.symm.trans e)];exact⟨b,c,d⟩
  .rw[if_neg e,if_neg (λz=>e (b.trans z))];exact⟨b,c,f⟩
theorem KT.put{H:Hp}{a:List (List Key×V)}{xs:List (List Key×Addr×Value)}(r:KT H a xs)(k:List Key){b:Addr}{y:V}{u:Value}(d:H b=some (.tup (k.map kV)))(c:RelV y u) :
  KT H (fA a k y) (storedH xs k b u):=by
 have e:(a.any λf=>decide (f.1=k))=(atKey xs k).isSome:=by
  rw[jT,(r.val k).isSome_eq,Option.isSome_map]
 unfold fA storedH;rw[e]
 by_cases q:(atKey xs k).isSome=true
 .rw[if_pos q,if_pos q];exact r.repl k c
 .rw[if_neg q,if_neg q];exact Paired.snoc r ⟨rfl,d,c⟩
theorem KT.keeps{H c:Hp}{a:List (List Key×V)}{xs:List (List Key×Addr×Value)}(r:KT H a xs)(d:∀ b ys,H b=some (.tup ys)->c b=some (.tup ys)):KT c a xs :=
 Paired.mapP r λ_ _ z=>⟨z.1,d _ _ z.2.1,z.2.2⟩
section
variable {P:Program}{w:World}{H:Hp}{h:Heap}{a:Addr}
theorem yK{u:HO}(b:HOk P w H h)(e:Rd H a u):ObjOk P w H h a u:=e.ok b
theorem mK{b:List (Key×V)}(c:HOk P w H h)(e:Rd H a (.dK b)):b.length<=sizeLine/\(a == sysModules)=false/\∃ vs,KV b vs/\h.DictOf (aO P w) a vs :=
 show ObjOk P w H h a (.dK b) from yK c e
theorem BH{b:List (Key×V)}(c:HOk P w H h)(e:H a=some (.dK b)):b.length<=sizeLine/\(a == sysModules)=false/\∃ vs,KV b vs/\h.DictOf (aO P w) a vs:=mK c (.inl e)
theorem gU{ks:List Key}(d:HOk P w H h)(e:H a=some (.tup (ks.map kV))):(tupleKind (aO P w)).is h ks a:=by
 obtain⟨_,b,r,o,f,g,n,c⟩:=(show ObjOk P w H h a (.tup (ks.map kV)) from d a _ e)
 exact⟨o,b.toArray,n,f,g,c,by simpa using kK r⟩
theorem om{b:List (List Key×V)}(d:HOk P w H h)(e:Rd H a (.dT b)):b.length<=sizeLine/\(a == sysModules)=false /\
  ∃ xs,KT H b xs/\h.DictOfH (tupleKind (aO P w)) a xs:=by
 obtain⟨z,y,xs,r,o,f,i,n,s,g,u,j⟩:=(show ObjOk P w H h a (.dT b) from yK d e)
 refine⟨z,y,xs,r,o,f,i,n,s,g,u,λx hx=>?_,j⟩
 have c:∀{l:List (List Key×V)}{m:List (List Key×Addr×Value)},KT H l m->∀ x∈m,(tupleKind (aO P w)).is h x.1 x.2.1:=by
  intro l m q
  induction q with
  | nil=>intro x hx;exact nomatch hx
  | @cons p q ps qs hq t ih =>
   intro x hx
   rcases mem_cons.mp hx with e | hx
   .subst e
    exact gU d (by rw[<- hq.1];exact hq.2.1)
   .exact ih x hx
 exact c r x hx
theorem uf{b:List (List Key×V)}(c:HOk P w H h)(e:H a=some (.dT b)):b.length<=sizeLine/\(a == sysModules)=false /\
  ∃ xs,KT H b xs/\h.DictOfH (tupleKind (aO P w)) a xs:=om c (.inl e)
end
def DGet(H:Hp)(a:Addr)(y:V)(r:Option V):Prop :=
 (∃ kvs k,Rd H a (.dK kvs)/\y=kV k/\r=dh kvs k)\/∃ kvs k b,Rd H a (.dT kvs)/\y=.ref b/\H b=some (.tup (k.map kV))/\r=dh kvs k
def DPut(H:Hp)(a:Addr)(y v:V)(H':Hp):Prop :=
 (∃ kvs k,H a=some (.dK kvs)/\y=kV k/\kvs.length<sizeLine/\H'=upd H a (.dK (fA kvs k v))) \/
 ∃ kvs k b,H a=some (.dT kvs)/\y=.ref b/\H b=some (.tup (k.map kV))/\kvs.length<sizeLine/\H'=upd H a (.dT (fA kvs k v))
theorem DGet.t{H:Hp}{a b:Addr}{c:List (List Key×V)}{k:List Key}(e:H a=some (.dT c))(d:H b=some (.tup (k.map kV))):DGet H a (.ref b) (dh c k):=.inr ⟨c,k,b,.inl e,rfl,d,rfl⟩
theorem DPut.t{H:Hp}{a b:Addr}{c:List (List Key×V)}{k:List Key}{v:V}(e:H a=some (.dT c))(f:H b=some (.tup (k.map kV)))(d:c.length<sizeLine) :
  DPut H a (.ref b) v (upd H a (.dT (fA c k v))):=.inr ⟨c,k,b,e,rfl,f,d,rfl⟩
section
variable {X:Cx}{pins:List (Addr×Obj)}{σ:St}{H:Hp}{s:Shared}{a:Addr}{y v:V}{u r:Value}{o:Option V}{A:Around}{E:Value->Shared->Prop}
theorem Inv.big(I:Inv X pins σ H s):sysModules<s.heap.objs.size:=by
 have h:mainGlobals<s.heap.objs.size:=(I.mod.glob.keeps I.bk).lt;exact Nat.lt_trans (by decide) h
theorem tJ{Q:Value->Shared->Prop}(F:A.units+1<cLine)(I:Inv X pins σ H s)(g:DGet H a y (some v))(r:RelV y u)(h:∀ w' s',Inv X pins σ H s'->RelV v w'->Q w' s') :
  wpAny (model X.prog X.w) A (getItem (.ref a) u) Q E s:=by
 rcases g with⟨j,k,e,i,l⟩ | ⟨j,k,b,e,i,B,l⟩
 .subst i
  obtain⟨z,D,w,c,q⟩:=mK I.hok e;obtain⟨w',f,d⟩:=RelO.some_of (v:=v) (o:=valueAt w k) (by rw[l];exact c.val k);exact wpAny_getItem_of (pR r) q.mapOf f (h w' _ (I.tok _) d)
 .subst i
  cases(show u=Value.ref b from r);obtain⟨z,D,x,c,q⟩:=om I.hok e;obtain⟨w',f,d⟩:=RelO.some_of (v:=v) (o:=(atKey x k).map (·.2)) (by rw[l];exact c.val k);obtain⟨p,C,n⟩:=Option.map_eq_some_iff.mp f;refine wpAny_getItem_heap (tupleKind_room_in1 F) (gU I.hok B) q C ?_;rw[n];exact h w' _ (I.tok _) d
theorem jf{h':Heap}{t':Nat}{ob:HO}(I:Inv X pins σ H s)(f:Mut (H a))(h:Heap.SameBut a s.heap h')(g:∃ q,h'.get? a=some q)(c:ObjOk X.prog X.w (upd H a ob) h' a ob) :
  Inv X pins σ (upd H a ob) { s with heap:=h',toks:=t' } :=
 I.write (x:=a) (e:=a) f (.inl rfl) (λb q d z=>(h.2 b d).trans z) g c
theorem zJ{P:Program}{w:World}{d:Hp}{h':Heap}{b:List (Key×V)}{vs:List (Key×Value)}(z:b.length<=sizeLine)(f:(a == sysModules)=false)(c:KV b vs)(g:h'.DictOf (aO P w) a vs) :
  ObjOk P w d h' a (.dK b):=⟨z,f,vs,c,g⟩
theorem tT{F:Hp}{Q:Unit->Shared->Prop}(S:A.units+1<cLine)(I:Inv X pins σ H s)(g:DPut H a y v F)(D:RelV y u)(J:RelV v r)(h:∀ s',Inv X pins σ F s'->Q () s') :
  wpAny (model X.prog X.w) A (setItem (.ref a) u r) Q E s:=by
 rcases g with⟨f,k,e,C,l,n⟩ | ⟨f,k,b,e,C,G,l,n⟩
 .subst C n
  obtain⟨z,o,L,d,x⟩:=BH I.hok e;have B:L.length<=sizeLine:=by rw[<- d.length];exact z
  have p:(fA f k v).length<=sizeLine:=by have:=iG f k v;lia
  refine wpAny_setItem_pairs (hsz:=B) (pR D) x λK i w=>h _ ?_
  have T:∃ q,K.get? a=some q:=let ⟨q,_,_,j,_⟩:=i;⟨q,j⟩;exact jf I (by rw[e];exact True.intro) w T (zJ p o (d.put k J) i)
 .subst C n
  cases(show u=Value.ref b from D);obtain⟨z,o,N,d,x⟩:=uf I.hok e;have B:N.length<=sizeLine:=by rw[<- Paired.length d];exact z
  have p:(fA f k v).length<=sizeLine:=by have:=iG f k v;lia
  refine wpAny_setItem_heap (hsz:=B) (tupleKind_room_in1 S) (gU I.hok G) x λK i w=>h _ ?_
  obtain⟨q,M,P,j,R,W,Y,_,O⟩:=i;refine jf I (by rw[e];exact True.intro) w ⟨q,j⟩ ⟨p,o,_,(d.put k G J).keeps λc ys ec=>?_,q,M,P,j,R,W,Y,O⟩;rw[af (fZ ec e (λz=>nomatch z))];exact ec
end
section
variable {X:Cx}{pins:List (Addr×Obj)}{σ:St}{H:Hp}{s:Shared}{a:Addr}{kvs:List (Key×V)}{k:Key}{u:Value}{A:Around}{E:Value->Shared->Prop}
end
def wR(i:Expr):Prop:=∀ ov iv,subscripted i false ov iv=operate [ov,iv] (getItem ov iv)
theorem qx{prog:Program}{w:World}{A:Around}{E:Value->Shared->Prop}{s:Shared}{env:Env}{b a:Expr}{l:Pos}{T p:String}{Q:Value->Shared->Prop}
  (q:typeLookup (.type T) "__getitem__" = pure (some (.builtin p))) (u:wR a)
  (h:wpAny (model prog w) A (eval b env) (λo s₁=>wpAny (model prog w) A (eval a env) (λi s₂=>s₂.TypeIs o T/\wpAny (model prog w) A (getItem o i) Q E s₂) E s₁) E s) :
  wpAny (model prog w) A (eval (.Subscript b a l) env) Q E s:=by
 refine Subscript_ (wpAny_mono h (λo s₁ g=>wpAny_mono g (λi s₂ c=>?_) λ_ _ x=>x) λ_ _ x=>x);obtain⟨n,c⟩:=c;unfold subscriptTail;refine wpAny_bind ?_;rw[getitemInPython_of_ne n.not_modules];refine wpAny_bind (wpAny_specialOf n q ?_)
 have f:wpAny (model prog w) A (subscripted a false o i) (λr d=>wpAny (model prog w) A (letTemporaryGo b o r >>= λ_=>pure r) Q E d) E s₂:=by
  rw[u o i];exact wpAny_operating (wpAny_mono c (λr d j=>wpAny_bind (wpAny_letTemporaryGo (wpAny_pure j))) λ_ _ x=>x)
 first
  | exact wpAny_pure (wpAny_bind f)
  | exact wpAny_bind (wpAny_pure (wpAny_bind f))
  | exact wpAny_bind f
theorem mV{X:Cx}{c:List (Addr×Obj)}{σ:St}{H:Hp}{s:Shared}{a:Addr}{y:V}{o:Option V}(I:Inv X c σ H s)(g:DGet H a y o):s.TypeIs (.ref a) "dict" := by
 rcases g with⟨d,k,e,_,_⟩ | ⟨d,k,b,e,_,_,_⟩
 .obtain⟨_,_,h,_,f⟩:=mK I.hok e
  exact f.typeIs
 .obtain⟨_,_,i,_,f⟩:=om I.hok e
  exact f.typeIs
inductive rDGet(x y:V)(H:Hp)(Q:VK):Prop
 | mk(a:Addr)(v:V)(h0:x=.ref a)(h1:DGet H a y (some v))(h2:Q v H):rDGet x y H Q
def Bv(td ty:TE):TE:=λσ H Q=>td σ H λx H1=>ty σ H1 λy H2=>rDGet x y H2 Q
def BR(td ty tv:TE):TS:=λD σ H=>tv σ H λv H1=>td σ H1 λx H2=>ty σ H2 λy H3=>∃ a H4,x=.ref a/\DPut H3 a y v H4/\D.nx σ H4
section
variable {X:Cx}{o i e value:Expr}{pos pos' tpos:Pos}{td ty tv:TE}
theorem yx(p:X.A.units+1<cLine)(l:PE X o td)(j:PE X i ty)(z:wR i):PE X (.Subscript o i pos) (Bv td ty):=by
 intro b s d H Q I h;refine qx PySem.F.slot_dict_getitem.lookup z (thn (l b s d H _ I h) λu n ⟨x,f,q,r,A⟩=>thn (j b n d f _ q A) λiv s2 ⟨y,H2,I2,ry,a,v,ex,g,q2⟩=>?_);subst ex;obtain rfl:u=Value.ref a:=r;exact⟨mV I2 g,tJ p I2 g ry λB C w c=>⟨v,H2,w,c,q2⟩⟩
theorem yy(n:X.A.units+1<cLine)(j:PE X o td)(f:PE X i ty)(q:PE X value tv)(A:swapsWith value (some (.Subscript o i pos')) pos.line X.env=pure false) :
  PS X (.Assign [.Subscript o i pos'] value pos) (BR td ty tv):=by
 intro b s c H D I h;refine wpAny_Assign_Subscript (thn (q b s c H _ I h) λr l ⟨v,d,z,p,B⟩=>thn (j b l c d _ z B) λu s2 ⟨x,H2,I2,rx,q2⟩=>thn (f b s2 c H2 _ I2 q2) λiv s3 ⟨y,H3,I3,ry,a,H4,ex,g,q3⟩=>?_) A;subst ex;obtain rfl:u=Value.ref a:=rx
 exact tT n I3 g ry p λC w=>⟨c,H4,w,q3⟩
end
theorem vz{P:Program}{w:World}{H:Hp}(h:Heap)(a:sysModules<h.objs.size):ObjOk P w H (h.push { cls:=.type "dict",data:=.dict #[] }) h.objs.size (.dT []) :=
 ⟨Nat.zero_le _,beq_eq_false_iff_ne.mpr (Ne.symm (Nat.ne_of_lt a)),[],.nil,_,#[],0,Heap.get?_push_size _ rfl,⟨rfl,rfl,rfl⟩,rfl,rfl,nodup_nil⟩
def zu:TE:=λ_ H Q=>∀ p,H p=none->Q (.ref p) (upd H p (.dT []))
section
variable {X:Cx}{pos:Pos}
theorem mJ:PE X (.Dict [] [] pos) zu:=λb s c H Q I h =>
 wpAny_Dict_empty ⟨.ref s.heap.objs.size,_,I.laid (a:=s.heap.objs.size) (o:=.dT []) (t':=s.toks) (λ_ _ q=>Heap.get?_push_of_some _ q) (Nat.le_refl _) (vz s.heap I.big),rfl,h _ (I.hok.fresh (Nat.le_refl _))⟩
end
structure M2(X:Cx)(o:Expr)(m:Str)(apos:Pos)(e f:Expr)(cpos:Pos):Prop where
 base:attributeBase o m X.env (eval o X.env)=eval o X.env
 few:((backTo cpos (starEach [e,f] X.env)).all (λx=>!x.1) && (backToKw cpos (keywordEach [] X.env)).all (λx=>x.1.isSome)
  && decide (([e,f]:List Expr).length+([]:List Keyword).length+(if ([]:List Keyword).isEmpty then 0 else 1)<30))=true
 line:(apos.endLine == cpos.line)=true
 trees:backTo cpos (starEach [e,f] X.env)=[(false,eval e X.env),(false,eval f X.env)]
def IsD(H:Hp)(a:Addr):Prop:=(∃ kvs,Rd H a (.dK kvs))\/∃ kvs,Rd H a (.dT kvs)
theorem vo{X:Cx}{c:List (Addr×Obj)}{σ:St}{H:Hp}{s:Shared}{a:Addr}(I:Inv X c σ H s)(d:IsD H a) :
  s.TypeIs (.ref a) "dict" /\ (∀ b,Value.ref a=.ref b->∃ ob,s.heap.get? b=some ob/\ob.dict=none)/\(a == sysModules)=false:=by
 rcases d with⟨g,e⟩ | ⟨g,e⟩
 .obtain⟨_,h,l,_,f⟩:=mK I.hok e
  refine⟨f.typeIs,λb q=>?_,h⟩;cases q;obtain⟨ob,_,_,i,j,_⟩:=f;exact⟨ob,i,j.2.1⟩
 .obtain⟨_,h,n,_,f⟩:=om I.hok e
  refine⟨f.typeIs,λb q=>?_,h⟩;cases q;obtain⟨ob,_,_,i,j,_⟩:=f;exact⟨ob,i,j.2.1⟩
section
variable {X:Cx}{pins:List (Addr×Obj)}{σ:St}{H:Hp}{s:Shared}{a:Addr}{y d:V}{u r:Value}{o:Option V}{A:Around}{E:Value->Shared->Prop}
theorem zZ{Q:Value->Shared->Prop}(x:A.units+1<cLine)(I:Inv X pins σ H s)(g:DGet H a y o)(p:RelV y u)(q:RelV d r)(h:∀ w' s',Inv X pins σ H s'->RelV (o.getD d) w'->Q w' s') :
  wpAny (model X.prog X.w) A (call (.builtin "dict.get") [.ref a,u,r]) Q E s:=by
 rcases g with⟨j,k,e,i,l⟩ | ⟨j,k,b,e,i,w,l⟩
 .subst i
  obtain⟨z,n,B,c,f⟩:=mK I.hok e;refine call_meetsIn PySem.F.slot_dict_get f.typeIs PySem.F.entry_dict_get (PySem.F.args_dict_get_3 _ _ _) (meets_dict_get_default (aO X.prog X.w) a (pR p) n r) ⟨_,f.mapOf,h _ _ (I.tok _) ?_⟩;rw[l];exact(c.val k).getD q
 .subst i
  cases(show u=Value.ref b from p);obtain⟨z,n,v,c,f⟩:=om I.hok e;refine call_meetsIn PySem.F.slot_dict_get f.typeIs PySem.F.entry_dict_get (PySem.F.args_dict_get_3 _ _ _) (meetsH_dict_get_default (tupleKind (aO X.prog X.w)) a b n r) ⟨tupleKind_room_in1 x,k,v,gU I.hok w,f,h _ _ (I.tok _) ?_⟩;rw[l];exact(c.val k).getD q
end
def Au(td ty tx:TE):TE:=λσ H Q=>td σ H λx H1=>∃ a,x=.ref a/\IsD H1 a/\ty σ H1 λy H2=>tx σ H2 λz H3=>∃ o,DGet H3 a y o/\Q (o.getD z) H3
section
variable {X:Cx}{o e f:Expr}{apos cpos:Pos}{td ty tx:TE}
theorem wD(G:X.A.units+1<cLine)(D:PE X o td)(J:PE X e ty)(M:PE X f tx)(m:M2 X o "get" apos e f cpos):PE X (.Call (.Attribute o "get" apos) [e,f] [] cpos) (Au td ty tx):=by
 intro b s c H Q I h;refine wpAny_Call_method m.base m.few m.line PySem.F.plainAttrs_dict PySem.F.slot_dict_get PySem.F.type_dict_get (thn (D b s c H _ I h) λu N ⟨x,n,j,C,a,E,d,r⟩=>?_);subst E;obtain rfl:u=Value.ref a:=C;obtain⟨w,A,_⟩:=vo j d;refine⟨w,A,?_⟩;rw[m.trees]
 refine Calls.callWith_builtin rfl (Calls.evalArgs_plain (Calls.spliced_cons (thn (J b N c n _ j r) λR q ⟨y,L,p,v,B⟩ =>
  Calls.spliced_cons (thn (M b q c L _ p B) λS Y ⟨z,l,P,F,Z,g,K⟩=>Calls.spliced_nil ?_))))
 exact zZ G P g v F λT W O i=>⟨_,l,O,i,K⟩
end
section
variable {X:Cx}{pins:List (Addr×Obj)}{σ:St}{H:Hp}{s:Shared}{a:Addr}{kvs:List (Key×V)}{A:Around}{E:Value->Shared->Prop}
end
section
variable {X:Cx}{pins:List (Addr×Obj)}{σ:St}{H:Hp}{s:Shared}{a:Addr}{y:V}{u:Value}{A:Around}{E:Value->Shared->Prop}
end
theorem OpR.imp{X:Cx}{f:Value->Value->Sem Value}{r b:R2}(h:OpR X f r)(i:∀ x y H Q,b x y H Q->r x y H Q):OpR X f b :=
 λa s d H x y v u Q I g c q=>h a s d H x y v u Q I g c (i x y H Q q)
theorem CallR.imp{X:Cx}{f:Value}{r b:List V->Hp->VK->Prop}(h:CallR X f r)(i:∀ xs H Q,b xs H Q->r xs H Q):CallR X f b :=
 λa s d H xs c Q I g q=>h a s d H xs c Q I g (i xs H Q q)
def tV(i:Nat):TE:=λσ H Q=>match σ[i]? with
 | some (some v)=>Q v H
 | _=>False
theorem vr{X:Cx}(i:Nat){x:Str}{c:Pos}(g:X.N[i]? = some x:=by rfl)(j:Vis X.env.scope x:=by first | exact Or.inl rfl | exact Or.inr (Or.inl rfl) | exact Or.inr (Or.inr rfl))(f:(x == ("__debug__" : Str))=false:=by decide)
  (b:(x == ("__classdict__" : Str))=false:=by decide):PE X (.Name x c) (tV i):=λa s d H Q I h=>by
 refine zv g j f b a s d H Q I ?_;unfold tV at h
 split at h
 .rename_i v e
  exact⟨v,e,h⟩
 .exact h.elim
def rI2(g:Int->Int->V):R2:=λx y H Q=>match x,y with
 | .int i,.int j=>Q (g i j) H
 | _,_=>False
def rIC(C:Int->Int->Prop)(g:Int->Int->V):R2:=λx y H Q=>match x,y with
 | .int i,.int j=>C i j/\Q (g i j) H
 | _,_=>False
theorem OpR.i2{X:Cx}{f:Value->Value->Sem Value}{g:Int->Int->V}(h:OpR X f (rI0 g)):OpR X f (rI2 g):=h.imp λx y H Q q=>by
 cases x <;> cases y <;> first | exact⟨_,_,rfl,rfl,q⟩ | exact(show False from q).elim
theorem OpR.ic{X:Cx}{f:Value->Value->Sem Value}{C:Int->Int->Prop}{g:Int->Int->V}(h:OpR X f (rI C g)):OpR X f (rIC C g):=h.imp λx y H Q q=>by
 cases x <;> cases y <;> first | exact⟨_,_,rfl,rfl,q.1,q.2⟩ | exact(show False from q).elim
section
variable {X:Cx}
def Cc:R2:=λx y H Q=>match x,y with
 | .int i,.int j=>Q (.int (i+j)) H
 | .str i,.str j=>i.length+j.length<=sizeLine/\Q (.str (i++j)) H
 | _,_=>False
theorem cu:OpR X (binaryOp .Add) Cc:=(op_add.or oR).imp λx y H Q q=>by
 cases x <;> cases y <;> first | exact .inl ⟨_,_,rfl,rfl,q⟩ | exact .inr ⟨_,_,rfl,rfl,q.1,q.2⟩ | exact(show False from q).elim
theorem gq:OpR X (binaryOp .Sub) (rI2 λi j=>.int (i - j)):=op_sub.i2
def BO(i j:Int):Prop:=0<j
theorem cp{i j:Int}(h:0<j:=by decide):BO i j:=h
theorem cd{i j:Int}(h:0<j:=by decide)(a:j<1073741824:=by decide):Cz i j:=⟨h,a⟩
theorem cl{i j:Int}(h:-(2 ^ 64)<i:=by decide)(a:i<2 ^ 64:=by decide):CMul i j:=.inl ⟨h,a⟩
theorem cr{i j:Int}(h:-(2 ^ 64)<j:=by decide)(a:j<2 ^ 64:=by decide):CMul i j:=.inr ⟨h,a⟩
theorem gm:OpR X (binaryOp .Mod) (rIC BO λi j=>.int (i % j)):=op_mod.ic
theorem r9:OpR X (compareOp .LtE) (λx y H Q=>∃ i j,x=.str i/\y=.str j/\Q (.bl (!decide (j.cps.toList<i.cps.toList))) H):=by
 intro a s d H x y v u Q I c b h;obtain⟨i,j,rfl,rfl,q⟩:=h;obtain⟨t,rfl⟩:=c;obtain⟨f,rfl⟩:=b;exact PySem.P.le_str (aN I q rfl)
def yJ(f:Int->Int->Bool)(g:Str->Str->Bool):R2:=λx y H Q=>match x,y with
 | .int i,.int j=>Q (.bl (f i j)) H
 | .str i,.str j=>Q (.bl (g i j)) H
 | _,_=>False
theorem rS:OpR X (compareOp .Lt) (yJ (λi j=>decide (i<j)) λi j=>decide (i.cps.toList<j.cps.toList)):=(op_lt.or tw).imp λx y H Q q=>by
 cases x <;> cases y <;> first | exact .inl ⟨_,_,rfl,rfl,q⟩ | exact .inr ⟨_,_,rfl,rfl,q⟩ | exact(show False from q).elim
theorem xN:OpR X (compareOp .LtE) (yJ (λi j=>decide (i<=j)) λi j=>!decide (j.cps.toList<i.cps.toList)):=(op_le.or r9).imp λx y H Q q=>by
 cases x <;> cases y <;> first | exact .inl ⟨_,_,rfl,rfl,q⟩ | exact .inr ⟨_,_,rfl,rfl,q⟩ | exact(show False from q).elim
theorem zK:OpR X (compareOp .Gt) (rI2 λi j=>.bl (decide (j<i))):=op_gt.i2
theorem AS:OpR X (compareOp .GtE) (rI2 λi j=>.bl (decide (j<=i))):=op_ge.i2
def Al(neg:Bool):R2:=λx y H Q=>match x,y with
 | .int i,.int j=>Q (.bl (if neg then !decide (i=j) else decide (i=j))) H
 | .str i,.str j=>Q (.bl (if neg then !decide (i=j) else decide (i=j))) H
 | .bl i,.bl j=>Q (.bl (if neg then !decide (i=j) else decide (i=j))) H
 | .non,.non=>Q (.bl (!neg)) H
 | .non,.int _=>Q (.bl neg) H
 | .non,.str _=>Q (.bl neg) H
 | .non,.bl _=>Q (.bl neg) H
 | .int _,.non=>Q (.bl neg) H
 | .str _,.non=>Q (.bl neg) H
 | .bl _,.non=>Q (.bl neg) H
 | .int _,.str _=>Q (.bl neg) H
 | .str _,.int _=>Q (.bl neg) H
 | _,_=>False
theorem tY:OpR X (compareOp .Eq) (Al false):=op_eq.imp λx y H Q q=>by
 cases x <;> cases y <;> first | exact(show False from q).elim | exact⟨rfl,q⟩ | exact⟨rfl,by rw[iW];exact q⟩ | exact⟨rfl,by rw[ma];exact q⟩ | exact⟨rfl,by rw[i6];exact q⟩
theorem tG:OpR X (compareOp .NotEq) (Al true):=op_ne.imp λx y H Q q=>by
 cases x <;> cases y <;> first | exact(show False from q).elim | exact⟨rfl,q⟩ | exact⟨rfl,by rw[iW];exact q⟩ | exact⟨rfl,by rw[ma];exact q⟩ | exact⟨rfl,by rw[i6];exact q⟩
def rU1(g:Int->V):V->Hp->VK->Prop:=λx H Q=>match x with
 | .int i=>Q (g i) H
 | _=>False
theorem yY:UnR X (unaryOp .USub) (rU1 λi=>.int (-i)):=λa s b H x v Q I r q=>An a s b H x v Q I r (by
 cases x <;> first | exact⟨_,rfl,q⟩ | exact(show False from q).elim)
def CK(neg:Bool):R2:=λx y H Q=>match x,y with
 | .str i,.str j=>Q (.bl (if neg then (Builtin.Str.occurrences j i 0 j.length 1).isEmpty else !(Builtin.Str.occurrences j i 0 j.length 1).isEmpty)) H
 | _,_=>False
theorem A9:OpR X (compareOp .In) (CK false):=op_in_str.imp λx y H Q q=>by
 cases x <;> cases y <;> first | exact⟨_,_,rfl,rfl,q⟩ | exact(show False from q).elim
def mB(Q:Bool->Hp->Prop):VK:=λx H=>match x with
 | .bl c=>Q c H
 | _=>False
variable {a b c:Expr}{ta tb tc:TE}{pos:Pos}{rest:List Expr}
def Cy(ta tb:TE):TE:=λσ H Q=>ta σ H (mB λc H1=>if c=true then tb σ H1 Q else Q (.bl false) H1)
def CD(ta:TE):TE:=λσ H Q=>ta σ H (mB λc H1=>Q (.bl (!c)) H1)
theorem jg{Q:Bool->Hp->Prop}{x:V}{H:Hp}(h:mB Q x H):∃ c,x=.bl c/\Q c H:=by
 cases x <;> first | exact⟨_,rfl,h⟩ | exact(show False from h).elim
theorem rk(n:PE X a ta)(l:PE X (.BoolOp .And (b::rest) pos) tb):PE X (.BoolOp .And (a::b::rest) pos) (Cy ta tb):=by
 intro d s i H Q I h;refine BoolOp_and (thn (n d s i H _ I h) λv o ⟨x,g,j,p,f⟩=>?_);obtain⟨c,rfl,f⟩:=jg f;cases p;refine wpAny_truthy_bool ?_;cases c with
 | true=>exact l d o i g Q j f
 | false=>exact⟨.bl false,g,j,rfl,f⟩
theorem BF(i:PE X a ta):PE X (.UnaryOp .Not a pos) (CD ta):=by
 intro b s g H Q I h;refine UnaryOp_ (thn (i b s g H _ I h) λv n ⟨x,f,j,l,d⟩=>?_);obtain⟨c,rfl,d⟩:=jg d;cases l;exact not_of (wpAny_truthy_bool ⟨.bl (!c),f,j,rfl,d⟩)
def mT(t:TE):TT:=λσ H Q=>t σ H (mB Q)
theorem iL(h:PE X a ta)(j:∀ whole,isTrue a X.env whole=(do let v <- whole;standAt a.pos;holding [v] (truthy v)):=by intro _;rfl):PT X a (mT ta):=by
 intro b s g H Q I c;refine isTrue_plain (thn (h b s g H _ I c) λv o ⟨x,f,i,l,n⟩=>?_) (j _);obtain⟨d,rfl,q⟩:=jg n;cases l;exact wpAny_truthy_bool ⟨f,i,q⟩
theorem cm{op:CmpOp}{r:R2}(o:OpR X (compareOp op) r)(p:PE X a ta)(j:PE X b tb)(w:behindInMarks op b=false):PT X (.Compare a [op] [b] pos) (mT (tOp r ta tb)):=by
 intro d s f H Q I h
 refine wpAny_isTrue_Compare1 (thn (p d s f H _ I h) λv q ⟨x,l,A,C,D⟩=>thn (j d q f l _ A D) λu s2 ⟨y,H2,I2,r2,q2⟩ =>
  thn (o d s2 f H2 x y v u _ I2 C r2 q2) λc E ⟨z,i,B,n,g⟩=>?_) w
 obtain⟨k,rfl,g⟩:=jg g;cases n;exact wpAny_truthy_bool ⟨i,B,g⟩
def AJ(r r':R2)(ta tb tc:TE):TE:=λσ H Q=>ta σ H λx H1=>tb σ H1 λy H2=>r x y H2 (mB λk H3=>if k=true then tc σ H3 λw' H4=>r' y w' H4 Q else Q (.bl false) H3)
theorem rE{op g:CmpOp}{r o:R2}(P:OpR X (compareOp op) r)(l:OpR X (compareOp g) o)(K:PE X a ta)(q:PE X b tb)(O:PE X c tc)
  (L:lastMarks [op,g] [b,c]=false:=by with_unfolding_all rfl):PE X (.Compare a [op,g] [b,c] pos) (AJ r o ta tb tc):=by
 intro f s i H Q I h
 refine Compare_chain (thn (K f s i H _ I h) λv S ⟨x,w,B,E,F⟩=>chain_link (thn (q f S i w _ B F) λu s2 ⟨y,H2,I2,r2,q2⟩ =>
  thn (P f s2 i H2 x y v u _ I2 E r2 q2) λd R ⟨z,n,p,J,j⟩=>?_)) L
 obtain⟨k,rfl,j⟩:=jg j;cases J;refine wpAny_truthy_bool ?_;cases k with
 | false=>exact ite_ff ⟨.bl false,n,p,rfl,j⟩
 | true=>exact ite_tt (chain_last (thn (O f R i n _ p j) λG N ⟨C,A,T,D,M⟩=>l f N i A y C u G Q T r2 D M))
open PySem.W in
theorem uI{f:List (Addr×Obj)}{σ:St}{H:Hp}{s:Shared}{x:V}{u t:Value}(I:Inv X f σ H s)(b:RelV x u)(ty:TyOf X.K H x t) :
  ∃ Hh:Heap->Prop,KitX X.K u t Hh/\Hh s.heap/\u≠.builtin "__main__.__loader__#opaque" := by
 cases ty with
 | non=>cases(show u=Value.none from b);exact⟨_,PySem.W.kitx_none,True.intro,λz=>nomatch z⟩
 | bl y=>cases(show u=Value.bool y from b);exact⟨_,PySem.W.kitx_bool,True.intro,λz=>nomatch z⟩
 | int i=>obtain⟨t,q⟩:=(show ∃ t,u=Value.int i t from b);cases q;exact⟨_,PySem.W.kitx_int,True.intro,λz=>nomatch z⟩
 | str y=>obtain⟨t,q⟩:=(show ∃ t,u=Value.str y t from b);cases q;exact⟨_,PySem.W.kitx_str,True.intro,λz=>nomatch z⟩
 | flt y=>obtain⟨t,q⟩:=(show ∃ t,u=Value.float y t from b);cases q;exact⟨_,PySem.W.kitx_float,True.intro,λz=>nomatch z⟩
 | @lst a d ea =>
  cases(show u=Value.ref a from b)
  obtain⟨_,_,n,_,c⟩:=(show ObjOk X.prog X.w H s.heap a (.lst d) from I.hok a _ ea)
  exact⟨_,kitx_list,⟨_,c,rfl⟩,λz=>nomatch z⟩
 | @frz a ob d ea =>
  cases(show u=Value.ref a from b)
  obtain⟨_,_,_,n,_,c⟩:=(show ObjOk X.prog X.w H s.heap a (.frz ob (.lst d)) from I.hok a _ ea)
  exact⟨_,kitx_list,⟨_,c,rfl⟩,λz=>nomatch z⟩
 | @tup a d ea =>
  cases(show u=Value.ref a from b)
  obtain⟨_,_,_,p⟩:=(show ObjOk X.prog X.w H s.heap a (.tup d) from I.hok a _ ea)
  obtain⟨o,c,g,_⟩:=p;exact⟨_,kitx_tuple,⟨o,c,g⟩,λz=>nomatch z⟩
 | @dK a kvs ea =>
  cases(show u=Value.ref a from b)
  obtain⟨_,_,r,_,p⟩:=(show ObjOk X.prog X.w H s.heap a (.dK kvs) from I.hok a _ ea)
  obtain⟨o,h,j,c,g,_⟩:=p;exact⟨_,kitx_dict,⟨o,c,g.1⟩,λz=>nomatch z⟩
 | @dT a kvs ea =>
  cases(show u=Value.ref a from b)
  obtain⟨_,_,d,_,o,h,j,c,g,_⟩:=(show ObjOk X.prog X.w H s.heap a (.dT kvs) from I.hok a _ ea)
  exact⟨_,kitx_dict,⟨o,c,g.1⟩,λz=>nomatch z⟩
 | @ins a C dx fs ea cl ha hn htk hm =>
  cases(show u=Value.ref a from b);obtain⟨v,O,_⟩:=iV I.hok ea;obtain⟨l,J,_⟩:=O.look;exact⟨_,PySem.W.kitx_own (cl.get _) cl.hd ha hn htk hm,J,λz=>nomatch z⟩
def Ci:V->Value
 | .ty n=>.type n
 | .ref a=>.ref a
 | _=>.none
def yU:V->Bool
 | .ty _=>true
 | .ref _=>true
 | _=>false
theorem xR{c:V}{u:Value}(h:yU c=true)(r:RelV c u):u=Ci c:=by
 cases c <;> first | exact r | exact absurd (show false=true from h) Bool.false_ne_true
inductive rIsi(K:Frag)(xs:List V)(H:Hp)(Q:VK):Prop
 | mk(x c:V)(t:_)(b:Bool)(h0:xs=[x,c])(h1:yU c=true)(h2:TyOf K H x t)(h3:kitOne K t (Ci c)=some b)(h4:Q (.bl b) H):rIsi K xs H Q
theorem jx:CallR X (.builtin "isinstance") (rIsi X.K):=by
 intro a s n H w o Q I r h;obtain⟨x,c,t,b,rfl,d,l,e,q⟩:=h;obtain⟨u,v,rfl,j,i⟩:=yS r;cases xR d i;obtain⟨y,Z,p,f⟩:=uI I j l
 exact PySem.W.kia_one Z I.kIn p e f λg=>⟨.bl b,H,I.tok g,rfl,q⟩
theorem rO(z:X.calm=true):CallR X (.builtin "all") (λxs H Q=>∃(p:Addr) (ys:List V) (bs:List Bool),xs=[.ref p]/\SqL X.K H p ys/\ys=bs.map V.bl/\Q (.bl (bs.all id)) H):=by
 intro n s G H xs J Q I r h;obtain⟨p,ys,bs,rfl,w,rfl,q⟩:=h;obtain⟨u,rfl,y⟩:=dJ r;cases y;obtain⟨a,d,g,K⟩:=I.list w;have f:p<s.heap.objs.size:=by obtain⟨_,_,e,_⟩:=g;exact Heap.lt_size e
 refine call_all_walk (wpAny_pyIter_list g.isList ?_)
 refine⟨s.heap.objs.size,[s.heap.objs.size,p],[s.heap.objs.size],a.toArray.size,_,_,λi=>(bs[i]?).getD true,rfl,Walks.list (A:=X.A.in1) (I.ok.hd z) _ p (Nat.ne_of_lt f) a.toArray,
  ⟨⟨_,Heap.get?_push_size _ rfl,rfl,rfl⟩,g.isList.push _⟩,λi v D E F C j=>?_,λh' tk hk=>?_⟩
 .have o:a[i]? = some v:=by simpa using C
  have c:i<(bs.map V.bl).length:=by rw[d.length];exact(List.getElem?_eq_some_iff.mp o).1
  obtain⟨b,hb⟩:∃ b,bs[i]? = some b:=⟨bs[i]'(by simpa using c),by simp at c;simp[c]⟩
  obtain⟨u,l,B⟩:=d.get (i:=i) (x:=V.bl b) (by rw[List.getElem?_map,hb];rfl);rw[o]at l;cases l;cases B;simp only[hb,Option.getD_some]at j;exact wpAny_truthy_bool j
 .have e:((List.range a.toArray.size).all λi=>(bs[i]?).getD true)=bs.all id:=by
   rw[size_toArray,<- d.length,length_map];exact LSm.range_all bs
  rw[e];exact⟨.bl _,H,I.kept (LSm.kept_iter hk),rfl,q⟩
end
theorem Ai{Q:V->Prop}{p r:Prop}[Decidable p][Decidable r](q:Q (.bl (decide (p/\r)))):if decide p=true then Q (.bl (decide r)) else Q (.bl false):=by
 by_cases h:p
 .rw[if_pos (decide_eq_true h)]
  have e:decide (p/\r)=decide r:=by by_cases z:r <;> simp[h,z]
  rw[<- e];exact q
 .rw[if_neg (λz=>h (of_decide_eq_true z))]
  have e:decide (p/\r)=false:=decide_eq_false λz=>h z.1
  rw[<- e];exact q
theorem ifP{c:Prop}[Decidable c]{A B:Prop}(a:c)(h:A):if decide c=true then A else B:=by rw[if_pos (decide_eq_true a)];exact h
theorem ifN{c:Prop}[Decidable c]{A B:Prop}(a:¬c)(h:B):if decide c=true then A else B:=by rw[if_neg (λz=>a (of_decide_eq_true z))];exact h
theorem ifC{c:Prop}[Decidable c]{A B:Prop}(b:c->A)(a:¬c->B):if decide c=true then A else B:=by
 by_cases h:c
 .exact ifP h (b h)
 .exact ifN h (a h)
theorem ifB{b:Bool}{A B:Prop}(c:b=true->A)(a:b=false->B):if b=true then A else B:=by
 cases b with
 | true=>rw[if_pos rfl];exact c rfl
 | false=>rw[if_neg Bool.false_ne_true];exact a rfl
theorem ce:bootBuiltins "len" = some (.builtin "len"):=by decide +kernel
theorem d5:bootBuiltins "isinstance" = some (.builtin "isinstance"):=by decide +kernel
theorem AB:bootBuiltins "all" = some (.builtin "all"):=by decide +kernel
theorem pf:bootBuiltins "min" = some (.builtin "min"):=by decide +kernel
theorem lW:bootBuiltins "enumerate" = some (.type "enumerate"):=by decide +kernel
theorem mM:bootBuiltins "range" = some (.type "range"):=by decide +kernel
theorem Ax:bootBuiltins "str" = some (.type "str"):=by decide +kernel
theorem zT:bootBuiltins "int" = some (.type "int"):=by decide +kernel
theorem yi:bootBuiltins "bool" = some (.type "bool"):=by decide +kernel
theorem gN:bootBuiltins "list" = some (.type "list"):=by decide +kernel
theorem nW:bootBuiltins "tuple" = some (.type "tuple"):=by decide +kernel
theorem iB{X:Cx}{x:Str}{v:V}{a:Pos}(b:Gl X x)(h:∃ u,X.mg x=some u/\RelV v u)(c:(x == ("__debug__" : Str))=false:=by decide):PE X (.Name x a) (tC v) :=
 let ⟨_,e,r⟩:=h
 wL b e r c
def Cv(K:Frag)(tl:TE):TI:=λσ H R=>tl σ H λx H1=>match x with
 | .str z=>R (Its z) H1
 | .ref a=>((∃ xs,SqL K H1 a xs)/\R (Itl K a) H1)\/((∃ xs,SqT K H1 a xs)/\R (Itt K a) H1)
 | _=>False
theorem bI{X:Cx}{tg l:Expr}{tl:TE}(r:PE X l tl):PI X tg l (Cv X.K tl):=by
 intro f s w H R I h;have B:PE X l tl:=r;refine thn (r f s w H _ I h) λv c ⟨x,i,d,u,n⟩=>?_
 cases x with
 | str z =>
  have:=AF (X:=X) (tg:=tg) (l:=l) (tl:=tC (.str z));obtain⟨t,rfl⟩:=u;refine wpAny_pyIter_strU ?_;refine⟨c.heap.objs.size,[c.heap.objs.size],_,_,i,rfl,d.kept (t':=c.toks) λb o e=>Heap.get?_push_of_some _ e,m5 (ty:=strIterType z) (t:=t) z _ ?_,⟨_,Heap.get?_push_size _ rfl,rfl,rfl⟩,λb hb=>?_,n⟩
  .unfold strIterType
   split
   .exact .inl rfl
   .exact .inr rfl
  .have e:b=c.heap.objs.size:=by simpa using hb
   subst e;exact d.fpOk (Nat.le_refl _) (d.hok.fresh (Nat.le_refl _))
 | ref a =>
  cases u
  rcases n with⟨⟨A,j⟩,q⟩ | ⟨⟨A,j⟩,q⟩
  .obtain⟨g,C,p,y⟩:=d.list j
   refine wpAny_pyIter_list p.isList ?_;refine⟨c.heap.objs.size,[c.heap.objs.size],_,_,i,rfl,d.kept (t':=c.toks) λb o e=>Heap.get?_push_of_some _ e,rT a _,⟨_,Heap.get?_push_size _ rfl,rfl,rfl⟩,λb hb=>?_,q⟩;have e:b=c.heap.objs.size:=by simpa using hb
   subst e;exact d.fpOk (Nat.le_refl _) (d.hok.fresh (Nat.le_refl _))
  .obtain⟨g,C,p,y⟩:=d.tuple j
   refine wpAny_pyIter_tuple (show c.heap.IsTuple a g.toArray from p) ?_;refine⟨c.heap.objs.size,[c.heap.objs.size],_,_,i,rfl,d.kept (t':=c.toks) λb o e=>Heap.get?_push_of_some _ e,oZ a _,⟨_,Heap.get?_push_size _ rfl,rfl,rfl⟩,λb hb=>?_,q⟩;have e:b=c.heap.objs.size:=by simpa using hb
   subst e;exact d.fpOk (Nat.le_refl _) (d.hok.fresh (Nat.le_refl _))
 | _=>exact(show False from n).elim
inductive rLenSq(K:Frag)(p:Addr)(H:Hp)(Q:VK):Prop
 | mk(ys:List V)(h0:SqL K H p ys\/SqT K H p ys)(h1:Q (.int ys.length) H):rLenSq K p H Q
theorem aL{X:Cx}:CallR X (.builtin "len") (λxs H Q=>match xs with
  | [.str z]=>z.length<=sizeLine/\Q (.int z.length) H
  | [.ref p]=>rLenSq X.K p H Q
  | _=>False):=(call_len_str.or lL).imp λxs H Q q=>by
 match xs,q with
 | [.str z],q=>exact .inl ⟨z,rfl,q.1,q.2⟩
 | [.ref p],q=>obtain⟨a,h,q⟩:=q;exact .inr ⟨p,a,rfl,h,q⟩
section
variable {D:Addr}{σb:St}{g:TG}{tt:TT}{te:TE}{Q:Hp->List V->Prop}{H:Hp}{K:Frag}
def mE(D:Addr)(σb:St)(g:TG)(tt:TT)(te:TE)(x:V)(ys:List V)(H:Hp)(P:List V->Hp->Prop):Prop :=
 g x σb H λσ4 H4=>Wk σb σ4/\tt σ4 H4 λb H5=>if b=true then te σ4 H5 λy H6=>H6 D=some (.lst ys)/\ys.length<sizeLine/\P (ys++[y]) (upd H6 D (.lst (ys++[y]))) else P ys H5
theorem ut{z:Str}(Pv:Nat->List V->Hp->Prop)(d:Pv 0 [] H)(h:∀ i ys H,Pv i ys H->H D=some (.lst ys))
  (l:∀(i c:Nat) ys H P,z.cps[i]? = some c->Pv i ys H->(∀ a b,Pv (i+1) a b->P a b)->mE D σb g tt te (.str ⟨#[c]⟩) ys H P) (j:∀ ys H,Pv z.cps.size ys H->Q H ys):∃ W,(∃ m,W 0 m [] H)/\iA (Its z) D σb g tt te Q W:=by
 refine⟨λi m ys H=>m=z.cps.size - i/\i<=z.cps.size/\Pv i ys H,⟨_,rfl,Nat.zero_le _,d⟩,?_⟩;rintro i m ys H ⟨rfl,o,p⟩;refine⟨h i ys H p,?_⟩
 by_cases hlt:i<z.cps.size
 .refine .inr ⟨hlt,λx n y=>?_⟩
  obtain⟨rfl,c,f,rfl⟩:=y;exact l i c ys _ (λa b=>∃ m',m'<z.cps.size - i/\m'=z.cps.size - (i+1)/\i+1<=z.cps.size/\Pv (i+1) a b) f p (λa b q=>⟨z.cps.size - (i+1),by lia,rfl,hlt,q⟩)
 .have e:i=z.cps.size:=by lia
  subst e;exact .inl ⟨Nat.le_refl _,j ys H p⟩
theorem cE{a:Addr}{xs:List V}(Pv:Nat->List V->Hp->Prop)(c:Pv 0 [] H)(d:∀ i ys H,Pv i ys H->SqL K H a xs)(f:∀ i ys H,Pv i ys H->H D=some (.lst ys))
  (j:∀(i:Nat) x ys H P,xs[i]? = some x->Pv i ys H->(∀ a b,Pv (i+1) a b->P a b)->mE D σb g tt te x ys H P) (h:∀ ys H,Pv xs.length ys H->Q H ys):∃ W,(∃ m,W 0 m [] H)/\iA (Itl K a) D σb g tt te Q W:=by
 refine⟨λi m ys H=>m=xs.length - i/\i<=xs.length/\Pv i ys H,⟨_,rfl,Nat.zero_le _,c⟩,?_⟩;rintro i m ys H ⟨rfl,n,p⟩;refine⟨f i ys H p,?_⟩;have q:=d i ys H p
 by_cases hlt:i<xs.length
 .refine .inr ⟨⟨xs,xs[i],q,by simp[hlt]⟩,λx l y=>?_⟩
  obtain⟨rfl,y⟩:=y;exact j i x ys _ (λa b=>∃ m',m'<xs.length - i/\m'=xs.length - (i+1)/\i+1<=xs.length/\Pv (i+1) a b) (y xs q) p (λa b q=>⟨xs.length - (i+1),by lia,rfl,hlt,q⟩)
 .have e:i=xs.length:=by lia
  subst e;exact .inl ⟨⟨xs,q,Nat.le_refl _⟩,h ys H p⟩
theorem mC{a:Addr}{xs:List V}(Pv:Nat->List V->Hp->Prop)(c:Pv 0 [] H)(d:∀ i ys H,Pv i ys H->SqT K H a xs)(f:∀ i ys H,Pv i ys H->H D=some (.lst ys))
  (j:∀(i:Nat) x ys H P,xs[i]? = some x->Pv i ys H->(∀ a b,Pv (i+1) a b->P a b)->mE D σb g tt te x ys H P) (h:∀ ys H,Pv xs.length ys H->Q H ys):∃ W,(∃ m,W 0 m [] H)/\iA (Itt K a) D σb g tt te Q W:=by
 refine⟨λi m ys H=>m=xs.length - i/\i<=xs.length/\Pv i ys H,⟨_,rfl,Nat.zero_le _,c⟩,?_⟩;rintro i m ys H ⟨rfl,n,p⟩;refine⟨f i ys H p,?_⟩;have q:=d i ys H p
 by_cases hlt:i<xs.length
 .refine .inr ⟨⟨xs,xs[i],q,by simp[hlt]⟩,λx l y=>?_⟩
  obtain⟨rfl,y⟩:=y;exact j i x ys _ (λa b=>∃ m',m'<xs.length - i/\m'=xs.length - (i+1)/\i+1<=xs.length/\Pv (i+1) a b) (y xs q) p (λa b q=>⟨xs.length - (i+1),by lia,rfl,hlt,q⟩)
 .have e:i=xs.length:=by lia
  subst e;exact .inl ⟨⟨xs,q,Nat.le_refl _⟩,h ys H p⟩
theorem m7{lo:Int}{n:Nat}(Pv:Nat->List V->Hp->Prop)(c:Pv 0 [] H)(d:∀ i ys H,Pv i ys H->H D=some (.lst ys))
  (h:∀(i:Nat) ys H P,i<n->Pv i ys H->(∀ a b,Pv (i+1) a b->P a b)->mE D σb g tt te (.int (lo+i)) ys H P) (f:∀ ys H,Pv n ys H->Q H ys):∃ W,(∃ m,W 0 m [] H)/\iA (Itr lo n) D σb g tt te Q W:=by
 refine⟨λi m ys H=>m=n - i/\i<=n/\Pv i ys H,⟨_,rfl,Nat.zero_le _,c⟩,?_⟩;rintro i m ys H ⟨rfl,l,p⟩;refine⟨d i ys H p,?_⟩
 by_cases hlt:i<n
 .refine .inr ⟨hlt,λx j y=>?_⟩
  obtain⟨rfl,rfl⟩:=y;exact h i ys _ (λa b=>∃ m',m'<n - i/\m'=n - (i+1)/\i+1<=n/\Pv (i+1) a b) hlt p (λa b q=>⟨n - (i+1),by lia,rfl,hlt,q⟩)
 .have e:i=n:=by lia
  subst e;exact .inl ⟨Nat.le_refl _,f ys H p⟩
end
theorem Same.new{H:Hp}{p:Addr}{o:HO}(h:H p=none):Same H (upd H p o):=λb u e=>by rw[af (ay e h)];exact e
theorem Same.sqT{K:Frag}{H b:Hp}{a:Addr}{xs:List V}(e:Same H b)(h:SqT K H a xs):SqT K b a xs:=by
 rcases h with(h | ⟨o,h⟩) | h
 .exact .inl (.inl (e _ _ h))
 .exact .inl (.inr ⟨o,e _ _ h⟩)
 .exact .inr h
mutual
def DV(K:Frag)(H:Hp):PyData->V->Prop
 | .none,x=>x=.non
 | .bool b,x=>x=.bl b
 | .int i,x=>x=.int i
 | .str z,x=>x=.str z
 | .list ds,x=>∃ a xs,x=.ref a/\SqL K H a xs/\DVs K H ds xs
 | .tuple ds,x=>∃ a xs,x=.ref a/\SqT K H a xs/\DVs K H ds xs
 | .dict _,_=>False
def DVs(K:Frag)(H:Hp):List PyData->List V->Prop
 | [],xs=>xs=[]
 | d::ds,xs=>∃ y ys,xs=y::ys/\DV K H d y/\DVs K H ds ys
end
section
variable {X:Cx}{pins:List (Addr×Obj)}{σ:St}{H:Hp}{s:Shared}
mutual
theorem DV.reads(I:Inv X pins σ H s):∀{d:PyData}{x:V}{u:Value},DV X.K H d x->RelV x u->∃ as,Reads s.heap u d as
 | .none,x,u,h,r=>by
  rw[DV]at h;subst h;cases r;exact⟨_,.none⟩
 | .bool b,x,u,h,r=>by
  rw[DV]at h;subst h;cases r;exact⟨_,.bool b⟩
 | .int i,x,u,h,r=>by
  rw[DV]at h;subst h;obtain⟨t,rfl⟩:=r;exact⟨_,.int i t⟩
 | .str z,x,u,h,r=>by
  rw[DV]at h;subst h;obtain⟨t,rfl⟩:=r;exact⟨_,.str z t⟩
 | .list ds,x,u,h,r=>by
  rw[DV]at h;obtain⟨a,p,rfl,l,f⟩:=h;cases r;obtain⟨j,g,⟨o,n,e,c,_,d⟩,_⟩:=I.list l;obtain⟨as,q⟩:=DVs.reads I f g;exact⟨_,.list e c d (by simpa using q)⟩
 | .tuple ds,x,u,h,r=>by
  rw[DV]at h;obtain⟨a,p,rfl,l,f⟩:=h;cases r;obtain⟨j,g,⟨o,e,c,n,d⟩,_⟩:=I.tuple l;obtain⟨as,q⟩:=DVs.reads I f g;exact⟨_,.tuple e c d (by simpa using q)⟩
 | .dict _,x,u,h,r=>by rw[DV]at h;exact h.elim
theorem DVs.reads(I:Inv X pins σ H s):∀{ds:List PyData}{xs:List V}{us:List Value},DVs X.K H ds xs->Vals xs us->∃ as,ReadsAll s.heap us ds as
 | [],xs,us,h,r=>by
  rw[DVs]at h;subst h;cases r;exact⟨_,.nil⟩
 | d::ds,xs,us,h,r=>by
  rw[DVs]at h;obtain⟨y,f,rfl,a,b⟩:=h;cases r with
  | cons r rs =>
   obtain⟨as,q⟩:=DV.reads I a r;obtain⟨c,p⟩:=DVs.reads I b rs;exact⟨_,.cons q p⟩
end
end
inductive rEqD(K:Frag)(neg:Bool)(x y:V)(H:Hp)(Q:VK):Prop
 | mk(d e:PyData)(h0:DV K H d x)(h1:DV K H e y)(h2:SeqAt.shaped d=true)(h3:SeqAt.shaped e=true)(h4:Q (.bl (if neg then !PyData.eqv d e else PyData.eqv d e)) H):rEqD K neg x y H Q
theorem yI{X:Cx}(n:X.A.units+64<cLine):OpR X (compareOp .NotEq) (rEqD X.K true):=by
 intro a s p H x y v u Q I o b h;obtain⟨d,e,g,l,c,i,q⟩:=h;obtain⟨w,f⟩:=g.reads I o;obtain⟨r,j⟩:=l.reads I b;exact ne_dataH f j c i n ⟨.bl _,H,I,rfl,q⟩
section
variable {X:Cx}{st:Stmt}{rest:List Stmt}{t u:TS}{e:Expr}{te:TE}{tt:TT}
def Bl(t u:TS):TS:=λD σ H=>∃ M:St->Hp->Prop,t { D with nx:=M } σ H/\∀ σ' H',M σ' H'->u D σ' H'
theorem sT(n:PS X st t)(g:PSs X rest u):PSs X (st::rest) (Bl t u):=by
 intro a s c H D I h;obtain⟨M,h,l⟩:=h;refine wpAny_execs_cons (thn (n a s c H { D with nx:=M } I h) λf j q=>?_);cases f with
 | next =>
  obtain⟨b,i,d,q⟩:=q;exact g a j b i D d (l _ _ q)
 | ret v=>exact q
 | brk=>exact q
 | cont=>exact q
end
end L2
namespace L2
abbrev PvS:=Nat->St->Hp->Prop
abbrev PvL:=Nat->List V->Hp->Prop
theorem nF{a b:TS}{D:Ends}{σ:St}{H:Hp}:(let B2:TS:=b;bJ a B2 D σ H)->bJ a b D σ H:=λh=>h
theorem gg{a b c:TS}{D:Ends}{σ:St}{H:Hp}:(let B3:TS:=c;let B2:TS:=bJ b B3;bJ a B2 D σ H)->bJ a (bJ b c) D σ H:=λh=>h
theorem pU{b c d a:TS}{D:Ends}{σ:St}{H:Hp}:(let B4:TS:=a;let B3:TS:=bJ d B4;let B2:TS:=bJ c B3;bJ b B2 D σ H)->bJ b (bJ c (bJ d a)) D σ H:=λh=>h
theorem wd{a b c d f:TS}{D:Ends}{σ:St}{H:Hp}:(let B5:TS:=f;let B4:TS:=bJ d B5;let B3:TS:=bJ c B4;let B2:TS:=bJ b B3;bJ a B2 D σ H)->bJ a (bJ b (bJ c (bJ d f))) D σ H:=λh=>h
theorem BL{a b c d f g:TS}{D:Ends}{σ:St}{H:Hp}:(let B6:TS:=g;let B5:TS:=bJ f B6;let B4:TS:=bJ d B5;let B3:TS:=bJ c B4;let B2:TS:=bJ b B3;bJ a B2 D σ H)->bJ a (bJ b (bJ c (bJ d (bJ f g)))) D σ H:=λh=>h
theorem BX{a b c d g i f:TS}{D:Ends}{σ:St}{H:Hp}:(let B7:TS:=f;let B6:TS:=bJ i B7;let B5:TS:=bJ g B6;let B4:TS:=bJ d B5;let B3:TS:=bJ c B4;let B2:TS:=bJ b B3;bJ a B2 D σ H)->bJ a (bJ b (bJ c (bJ d (bJ g (bJ i f))))) D σ H:=λh=>h
end L2
namespace L2
open PySem PySem.Spec PyProof.Rows
section
variable {X:Cx}{pins:List (Addr×Obj)}{σ:St}{H:Hp}{s:Shared}{h':Heap}
theorem Inv.turnedNew{t':Nat}{ch:List Addr}{a:Addr}{o:HO}(I:Inv X pins σ H s)(k:∀ b u,b ∉ ch->s.heap.get? b=some u->h'.get? b=some u)(j:∀ b∈ch,gt X pins H b)
  (x:s.heap.objs.size<=a) (i:ObjOk X.prog X.w (upd H a o) h' a o):Inv X pins σ (upd H a o) { s with heap:=h',toks:=t' }:=by
 have p:H a=none:=I.hok.fresh x
 have g:∀ b u,H b=some u->b ∉ ch:=λb u e z=>by
  rw[(j b z).1]at e;cases e
 have d:∀ b u,H b=some u->b≠a:=λb u e z=>by
  rw[z,p]at e;cases e
 have l:∀ b u,s.heap.get? b=some u->b≠a:=λb u e=>Nat.ne_of_lt (Nat.lt_of_lt_of_le (Heap.lt_size e) x)
 refine I.step (g':=s.gens) (d':=s.drawn) (ch:=ch) (λb h=>?_) (λb u _ _ f e _=>k b u f e) (λb u _ _ f e _=>⟨u.slots,k b u f e⟩) (λb u _ e n=>?_) (λb u f e=>⟨u,k b u f e⟩)
  (λb B e=>?_) (λb u v e=>?_) (λb ps e=>⟨#[],?_⟩) (λm hm=>?_) (λb u e=>?_) I.bare
 .obtain⟨_,y,_,G,E,F⟩:=j b h
  exact⟨G,y,E,F⟩
 .rw[af (l b u e)];exact n
 .rw[af (d b _ e)];exact e
 .rw[af (d b _ e)];exact e
 .rw[af (d b _ e),e];simp
 .obtain⟨w,A,C,D,r⟩:=hm
  exact⟨w,A,C,k _ w (λz=>(j _ z).2.1 rfl) D,r⟩
 .by_cases h:b=a
  .subst h
   rw[ad]at e;cases e;exact i
  .rw[af h]at e
   refine(I.hok b u e).stay (λc v f q=>k c v ?_ q) (λc q=>?_) λc B q=>?_
   .rcases f with z | z
    .rw[z];exact g b u e
    .exact g c _ z
   .rw[af (d c _ q)];exact q
   .rw[af (d c _ q)];exact q
theorem Inv.turnedN{t':Nat}{ch:List Addr}(I:Inv X pins σ H s)(k:∀ b u,b ∉ ch->s.heap.get? b=some u->h'.get? b=some u)(f:∀ b∈ch,gt X pins H b):Inv X pins σ H { s with heap:=h',toks:=t' }:=by
 have d:∀ b u,H b=some u->b ∉ ch:=λb u e z=>by
  rw[(f b z).1]at e;cases e
 refine I.step (g':=s.gens) (d':=s.drawn) (ch:=ch) (λb h=>?_) (λb u _ _ a e _=>k b u a e) (λb u _ _ a e _=>⟨u.slots,k b u a e⟩) (λb u _ e n=>n) (λb u a e=>⟨u,k b u a e⟩)
  (λb l e=>e) (λb u v e=>e) (λb ps e=>⟨#[],by rw[e];simp⟩) (λm hm=>?_) (λb u e=>?_) I.bare
 .obtain⟨_,i,_,y,w,x⟩:=f b h
  exact⟨y,i,w,x⟩
 .obtain⟨g,j,o,p,r⟩:=hm
  exact⟨g,j,o,k _ g (λz=>(f _ z).2.1 rfl) p,r⟩
 .refine(I.hok b u e).stay (λc v a q=>k c v ?_ q) (λc q=>q) λc l q=>q
  rcases a with z | z
  .rw[z];exact d b u e
  .exact d c _ z
end
def Ite(a:Addr):It:=⟨λi H=>∃ xs x,H a=some (.lst xs)/\xs[i]? = some x,
 λi H x H'=>∃ p y,H p=none/\x=.ref p/\(∀ xs,H a=some (.lst xs)->xs[i]? = some y)/\H'=upd H p (.tup [.int (i:Nat),y]),λi H=>∃ xs,H a=some (.lst xs)/\xs.length<=i⟩
theorem sM{P:Program}{w:World}{K:Frag}{es:List Expr}{k:Nat}{ab:Pos}(a e c:Addr)(C:e≠c) :
  Turn P w K (.Tuple es k ab) (Ite a) [e,c] e (λi h=>(∃ old,IsEnum h e c i old)/\h.IsListIter c a i) where
 mem:=by simp
 obj:=λi h f b hb=>by
  obtain⟨⟨old,d⟩,o,y,F,h3⟩:=f
  rcases mem_cons.mp hb with rfl | hb
  .exact⟨_,d,λv z=>by cases z⟩
  .rw[mem_singleton.mp hb]
   exact⟨o,y,λv z=>by rw[h3]at z;cases z⟩
 keep:=λi h h' f kp=>by
  obtain⟨⟨old,d⟩,o,y,r⟩:=f;exact⟨⟨old,kp e (by simp) _ d⟩,o,kp c (by simp) o y,r⟩
 item:=by
  intro X hP Z W hc i j s σ H E I G f Q;subst hP Z W;obtain⟨⟨old,d⟩,g⟩:=f;obtain⟨xs,x,D,N⟩:=Q;obtain⟨z,p,n,r,A,M⟩:=I.lstM D;obtain⟨u,hu,ru⟩:=Vals.get r N
  have l:s.heap.IsList a p.toArray:=⟨_,M,rfl,_,rfl⟩
  refine wpAny_pyNext_enum_item d g l (x:=u) (by simpa using hu) C λy e1 e2 e3 e4 e5=>?_
  refine⟨_,rfl,wpAny_letOwnedTupleGo_enum e1 λF e6 T=>?_⟩;have B:s.heap.objs.size≠e:=λq=>absurd (Heap.lt_size d) (by rw[<- q];exact Nat.lt_irrefl _)
  have S:s.heap.objs.size≠c:=λq=>by
   obtain⟨o,R,_⟩:=g;exact absurd (Heap.lt_size R) (by rw[<- q];exact Nat.lt_irrefl _)
  have hn:H s.heap.objs.size=none:=I.hok.fresh (Nat.le_refl _);have O:F.get? s.heap.objs.size=some { cls:=.type "tuple",data:=.seq #[.int i s.toks,u] }:=(T.2 _ B).trans e3
  have J:Inv X j σ (upd H s.heap.objs.size (.tup [.int (i:Nat),x])) { s with heap:=F,toks:=s.toks+1 }:=by
   refine I.turnedNew (ch:=[e,c]) (λb o hb q=>?_) G (Nat.le_refl _) ⟨by rw[sizeLine_eq];show 2<=16777216;decide,[.int i s.toks,u],.cons ⟨_,rfl⟩ (.cons ru .nil),_,O,rfl,0,rfl⟩;have b1:b≠e:=λz=>hb (by simp[z])
   have b2:b≠c:=λz=>hb (by simp[z])
   exact(T.2 b b1).trans (e5 b o b1 b2 q)
  refine⟨.ref s.heap.objs.size,_,J,rfl,⟨s.heap.objs.size,x,hn,rfl,λys hy=>?_,rfl⟩,⟨⟨u,?_⟩,?_⟩,λb hb=>?_⟩
  .rw[D]at hy
   cases hy;exact N
  .have L:IsEnum F e c ((i:Int)+1) u:=e6
   have e7:((i+1:Nat):Int)=(i:Int)+1:=by lia
   rw[e7];exact L
  .obtain⟨o,R,r⟩:=e2
   exact⟨o,(T.2 c (Ne.symm C)).trans R,r⟩
  .have Y:b≠s.heap.objs.size:=by
    rcases mem_cons.mp hb with rfl | hb
    .exact B.symm
    .rw[mem_singleton.mp hb];exact S.symm
   rw[af Y];exact(G b hb).1
 done:=by
  intro X hP Z W hc i j s σ H E I G f Q;subst hP Z W;obtain⟨⟨old,d⟩,g⟩:=f;obtain⟨xs,D,N⟩:=Q;obtain⟨z,p,n,r,A,M⟩:=I.lstM D
  have l:s.heap.IsList a p.toArray:=⟨_,M,rfl,_,rfl⟩
  refine wpAny_pyNext_enum_end (I.ok.hd hc) d g l (by simp;lia) λy eb=>⟨rfl,I.turnedN (ch:=[e,c]) (t':=s.toks) (λb o hb q=>eb b o (λz=>hb (by simp[z])) q) G⟩
 self:=λ_ _ _ _ _ f h=>by
  obtain⟨⟨old,d⟩,_⟩:=f;exact wpAny_pyIter_enum d h
def BQ(ta:TA):TI:=λσ H R=>ta σ H λvs H1=>∃ a xs,vs=[.ref a]/\H1 a=some (.lst xs)/\R (Ite a) H1
theorem ym{X:Cx}{es:List Expr}{k:Nat}{i:Pos}{e:Expr}{y:TA}{p g:Pos}(K:Gl X "enumerate")(F:X.mg "enumerate" = none)(E:PA X [e] y)(N:starEach [e] X.env=[(false,eval e X.env)]:=by rfl) :
  PI X (.Tuple es k i) (.Call (.Name "enumerate" p) [e] [] g) (BQ y):=by
 intro c s x H R I h;refine wpAny_Call_Name_kw (jt I K F lW ?_ (by decide) (by decide));refine PyProof.Rows.callWith_type1 (thn (E g c s x H _ I h) λS d ⟨P,v,j,B,a,Q,l,L,q⟩=>?_) N rfl;subst l;obtain⟨u,rfl,O⟩:=dJ B;cases O;obtain⟨z,G,n,r,w,J⟩:=j.lstM L;refine call_enumerate_1 (n:=n) J λM l D T C=>?_
 have A:Inv X c x v { d with heap:=M }:=j.kept (t':=d.toks) C;have o:d.heap.objs.size+1≠d.heap.objs.size:=Nat.succ_ne_self _;refine wpAny_pyIter_enum l ?_;refine⟨d.heap.objs.size+1,[d.heap.objs.size+1,d.heap.objs.size],_,_,v,rfl,A,sM a _ _ o,⟨⟨_,l⟩,D⟩,λb hb=>?_,q⟩
 have f:d.heap.objs.size<=b:=by
  rcases mem_cons.mp hb with rfl | hb
  .lia
  .rw[mem_singleton.mp hb]
   exact Nat.le_refl _
 exact j.fpOk f (j.hok.fresh f)
theorem wx{a:Addr}{xs:List V}{g:TG}{c:TS}{D:Ends}{σ:St}{H:Hp}(Pv:Nat->St->Hp->Prop)(f:Pv 0 σ H)(j:∀ i σ H,Pv i σ H->H a=some (.lst xs))
  (o:∀(i:Nat) x σ H p,xs[i]? = some x->Pv i σ H->H p=none->g (.ref p) σ (upd H p (.tup [.int (i:Nat),x])) λσ2 H2=>c { D with nx:=Pv (i+1),ct:=Pv (i+1),bk:=D.nx } σ2 H2) (l:∀ σ H,Pv xs.length σ H->D.nx σ H) :
  ∃ W:Nat->Nat->St->Hp->Prop,(∃ m,W 0 m σ H)/\∀ i m σ H,W i m σ H ->
   ((Ite a).stop i H/\D.nx σ H)\/((Ite a).go i H/\∃ N:St->Hp->Prop,(∀ σ' H',N σ' H'->∃ m',m'<m/\W (i+1) m' σ' H')/\∀ x H',(Ite a).yld i H x H'->g x σ H' λσ2 H2=>c { D with nx:=N,ct:=N,bk:=D.nx } σ2 H2):=by
 refine⟨λi m σ H=>m=xs.length - i/\i<=xs.length/\Pv i σ H,⟨_,rfl,Nat.zero_le _,f⟩,?_⟩;rintro i m σ H ⟨rfl,r,p⟩;have q:=j i σ H p
 by_cases hlt:i<xs.length
 .refine .inr ⟨⟨xs,xs[i],q,by simp[hlt]⟩,Pv (i+1),λσ' H' h=>⟨_,by lia,rfl,hlt,h⟩,λx H' y=>?_⟩
  obtain⟨b,v,d,rfl,n,rfl⟩:=y;exact o i v σ H b (n xs q) p d
 .have e:i=xs.length:=by lia
  subst e;exact .inl ⟨⟨xs,q,Nat.le_refl _⟩,l σ H p⟩
end L2
namespace NumM
open PySem PySem.NumText
end NumM
namespace L2
open PySem PySem.Spec PyProof.Rows
def AI(lo hi:Int):Option Int->Option Int
 | some n=>if lo<=n/\n<=hi then some n else none
 | none=>none
theorem j7(c:Nat):c∈("abcdefghijklmnopqrstuvwxyz" : Str).cps.toList↔97<=c/\c<=122:=by
 have e:("abcdefghijklmnopqrstuvwxyz" : Str).cps.toList=List.range' 97 26:=by decide +kernel
 rw[e,List.mem_range'_1];omega
end L2
namespace SplM
open PySem
end SplM
namespace L2
open PySem PySem.Spec PyProof.Rows
section
variable {X:Cx}
open Builtin.Str in
theorem AO{P:Program}{w:World}{A:Around}{E:Value->Shared->Prop}{s:Shared}{x y:Str}{t u:Tok}{Q:Value->Shared->Prop}(c:(y.length == 0)=false)(d:x.length<=sizeLine)
  (f:(partsBetween x (occurrences x y 0 x.length (x.length+1)) y.length).length<=sizeLine)
  (h:∀(l:List (Str×Tok)) (k:Nat),l.map (·.1)=Txt.split x y->Q (.ref s.heap.objs.size) { s with heap:=s.heap.push { cls:=.type "list",data:=.seq (strValues l).toArray },toks:=k }) :
  wpAny (model P w) A (call (.builtin "str.split") [.str x t,.str y u]) Q E s:=by
 by_cases h1:(decide (x.length<y.length) || decide (strKind x<strKind y))=true
 .refine call_meets F.slot_str_split (typeIs_str s x t) F.entry_str_split (F.args_str_split_2 _ _) (meets_str_split_cannot_occur x y t u h1) ?_
  exact h [(x,t)] s.toks (by unfold Txt.split;rw[if_pos h1];rfl)
 .have a:=eq_false_of_ne_true h1
  by_cases h2:(occurrences x y 0 x.length (x.length+1)).isEmpty=true
  .refine call_meets F.slot_str_split (typeIs_str s x t) F.entry_str_split (F.args_str_split_2 _ _) (meets_str_split_not_found x y t u a c h2) ?_
   exact h [(x,t)] s.toks (by unfold Txt.split;rw[if_neg h1,if_pos h2];rfl)
  .have b:=eq_false_of_ne_true h2
   refine call_meets F.slot_str_split (typeIs_str s x t) F.entry_str_split (F.args_str_split_2 _ _) (meets_str_split_sep x y t u a c b d f) ?_
   have:=h (numbered s.toks (partsBetween x (occurrences x y 0 x.length (x.length+1)) y.length)) (s.toks+(partsBetween x (occurrences x y 0 x.length (x.length+1)) y.length).length)
    ((numbered_texts _ _).trans (by unfold Txt.split;rw[if_neg h1,if_neg h2]))
   rw[<- strsFrom_eq]at this;exact this
variable {o e:Expr}{es:List Expr}{to:TE}{t:TA}{apos cpos:Pos}
theorem pe_m.append(f:PE X o to)(g:PA X (e::es) t)(c:attributeBase o "append" X.env (eval o X.env)=eval o X.env:=by rfl)
  (d:((backTo cpos (starEach (e::es) X.env)).all (λx=>!x.1) && (backToKw cpos (keywordEach [] X.env)).all (λx=>x.1.isSome) && decide ((e::es).length+([]:List Keyword).length+(if ([]:List Keyword).isEmpty then 0 else 1)<30))=true:=by rfl)
  (b:(apos.endLine == cpos.line)=true:=by rfl) (h:starEach (e::es) X.env=(false,eval e X.env)::starEach es X.env:=by rfl) (a:(backTo cpos (starEach es X.env)).any (·.1)=false:=by rfl) :
  PE X (.Call (.Attribute o "append" apos) (e::es) [] cpos) (tBM X.K "list" rAppend to t):=yQ F.plainAttrs_list F.slot_list_append F.type_list_append ko f g c d b h a
theorem pe_m.pop(c:PE X o to)(b:attributeBase o "pop" X.env (eval o X.env)=eval o X.env:=by rfl)(a:(apos.endLine == cpos.line)=true:=by rfl) :
  PE X (.Call (.Attribute o "pop" apos) [] [] cpos) (Ah X.K "list" AW to):=vK F.plainAttrs_list F.slot_list_pop F.type_list_pop zF c b a
end
def TK(H H':Hp):Prop:=∀ b xs,H b=some (.tup xs)->H' b=some (.tup xs)
theorem TK.trans{H f d:Hp}(a:TK H f)(b:TK f d):TK H d:=λc o h=>b c o (a c o h)
theorem Same.tk{H a:Hp}(e:Same H a):TK H a:=λb c h=>e b _ h
theorem TK.lst{H:Hp}{l:Addr}{xs a:List V}(h:H l=some (.lst xs)):TK H (upd H l (.lst a)):=λb c e=>by
 rw[af (fZ e h (by intro z;cases z))];exact e
theorem Same.put{H a:Hp}{D:Addr}{o:HO}(e:Same H a)(h:H D=none):Same H (upd a D o):=λb u q=>by
 rw[af (ay q h)];exact e b u q
theorem aJ{a:Type}{xs:List a}{i:Int}{v:a}(k:Nat)(b:(k:Int)=i)(h:xs[k]? = some v):atI xs i=some v:=by rw[<- b];exact gC h
theorem sX(xs:List V)(k:Nat)(h:k<=xs.length):d9 xs none (some (k:Int))=xs.take k:=by
 unfold d9;rw[HT.sIx_nat,HT.sIx_none,List.drop_zero,Nat.sub_zero,Nat.min_eq_left h]
theorem tL(xs:List V)(k:Nat):d9 xs (some (k:Int)) none=xs.drop k:=by
 unfold d9;rw[HT.sIx_nat,HT.sIx_none]
 by_cases h:k<=xs.length
 .rw[Nat.min_eq_left h,take_of_length_le (by simp)]
 .rw[Nat.min_eq_right (by lia),Nat.sub_self,take_zero,List.drop_of_length_le (by lia)]
structure U where
 name:Str
 value:Int
 size:Int
 path:List Str
section
variable {X:Cx}{K:Frag}
theorem lD(h:X.K=K):IxR X (rIx K):=h ▸ bj
theorem oY(h:X.K=K):CallR X (.builtin "len") (λxs H Q=>match xs with
  | [.str z]=>z.length<=sizeLine/\Q (.int z.length) H
  | [.ref p]=>rLenSq K p H Q
  | _=>False):=h ▸ aL
theorem jX(h:X.K=K):OpR X (compareOp .NotIn) (rIn K true):=h ▸ me
theorem gL(h:X.K=K){es:List Expr}{k:Nat}{t:TGs}{n:Nat}{a:Pos}(c:X.calm=true)(d:PGs X es t)(f:(assignEach es X.env).length=n:=by rfl)(b:(assignEach es X.env).findIdx? (·.1)=none:=by rfl) :
  PG X (.Tuple es k a) (gTup K n t):=h ▸ dU c d f b
end
structure XCls(K:Frag)(D:Addr):Prop where
 ga:findIn K (.ref D) "__getattribute__" = some (some (.builtin "BaseException.__getattribute__"))
 gn:findIn K (.ref D) "__getattr__" = some none
 cl:findIn K (.ref D) "__class__" = some (some (.builtin "object.__class__"))
 mb:mroIn K D (.type "BaseException")=some true
 mo:mroIn K D (.type "object")=some true
 isc:(clsIn K D).isSome=true
section
variable {prog:Program}{w:World}{A:Around}{E:Value->Shared->Prop}{h:Heap}{g:Array GenState}{d:Drawn}{t:Nat}{os:OsState}{a D:Addr}{o:Obj}{K:Frag}
end
theorem xh{c:List Addr}{j H:Hp}{f h i:Heap}(u:Un c [] j H f h)(k:∀ b o,(∃ o',f.get? b=some o')->b ∉ c->h.get? b=some o->i.get? b=some o)
  (p:∀ b o,b∈c->h.get? b=some o->∃ l,i.get? b=some { o with slots:=l }):Un c [] j H f i where
 keep:=λb o q n a d=>k b o ⟨o,q⟩ a (u.keep b o q n a d)
 slot:=λb o q n a d=>by
  obtain⟨l,e⟩:=u.slot b o q n a d;obtain⟨r,g⟩:=p b _ a e;exact⟨r,g⟩
 free:=u.free
 there:=λb o q d=>by
  obtain⟨o',e⟩:=u.there b o q d
  by_cases a:b∈c
  .obtain⟨l,g⟩:=p b o' a e
   exact⟨_,g⟩
  .exact⟨o',k b o' ⟨o,q⟩ a e⟩
 tups:=u.tups
 frzs:=u.frzs
 tbls:=u.tbls
theorem uy{P:Program}{w:World}{H:Hp}{h c:Heap}(x:HOk P w H h)(k:∀ b o u,H b=some u->h.get? b=some o->c.get? b=some o):HOk P w H c:=λa o e =>
 (x a o e).stay (λb u d q=>by
  rcases d with z | z
  .rw[z]at q ⊢
   exact k a u o e q
  .exact k b u _ z q) (λ_ q=>q) λ_ _ q=>q
theorem ObjOk.isObj{P:Program}{w:World}{H:Hp}{h:Heap}{a:Addr}{o:HO}(x:ObjOk P w H h a o):∃ u,h.get? a=some u:=by
 cases o with
 | lst xs=>obtain⟨_,_,_,_,e⟩:=x;exact⟨_,e⟩
 | tup xs=>obtain⟨_,_,_,_,e,_⟩:=x;exact⟨_,e⟩
 | dK kvs=>obtain⟨_,_,_,_,o,_,_,e,_⟩:=x;exact⟨_,e⟩
 | dT kvs=>obtain⟨_,_,_,_,o,_,_,e,_⟩:=x;exact⟨_,e⟩
 | set S n=>obtain⟨o,_,_,_,e,_⟩:=x;exact⟨_,e⟩
 | ins C dx fs=>obtain⟨_,_,_,e,_⟩:=x;exact⟨_,e⟩
 | own y=>exact x
 | xd fs=>obtain⟨_,⟨_,_,_,e,_⟩,_⟩:=x;exact⟨_,e⟩
 | rng lo hi=>obtain⟨_,_,_,e⟩:=x;exact⟨_,e⟩
 | frz ob u=>exact⟨_,x.1⟩
 | tbl ps=>exact⟨_,x⟩
 | met f y=>exact⟨_,x⟩
 | ext φ=>exact x.2.1
section
variable {P:Program}{w:World}{outer:List Env}{H H':Hp}{s s':Shared}{x D:Addr}{a0:Value}{B:Heap}
end
section
variable {X:Cx}{pins:List (Addr×Obj)}{σ:St}{H H':Hp}{s s':Shared}{x D:Addr}{a0:Value}{B h2:Heap}
theorem wX(J:Inv X pins σ H' s'){b:Addr}(h:∃ o',X.s₀.heap.get? b=some o')(f:b ∉ frs X.outer):b ∉ frs X.stack:=λc=>by
 obtain⟨o',e⟩:=h
 rcases mem_cons.mp (J.stkSub b c) with z | z
 .have a:=Heap.lt_size e
  have d:=J.ok.above;rw[z]at a;exact absurd (Nat.lt_of_lt_of_le a d) (Nat.lt_irrefl _)
 .exact f z
theorem yk(J:Inv X pins σ H' s'){b:Addr}{u:HO}(e:H' b=some u):b ∉ frs X.stack:=λa=>by
 rw[J.stkFree b a]at e;cases e
end
section
variable {P:Program}{w:World}{K:Frag}{mg:Str->Option Value}{base:Heap}{N:List Str}{qual:Str}{scope:Scope}{f:Addr}{cdv:Value}{A:Around}{outer:List Env}{s0:Shared}{H0:Hp}{E:XK}
end
section
variable {P:Program}{w:World}{K:Frag}{mg:Str->Option Value}{base:Heap}
end
structure XHd(K:Frag)(C:Addr):Prop where
 isc:(clsIn K C).isSome=true
 ty:typeIn K (.ref C)=some (.type "type")
 mb:mroIn K C (.type "BaseException")=some true
section
variable {X:Cx}{pins:List (Addr×Obj)}{σ:St}{H H' H1:Hp}{s s' s1:Shared}{x D C:Addr}{a0:Value}{B h2:Heap}
end
section
variable {prog:Program}{w:World}{A:Around}{E:Value->Shared->Prop}{h:Heap}{g:Array GenState}{d:Drawn}{t:Nat}{os:OsState}{a D dx:Addr}{o:Obj}{vs:Array Value}{cd:ClassData}{K:Frag}{name:Str}{mA:Str->Option Value}{v:Value}
abbrev bmV:List Value:=[.type "ValueError",.type "Exception",.type "BaseException",.type "object"]
def BI:Value->Bool
 | .ref _=>true
 | _=>false
def kz(l:List Value):Bool:=l.dropWhile BI == bmV
theorem oe(a:Value):∀{l:List Value},kz l=true->refuseLoop a "__setattr__" l=pure ()
 | [],e=>by cases e
 | x::r,e=>by
  by_cases hx:BI x=true
  .have b:kz r=true:=by
    unfold kz at e ⊢;rw[List.dropWhile_cons_of_pos hx]at e;exact e
   cases x <;> first | exact absurd hx Bool.false_ne_true | (rw[refuseLoop_ref];exact oe a b)
  .unfold kz at e
   rw[List.dropWhile_cons_of_neg hx]at e;rw[beq_iff_eq.mp e];exact PySem.F.store_ValueError.passes a
structure XSet(K:Frag)(D:Addr)(name:Str)(cd:ClassData):Prop where
 k:clsIn K D=some cd
 dct:cd.hasDict=true
 mro:kz cd.mro=true
 mo:mroIn K D (.type "object")=some true
 sa:findIn K (.ref D) "__setattr__" = some (some (.builtin "object.__setattr__"))
 na:findIn K (.ref D) name=some none
theorem rH{tk:Tok}{Q:Fin->Shared->Prop}(c:XSet K D name cd)(X:K.In h)(j:h.get? a=some o)(i:o.cls=.ref D)
  (f:wpAny (model prog w) A (instanceDict a true) (λr s'=>wpAny (model prog w) A (match r with | some d'=>Builtin.ObjectAttr.storeInDict d' (.str name tk) name v | none=>Builtin.ObjectAttr.noDictFor (.ref a) (.ref D) name false) Q E s') E ⟨h,g,d,t,os⟩) :
  wpAny (model prog w) A (Builtin.«object.__setattr__» ⟨[.ref a,.str name tk,v],[]⟩) Q E ⟨h,g,d,t,os⟩:=by
 have b:PySem.W.Looks (model prog w) h (typeOf (.ref a)) (.ref D):=i ▸ (PySem.W.Looks.ld j).andThen .now;have l:PySem.W.Looks (model prog w) h (mroOf (.ref D)) cd.mro:=(looks_clsIn X c.k).andThen .now;rw[osa_eq,refuse_eq];refine wpAny_bind (wpAny_bind (b.at (wpAny_bind (l.at ?_))));rw[oe _ c.mro];refine wpAny_pure (wpAny_bind (b.at (wpAny_bind ((looks_findIn X c.na).at ?_))));refine wpAny_bind (wpAny_pure ?_);show wpAny _ _ (Builtin.ObjectAttr.storeInOwnDict (.ref a) (.ref D) (.str name tk) name v false) _ _ _;unfold Builtin.ObjectAttr.storeInOwnDict;refine wpAny_bind (wpAny_pure ?_);rw[if_neg (show ¬((Value.ref D == Value.type "module")=true) from λz=>by cases eq_of_beq z)];exact wpAny_bind f
theorem mP{tk:Tok}{Q:Fin->Shared->Prop}{a:Addr}{f:List Str}(s:h.Ns1 a mA)(i:PySem.Within mA f)(hz:f.length<=1000)
  (l:∀ h',h'.Ns1 a (λy=>if y=name then some v else mA y)->Heap.SameBut a h h'->Q (.done (.ret .none)) ⟨h',g,d,t+1,os⟩) :
  wpAny (model prog w) A (Builtin.ObjectAttr.storeInDict a (.str name tk) name v) Q E ⟨h,g,d,t,os⟩:=by
 unfold Builtin.ObjectAttr.storeInDict Builtin.ObjectAttr.newKeyGuard;refine wpAny_bind (wpAny_pure (wpAny_bind (wpAny_nsSet1 s λq c o=>?_)));obtain⟨x,b,r,u,n,j⟩:=c.count (PySem.Within.cons name v i);have p:b.size<=sizeLine:=Nat.le_trans j (by rw[length_cons,sizeLine_eq];lia);refine wpAny_bind (wpAny_lookBehind u (by rw[n];exact pastItsLine_dict (Nat.le_succ_of_le p)) ?_);exact wpAny_pure (l q c o)
theorem vX{tk:Tok}{Q:Fin->Shared->Prop}(c:XSet K D name cd)(X:K.In h)(l:h.get? a=some o)(n:o.cls=.ref D)(i:o.data=.fields vs)(q:o.dict=none)
  (p:∀ h',h'.Ns1 h.objs.size (λy=>if y=name then some v else none)->h'.get? a=some { o with dict:=some h.objs.size }->(∀ b u,b≠a->h.get? b=some u->h'.get? b=some u)->Q (.done (.ret .none)) ⟨h',g,d,t+1,os⟩) :
  wpAny (model prog w) A (Builtin.«object.__setattr__» ⟨[.ref a,.str name tk,v],[]⟩) Q E ⟨h,g,d,t,os⟩:=by
 refine rH c X l n ?_;have f:(h.push { cls:=.type "dict",data:=.dict #[] }).get? a=some o:=Heap.get?_push_of_some _ l;have j:a≠h.objs.size:=Nat.ne_of_lt (Heap.lt_size l);unfold instanceDict;refine wpAny_bind (wpAny_loadPart_at l ?_);rw[n];refine wpAny_bind ((looks_clsIn X c.k).at ?_);rw[c.dct,q,i];simp only[Bool.not_true,Bool.false_eq_true,if_false];rw[if_neg (by simp[typeHasDict])];refine wpAny_bind (wpAny_alloc' (wpAny_bind (wpAny_update' f (wpAny_pure ?_))))
 have r:((h.push { cls:=.type "dict",data:=.dict #[] }).update a λu=>{ u with dict:=some h.objs.size }).get? h.objs.size=some { cls:=.type "dict",data:=.dict #[] } :=
  (Heap.get?_update_ne _ _ _ _ j.symm).trans (Heap.get?_push_at rfl rfl)
 refine mP (Heap.Ns1.of_empty ⟨_,#[],_,r,rfl,λu s=>absurd s (by simp),λ_=>rfl⟩) PySem.Within.nil (by simp) λh2 n2 s2=>p h2 n2 ?_ λb u hb e=>?_
 .refine(s2.2 a j).trans (Heap.get?_update_self _ f ?_)
  rw[Obj.isFreed_of_fields (vs:=vs)];exact i
 .exact(s2.2 b (Nat.ne_of_lt (Heap.lt_size e))).trans ((Heap.get?_update_ne _ _ _ _ hb).trans (Heap.get?_push_of_some _ e))
theorem xT{tk:Tok}{Q:Fin->Shared->Prop}{i:List Str}(c:XSet K D name cd)(X:K.In h)(f:h.get? a=some o)(b:o.cls=.ref D)(n:o.dict=some dx)(p:h.Ns1 dx mA)(j:PySem.Within mA i)(hz:i.length<=1000)
  (l:∀ h',h'.Ns1 dx (λy=>if y=name then some v else mA y)->Heap.SameBut dx h h'->Q (.done (.ret .none)) ⟨h',g,d,t+1,os⟩) :
  wpAny (model prog w) A (Builtin.«object.__setattr__» ⟨[.ref a,.str name tk,v],[]⟩) Q E ⟨h,g,d,t,os⟩:=by
 refine rH c X f b ?_;unfold instanceDict;refine wpAny_bind (wpAny_loadPart_at f ?_);rw[b];refine wpAny_bind ((looks_clsIn X c.k).at ?_);rw[c.dct,n];simp only[Bool.not_true,Bool.false_eq_true,if_false];exact wpAny_pure (mP p j hz l)
theorem qL{Q:Unit->Shared->Prop}(c:XSet K D name cd)(X:K.In h)(i:h.get? a=some o)(f:o.cls=.ref D)
  (l:∀(B:Around) (tk:Tok) (Q':Fin->Shared->Prop) (E':Value->Shared->Prop),(∀ s',Q () s'->Q' (.done (.ret .none)) s')->wpAny (model prog w) B (Builtin.«object.__setattr__» ⟨[.ref a,.str name tk,v],[]⟩) Q' E' ⟨h,g,d,t+1,os⟩) :
  wpAny (model prog w) A (setAttr (.ref a) name v) Q E ⟨h,g,d,t,os⟩:=by
 have p:=PySem.F.store_ValueError.slot.bind (.ref a);have b:=PySem.F.store_ValueError;have j:PySem.W.Looks (model prog w) h (typeOf (.ref a)) (.ref D):=f ▸ (PySem.W.Looks.ld i).andThen .now;have n:PySem.W.Looks (model prog w) h (isInstance (.ref a) (.type "object")) true:=j.andThen (looks_mroIn X c.mo);unfold setAttr callSpecial? specialOf
 repeat (any_goals (first | assumption | (with_reducible refine wpAny_loadPart_at i ?_;rw[f]) | with_reducible refine(looks_findIn X c.sa).at ?_ | wp_step))
 refine codeAny_call_builtin b.slot.plain b.entry (@PySem.W.check_slot (model prog w) _ _ ⟨h,g,d,t+1,os⟩ "object.__setattr__" "object" "__setattr__" (.ref a) [.str name t,v] [] _ b.kind b.split n (b.args (.ref a) (.str name t) v) ?_);exact l _ t _ _ λs' q=>wpAny_pure (wpAny_pure q)
end
section
variable {prog:Program}{w:World}{A:Around}{E:Value->Shared->Prop}{h:Heap}{g:Array GenState}{d:Drawn}{t:Nat}{os:OsState}
variable {nm q:Str}{C N fI:Addr}{bs bm bmB:List Value}{hdct:Bool}{sn:List Str}{sub:List Value}{ab:Bool}{col:Option Bool}{dd:Option Addr}{k0 k1 k2 k3 k5:Option Value}{B newId initId:String}{mN:Str->Option Value}{rest:List Value}{oI:Obj}
abbrev fk(h:Heap)(C:Addr)(rest:List Value):Heap:=(h.push { cls:=.type "tuple",data:=.seq rest.toArray }).push { cls:=.ref C,data:=.fields #[.ref h.objs.size,.none,.none,.none,.bool false,.none] }
theorem xC{Q:Fin->Shared->Prop}(F:ExcBaseFacts B newId initId bmB)(T:OwnTail h bmB bm)(a:h.get? C=some (excClassObj nm q C N bs bm hdct sn sub ab col dd k0 k1 k2 k3 k5 newId))(y:h.Ns N mN)(v:mN "__init__" = some (.ref fI))
  (x:h.get? fI=some oI) (i:oI.cls=.type "function") (hz:rest.length<=sizeLine)
  (n:wpAny (model prog w) A (call (.ref fI) (.ref (h.objs.size+1)::rest)) (λr s'=>r=.none/\Q (.done (.ret (.ref (h.objs.size+1)))) s') E ⟨fk h C rest,g,d,t,os⟩) :
  wpAny (model prog w) A (Builtin.«type.__call__» ⟨.ref C::rest,[]⟩) Q E ⟨h,g,d,t,os⟩:=by
 have f:∀ b o,h.get? b=some o->(fk h C rest).get? b=some o:=λb o e=>Heap.get?_push_of_some _ (Heap.get?_push_of_some _ e)
 have j:=f C _ a;have p:(fk h C rest).Ns N mN:=y.keeps f;have s:OwnTail (fk h C rest) bmB bm:=T.keeps f;have D:(fk h C rest).get? (h.objs.size+1)=some { cls:=.ref C,data:=.fields #[.ref h.objs.size,.none,.none,.none,.bool false,.none] }:=by heap_get
 have c:(Value.ref C::bm).contains (.ref C)=true:=by simp
 repeat (first | with_reducible refine wpAny_loadPart_at a ?_ | with_reducible refine wpAny_madeBy_exc a ?_ | wp_step)
 refine codeAny_call_builtin_code (Code.quiet_builtin _ F.quiet) (wpAny_check_new_subT F T a (codeAny_exc_new_subT F T a ?_ hz));show wpAny _ _ _ _ _ ⟨fk h C rest,g,d,t,os⟩;unfold isInstance
 repeat (first | with_reducible refine wpAny_loadPart_at D ?_ | (with_reducible refine wpAny_isSubtype_exc j ?_;rw[c]) | wp_step)
 show wpAny _ _ (typeLookup (.ref C) _) _ _ _;refine wpAny_typeLookup_tail j p s F.mroIs F.init.lookup ?_;rw[v];refine wpAny_holding (wpAny_bind ?_);unfold bindSpecial;refine wpAny_bind (wpAny_typeOf (T := "function") ⟨oI,f fI _ x,i⟩ ?_);rw[if_pos (by decide)];refine wpAny_pure (wpAny_bind (wpAny_mono n (λr s' l=>?_) λ_ _ z=>z));obtain⟨rfl,u⟩:=l
 wp_walk
 exact u
theorem xA{Q:Value->Shared->Prop}(F:ExcBaseFacts B newId initId bmB)(T:OwnTail h bmB bm)(a:h.get? C=some (excClassObj nm q C N bs bm hdct sn sub ab col dd k0 k1 k2 k3 k5 newId))(l:h.Ns N mN)(f:mN "__init__" = some (.ref fI))
  (i:h.get? fI=some oI) (b:oI.cls=.type "function") (hz:rest.length<=sizeLine)
  (c:wpAny (model prog w) (A.under (.builtin "type.__call__" ⟨.ref C::rest,[]⟩)) (call (.ref fI) (.ref (h.objs.size+1)::rest)) (λr s'=>r=.none/\Q (.ref (h.objs.size+1)) s') E ⟨fk h C rest,g,d,t,os⟩) :
  wpAny (model prog w) A (call (.ref C) rest) Q E ⟨h,g,d,t,os⟩:=by
 have o:=tc_lookup;have n:=tc_bind (.ref C);have j:(⟨h,g,d,t,os⟩:Shared).TypeIs (.ref C) "type" := ⟨_,a,rfl⟩;refine wpAny_call (codeAny_of_tree ?_);show wpAny _ _ (callAny (.ref C) _) _ _ _
 repeat (any_goals (first | assumption | with_reducible refine wpAny_loadPart_at a ?_ | wp_step))
 exact⟨rfl,codeAny_call_builtin_at (Code.quiet_builtin _ (by decide +kernel)) entry_typeCall (wpAny_check_type_call_sub a (xC F T a l f i b hz c))⟩
end
def XD0(a D:Addr):Heap->Prop:=λh=>∃ o vs,h.get? a=some o/\o.cls=.ref D/\o.data=.fields vs/\o.dict=none/\vs[1]? = some .none/\vs[2]? = some .none
def XD1(a D dx:Addr):Heap->Prop:=λh=>∃ o vs,h.get? a=some o/\o.cls=.ref D/\o.data=.fields vs/\o.dict=some dx/\vs[1]? = some .none/\vs[2]? = some .none
def XDct(dx:Addr)(fs:List (Str×V)):Heap->Prop:=λh=>∃ mA,h.Ns1 dx mA/\∀ f,RelO (fs.lookup f) (mA f)
section
variable {P:Program}{w:World}{H:Hp}{h:Heap}{a D dx:Addr}{fs:List (Str×V)}
theorem XD0.ok(x:XD0 a D h):ObjOk P w H h a (.ext (XD0 a D)):=⟨x,let ⟨o,_,e,_⟩:=x;⟨o,e⟩,λ_ _ ⟨o,b,e,r⟩ k=>⟨o,b,k o e,r⟩⟩
theorem XD1.ok(x:XD1 a D dx h):ObjOk P w H h a (.ext (XD1 a D dx)):=⟨x,let ⟨o,_,e,_⟩:=x;⟨o,e⟩,λ_ _ ⟨o,b,e,r⟩ k=>⟨o,b,k o e,r⟩⟩
theorem XDct.ok(x:XDct dx fs h):ObjOk P w H h dx (.ext (XDct dx fs)):=⟨x,let ⟨_,⟨o,_,_,e,_⟩,_⟩:=x;⟨o,e⟩,λ_ _ ⟨a,n,r⟩ k=>⟨a,n.at k,r⟩⟩
end
section
variable {X:Cx}{pins:List (Addr×Obj)}{σ:St}{H:Hp}{s:Shared}{h':Heap}{x dx D:Addr}{φ:Heap->Prop}{ox od:HO}
theorem Inv.tracked{t':Nat}(I:Inv X pins σ H s)(k:∀ b u,s.heap.get? b=some u->h'.get? b=some u)(f:s.heap.get? x=none)(d:ObjOk X.prog X.w (upd H x ox) h' x ox):Inv X pins σ (upd H x ox) { s with heap:=h',toks:=t' }:=by
 have g:H x=none:=by
  cases q:H x with
  | none=>rfl
  | some u =>
   obtain⟨o,e⟩:=(I.hok x u q).isObj;rw[f]at e;cases e
 have h:∀ b o,s.heap.get? b=some o->b≠x:=λb o e z=>by rw[z,f]at e;cases e
 have a:∀ b u,H b=some u->b≠x:=λb u e z=>by rw[z,g]at e;cases e
 refine I.un ⟨λb o e _ _ _=>k b o e,λb o e _ _ _=>⟨o.slots,k b o e⟩,λb o e n _=>?_,λb o e _=>⟨o,k b o e⟩,λb xs e=>?_,λb o u e=>?_,λb ps e=>⟨#[],?_⟩⟩ λb u e=>?_
 .rw[af (h b o e)];exact n
 .rw[af (a b _ e)];exact e
 .rw[af (a b _ e)];exact e
 .rw[af (a b _ e),e];simp
 .by_cases hb:b=x
  .subst hb
   rw[ad]at e;cases e;exact d
  .rw[af hb]at e
   exact(I.hok b u e).stay (λc v _ q=>k c v q) (λc q=>by rw[af (a c _ q)];exact q) λc xs q=>by rw[af (a c _ q)];exact q
theorem Inv.put2{t':Nat}(I:Inv X pins σ H s)(a:H x=some (.ext φ))(l:s.heap.objs.size<=dx)(k:∀ b u,b≠x->s.heap.get? b=some u->h'.get? b=some u)(j:ObjOk X.prog X.w (upd (upd H dx od) x ox) h' x ox)
  (A:ObjOk X.prog X.w (upd (upd H dx od) x ox) h' dx od):Inv X pins σ (upd (upd H dx od) x ox) { s with heap:=h',toks:=t' }:=by
 have f:H dx=none:=I.hok.fresh l;have y:x≠dx:=λz=>by rw[z,f]at a;cases a
 have w:∀ b o,s.heap.get? b=some o->b≠dx:=λb o e=>Nat.ne_of_lt (Nat.lt_of_lt_of_le (Heap.lt_size e) l)
 have d:∀ b u,H b=some u->b≠dx:=λb u e z=>by rw[z,f]at e;cases e
 have h:∀ b,H b=none->b≠x:=λb e z=>by rw[z,a]at e;cases e
 have g:∀ b u,H b=some u->(∀ ψ,u≠.ext ψ)->b≠x:=λb u e n z=>by
  rw[z,a]at e;cases e;exact n φ rfl
 obtain⟨r,i⟩:=j.isObj;refine I.un ⟨λb o e n _ _=>k b o (h b n) e,λb o e n _ _=>⟨o.slots,k b o (h b n) e⟩,λb o e n _=>?_,λb o e _=>?_,λb xs e=>?_,λb o u e=>?_,λb ps e=>⟨#[],?_⟩⟩ λb u e=>?_
 .rw[af (h b n),af (w b o e)];exact n
 .by_cases hb:b=x
  .subst hb;exact⟨r,i⟩
  .exact⟨o,k b o hb e⟩
 .rw[af (g b _ e λ_ z=>nomatch z),af (d b _ e)];exact e
 .rw[af (g b _ e λ_ z=>nomatch z),af (d b _ e)];exact e
 .rw[af (g b _ e λ_ z=>nomatch z),af (d b _ e),e];simp
 .by_cases hb:b=x
  .subst hb
   rw[ad]at e;cases e;exact j
  .by_cases hb2:b=dx
   .subst hb2
    rw[af hb,ad]at e;cases e;exact A
   .rw[af hb,af hb2]at e
    refine(I.hok b u e).stay (λc v p q=>k c v ?_ q) (λc q=>?_) λc xs q=>?_
    .rintro rfl
     rcases p with z | z
     .exact hb z.symm
     .rw[a]at z;cases z
    .rw[af (g c _ q λ_ z=>nomatch z),af (d c _ q)];exact q
    .rw[af (g c _ q λ_ z=>nomatch z),af (d c _ q)];exact q
end
def Bn(K:Frag)(ta tv:TE)(f:Str):TS:=λD σ H=>tv σ H λy H1=>ta σ H1 λx H2=>∃ a C cd,x=.ref a/\XSet K C f cd /\
 ((H2 a=some (.ext (XD0 a C))/\∀ dx,H2 dx=none->dx≠a->D.nx σ (upd (upd H2 dx (.ext (XDct dx [(f,y)]))) a (.ext (XD1 a C dx)))) \/
  ∃ dx fs,H2 a=some (.ext (XD1 a C dx))/\H2 dx=some (.ext (XDct dx fs))/\fs.length<=900/\D.nx σ (upd H2 dx (.ext (XDct dx ((f,y)::fs)))))
theorem fJ{f g:Str}{y:V}{a:List (Str×V)}:List.lookup g ((f,y)::a)=if g=f then some y else a.lookup g:=by
 rw[lookup_cons]
 by_cases z:g=f
 .rw[if_pos z,show(g == f)=true by simpa using z]
 .rw[if_neg z,show(g == f)=false by simpa using z]
section
variable {X:Cx}{o e value:Expr}{f:Str}{pos pos' tpos:Pos}{ta tv:TE}
theorem xK(W:PE X o ta)(hv:PE X value tv)(hs:swapsWith value (some (.Attribute o f pos')) pos.line X.env=pure false):PS X (.Assign [.Attribute o f pos'] value pos) (Bn X.K ta tv f):=by
 intro d s p H D I h;refine plainObj_wpAny_Assign_Attribute (thn (hv d s p H _ I h) λu s1 ⟨y,P,S,K,q⟩=>thn (W d s1 p P _ S q) λov s2 ⟨x,H2,I2,rx,a,C,cd,ex,c,l⟩=>?_) hs;subst ex;obtain rfl:ov=Value.ref a:=rx;obtain⟨n,g2,d2,L,Y⟩:=s2
 rcases l with⟨r,l⟩ | ⟨dx,F,r,O,hl,l⟩
 .obtain⟨⟨R,J,j,i,G,E,M⟩,_⟩:=I2.hok a _ r
  refine qL c I2.kIn j i λB Z Q T w=>vX c I2.kIn j i G E λh' n' o' k'=>w _ ?_
  have hf:H2 n.objs.size=none:=I2.hok.fresh (Nat.le_refl _);have A:n.objs.size≠a:=Nat.ne_of_gt (Heap.lt_size j);refine⟨p,_,I2.put2 (t':=L+1+1) (h':=h') (x:=a) (dx:=n.objs.size) (od:=.ext (XDct n.objs.size [(f,y)])) (ox:=.ext (XD1 a C n.objs.size)) r (Nat.le_refl _) k' (XD1.ok ⟨_,J,o',i,G,rfl,M⟩) (XDct.ok ⟨_,n',λg=>?_⟩),l _ hf A⟩;rw[fJ]
  by_cases z:g=f
  .rw[if_pos z,if_pos z];exact K
  .rw[if_neg z,if_neg z];exact True.intro
 .obtain⟨⟨R,J,j,i,G,E,M⟩,_⟩:=I2.hok a _ r
  obtain⟨⟨mA,nA,N⟩,_⟩:=I2.hok dx _ O
  have wi:PySem.Within mA (F.map (·.1)):=λg hg=>by
   cases q:F.lookup g with
   | none =>
    have:=N g;rw[q]at this;exact absurd (RelO.none_of this) hg
   | some v=>exact mem_map.mpr ⟨(g,v),PySem.mem_of_lookup q,rfl⟩
  refine qL c I2.kIn j i λB Z Q T w=>xT c I2.kIn j i E nA wi (by rw[length_map];lia) λh' n' sb=>w _ ?_
  refine⟨p,_,I2.write (t':=L+1+1) (h':=h') (x:=dx) (e:=dx) (o:=.ext (XDct dx ((f,y)::F))) (by rw[O];exact True.intro) (.inl rfl) (λb u hb e=>(sb.2 b hb).trans e) (let ⟨o',_,_,e',_⟩:=n';⟨o',e'⟩) (XDct.ok ⟨_,n',λg=>?_⟩),l⟩;rw[fJ]
  by_cases z:g=f
  .rw[if_pos z,if_pos z];exact K
  .rw[if_neg z,if_neg z];exact N g
end
theorem ou{K:Frag}{h:Heap}{N:Addr}{m:Str->Option Value}{n:Str}{v:Value}(X:K.In h)(G:h.Ns N m)(q:nsIn K N n=some (some v)):m n=some v:=by
 obtain⟨i,f,g,b,c,_,d⟩:=G;unfold nsIn at q
 split at q
 .rename_i c0 d0 en0 k0 sl0 lk
  have a:=X _ _ lk;rw[b]at a;cases a;cases c
  split at q
  .rename_i entry found
   cases q;rw[<- d];unfold nsFind findBy;rw[<- Array.find?_toList,found];rfl
  .split at q <;> cases q
 .cases q
def xIn(K:Frag)(C:Addr)(fI:Option Value):Bool:=match K.lookup C with
 | some ⟨.type "type",_,.cls cd,sl⟩=>(match cd.mro,sl.toList with
  | .ref C'::bm,[_,_,_,_,some (.builtin n),_]=>C' == C && n == "ValueError.__new__" && !cd.hasDel && tailIn K bmV bm && nsOkIn K cd.ns && nsIn K cd.ns "__init__" == some fI
  | _,_=>false)
 | _=>false
structure XObj(h:Heap)(C:Addr)(fI:Option Value):Prop where
 obj:∃ bm N nm q bs hdct sn sub ab col dd k0 k1 k2 k3 k5 mN,h.get? C=some (excClassObj nm q C N bs bm hdct sn sub ab col dd k0 k1 k2 k3 k5 "ValueError.__new__")/\h.Ns N mN/\mN "__init__" = fI/\OwnTail h bmV bm
theorem qJ{K:Frag}{h:Heap}{C:Addr}{j:Option Value}(X:K.In h)(z:xIn K C j=true):XObj h C j:=by
 unfold xIn at z
 split at z
 .rename_i dct cld slt lk
  split at z
  .rename_i C' tl a0 a1 a2 a3 nid a5 hmro hsl
   simp only[Bool.and_eq_true,beq_iff_eq,Bool.not_eq_true']at z;obtain⟨⟨⟨⟨⟨rfl,rfl⟩,a⟩,x⟩,c⟩,b⟩:=z;obtain⟨u,r,w,i,p,q,y,f,s,d,o⟩:=cld;dsimp only at hmro a c b;subst hmro a
   have n:slt = #[a0,a1,a2,a3,some (.builtin "ValueError.__new__"),a5]:=by
    obtain⟨l⟩:=slt;simp only at hsl;rw[hsl]
   subst n;have g:h.Ns i (h.nsMap i):=.of_isNs (PySem.W.isNs_of_in X c);refine⟨tl,i,u,p,r,q,y,f,s,d,dct,a0,a1,a2,a3,a5,_,X _ _ lk,g,?_,PySem.W.tail_of_in X x⟩;cases j with
   | none=>exact PySem.W.ns_none_of X g b
   | some v=>exact ou X g b
  .cases z
 .cases z
def nC(K:Frag)(D:Addr):Bool:=findIn K (.ref D) "__getattribute__" == some (some (.builtin "BaseException.__getattribute__")) && findIn K (.ref D) "__getattr__" == some none &&
 findIn K (.ref D) "__class__" == some (some (.builtin "object.__class__")) && mroIn K D (.type "BaseException") == some true && mroIn K D (.type "object") == some true && (clsIn K D).isSome && typeIn K (.ref D) == some (.type "type")
theorem vT{K:Frag}{D:Addr}(h:nC K D=true):XCls K D:=by
 unfold nC at h;simp only[Bool.and_eq_true,beq_iff_eq]at h;obtain⟨⟨⟨⟨⟨⟨d,f⟩,a⟩,g⟩,b⟩,c⟩,i⟩:=h;exact⟨d,f,a,g,b,c⟩
theorem ug{K:Frag}{D:Addr}(h:nC K D=true):XHd K D:=by
 unfold nC at h;simp only[Bool.and_eq_true,beq_iff_eq]at h;obtain⟨⟨⟨⟨⟨⟨g,i⟩,d⟩,c⟩,f⟩,b⟩,a⟩:=h;exact⟨b,a,c⟩
def zB(K:Frag)(D:Addr)(name:Str):Bool:=((clsIn K D).any λcd=>cd.hasDict && kz cd.mro) && mroIn K D (.type "object") == some true &&
 findIn K (.ref D) "__setattr__" == some (some (.builtin "object.__setattr__")) && findIn K (.ref D) name == some none
theorem AR{K:Frag}{D:Addr}{name:Str}(h:zB K D name=true):∃ cd,XSet K D name cd:=by
 unfold zB at h;simp only[Bool.and_eq_true,beq_iff_eq]at h;obtain⟨⟨⟨c,d⟩,b⟩,f⟩:=h;obtain⟨cd,e,a⟩:=any_some c;rw[Bool.and_eq_true]at a;exact⟨cd,e,a.1,a.2,d,b,f⟩
section
variable {P:Program}{w:World}{K:Frag}{mg:Str->Option Value}{base:Heap}{N:List Str}{qual:Str}{scope:Scope}{f:Addr}{cdv:Value}{A:Around}{outer:List Env}{s0:Shared}{H0:Hp}{E:XK}
end
def AT(C:Addr):TE:=λ_ H Q=>∀ a,H a=none->Q (.ref a) (upd H a (.ext (XD0 a C)))
def Cr(C:Addr)(sp:Sp)(t:TA):TE:=λσ H Q=>t σ H λvs H1=>∀ a,H1 a=none->sp (.ref a::vs) (upd H1 a (.ext (XD0 a C))) (λv H2=>v=.non/\Q (.ref a) H2) E0
section
variable {X:Cx}{k:Nat}{f C:Addr}{fd:FuncData}{ps:List Str}{sp:Sp}{x:Str}{p pos:Pos}{e:Expr}{es:List Expr}{t:TA}
theorem fU(z:xIn X.K C none=true)(E:keepIn X.K (.ref C)=true)(w:Gl X x)(n:X.mg x=some (.ref C))(c:(x == ("__debug__" : Str))=false:=by decide):PE X (.Call (.Name x p) [] [] pos) (AT C):=by
 intro g s L H Q I h;refine wpAny_Call_Name_kw (fR I w n ?_ c);refine callWith_K0 I.kIn E ?_;obtain⟨W,N,P,q,R,f,sn,D,G,l,dd,K,S,Z,k3,k5,J,i,j,d,T⟩:=(qJ I.kIn z).obj;obtain⟨B,O,F,v,A⟩:=s;refine wpAny_call_exc_subT (rest:=[]) PySem.F.excBase_ValueError T i j d (λY a b=>?_) (Nat.zero_le _);obtain⟨M,y,_,_⟩:=b.there
 have r:H a=none:=by
  cases q:H a with
  | none=>rfl
  | some u =>
   obtain⟨o,e⟩:=(I.hok a u q).isObj;have:=b.new;rw[show B.get? a=some o from e]at this;cases this
 exact⟨.ref a,_,I.tracked (t':=v) b.keeps b.new (XD0.ok ⟨_,_,y,rfl,rfl,rfl,rfl,rfl⟩),rfl,h a r⟩
theorem AD(z:xIn X.K C (some (.ref f))=true)(kp:keepIn X.K (.ref C)=true)(fn:isFn X.K (.ref f)=true)(F:FnOk X.prog X.w X.K X.mg X.base CX0 k f fd ps sp)(hr:Room (k+1) X.A)(hg:Gl X x)(hm:X.mg x=some (.ref C))
  (R:Binds X.K fd ps []) (ha:PA X (e::es) t) (hz:∀ vs H Q E,sp vs H Q E->vs.length<=100) (J:(x == ("__debug__" : Str))=false:=by decide) (he:starEach (e::es) X.env=(false,eval e X.env)::starEach es X.env:=by rfl)
  (A:(backTo pos (starEach es X.env)).any (·.1)=false:=by rfl):PE X (.Call (.Name x p) (e::es) [] pos) (Cr C sp t):=by
 intro g s O H Q I h;refine wpAny_Call_Name_kw (fR I hg hm ?_ J);refine callWith_K (h₀:=X.base) I.ok.mod.kin kp (thn (ha pos g s O H _ I h) λd c ⟨vs,H1,i,r,q⟩=>⟨i.kIn,?_⟩) he A;obtain⟨bm,N,nm,qn,bs,P,sn,an,ab,al,dd,k0,k1,k2,k3,k5,mN,S,Z,K,T⟩:=(qJ i.kIn z).obj;have G:=q (c.heap.objs.size+1) (i.hok.fresh (Nat.le_succ _))
 have j:d.length<=sizeLine:=by
  have:=hz _ _ _ _ G;rw[length_cons]at this;rw[<- r.length];exact Nat.le_trans (Nat.le_of_succ_le this) (by decide)
 have up:∀ b o,c.heap.get? b=some o->(fk c.heap C d).get? b=some o:=λb o e=>Heap.get?_push_of_some _ (Heap.get?_push_of_some _ e)
 have e2:(fk c.heap C d).get? (c.heap.objs.size+1)=some { cls:=.ref C,data:=.fields #[.ref c.heap.objs.size,.none,.none,.none,.bool false,.none] }:=by heap_get
 have w:=i.laid (t':=c.toks) (h':=fk c.heap C d) (a:=c.heap.objs.size+1) (o:=.ext (XD0 (c.heap.objs.size+1) C)) up (Nat.le_succ _) (XD0.ok ⟨_,_,e2,rfl,rfl,rfl,rfl,rfl⟩)
 obtain⟨oI,hfI,hfc⟩:∃ oI,c.heap.get? f=some oI/\oI.cls=.type "function" := by
  have:=beq_iff_eq.mp fn;unfold typeIn at this;obtain⟨W,lk,B⟩:=Option.map_eq_some_iff.mp this;exact⟨W,i.kIn _ _ lk,B⟩
 have M:Vals (V.ref (c.heap.objs.size+1)::vs) (Value.ref (c.heap.objs.size+1)::d):=.cons rfl r;have y:(Value.ref (c.heap.objs.size+1)::d).length=ps.length:=by rw[<- M.length];exact F.len _ _ _ _ G
 have L:=R { c with heap:=fk c.heap C d,toks:=c.toks } (Value.ref (c.heap.objs.size+1)::d) w.kIn (by rw[append_nil];exact y);rw[append_nil]at L
 have n:wpAny (model X.prog X.w) X.A (call (.ref C) d) (EP X g O Q) X.xe c:=by
  obtain⟨D,g1,d1,t1,Y⟩:=c;refine xA PySem.F.excBase_ValueError T S Z K hfI hfc j ?_;refine wpAny_call (codeAny_mono (F.run _ X.stack _ _ ⟨Value.ref (D.objs.size+1)::d,[]⟩ (Value.ref (D.objs.size+1)::d) _ _ E0 (hr.make C d []) (w.env0.make C d []) L M G) λr s' l=>?_);cases r with
  | error e=>exact False.elim l
  | ok fl =>
   cases fl with
   | ret u =>
    obtain⟨v,H',I3,rv,ev,q3⟩:=w.after l;subst ev;exact⟨rv,⟨V.ref (D.objs.size+1),H',I3,rfl,q3⟩⟩
   | next=>exact False.elim l
   | brk=>exact False.elim l
   | cont=>exact False.elim l
 exact n
end
def IV(v d:Addr):Heap->Prop:=λh=>h.IsItemsView v d
section
variable {X:Cx}{o e:Expr}{es:List Expr}{to:TE}{t:TA}{apos cpos:Pos}
end
section
variable {X:Cx}{o e:Expr}{es:List Expr}{to:TE}{t:TA}{apos cpos:Pos}
end
theorem lE:∀{xs:List V}{us:List Value},xs.length=us.length->(∀(i:Nat) x u,xs[i]? = some x->us[i]? = some u->RelV x u)->Vals xs us
 | [],[],_,_=>.nil
 | x::xs,u::us,h,r=>.cons (r 0 x u rfl rfl) (lE (by simpa using h) λi y w b a=>r (i+1) y w (by simpa using b) (by simpa using a))
 | [],_::_,h,_=>by cases h
 | _::_,[],h,_=>by cases h
section
variable {X:Cx}
theorem kq:CallR X (.type "range") (λxs H Q=>∃ b,xs=[.int b]/\∀ p,H p=none->Q (.ref p) (upd H p (.rng 0 b))):=by
 intro a s d H xs c Q I r h;obtain⟨b,rfl,q⟩:=h;obtain⟨u,rfl,⟨t,rfl⟩⟩:=dJ r;refine call_range_1 ?_;exact⟨.ref s.heap.objs.size,_,I.laid (o:=.rng 0 b) (λb o e=>Heap.get?_push_of_some _ e) (Nat.le_refl _) ⟨_,_,_,Heap.get?_push_size _ rfl⟩,rfl,q _ (I.hok.fresh (Nat.le_refl _))⟩
end
section
variable {M:Model}{A:Around}{E:Value->Shared->Prop}{s:Shared}{env:Env}{K:Frag}{D:Addr}
theorem wN{x:Sem Value}{Q:Flow->Shared->Prop}(c:XCls K D)(l:XHd K D)(j:A.handled=none)
  (h:wpAny M A x (λv s₁=>∃ e ob vs,v=.ref e/\K.In s₁.heap/\s₁.heap.get? e=some ob/\ob.cls=.ref D/\ob.data=.fields vs/\vs[1]? = some .none/\E (.ref e) s₁) E s):wpAny M A (raiseStmt env (some x) none) Q E s:=by
 unfold raiseStmt;refine wpAny_bind (wpAny_mono h (λv s₁ a=>?_) λ_ _ z=>z);obtain⟨e,ob,vs,rfl,X,f,i,b,n,o⟩:=a;obtain⟨q,g,d,p,r⟩:=s₁
 repeat (first | with_reducible refine(PySem.W.looks_typeIn X l.ty).at ?_ | (with_reducible refine wpAny_loadPart_at f ?_;first | rw[i] | rw[b]) | with_reducible refine(looks_mroIn X c.mb).at ?_ | with_reducible refine wpAny_field f b n ?_ | wp_step)
 exact wpAny_raiseNew_none j o
end
def Fx(h:Heap)(e:Addr)(cls:Value)(dct:Option Addr)(fl:Value)(T:Addr):Prop :=
 ∃ ob fs oT ts,h.get? e=some ob/\ob.cls=cls/\ob.dict=dct/\ob.data=.fields fs/\fs[1]? = some (.ref T)/\T≠e/\h.get? T=some oT/\oT.data=.fields ts/\ts[3]? = some fl
theorem jC(f:Array Value->Array Value)(o:Obj):(Obj.mapFields f o).dict=o.dict:=by
 obtain⟨c,d,a,b⟩:=o
 cases a <;> rfl
theorem uj(f:Array Value->Array Value)(o:Obj):(Obj.mapFields f o).cls=o.cls:=Obj.cls_mapFields _ _
section
variable {M:Model}{A:Around}{E:Value->Shared->Prop}{s:Shared}{base:Heap}{env:Env}{outer:List Env}{L e:Addr}{ob:Obj}{fs:Array Value}{head:Value}{more:Bool}
theorem mW{Q:Unit->Shared->Prop}(B:A.frames=some (env::outer))(x:s.heap.FunFrames base (env::outer))(F:env.frame=some L)(q:s.heap.get? e=some ob)(n:ob.data=.fields fs)(z:1<fs.size)
  (h:∀ h' T,Fx h' e ob.cls ob.dict (rawInt L) T->s.heap.get? T=none->(∀ b o,b≠e->b ∉ frs (env::outer)->s.heap.get? b=some o->h'.get? b=some o) ->
   (∀ b o,b≠e->s.heap.get? b=some o->∃ sl,h'.get? b=some { o with slots:=sl })->Q () { s with heap:=h' }) :
  wpAny M A (do let a <- frameOf env;let pl <- entryPlaceOf L more;let b <- EntryCells.newEntry head a .none (rawInt L) .none pl;setField (.ref e) 1 b) Q E s:=by
 have l:e ∉ frs (env::outer):=λC=>by
  obtain⟨_,o,w,p⟩:=x.mem C;rw[q]at w;cases w;exact p fs n
 refine wpAny_bind (wpAny_frameOf_fun B x F λc i=>?_);refine wpAny_bind (wpAny_entryPlaceOf λpl j=>?_);unfold EntryCells.newEntry newFields;refine wpAny_bind (wpAny_newObj_type ?_ (j.sizeOk5 _ _ _ _ _));have y:c.get? e=some ob:=(i.2.1 e l).trans q;have u:=Heap.get?_push_of_some (h:=c) { cls:=.type "traceback",dict:=none,data:=.fields ([head,.ref L,.none,rawInt L,.none]++(if pl.isEmpty then List.replicate 6 Value.none else pl)).toArray } y;have r:c.objs.size≠e:=Nat.ne_of_gt (Heap.lt_size y);have v:=Obj.data_mapFields n (·.setIfInBounds 1 (Value.ref c.objs.size));have D:=Heap.get?_update_self (Obj.mapFields (·.setIfInBounds 1 (Value.ref c.objs.size))) u (Obj.isFreed_of_fields v)
 have f:∀ b o,b≠e->c.get? b=some o->((c.push { cls:=.type "traceback",dict:=none,data:=.fields ([head,.ref L,.none,rawInt L,.none]++(if pl.isEmpty then List.replicate 6 Value.none else pl)).toArray }).update e (Obj.mapFields (·.setIfInBounds 1 (Value.ref c.objs.size)))).get? b=some o :=
  λb o d g=>(Heap.get?_update_other _ _ (Ne.symm d)).trans (Heap.get?_push_of_some _ g)
 refine wpAny_setField u n z (h _ c.objs.size ⟨_,_,_,_,D,uj _ _,jC _ _,v,by simp[z],r,(Heap.get?_update_other _ _ (Ne.symm r)).trans (Heap.get?_push_size _ rfl),rfl,?_⟩ ?_ (λb o d p g=>f b o d ((i.2.1 b p).trans g)) λb o d g=>?_)
 .simp
 .have:s.heap.objs.size=c.objs.size:=i.1.symm
  rw[<- this];exact Heap.get?_none_of_le (Nat.le_refl _)
 .obtain⟨sl,G⟩:=i.2.2 b o g
  exact⟨sl,f b _ d G⟩
end
section
variable {M:Model}{A:Around}{E:Value->Shared->Prop}{s:Shared}{base:Heap}{env:Env}{outer:List Env}{L e T:Addr}{ob:Obj}{fs:Array Value}{cls fl:Value}{dct:Option Addr}
def KeptBut(xs fr:List Addr)(h h':Heap):Prop :=
 (∀ b o,b ∉ xs->b ∉ fr->h.get? b=some o->h'.get? b=some o)/\∀ b o,b ∉ xs->h.get? b=some o->∃ sl,h'.get? b=some { o with slots:=sl }
theorem KeptBut.trans{xs i d:List Addr}{h j l:Heap}(a:KeptBut xs d h j)(b:KeptBut i d j l):KeptBut (xs++i) d h l :=
 ⟨λc o n f g=>b.1 c o (λz=>n (mem_append_right _ z)) f (a.1 c o (λz=>n (mem_append_left _ z)) f g),λc o n g=>by
  obtain⟨s,p⟩:=a.2 c o (λz=>n (mem_append_left _ z)) g;obtain⟨q,r⟩:=b.2 c _ (λz=>n (mem_append_right _ z)) p
  exact⟨q,r⟩⟩
theorem uF{Q:Unit->Shared->Prop}(p:A.frames=some (env::outer))(l:s.heap.FunFrames base (env::outer))(c:env.frame=some L)(i:s.heap.get? e=some ob)(d:ob.data=.fields fs)(a:fs[1]? = some .none)
  (h:∀ h' T,Fx h' e ob.cls ob.dict (rawInt L) T->s.heap.get? T=none->KeptBut [e] (frs (env::outer)) s.heap h'->Q () { s with heap:=h' }):wpAny M A (noteFrame (.ref e) env) Q E s:=by
 unfold noteFrame;simp only[c];refine wpAny_bind (wpAny_field i d a ?_);rw[if_neg (by decide)];exact mW p l c i d (Array.getElem?_eq_some_iff.mp a).1 λh' T x j r q=>h h' T x j ⟨λb o n f g=>r b o (by simpa using n) f g,λb o n g=>q b o (by simpa using n) g⟩
theorem wM{Q:Unit->Shared->Prop}(G:A.frames=some (env::outer))(I:s.heap.FunFrames base (env::outer))(D:env.frame=some L)(x:Fx s.heap e cls dct .none T)
  (h:∀ h' T',Fx h' e cls dct (rawInt L) T'->s.heap.get? T'=none->KeptBut [T,e] (frs (env::outer)) s.heap h'->Q () { s with heap:=h' }):wpAny M A (noteFrame (.ref e) env) Q E s:=by
 obtain⟨K,O,N,J,B,rfl,rfl,C,w,H,j,l,y⟩:=x;unfold noteFrame;simp only[D];refine wpAny_bind (wpAny_field B C w ?_);rw[if_pos (show(Value.ref T != Value.none)=true from by simp)];refine wpAny_bind (wpAny_field j l y ?_);rw[if_neg (show ¬((Value.none == rawInt L)=true) from by simp[rawInt])];refine wpAny_bind (wpAny_setField j l (Array.getElem?_eq_some_iff.mp y).1 ?_);have a:∀ b,b≠T->(s.heap.update T (Obj.mapFields (·.setIfInBounds 3 Value.none))).get? b=s.heap.get? b:=λb F=>Heap.get?_update_other _ _ (Ne.symm F)
 have i:∀ b o,s.heap.get? b=some o->(∀ vs,o.data≠.fields vs)->b≠T:=λb o d u z=>by
  rw[z,j]at d;cases d;exact u J l
 have v:=Heap.get?_update_self (Obj.mapFields (·.setIfInBounds 3 Value.none)) j (Obj.isFreed_of_fields (Obj.data_mapFields l _));refine mW G (I.of_keeps λb o d u=>⟨o,(a b (i b o d u)).trans d,rfl⟩) D ((a e H.symm).trans B) C (Array.getElem?_eq_some_iff.mp w).1 λh' T' x' nT' k1 k2=>h h' T' x' ?_ ⟨λb o n f g=>?_,λb o n g=>?_⟩
 .cases q:s.heap.get? T' with
  | none=>rfl
  | some o =>
   by_cases z:T'=T
   .rw[z,v]at nT'
    cases nT'
   .have c:=nT'
    rw[a T' z,q]at c;cases c
 .have p:b≠T:=λz=>n (by rw[z];exact mem_cons_self)
  have r:b≠e:=λz=>n (by rw[z];simp)
  exact k1 b o r f ((a b p).trans g)
 .have p:b≠T:=λz=>n (by rw[z];exact mem_cons_self)
  have r:b≠e:=λz=>n (by rw[z];simp)
  exact k2 b o r ((a b p).trans g)
theorem ke{Q:Unit->Shared->Prop}{r:List Addr}(x:Fx s.heap e cls dct fl T)(h:∀ h',Fx h' e cls dct .none T->KeptBut [T] r s.heap h'->Q () { s with heap:=h' }):wpAny M A (setFlight (.ref e) none) Q E s:=by
 obtain⟨w,v,z,y,q,rfl,rfl,p,i,d,l,c,u⟩:=x;have j:3<y.size:=(Array.getElem?_eq_some_iff.mp u).1;have a:∀ b,b≠T->(s.heap.update T (Obj.mapFields (·.setIfInBounds 3 ((none:Option Addr).elim Value.none λf=>rawInt f)))).get? b=s.heap.get? b:=λb nb=>Heap.get?_update_other _ _ (Ne.symm nb)
 unfold setFlight;refine wpAny_bind (wpAny_field q p i ?_);rw[if_pos (show(Value.ref T != Value.none)=true from by simp)];refine wpAny_setField l c j (h _ ⟨w,v,_,_,(a e d.symm).trans q,rfl,rfl,p,i,d,Heap.get?_update_self _ l (Obj.isFreed_of_fields (Obj.data_mapFields c _)),Obj.data_mapFields c _,by simp[j]⟩ ⟨λb o n _ g=>?_,λb o n g=>?_⟩)
 .exact(a b (by simpa using n)).trans g
 .exact⟨o.slots,(a b (by simpa using n)).trans g⟩
theorem uV{Q:Unit->Shared->Prop}(j:A.frames=some (env::outer))(a:s.heap.FunFrames base (env::outer))(f:env.frame=some L)(x:Fx s.heap e cls dct .none T)
  (h:∀ h' T',Fx h' e cls dct .none T'->s.heap.get? T'=none->KeptBut [T,e,T'] (frs (env::outer)) s.heap h'->Q () { s with heap:=h' }):wpAny M A (leaving env (.ref e)) Q E s:=by
 unfold leaving;refine wpAny_bind (wM j a f x λi d b c g=>ke (s:={ s with heap:=i }) b λh2 x2 k2=>h h2 d x2 c (g.trans k2))
theorem sx{Q:Unit->Shared->Prop}(o:A.frames=some (env::outer))(a:s.heap.FunFrames base (env::outer))(i:env.frame=some L)(g:s.heap.get? e=some ob)(n:ob.data=.fields fs)(b:fs[1]? = some .none)
  (h:∀ h' T',Fx h' e ob.cls ob.dict .none T'->s.heap.get? T'=none->KeptBut [e,T'] (frs (env::outer)) s.heap h'->Q () { s with heap:=h' }):wpAny M A (leaving env (.ref e)) Q E s:=by
 unfold leaving;refine wpAny_bind (uF o a i g n b λl d c f j=>ke (s:={ s with heap:=l }) c λh2 x2 k2=>h h2 d x2 f (j.trans k2))
end
structure XG(P:Program)(w:World)(outer:List Env)(H:Hp)(s:Shared)(x D:Addr)(dct:Option Addr)(T:Addr)(H':Hp)(s':Shared):Prop where
 os:s'.os=s.os
 bare:AllBare s'.gens
 un:Un (frs outer) [] H H' s.heap s'.heap
 hok:HOk P w H' s'.heap
 fx:Fx s'.heap x (.ref D) dct .none T
 nx:s.heap.get? x=none
 nT:s.heap.get? T=none
 ux:H' x=none
 uT:H' T=none
def CXG(P:Program)(w:World):CXT:=λouter H s E e s'=>∃ x D dct T H',e=.ref x/\XG P w outer H s x D dct T H' s'/\E (.ref D) dct H'
theorem dC{c:List Addr}{H a:Hp}{h h':Heap}{b:Addr}(u:Un c [] H a h h')(n:h'.get? b=none):h.get? b=none:=by
 cases q:h.get? b with
 | none=>rfl
 | some o =>
  obtain⟨d,e⟩:=u.there b o q (by simp);rw[n]at e;cases e
section
variable {P:Program}{w:World}{K:Frag}{mg:Str->Option Value}{base:Heap}{N:List Str}{qual:Str}{scope:Scope}{f:Addr}{cdv:Value}{A:Around}{outer:List Env}{s0:Shared}{H0:Hp}{E:XK}
abbrev cxG(P:Program)(w:World)(K:Frag)(mg:Str->Option Value)(base:Heap)(N:List Str)(qual:Str)(scope:Scope)(f:Addr)(cdv:Value)(A:Around)(outer:List Env)(s0:Shared)(H0:Hp)(E:XK):Cx :=
 dN (CXG P w) P w K mg base N qual scope f cdv A outer s0 H0 E
theorem qT{X:Cx}{c:List (Addr×Obj)}{σ:St}{g:Hp}{f:Shared}{h:Heap}{x D T:Addr}{d:Option Addr}{xs:List Addr}(J:Inv X c σ g f)(j:X.ex=[])
  (k:KeptBut xs (frs X.stack) f.heap h) (a:∀ b∈xs,X.s₀.heap.get? b=none/\g b=none/\b ∉ frs X.outer) (r:Fx h x (.ref D) d .none T) (p:x∈xs) (q:T∈xs) :
  XG X.prog X.w X.outer X.H₀ X.s₀ x D d T g { f with heap:=h }:=by
 have s:Un (frs X.outer) [] X.H₀ g X.s₀.heap f.heap:=by
  have:=J.base;rw[j]at this;exact this
 refine⟨J.os,J.bare,xh s (λb o l i e=>k.1 b o (λz=>?_) (wX J l i) e) (λb o i e=>k.2 b o (λz=>(a b z).2.2 i) e),uy J.hok (λb o u hu e=>k.1 b o (λz=>?_) (yk J hu) e),r,(a x p).1,(a T q).1,(a x p).2.1,(a T q).2.1⟩
 .obtain⟨v,n⟩:=l
  rw[(a b z).1]at n;cases n
 .rw[(a b z).2.1]at hu
  cases hu
theorem iY{X:Cx}{a:List (Addr×Obj)}{σ:St}{H:Hp}{s:Shared}(I:Inv X a σ H s){b:Addr}(h:s.heap.get? b=none):b ∉ frs X.outer:=λz=>by
 obtain⟨_,o,e,_⟩:=I.funs.mem z;rw[h]at e;cases e
theorem vU:fF (CXG P w) (cxG P w K mg base N qual scope f cdv A outer s0 H0 E) E:=by
 intro a p H s e d I r;obtain⟨x,D,g,T,c,rfl,G,q⟩:=r;have J:Inv (cxG P w K mg base N qual scope f cdv A outer s0 H0 E) a p c d:=I.call' (ch:=[]) G.os G.un G.hok G.bare (by simp);have l:Un (frs outer) [] H0 H s0.heap s.heap:=I.base;have y:Un (frs outer) [] H0 c s0.heap d.heap:=J.base;show wpAny _ _ (leaving _ (.ref x)) _ _ d;refine uV I.ok.frames J.stack rfl G.fx λB j v i k=>?_
 refine⟨x,D,g,j,c,rfl,qT J rfl k (λb n=>?_) v (by simp) (by simp),q⟩;have h:b=T\/b=x\/b=j:=by simpa using n
 rcases h with rfl | rfl | rfl
 .exact⟨dC l G.nT,G.uT,iY I G.nT⟩
 .exact⟨dC l G.nx,G.ux,iY I G.nx⟩
 .refine⟨dC y i,?_,iY J i⟩
  cases z:c b with
  | none=>rfl
  | some u =>
   obtain⟨o,e⟩:=(J.hok b u z).isObj;rw[i]at e;cases e
theorem AQ:PassesOwn (model P w) (cxG P w K mg base N qual scope f cdv A outer s0 H0 E).A (cxG P w K mg base N qual scope f cdv A outer s0 H0 E).env (cxG P w K mg base N qual scope f cdv A outer s0 H0 E).xe:=PassesOwn.leaving
end
section
variable {P:Program}{w:World}{K:Frag}{mg:Str->Option Value}{base:Heap}
theorem Fun.okG{x a:Str}{c:Stmt}{f:Addr}{i:FuncData}{N ps:List Str}{k:Nat}{sp:Sp}(F:Fun K x a c f i)(S:FnScope N ps (ac c))(h:∀ vs H Q E,sp vs H Q E->vs.length=ps.length)
  (b:∀(cdv:Value) (A:Around) (outer:List Env) (s:Shared) (H:Hp) (vs:List V) (Q:VK) (E:XK),Room k (A.deeper (envOfC a (ac c) s.heap.objs.size f cdv))->sp vs H Q E ->
   ∃ t,PSs (cxG P w K mg base N a (ac c) f cdv A outer s H E) (ag c) t/\t { nx:=λ_ H'=>Q .non H',rt:=Q } (start N vs) H):FnOk P w K mg base (CXG P w) (k+1) f i ps sp:=by
 obtain⟨r,p,v,o,q,y,cdv,u,n,rfl,l,g⟩:=F.ex;exact uA l g S h λA outer s H vs Q E j d=>b cdv A outer s H vs Q E j d
end
def untr(H:Hp)(x:Addr):Hp:=λb=>if b=x then none else H b
theorem bq{H:Hp}{x b:Addr}(h:b≠x):untr H x b=H b:=by unfold untr;rw[if_neg h]
theorem dO{H:Hp}{x:Addr}:untr H x x=none:=by unfold untr;rw[if_pos rfl]
def XU(a D:Addr)(dct:Option Addr):Heap->Prop:=λh=>∃ o vs,h.get? a=some o/\o.cls=.ref D/\o.data=.fields vs/\o.dict=dct/\vs[1]? = some .none/\vs[2]? = some .none
theorem Inv.untr{X:Cx}{a:List (Addr×Obj)}{σ:St}{H:Hp}{s:Shared}{x:Addr}{φ:Heap->Prop}(I:Inv X a σ H s)(g:H x=some (.ext φ)):Inv X a σ (untr H x) s:=by
 have d:∀ b u,H b=some u->(∀ ψ,u≠.ext ψ)->b≠x:=λb u e n z=>by
  rw[z,g]at e;cases e;exact n φ rfl
 have h:∀ b,H b=none->L2.untr H x b=none:=λb e=>by
  by_cases z:b=x
  .rw[z];exact dO
  .rw[bq z];exact e
 have f:HOk X.prog X.w (L2.untr H x) s.heap:=λb u e=>by
  by_cases z:b=x
  .rw[z,dO]at e
   cases e
  .rw[bq z]at e
   refine(I.hok b u e).stay (λ_ _ _ q=>q) (λc q=>?_) λc xs q=>?_
   .rw[bq (d c _ q λ_ z=>nomatch z)];exact q
   .rw[bq (d c _ q λ_ z=>nomatch z)];exact q
 exact I.un (t':=s.toks) (h':=s.heap) ⟨λb o e _ _ _=>e,λb o e _ _ _=>⟨o.slots,e⟩,λb o e n _=>h b n,λb o e _=>⟨o,e⟩,λb xs e=>by rw[bq (d b _ e λ_ z=>nomatch z)];exact e,
  λb o u e=>by rw[bq (d b _ e λ_ z=>nomatch z)];exact e,λb ps e=>⟨#[],by rw[bq (d b _ e λ_ z=>nomatch z),e];simp⟩⟩ f
section
variable {P:Program}{w:World}{K:Frag}{mg:Str->Option Value}{base:Heap}{N:List Str}{qual:Str}{scope:Scope}{f:Addr}{cdv:Value}{A:Around}{outer:List Env}{s0:Shared}{H0:Hp}{E:XK}
def wJ(K:Frag)(H0:Hp)(E:XK)(D:Addr)(te:TE):TS:=λ_ σ H=>te σ H λv H1=>∃ x dct φ,v=.ref x/\H1 x=some (.ext φ)/\(∀ h,φ h->XU x D dct h)/\H0 x=none/\E (.ref D) dct (untr H1 x)
theorem dj{B:Expr}{M:TE}{D:Addr}{g:Pos}(c:XCls K D)(hd:XHd K D)(he:PE (cxG P w K mg base N qual scope f cdv A outer s0 H0 E) B M) :
  PS (cxG P w K mg base N qual scope f cdv A outer s0 H0 E) (.Raise (some B) none g) (wJ K H0 E D M):=by
 intro d s Z H DE I h;rw[arm_exec_Raise];refine wpAny_bind (wpAny_standAt ?_);show wpAny _ _ (raiseStmt _ (some (do let v <- eval B (cxG P w K mg base N qual scope f cdv A outer s0 H0 E).env;standAt g;pure v)) none) _ _ s;refine wN (K:=K) (D:=D) c hd (I.ok.hd rfl) (wpAny_bind (thn (he d s Z H _ I h) λv G ⟨y,i,a,Y,x,F,φ,ey,r,p,h0,q⟩=>wpAny_bind (wpAny_standAt (wpAny_pure ?_))));subst ey;obtain rfl:v=Value.ref x:=Y;obtain⟨W,L,n,R,l,X,O⟩:=p _ (a.hok x _ r).1;refine⟨x,W,L,rfl,a.kIn,n,R,l,O.1,?_⟩;show wpAny _ _ (leaving _ (.ref x)) _ _ G;have J:=a.untr r;have jb:Un (frs outer) [] H0 (untr i x) s0.heap G.heap:=J.base;have ib:Un (frs outer) [] H0 i s0.heap G.heap:=a.base
 have nx:s0.heap.get? x=none:=by
  cases z:s0.heap.get? x with
  | none=>rfl
  | some o =>
   have:=ib.free x o z h0 (by simp);rw[r]at this;cases this
 refine sx a.ok.frames J.stack rfl n l O.1 λh2 T Q j k=>?_
 rw[R,X]at Q;refine⟨x,D,F,T,untr i x,rfl,qT J rfl k (λb S=>?_) Q (by simp) (by simp),q⟩;have C:b=x\/b=T:=by simpa using S
 rcases C with rfl | rfl
 .refine⟨nx,dO,λz=>?_⟩
  obtain⟨_,o,e,nf⟩:=J.funs.mem z;rw[n]at e;cases e;exact nf L l
 .refine⟨dC jb j,?_,iY J j⟩
  cases z:untr i x b with
  | none=>rfl
  | some u =>
   obtain⟨o,e⟩:=(J.hok b u z).isObj;rw[j]at e;cases e
end
end L2
namespace FrM
theorem wF(x y:Int):Int.gcd y (x % y)=Int.gcd x y:=by
 have e:x=x % y+y*(x/y):=(Int.emod_add_mul_ediv x y).symm;rw[Int.gcd_comm x y]
 conv=>rhs;rw[e]
 rw[Int.gcd_add_mul_left_right]
def Bt(n:Nat)(i:Int):Prop:=i.natAbs<2 ^ n
theorem Bt.mono{m n:Nat}{i:Int}(h:Bt m i)(l:m<=n):Bt n i:=Nat.lt_of_lt_of_le h (Nat.pow_le_pow_right (by decide) l)
theorem Bt.le{n:Nat}{i j:Int}(h:Bt n i)(l:j.natAbs<=i.natAbs):Bt n j:=Nat.lt_of_le_of_lt l h
theorem Bt.mul{m n:Nat}{i j:Int}(h:Bt m i)(h':Bt n j):Bt (m+n) (i*j):=by
 unfold Bt at *;rw[Int.natAbs_mul,Nat.pow_add];exact Nat.mul_lt_mul_of_le_of_lt (Nat.le_of_lt h) h' (Nat.lt_of_le_of_lt (Nat.zero_le _) h)
theorem Bt.add{n:Nat}{i j:Int}(h:Bt n i)(h':Bt n j):Bt (n+1) (i+j):=by
 unfold Bt at *;rw[Nat.pow_succ];omega
structure Low(T B t b:Int):Prop where
 pos:1<=b
 cop:Int.gcd t b=1
 eq:t*B=T*b
theorem low(t b:Int)(g:0<b):0<(Int.gcd t b:Int)/\(Int.gcd t b:Int)<=b/\Low t b (t/(Int.gcd t b:Int)) (b/(Int.gcd t b:Int))/\(t/(Int.gcd t b:Int)).natAbs<=t.natAbs/\(b/(Int.gcd t b:Int)).natAbs<=b.natAbs:=by
 have c:0<Int.gcd t b:=Int.gcd_pos_iff.mpr (.inr (by omega));have d:0<(Int.gcd t b:Int):=by omega
 have h:=Int.gcd_dvd_left t b;have a:=Int.gcd_dvd_right t b;have j:=Int.ediv_mul_cancel h;have i:=Int.ediv_mul_cancel a;have f:(Int.gcd t b:Int)<=b:=Int.le_of_dvd g a;refine⟨d,f,⟨?_,Int.gcd_ediv_gcd_ediv_gcd c,?_⟩,?_,?_⟩
 .have:=Int.ediv_pos_of_pos_of_dvd g (by omega) a
  omega
 .rw[<- Int.mul_ediv_assoc _ a,Int.mul_comm,<- Int.mul_ediv_assoc _ h,Int.mul_comm]
 .have:=congrArg Int.natAbs j
  rw[Int.natAbs_mul]at this;rw[<- this];exact Nat.le_mul_of_pos_right _ (by simpa using c)
 .have:=congrArg Int.natAbs i
  rw[Int.natAbs_mul]at this;rw[<- this];exact Nat.le_mul_of_pos_right _ (by simpa using c)
end FrM
namespace L2
open PySem PySem.Spec PyProof.Rows FrM
section
variable {X:Cx}
def CMulB(i j:Int):Prop:=(Bt 8000 i/\Bt 8000 j)\/CMul i j
theorem CMulB.ok{i j:Int}(h:CMulB i j):IntMulOk i j:=by
 rcases h with⟨b,a⟩ | h
 .exact IntMulOk.of_le (m:=8000) (n:=8000) (intBits_le_iff.mpr b) (intBits_le_iff.mpr a) (by decide)
 .exact h.ok
def CDivB(i j:Int):Prop:=0<j/\Bt 8000 j
theorem CDivB.no{i j:Int}(h:CDivB i j):Builtin.divisionGoesByPylong i j=false:=by
 refine PyProof.noPylong_of_log2 ?_;have a:j.natAbs<2 ^ 8000:=h.2
 by_cases h0:j.natAbs=0
 .rw[h0];decide +kernel
 .have:j.natAbs.log2<8000:=(Nat.log2_lt h0).mpr a
  lia
theorem op_mulB:OpR X (binaryOp .Mult) (rI CMulB λi j=>.int (i*j)):=opI λ_ _ _ _ _ _ _ a q=>mul_int q a.ok
theorem op_fdivB:OpR X (binaryOp .FloorDiv) (rI CDivB λi j=>.int (i/j)):=opI λi j _ _ _ _ _ a q=>by
 have b:(0:Int)<j:=a.1;exact floordiv_int (by lia) (by rw[Int.fdiv_eq_ediv_of_nonneg i (by lia)];exact q) (.inl a.no)
theorem cU:OpR X (binaryOp .Mult) (rIC CMulB λi j=>.int (i*j)):=op_mulB.ic
theorem eN:OpR X (binaryOp .FloorDiv) (rIC CDivB λi j=>.int (i/j)):=op_fdivB.ic
theorem cmB{i j:Int}{m n:Nat}(h:Bt m i)(h':Bt n j)(a:m<=8000:=by decide)(b:n<=8000:=by decide):CMulB i j:=.inl ⟨h.mono a,h'.mono b⟩
theorem clB{i j:Int}(h:-(2 ^ 64)<i:=by decide)(a:i<2 ^ 64:=by decide):CMulB i j:=.inr (cl h a)
theorem crB{i j:Int}(h:-(2 ^ 64)<j:=by decide)(a:j<2 ^ 64:=by decide):CMulB i j:=.inr (cr h a)
theorem cdB{i j:Int}{n:Nat}(h:0<j)(h':Bt n j)(a:n<=8000:=by decide):CDivB i j:=⟨h,h'.mono a⟩
theorem AK:bootBuiltins "abs" = some (.builtin "abs"):=by decide +kernel
end
end L2
namespace L2
open PySem PySem.Spec PyProof.Rows
def xa:Expr->Bool
 | .Starred ..=>true
 | _=>false
theorem si{e:Expr}{es:List Expr}{env:Env}(h:xa e=false):starEach (e::es) env=(false,eval e env)::starEach es env:=by
 cases e <;> first | rfl | cases h
theorem uU{X:Cx}{e:Expr}{es:List Expr}{a:TE}{t:TA}(c:PE X e a)(b:PA X es t)(h:xa e=false:=by rfl):PA X (e::es) (qw a t):=aa c b (si h)
@[irreducible] def PSq(X:Cx)(sts:List Stmt)(t:TS):Prop:=PSs X sts t
theorem AN{X:Cx}{b:Stmt}{a:List Stmt}{t u:TS}(d:PS X b t)(c:PSq X a u):PSs X (b::a) (bJ t u):=by
 unfold PSq at c;exact ai d c
section
variable {X:Cx}{k ie ir:Nat}{f C:Addr}{fd:FuncData}{ps:List Str}{sp:Sp}{dvs:List V}{ds:List Value}{fx cn en rn:Str}{p pos p2 p3 cp hp tp:Pos}{e:Expr}{es:List Expr}{t:TA}{b₀:Stmt}{suite:List Stmt}{ts:TS}
end
end L2
namespace HT
open PySem PySem.Spec PyProof.Rows
section
variable {prog:Program}{w:World}{A:Around}{E:Value->Shared->Prop}{s:Shared}
end
end HT
namespace L2
open PySem PySem.Spec PyProof.Rows
section
variable {X:Cx}
@[irreducible] def PAq(X:Cx)(es:List Expr)(t:TA):Prop:=PA X es t
theorem eW:PAq X [] At:=by unfold PAq;exact ae
theorem vL{e:Expr}{es:List Expr}{b:TE}{t:TA}(c:PE X e b)(a:PAq X es t)(h:xa e=false:=by rfl):PAq X (e::es) (qw b t):=by
 unfold PAq at a ⊢;exact uU c a h
theorem xF{es:List Expr}{t:TA}{a:Pos}(h:PAq X es t):PE X (.List es a) (zq t):=by
 unfold PAq at h;exact bW h
end
section
variable {X:Cx}
@[irreducible] def PEq(X:Cx)(e:Expr)(t:TE):Prop:=PE X e t
@[irreducible] def PSt(X:Cx)(st:Stmt)(t:TS):Prop:=PS X st t
theorem bL{e:Expr}{t:TE}(h:PE X e t):PEq X e t:=by unfold PEq;exact h
theorem i4{e:Expr}{t:TE}(h:PEq X e t):PE X e t:=by unfold PEq at h;exact h
theorem lI{a:Stmt}{t:TS}(h:PS X a t):PSt X a t:=by unfold PSt;exact h
theorem qf{a:Stmt}{t:TS}(h:PSt X a t):PS X a t:=by unfold PSt at h;exact h
theorem eV{es:List Expr}{t:TA}{a:Pos}(h:PAq X es t):PEq X (.List es a) (zq t):=bL (xF h)
theorem aC{e:Expr}{es:List Expr}{a:TE}{t:TA}(c:PEq X e a)(b:PAq X es t)(h:xa e=false:=by rfl):PAq X (e::es) (qw a t):=vL (i4 c) b h
theorem qd{a:Stmt}{t:TS}(h:PSt X a t):PSq X [a] t:=by unfold PSq;exact aj (qf h)
theorem jM{b:Stmt}{a:List Stmt}{t u:TS}(h:PSt X b t)(c:PSq X a u):PSq X (b::a) (bJ t u):=by
 unfold PSq at c ⊢;exact ai (qf h) c
theorem lh{a:List Stmt}{t:TS}(h:PSq X a t):PSs X a t:=by unfold PSq at h;exact h
theorem wZ{i:Nat}{x:Str}{e:Expr}{c:TE}{b a:Pos}(h:X.N.Nodup)(f:X.N[i]? = some x)(d:Loc X.env.scope x)(j:PEq X e c)(l:swapsWith e (some (.Name x a)) b.line X.env = pure false:=by rfl)(g:X.fn x = true\/X.env.scope.names.lookup x = some .local:=by first | exact .inl rfl | exact .inr rfl | assumption) :
  PSt X (.Assign [.Name x a] e b) (xE c (nU i)):=lI (aM h f d (i4 j) l g)
end
structure LamD where
 qual:Str
 params:Arguments
 body:Expr
 scope:Scope
def gG(f:Addr)(d:LamD)(clos:List (Str×Addr))(c:Addr):Heap->Prop:=λh=>∃ pm ctv,h.get? f=some (kla_obj "<lambda>" d.qual d.params d.body d.scope clos pm c ctv)
def dG(c:Addr)(v:V):Heap->Prop:=λh=>∃ o u,h.get? c=some o/\o.data=.cell (some u)/\RelV v u
def fe(c:Addr)(q:Str):Heap->Prop:=λh=>∃ o vs t,h.get? c=some o/\o.data=.fields vs/\vs[1]? = some (.str q t)
section
variable {P:Program}{w:World}{H:Hp}{h:Heap}
theorem qo{f:Addr}{d:LamD}{b:List (Str×Addr)}{c:Addr}{g a:Value}(e:h.get? f=some (kla_obj "<lambda>" d.qual d.params d.body d.scope b g c a)):ObjOk P w H h f (.ext (gG f d b c)) :=
 ⟨⟨g,a,e⟩,⟨_,e⟩,λl j ⟨g,a,i⟩ k=>⟨g,a,k _ i⟩⟩
theorem oh{c:Addr}{v:V}(x:dG c v h):ObjOk P w H h c (.ext (dG c v)) :=
 ⟨x,let ⟨o,_,e,_⟩:=x;⟨o,e⟩,λd b ⟨o,u,a,r⟩ k=>⟨o,u,k _ a,r⟩⟩
theorem vg{c:Addr}{q:Str}(x:fe c q h):ObjOk P w H h c (.ext (fe c q)) :=
 ⟨x,let ⟨o,_,_,e,_⟩:=x;⟨o,e⟩,λf d ⟨o,b,t,a,r⟩ k=>⟨o,b,t,k _ a,r⟩⟩
end
theorem yd(a:Addr)(o:Obj)(b:o.data≠.freed):∃ h:Heap,h.get? a=some o:=by
 refine⟨{ objs:=Array.replicate (a+1) o },?_⟩;obtain⟨c,d,f,g⟩:=o
 cases f <;> first | exact absurd rfl b | simp[Heap.get?]
theorem lr{c:Addr}{q:Str}{v:V}:HO.ext (fe c q)≠HO.ext (dG c v):=λe=>by
 injection e with e
 obtain⟨h,a⟩:=yd c { cls:=.none,data:=.fields #[.none,.str q 0] } (by intro z;cases z);have y:dG c v h:=by rw[<- e];exact⟨_,_,_,a,rfl,rfl⟩
 obtain⟨o,u,b,d,_⟩:=y;rw[a]at b;cases b;cases d
def BE:HO->Bool
 | .tbl _=>false
 | _=>true
def SameT(H H':Hp):Prop:=∀ b o,H b=some o->(BE o=true->H' b=some o)/\∃ o',H' b=some o'
theorem SameT.refl{H:Hp}:SameT H H:=λb o e=>⟨λ_=>e,o,e⟩
theorem SameT.trans{H d h:Hp}(a:SameT H d)(b:SameT d h):SameT H h:=λc o e=>by
 obtain⟨f,l,i⟩:=a c o e;obtain⟨g,p,j⟩:=b c l i;exact⟨λn=>(b c o (f n)).1 n,p,j⟩
theorem Same.t{H a:Hp}(s:Same H a):SameT H a:=λb o e=>⟨λ_=>s b o e,o,s b o e⟩
theorem SameT.at{H b:Hp}(s:SameT H b){a:Addr}{o:HO}(e:H a=some o)(n:BE o=true:=by rfl):b a=some o:=(s a o e).1 n
theorem SameT.free{H c:Hp}(s:SameT H c){a:Addr}(e:c a=none):H a=none:=by
 cases q:H a with
 | none=>rfl
 | some o=>obtain⟨_,d,b⟩:=s a o q;rw[e]at b;cases b
theorem SameT.put{H c:Hp}(s:SameT H c){a:Addr}{o:HO}(e:H a=none):SameT H (upd c a o):=λb u q=>by
 have n:b≠a:=λz=>by rw[z,e]at q;cases q
 rw[af n];exact s b u q
def Ca(H:Hp)(P:Addr)(ls:List (Pos×Str)):Prop:=∃ ps,H P=some (.tbl ps)/\TriplesOk ps.toList/\∀ l∈ls,codeAmong l.1 ps.toList=none\/∃ c,codeAmong l.1 ps.toList=some (.ref c)/\H c=some (.ext (fe c l.2))
abbrev mH:=List (Addr×List (Pos×Str))
def TabsOk(tabs:mH)(H:Hp):Prop:=∀ q∈tabs,Ca H q.1 q.2
theorem TabsOk.same{d:mH}{H f:Hp}(t:TabsOk d H)(s:Same H f):TabsOk d f:=λq g=>by
 obtain⟨n,o,h,j⟩:=t q g;exact⟨n,s _ _ o,h,λl i=>(j l i).imp id λ⟨c,a,b⟩=>⟨c,a,s _ _ b⟩⟩
theorem TabsOk.put{d:mH}{H:Hp}{r:Addr}{o:HO}(t:TabsOk d H)(n:∀ ps,H r≠some (.tbl ps))(p:∀ φ,H r≠some (.ext φ)):TabsOk d (upd H r o):=λq g=>by
 obtain⟨ps,f,h,j⟩:=t q g;refine⟨ps,?_,h,λl i=>(j l i).imp id λ⟨c,a,b⟩=>⟨c,a,?_⟩⟩
 .rw[af λz=>n ps (by rw[<- z];exact f)];exact f
 .rw[af λz=>p _ (by rw[<- z];exact b)];exact b
theorem n0{p d:Pos}{c:Value}(l:List Value)(h:TriplesOk l)(f:¬(p.line=d.line/\p.col=d.col)):codeAmong d (l++[rawInt p.line,rawInt p.col,c])=codeAmong d l:=by
 fun_induction TriplesOk l with
 | case1 =>
  simp only[List.nil_append,codeAmong,rawInt];rw[if_neg];intro z;rw[Bool.and_eq_true,beq_iff_eq,beq_iff_eq]at z;exact f ⟨by lia,by lia⟩
 | case2 a t b u x rest ih =>
  simp only[cons_append,codeAmong];rw[ih h]
 | case3=>exact h.elim
theorem kX{p:Pos}{c:Value}(l:List Value)(h:TriplesOk l):TriplesOk (l++[rawInt p.line,rawInt p.col,c]):=by
 fun_induction TriplesOk l with
 | case1=>simp[TriplesOk,rawInt]
 | case2 a t b u x rest ih=>exact ih h
 | case3=>exact h.elim
def Bm(mg:Str->Option Value)(base:Heap):Prop:=∃ bm ob,mg "__builtins__" = some (.ref bm)/\base.get? bm=some ob/\ob.cls=.type "module" /\ ob.dict=some builtinsNs/\ob.data=.plain
def CS(tabs:mH)(d:LamD)(clos:List (Str×Addr)):TE:=λσ H Q=>TabsOk tabs H/\∀ f c H1,SameT H H1->TabsOk tabs H1->H f=none->H1 f=some (.ext (gG f d clos c))->H1 c=some (.ext (fe c d.qual))->Q (.ref f) H1
theorem kU{b c:Type}:∀{l:List (b×c)},(l.map (·.1)).Nodup->∀ x∈l,∀ y∈l,x.1=y.1->x=y
 | [],_,x,hx,_,_,_=>by cases hx
 | a::r,nd,x,hx,y,hy,e=>by
  rw[map_cons,nodup_cons]at nd
  rcases mem_cons.mp hx with rfl | hx' <;> rcases mem_cons.mp hy with rfl | hy'
  .rfl
  .exact absurd (mem_map.mpr ⟨y,hy',e.symm⟩) nd.1
  .exact absurd (mem_map.mpr ⟨x,hx',e⟩) nd.1
  .exact kU nd.2 x hx' y hy' e
theorem pY:∀{l:List (Pos×Str)},(l.Pairwise λx y=>¬(x.1.line=y.1.line/\x.1.col=y.1.col))->∀ x∈l,∀ y∈l,(x.1.line=y.1.line/\x.1.col=y.1.col)->x=y
 | [],_,x,hx,_,_,_=>by cases hx
 | a::r,nd,x,hx,y,hy,e=>by
  rw[pairwise_cons]at nd
  rcases mem_cons.mp hx with rfl | hx' <;> rcases mem_cons.mp hy with rfl | hy'
  .rfl
  .exact absurd e (nd.1 y hy')
  .exact absurd ⟨e.1.symm,e.2.symm⟩ (nd.1 x hx')
  .exact pY nd.2 x hx' y hy' e
section
variable {X:Cx}{tabs:mH}{P c:Addr}{ls:List (Pos×Str)}{d:LamD}{clos:List (Str×Addr)}{pos:Pos}
theorem hV(R:X.env.code=.ref c)(hC:codeHdIn X.K c P=true)(hB:Bm X.mg X.base)(hq:X.env.qual ++ "<lambda>" = d.qual)(O:closureFor d.scope X.env=pure clos)(N:defaultsOf d.params X.env=([],[]))
  (hm:(P,ls)∈tabs) (hl:(pos,d.qual)∈ls) (a4:(tabs.map (·.1)).Nodup) (a8:ls.Pairwise λx y=>¬(x.1.line=y.1.line/\x.1.col=y.1.col)):PE X (.Lambda d.params d.body d.scope pos) (CS tabs d clos):=by
 intro bn s σ H Q I h;obtain⟨hT,hQ⟩:=h;refine PySem.W.kla_eval N ?_;rw[hq];obtain⟨K,w,p,al⟩:=hT _ hm;have B:s.heap.Ns mainGlobals X.mg:=I.mod.glob.keeps I.bk;have C:CodeHd s.heap c P:=codeHd_of_K I.kIn hC;have r:s.heap.get? P=some (tabObj K):=I.hok P _ w
 have a':mainGlobals≠P:=λq=>by
  obtain⟨o,es,ep,e,hd,_⟩:=B;rw[q,r]at e;cases e;cases hd
 obtain⟨bm,ob,b1,b2,b3,b4,b5⟩:=hB;have T:=I.bk _ _ b2
 have a5:bm≠P:=λq=>by
  rw[q,r]at T;cases T;cases b3
 have bg:bm≠mainGlobals:=λq=>by
  obtain⟨o,es,ep,e,hd,_⟩:=B;rw[q,e]at T;cases T;rw[hd]at b5;cases b5
 have a6:bm≠builtinsNs:=λq=>by
  obtain⟨mb,⟨o,es,ep,e,hd,_⟩,_⟩:=I.mod.blt;rw[q,e]at b2;cases b2;rw[hd]at b5;cases b5
 have BA:s.heap.BuiltinsAt X.mg P:=⟨bm,ob,b1,a6,bg,a5,T,b3,b4,b5⟩
 rcases al _ hl with hn | ⟨i,hc,as⟩
 .refine PySem.W.kla_makeFunction (mg:=X.mg) O I.ok.glob B R C r p hn a' BA λi L h' tk hx A G M a3=>?_
  have S:H i=none:=I.hok.fresh A;have j:H h'.objs.size=none:=I.hok.fresh (Nat.le_trans A (Nat.le_of_lt G));have Y:i≠h'.objs.size:=Nat.ne_of_lt G;have an:P≠i:=ay w S;have W:P≠h'.objs.size:=ay w j
  obtain⟨f,hf⟩:∃ f,f=h'.objs.size:=⟨_,rfl⟩
  obtain⟨ob',hob⟩:∃ o,o=kla_obj "<lambda>" d.qual d.params d.body d.scope clos ((X.mg "__name__").getD .none) i L:=⟨_,rfl⟩
  have a1:(h'.push ob').get? f=some ob':=by rw[hf,hob];exact Heap.get?_push_size _ rfl
  have l:∀ b o,b≠P->s.heap.get? b=some o->(h'.push ob').get? b=some o:=λb o n e=>Heap.get?_push_of_some _ (hx b o n e)
  have E:(h'.push ob').get? P=some (tabObj (K ++ #[rawInt pos.line,rawInt pos.col,.ref i])):=Heap.get?_push_of_some _ a3
  have a9:fe i d.qual (h'.push ob'):=by
   obtain⟨D,oc,vs,t,e2,a7,bl,hv⟩:=M;cases e2;exact⟨oc,vs,t,Heap.get?_push_of_some _ a7,bl,hv⟩
  rw[<- hf]at j Y W ⊢;rw[<- hob]
  obtain⟨H1,hH1⟩:∃ H1,H1=upd (upd (upd H P (.tbl (K ++ #[rawInt pos.line,rawInt pos.col,.ref i]))) i (.ext (fe i d.qual))) f (.ext (gG f d clos i)):=⟨_,rfl⟩
  have gf:H1 f=some (.ext (gG f d clos i)):=by rw[hH1];exact ad
  have gc:H1 i=some (.ext (fe i d.qual)):=by rw[hH1,af Y];exact ad
  have gP:H1 P=some (.tbl (K ++ #[rawInt pos.line,rawInt pos.col,.ref i])):=by rw[hH1,af W,af an];exact ad
  have go:∀ b,b≠P->b≠i->b≠f->H1 b=H b:=λb h1 h2 h3=>by rw[hH1,af h3,af h2,af h1]
  have g:∀ b o,b≠P->H b=some o->H1 b=some o:=λb o n e=>by rw[go b n (ay e S) (ay e j)];exact e
  have F:∀ b o,H b=some o->(∀ qs,o≠.tbl qs)->b≠P:=λb o e n z=>by rw[z,w]at e;cases e;exact n K rfl
  have un:Un X.fs [] H H1 s.heap (h'.push ob'):=by
   refine⟨λb o e n _ _=>l b o (λz=>by rw[z,w]at n;cases n) e,λb o e n _ _=>⟨o.slots,l b o (λz=>by rw[z,w]at n;cases n) e⟩,λb o e n _=>?_,λb o e _=>?_,λb xs e=>g b _ (F b _ e λ_ z=>nomatch z) e,λb o u e=>g b _ (F b _ e λ_ z=>nomatch z) e,λb qs e=>?_⟩
   .have hb:b<s.heap.objs.size:=Heap.lt_size e
    rw[go b (λz=>by rw[z,w]at n;cases n) (Nat.ne_of_lt (Nat.lt_of_lt_of_le hb A)) (by rw[hf];exact Nat.ne_of_lt (Nat.lt_of_lt_of_le hb (Nat.le_trans A (Nat.le_of_lt G))))];exact n
   .by_cases hb:b=P
    .rw[hb];exact⟨_,E⟩
    .exact⟨o,l b o hb e⟩
   .by_cases hb:b=P
    .rw[hb,w]at e
     cases e;rw[hb];exact⟨_,gP⟩
    .exact⟨#[],by rw[g b _ hb e];simp⟩
  have a0:HOk X.prog X.w H1 (h'.push ob'):=λa o e=>by
   by_cases h1:a=f
   .subst h1;rw[gf]at e;cases e;exact qo (by rw[a1,hob])
   by_cases h2:a=i
   .subst h2;rw[gc]at e;cases e;exact vg a9
   by_cases h3:a=P
   .subst h3;rw[gP]at e;cases e;exact E
   rw[go a h3 h2 h1]at e;refine(I.hok a o e).stay (λb u hb q=>l b u ?_ q) (λb q=>g b _ (F b _ q λ_ z=>nomatch z) q) λb xs q=>g b _ (F b _ q λ_ z=>nomatch z) q
   rcases hb with rfl | hb
   .exact h3
   .exact F b _ hb λ_ z=>nomatch z
  refine⟨.ref f,H1,I.un (h':=h'.push ob') (t':=tk) un a0,rfl,hQ f i H1 (λb o e=>?_) (λq hq'=>?_) j gf gc⟩
  .by_cases hb:b=P
   .subst hb
    rw[w]at e;cases e;exact⟨λz=>(Bool.false_ne_true z).elim,_,gP⟩
   .exact⟨λ_=>g b o hb e,o,g b o hb e⟩
  .by_cases hqP:q.1=P
   .have a2:q=(P,ls):=kU a4 q hq' (P,ls) hm hqP
    subst a2;refine⟨_,gP,by rw[Array.toList_append];exact kX _ p,λJ v=>?_⟩;rw[Array.toList_append]
    by_cases hp:pos.line=J.1.line/\pos.col=J.1.col
    .have:=pY a8 (pos,d.qual) hl J v hp
     subst this;exact .inr ⟨i,codeAmong_snoc _ p hn,gc⟩
    .have eo:=n0 (c:=.ref i) K.toList p hp
     rcases al J v with z | ⟨D,z1,Z⟩
     .exact .inl (eo.trans z)
     .exact .inr ⟨D,eo.trans z1,g D _ (F D _ Z λ_ z=>nomatch z) Z⟩
   .obtain⟨qs,e1,e2,e3⟩:=hT q hq'
    exact⟨qs,g _ _ hqP e1,e2,λJ v=>(e3 J v).imp id λ⟨D,z1,Z⟩=>⟨D,z1,g D _ (F D _ Z λ_ z=>nomatch z) Z⟩⟩
 .refine PySem.W.kla_makeFunctionHit (mg:=X.mg) O I.ok.glob B R C r p hc BA λL h' tk hk ab=>?_
  have j:H h'.objs.size=none:=I.hok.fresh ab;have sm:Same H (upd H h'.objs.size (.ext (gG h'.objs.size d clos i))):=Same.new j;refine⟨.ref h'.objs.size,_,I.laid (a:=h'.objs.size) (o:=.ext (gG h'.objs.size d clos i)) (t':=tk) (λb u e=>Heap.get?_push_of_some _ (hk b u e)) ab (qo (Heap.get?_push_size _ rfl)),rfl,hQ _ i _ sm.t (hT.same sm) j ad (sm _ _ as)⟩
end
def untrs(H:Hp)(cs:List Addr):Hp:=λb=>if b∈cs then none else H b
theorem eJ{H:Hp}{a:List Addr}{b:Addr}(h:b∈a):untrs H a b=none:=by unfold untrs;rw[if_pos h]
theorem ba{H:Hp}{a:List Addr}{b:Addr}(h:b ∉ a):untrs H a b=H b:=by unfold untrs;rw[if_neg h]
theorem dg{H:Hp}{a:List Addr}{b:Addr}(h:H b=none):untrs H a b=none:=by unfold untrs;split <;> first | rfl | exact h
abbrev CellsAt(H:Hp):List (Str×Addr)->List V->Prop:=Paired λ(p:Str×Addr) (v:V)=>H p.2=some (.ext (dG p.2 v))
theorem CellsAt.mem{H:Hp}:∀{clos:List (Str×Addr)}{vals:List V},CellsAt H clos vals->∀ p∈clos,∃ v,H p.2=some (.ext (dG p.2 v))
 | _,_,.nil,p,h=>by cases h
 | _,_,.cons r t,p,h=>by
  rcases mem_cons.mp h with rfl | h
  .exact⟨_,r⟩
  .exact CellsAt.mem t p h
theorem CellsAt.get{H:Hp}:∀{clos:List (Str×Addr)}{vals:List V}{i:Nat}{v:V},CellsAt H clos vals->vals[i]? = some v->∃ p,clos[i]? = some p/\H p.2=some (.ext (dG p.2 v))
 | _,_,_,_,.nil,h=>by cases h
 | _,_,0,_,.cons r t,h=>by cases h;exact⟨_,rfl,r⟩
 | _,_,i+1,_,.cons r t,h=>CellsAt.get (i:=i) t h
theorem CellsAt.at{H:Hp}{a:List (Str×Addr)}{c:List V}(f:CellsAt H a c){b:Addr}(d:b∈a.map (·.2)):∃ v,H b=some (.ext (dG b v)):=by
 obtain⟨p,g,rfl⟩:=mem_map.mp d;exact f.mem p g
theorem bQ{H:Hp}{a:List (Str×Addr)}{c:List V}{b:Addr}{o:HO}(d:CellsAt H a c)(h:H b=some o)(n:∀ v,o≠.ext (dG b v)):untrs H (a.map (·.2)) b=some o:=by
 rw[ba λz=>?_]
 .exact h
 .obtain⟨v,e⟩:=d.at z
  rw[h]at e;exact n v (Option.some.inj e)
theorem dD{a:Type}:∀{l:List (Str×a)}{x:Str}{u:a},(l.map (·.1)).Nodup->(x,u)∈l->l.lookup x=some u
 | [],_,_,_,h=>by cases h
 | (y,w)::r,x,u,nd,h=>by
  rw[map_cons,nodup_cons]at nd
  rcases mem_cons.mp h with e | h
  .cases e;simp[List.lookup]
  .have:x≠y:=λz=>nd.1 (mem_map.mpr ⟨(x,u),h,z⟩)
   rw[lookup_cons,beq_eq_false_iff_ne.mpr this];exact dD nd.2 h
theorem rM{a:Type}{l:List a}(h:l.Nodup):l.reverse.Nodup:=by
 unfold List.Nodup at h ⊢;rw[List.pairwise_reverse];exact h.imp λn z=>n z.symm
def hZ(d:LamD)(L f c:Addr)(clos:List (Str×Addr)):Env:={ scope:=d.scope,locals:=L,globals:=mainGlobals,cells:=clos,qual:=d.qual ++ ".<locals>.",func:=some f,code:=.ref c,frame:=some L,builtins:=builtinsNs }
def cxL(P:Program)(w:World)(K:Frag)(mg:Str->Option Value)(base:Heap)(N:List Str)(d:LamD)(clos:List (Str×Addr))(f c:Addr)(A:Around)(outer:List Env)(s:Shared)(H:Hp):Cx where
 prog:=P
 w:=w
 K:=K
 mg:=mg
 base:=base
 A:=A.deeper (hZ d s.heap.objs.size f c clos)
 N:=N
 s₀:=s
 H₀:=untrs H (clos.map (·.2))
 env:=hZ d s.heap.objs.size f c clos
 outer:=outer
 stack:=hZ d s.heap.objs.size f c clos::outer
 ex:=[]
 calm:=true
 fn:=λ_=>false
 pn:=[]
 xe:=λ_ _=>False
def LamOkC(P:Program)(w:World)(K:Frag)(mg:Str->Option Value)(base:Heap)(k:Nat)(d:LamD)(fv ps:List Str)(sp:List (Str×Addr)->List V->Sp):Prop :=
 ∀(A:Around) (outer:List Env) (s:Shared) (H:Hp) (f c:Addr) (clos:List (Str×Addr)) (us:List Value) (vs vals:List V) (Q:VK) (E:XK),Room k A->Env0 P w K mg base A outer s H->H f=some (.ext (gG f d clos c))->H c=some (.ext (fe c d.qual)) ->
  clos.map (·.1)=fv->(clos.map (·.2)).Nodup->CellsAt H clos vals->Vals vs us->sp clos vals vs H Q E->codeAny (model P w) A (.call (.ref f) ⟨us,[]⟩) (CR CX0 outer P w H s Q E) s
def LamOk(P:Program)(w:World)(K:Frag)(mg:Str->Option Value)(base:Heap)(k:Nat)(d:LamD)(fv ps:List Str)(sp:List V->Sp):Prop:=LamOkC P w K mg base k d fv ps λ_=>sp
structure LamScope(d:LamD)(fv ps:List Str):Prop where
 kind:d.scope.kind=.function
 co:d.scope.isCoroutine=false
 gen:d.scope.isGenerator=false
 nocell:∀ x∈d.scope.names,x.2≠.cell
 par:∀ x ∈ ps,d.scope.names.lookup x = some .local
 free:∀ x∈d.scope.names,x.2=.free->x.1∈fv
 fr:∀ x∈fv,d.scope.names.lookup x=some .free
 nd:(ps++fv).Nodup
theorem cI{a b:Type}[BEq a][LawfulBEq a]:∀{l:List (a×b)}{x:a}{u:b},l.lookup x=some u->(x,u)∈l
 | [],_,_,h=>by cases h
 | (y,w)::r,x,u,h=>by
  rw[lookup_cons]at h;cases e:x == y with
  | true=>rw[e]at h;cases h;rw[eq_of_beq e];exact mem_cons_self ..
  | false=>rw[e]at h;exact mem_cons_of_mem _ (cI h)
theorem pD{P:Program}{w:World}{K:Frag}{mg:Str->Option Value}{E:Heap}{d:LamD}{J ps:List Str}{a:List (Str×Addr)}{f c:Addr}{A:Around}{j:List Env}{s:Shared}{H:Hp}{us:List Value}{vs g:List V}{I:Heap}{tk:Nat}
  (S:LamScope d J ps) (hd:A.handled=none) (C:Env0 P w K mg E A j s H) (hl:vs.length=ps.length) (r:Vals vs us) (D:a.map (·.1)=J) (al:(a.map (·.2)).Nodup) (Q:CellsAt H a g)
  (T:I.Ns s.heap.objs.size (λx=>(ps.zip us).reverse.lookup x)) (hk:∀ b o,s.heap.get? b=some o->I.get? b=some o) :
  Inv (cxL P w K mg E (ps++J) d a f c A j s H) [] ((vs++g).map some) (untrs H (a.map (·.2))) { s with heap:=I,toks:=tk }:=by
 have O:(a.map (·.1)).Nodup:=by rw[D];exact(nodup_append.mp S.nd).2.1
 have W:ps.Nodup:=(nodup_append.mp S.nd).1;have a0:us.length=ps.length:=by rw[<- r.length];exact hl
 have R:∀ x l,a.lookup x=some l->l∈a.map (·.2):=λx l e=>mem_map.mpr ⟨(x,l),cI e,rfl⟩
 have n:∀ b v,H b=some (.ext (dG b v))->∃ u,RelV v u/\I.IsCell b (some u):=λb v e=>by
  obtain⟨⟨o,u,F,B,g3⟩,_⟩:=C.hok b _ e;exact⟨u,g3,o,hk _ _ F,B⟩
 have L:∀ b:Addr,b ∉ (cxL P w K mg E (ps++J) d a f c A j s H).ex:=λb z=>absurd (show b∈([]:List Addr) from z) (by simp)
 have an:a.length=J.length:=by rw[<- D,length_map]
 have as:g.length=a.length:=(Paired.length Q).symm
 refine⟨⟨C.mod,S.kind,rfl,rfl,Nat.le_refl _,λy z l I h2=>?_,λy hy=>?_,λy l h=>(Bool.false_ne_true h).elim,λ_=>hd,Around.frames_deeper C.frames,.inr ⟨rfl,rfl⟩,λb z=>absurd z (L b),λb o e=>⟨(C.bs b o e).1,dg (C.bs b o e).2⟩,C.bsz,λb _ _=>L b,λb z=>absurd z (L b),C.funs,λb hb=>dg (C.frf b hb)⟩,
  rfl,C.bare,Un.kept hk,⟨_,T,λi y v F B g3=>?_⟩,λy l h=>?_,dg (C.hok.fresh (Nat.le_refl _)),λy l h=>eJ (R y l h),λp N=>absurd (show p∈([]:List (Addr×Obj)) from N) (by simp),λb u e=>?_,?_⟩
 .have I:a.lookup y=some l:=I
  have h2:a.lookup z=some l:=h2;have e1:=cI I;have e2:=cI h2;have Z:((a.map λp=>(p.2,p.1)).map (·.1)).Nodup:=by rw[map_map];exact al
  have:=kU Z (l,y) (mem_map.mpr ⟨_,e1,rfl⟩) (l,z) (mem_map.mpr ⟨_,e2,rfl⟩) rfl;exact congrArg Prod.snd this
 .have hy:d.scope.names.lookup y=some .cell\/d.scope.names.lookup y=some .free:=hy
  rcases hy with hy | hy
  .exact absurd rfl (S.nocell _ (cI hy))
  .have:=S.free _ (cI hy) rfl
   rw[<- D]at this;obtain⟨p,N,e⟩:=mem_map.mp this;have e':p.1=y:=e;exact⟨p.2,dD O (by show(y,p.2)∈a;rw[<- e'];exact N)⟩
 .have F:(ps++J)[i]? = some y:=F
  by_cases hi:i<ps.length
  .rw[List.getElem?_append_left hi]at F
   rw[List.getElem?_map,List.getElem?_append_left (by lia)]at B
   have M:vs[i]? = some v:=by
    cases q:vs[i]? with
    | none=>rw[q]at B;cases B
    | some x=>rw[q]at B;cases B;rfl
   obtain⟨u,hu,X⟩:=r.get M;refine⟨u,X,.inl ⟨S.par y (List.mem_of_getElem? F),?_⟩⟩;have ab:(y,u)∈ps.zip us:=List.mem_of_getElem? (i:=i) (by rw[List.getElem?_zip_eq_some];exact⟨F,hu⟩);refine dD ?_ (List.mem_reverse.mpr ab);rw[List.map_reverse];refine rM ?_;have:(ps.zip us).map (·.1)=ps:=by rw[List.map_fst_zip];lia
   rw[this];exact W
  .rw[List.getElem?_append_right (by lia)]at F
   rw[List.getElem?_map,List.getElem?_append_right (by lia)]at B
   have M:g[i - ps.length]? = some v:=by
    rw[hl]at B;cases q:g[i - ps.length]? with
    | none=>rw[q]at B;cases B
    | some x=>rw[q]at B;cases B;rfl
   obtain⟨p,N,e⟩:=Q.get M;rw[<- D,List.getElem?_map,N]at F;cases F;obtain⟨u,X,ic⟩:=n _ _ e;have G:=List.mem_of_getElem? N;refine⟨u,X,.inr ⟨.inr (S.fr p.1 ?_),p.2,dD O G,ic⟩⟩;rw[<- D];exact mem_map.mpr ⟨p,G,rfl⟩
 .obtain⟨v,e⟩:=Q.at (R y l h)
  obtain⟨u,_,ic⟩:=n _ _ e;exact⟨_,ic⟩
 .by_cases hb:b∈a.map (·.2)
  .rw[eJ hb]at e;cases e
  .rw[ba hb]at e
   refine(C.hok b u e).stay (λY u' _ q=>hk Y u' q) (λY q=>?_) λY xs q=>?_
   .exact bQ Q q λv z=>nomatch z
   .exact bQ Q q λv z=>nomatch z
 .show((vs++g).map some).length=(ps++J).length
  rw[length_map,length_append,length_append];lia
section
variable {P:Program}{w:World}{K:Frag}{mg:Str->Option Value}{base:Heap}
theorem p9{d:LamD}{N ps:List Str}{k:Nat}{sp:List (Str×Addr)->List V->Sp}(S:LamScope d N ps)
  (x:∀(pm ctv:Value) (clos:List (Str×Addr)) (c:Addr) (us:List Value),us.length=ps.length->bindArgs (kla_fn "<lambda>" d.qual d.params d.body d.scope clos pm (.ref c) ctv) ⟨us,[]⟩=pure (ps.zip us))
  (W:∀ clos vals vs H Q E,sp clos vals vs H Q E->vs.length=ps.length)
  (l:∀(A:Around) (outer:List Env) (s:Shared) (H:Hp) (f c:Addr) (clos:List (Str×Addr)) (vals vs:List V) (Q:VK) (E:XK),Room k (A.deeper (hZ d s.heap.objs.size f c clos))->clos.map (·.1)=N->CellsAt H clos vals->sp clos vals vs H Q E ->
   ∃ t,PE (cxL P w K mg base (ps++N) d clos f c A outer s H) d.body t/\t ((vs++vals).map some) (untrs H (clos.map (·.2))) (λv H'=>∀ H3,Same H' H3->(∀ p∈clos,H3 p.2=H p.2)->Q v H3)) :
  LamOkC P w K mg base (k+1) d N ps sp:=by
 intro A outer s H f c clos us vs vals Q E T i hf hc G ab C r F;have hl:=W _ _ _ _ _ _ F;have Y:us.length=ps.length:=by rw[<- r.length];exact hl
 obtain⟨⟨pm,ctv,ef⟩,_,_⟩:=i.hok f _ hf;obtain⟨⟨oc,X,ct,ec,ed,ev⟩,_,_⟩:=i.hok c _ hc;have O:s.heap.NoLimit:=i.mod.nolimit.keeps λb o e=>(i.bs b o e).1
 obtain⟨t,ht,hq⟩:=l A outer s H f c clos vals vs Q E (T.deeper _) G C F;refine PySem.W.kla_callFunE (body:=d.body) T.depth ef rfl S.co S.gen rfl ⟨c,oc,X,ct,rfl,ec,ed,ev⟩ ?_;rw[x pm ctv clos c us Y];refine wpAny_pure (wpAny_newFunctionEnv S.nocell (λy hy=>S.par y.1 (of_mem_zip hy).1) (λh1 hns hsb=>?_) S.kind);have hk:∀ b o,s.heap.get? b=some o->h1.get? b=some o:=λb o e=>hsb.extBut b o (Nat.ne_of_lt (Heap.lt_size e)) (Heap.get?_push_of_some _ e)
 refine⟨O.fresh _ hsb,?_⟩;show codeAny _ _ (.expr d.body (hZ d s.heap.objs.size f c clos)) _ _;have I:=pD (f:=f) (c:=c) (tk:=s.toks+(ps.zip us).length) S T.hd i hl r G ab C hns hk;refine PySem.W.kla_codeExpr (wpAny_mono (ht [] _ _ _ _ I hq) (λu s' hs=>?_) λe s' z=>False.elim z);obtain⟨v,H',J,rv,q⟩:=hs
 obtain⟨cs,hcs⟩:∃ cs,cs=clos.map (·.2):=⟨_,rfl⟩
 have h:Un (frs outer) [] (untrs H (clos.map (·.2))) H' s.heap s'.heap:=J.base
 have B:∀ b,b∈clos.map (·.2)->∃ o v,s.heap.get? b=some o/\H b=some (.ext (dG b v)):=λb a=>by
  obtain⟨v,e⟩:=C.at a;obtain⟨⟨o,_,g,_⟩,_⟩:=i.hok b _ e;exact⟨o,v,g,e⟩
 have R:∀ b∈clos.map (·.2),H' b=none:=λb a=>by
  obtain⟨o,v,g,_⟩:=B b a;exact h.free b o g (eJ a) (by simp)
 let H3:Hp:=λb=>if b∈clos.map (·.2) then H b else H' b
 have g1:∀ b,b∈clos.map (·.2)->H3 b=H b:=λb a=>if_pos a
 have Z:∀ b,b ∉ clos.map (·.2)->H3 b=H' b:=λb a=>if_neg a
 have D:Same H' H3:=λb o e=>by
  rw[Z b λz=>by rw[R b z]at e;cases e];exact e
 have up:∀ b o,H b=some o->(∀ v,o≠.ext (dG b v))->b ∉ clos.map (·.2):=λb o e n z=>by
  obtain⟨v,j⟩:=C.at z;rw[e]at j;exact n v (Option.some.inj j)
 refine⟨v,H3,J.os,J.bare,⟨λb o e n a L=>h.keep b o e (dg n) a L,λb o e n a L=>h.slot b o e (dg n) a L,λb o e n L=>?_,h.there,λb xs e=>?_,λb o u e=>?_,λb ps' e=>?_⟩,λb o e=>?_,rv,q H3 D λp hp=>g1 p.2 (mem_map.mpr ⟨p,hp,rfl⟩)⟩
 .rw[Z b λz=>by obtain⟨_,v,_,j⟩:=B b z;rw[n]at j;cases j]
  exact h.free b o e (dg n) L
 .exact D _ _ (h.tups b xs (bQ C e λv z=>nomatch z))
 .exact D _ _ (h.frzs b o u (bQ C e λv z=>nomatch z))
 .obtain⟨M,z⟩:=h.tbls b ps' (bQ C e λv z=>nomatch z)
  exact⟨M,D _ _ z⟩
 .by_cases a:b∈clos.map (·.2)
  .rw[g1 b a]at e
   obtain⟨o',v',g,j⟩:=B b a;rw[e]at j;cases j;obtain⟨⟨o2,u2,k1,k2,k3⟩,_⟩:=i.hok b _ e;refine oh ⟨o2,u2,h.keep b o2 k1 (eJ a) (λz=>?_) (by simp),k2,k3⟩;rw[i.frf b z]at e;cases e
  .rw[Z b a]at e
   refine(J.hok b o e).stay (λb' u' _ q=>q) (λb' q=>D _ _ q) λb' xs q=>D _ _ q
theorem jF{d:LamD}{g ps:List Str}{k:Nat}{sp:List V->Sp}(S:LamScope d g ps)
  (a:∀(pm ctv:Value) (clos:List (Str×Addr)) (c:Addr) (us:List Value),us.length=ps.length->bindArgs (kla_fn "<lambda>" d.qual d.params d.body d.scope clos pm (.ref c) ctv) ⟨us,[]⟩=pure (ps.zip us))
  (h:∀ vals vs H Q E,sp vals vs H Q E->vs.length=ps.length)
  (b:∀(A:Around) (outer:List Env) (s:Shared) (H:Hp) (f c:Addr) (clos:List (Str×Addr)) (vals vs:List V) (Q:VK) (E:XK),Room k (A.deeper (hZ d s.heap.objs.size f c clos))->clos.map (·.1)=g->CellsAt H clos vals->sp vals vs H Q E ->
   ∃ t,PE (cxL P w K mg base (ps++g) d clos f c A outer s H) d.body t/\t ((vs++vals).map some) (untrs H (clos.map (·.2))) (λv H'=>∀ H3,Same H' H3->(∀ p∈clos,H3 p.2=H p.2)->Q v H3)) :
  LamOk P w K mg base (k+1) d g ps sp:=p9 (sp:=λ_=>sp) S a (λ_=>h) b
end
theorem PE.or{X:Cx}{e:Expr}{t t':TE}(h:PE X e t)(h':PE X e t'):PE X e (λσ H Q=>t σ H Q\/t' σ H Q):=λa s σ H Q I q=>q.elim (h a s σ H Q I) (h' a s σ H Q I)
def qh(d:LamD)(fv:List Str)(sp:List (Str×Addr)->List V->Sp):V->List V->Hp->VK->Prop:=λv vs H Q=>∃ f c clos vals,v=.ref f/\H f=some (.ext (gG f d clos c))/\H c=some (.ext (fe c d.qual))/\clos.map (·.1)=fv/\(clos.map (·.2)).Nodup/\CellsAt H clos vals/\sp clos vals vs H Q λ_ _ _=>False
def uQ(d:LamD)(fv:List Str)(sp:List V->Sp):V->List V->Hp->VK->Prop:=qh d fv λ_=>sp
def Aw(d:LamD)(fv:List Str)(sp:List V->Sp)(tf:TE)(t:TA):TE:=λσ H Q=>tf σ H λv H1=>(∃ f d' clos c,v=.ref f/\H1 f=some (.ext (gG f d' clos c)))/\t σ H1 λvs H2=>(∀ f d' clos c,v=.ref f->H1 f=some (.ext (gG f d' clos c))->H2 f=some (.ext (gG f d' clos c)))/\uQ d fv sp v vs H2 Q
section
variable {X:Cx}{d:LamD}{fv ps:List Str}{k:Nat}{sp:List V->Sp}{x:Str}{p pos:Pos}{tf:TE}{t:TA}{e:Expr}{es:List Expr}
theorem qy{sp:List (Str×Addr)->List V->Sp}{a:List (Addr×Obj)}{σ:St}{H:Hp}{s:Shared}{Q:VK}{us:List Value}{vs:List V}{v:V}{u:Value}(L:LamOkC X.prog X.w X.K X.mg X.base k d fv ps sp)(j:Room k X.A)(I:Inv X a σ H s)(p:RelV v u)(r:Vals vs us)(h:qh d fv sp v vs H Q) :
  wpAny (model X.prog X.w) X.A (call u us) (EP X a σ Q) X.xe s:=by
 obtain⟨f,c,g,i,rfl,o,l,q,w,n,x⟩:=h;obtain rfl:u=Value.ref f:=p;refine wpAny_call (codeAny_mono (L X.A X.stack s H f c g us vs i Q _ j I.env0 o l q w n r x) λr y b=>?_);cases r with
 | error e=>exact False.elim b
 | ok fl =>
  cases fl with
  | ret u=>exact I.after b
  | next=>exact False.elim b
  | brk=>exact False.elim b
  | cont=>exact False.elim b
theorem lV{H:Hp}{s:Shared}{P:Program}{w:World}{f c:Addr}{d:LamD}{a:List (Str×Addr)}(h:HOk P w H s.heap)(g:H f=some (.ext (gG f d a c))):FnAt f s.heap:=by
 obtain⟨⟨j,i,b⟩,_,_⟩:=h f _ g;exact⟨_,_,_,_,b⟩
theorem gH(B:PE X (.Name x p) tf)(L:LamOk X.prog X.w X.K X.mg X.base k d fv ps sp)(y:Room k X.A)(z:PA X (e::es) t)
  (C:starEach (e::es) X.env=(false,eval e X.env)::starEach es X.env:=by rfl) (b:(backTo pos (starEach es X.env)).any (·.1)=false:=by rfl):PE X (.Call (.Name x p) (e::es) [] pos) (Aw d fv sp tf t):=by
 intro a s j H Q I h;refine wpAny_Call_Name_kw (thn (B a s j H _ I h) λu E ⟨v,w,i,A,⟨f,M,n,c,D,o⟩,q⟩=>?_);subst D;obtain rfl:u=Value.ref f:=A;refine PySem.W.callWith_F (lV i.hok o) (thn (z pos a E j w _ i q) λJ F ⟨G,K,g,r,l⟩=>⟨lV g.hok (l.1 _ _ _ _ rfl o),?_⟩) C b;exact qy L y g (v:=.ref f) rfl r l.2
theorem jG{sp:List (Str×Addr)->List V->Sp}(r:PE X (.Name x p) tf)(L:LamOkC X.prog X.w X.K X.mg X.base k d fv ps sp)(j:Room k X.A):PE X (.Call (.Name x p) [] [] pos) (λσ H Q=>tf σ H λv H1=>qh d fv sp v [] H1 Q):=by
 intro a s σ H Q I h;refine wpAny_Call_Name_kw (thn (r a s σ H _ I h) λu w ⟨v,H1,i,o,q⟩=>?_);obtain⟨f,c,b,g,l,n,_⟩:=id q;subst l;obtain rfl:u=Value.ref f:=o;exact PySem.W.callWith_F0 (lV i.hok n) (qy (us:=[]) L j i (v:=.ref f) rfl .nil q)
theorem ik(b:PE X (.Name x p) tf)(L:LamOk X.prog X.w X.K X.mg X.base k d fv ps sp)(a:Room k X.A):PE X (.Call (.Name x p) [] [] pos) (λσ H Q=>tf σ H λv H1=>uQ d fv sp v [] H1 Q):=jG b L a
end
abbrev TR:=VK->(V->St->Hp->Prop)->St->Hp->Prop
def PR(X:Cx)(sts:List Stmt)(t:TR):Prop :=
 ∀(pins:List (Addr×Obj)) (s:Shared) (σ:St) (H:Hp) (R:VK) (Z:V->St->Hp->Prop),Inv X pins σ H s->t R Z σ H ->
  wpAny (model X.prog X.w) X.A (execs sts X.env) (λf s'=>∃ u,f=.ret u/\((∃ v σ' H',Inv X pins σ' H' s'/\RelV v u/\(R v H'\/Z v σ' H'))\/∃ v H',s'.os=X.s₀.os/\AllBare s'.gens/\Un X.fs X.ex X.H₀ H' X.s₀.heap s'.heap/\HOk X.prog X.w H' s'.heap/\RelV v u/\R v H')) X.xe s
section
variable {X:Cx}{e:Expr}{te:TE}{pos:Pos}{st:Stmt}{rest:List Stmt}{t:TS}{u:TR}
theorem oP(d:PE X e te):PR X [.Return (some e) pos] (λ_ Z σ H=>te σ H λv H'=>Z v σ H'):=by
 intro a s σ H R Z I h;refine wpAny_execs_cons (wpAny_Return_some (thn (d a s σ H _ I h) λv i ⟨x,b,c,f,g⟩=>?_));exact⟨v,rfl,.inl ⟨x,σ,b,c,f,.inr g⟩⟩
theorem lP(j:PS X st t)(g:PR X rest u):PR X (st::rest) (λR Z σ H=>t { nx:=u R Z,rt:=R } σ H):=by
 intro a s σ H R Z I h;refine wpAny_execs_cons (thn (j a s σ H { nx:=u R Z,rt:=R } I h) λf i q=>?_);cases f with
 | next =>
  obtain⟨b,d,c,q⟩:=q;exact g a i b d R Z c q
 | ret v =>
  obtain⟨l,b,d,c,r,q⟩:=q;exact⟨v,rfl,.inl ⟨l,b,d,c,r,.inl q⟩⟩
 | brk=>obtain⟨_,_,_,q⟩:=q;exact False.elim q
 | cont=>obtain⟨_,_,_,q⟩:=q;exact False.elim q
end
def i8(cells:List (Str×Addr))(N:List Str)(σ:St)(H3:Hp):Prop:=∀(i:Nat) (y:Str) (v:V) (c:Addr),N[i]? = some y->σ[i]? = some (some v)->cells.lookup y=some c->H3 c=some (.ext (dG c v))
theorem gY{y:Str}{c:Addr}:∀(names:List (Str×NameKind)) (n:Nat) (acc:List (Str×Addr)),(y,c)∈cellsFrom n names acc->(y,c)∈acc\/(y,NameKind.cell)∈names
 | [],n,acc,h=>.inl h
 | (x,k)::r,n,acc,h=>by
  unfold cellsFrom at h
  split at h
  .rename_i hk
   rcases gY r (n+1) ((x,n)::acc) h with z | z
   .rcases mem_cons.mp z with e | z
    .cases e
     rw[eq_of_beq hk];exact .inr (mem_cons_self ..)
    .exact .inl z
   .exact .inr (mem_cons_of_mem _ z)
  .rcases gY r n acc h with z | z
   .exact .inl z
   .exact .inr (mem_cons_of_mem _ z)
section
variable {P:Program}{w:World}{K:Frag}{mg:Str->Option Value}{base:Heap}
theorem uz{CX:CXT}{N:List Str}{C:Str}{scope:Scope}{f:Addr}{Z:Value}{A:Around}{a:List Env}{s I:Shared}{H B:Hp}{E:XK}{σ:St}(hN:N.Nodup)(T:∀ p∈scope.names,p.2=.cell->scope.names.lookup p.1=some .cell)
  {M:List (Addr×Obj)}(J:Inv (dN CX P w K mg base N C scope f Z A a s H E) M σ B I) :
  ∃ H3,Same B H3/\i8 (cellsFrom (s.heap.objs.size+1) scope.names []) N σ H3/\(∀ b,B b=none->H3 b≠none->∃ y,(cellsFrom (s.heap.objs.size+1) scope.names []).lookup y=some b)/\Un (frs a) [] H H3 s.heap I.heap/\HOk P w H3 I.heap:=by
 have x:∀ y c,(cellsFrom (s.heap.objs.size+1) scope.names []).lookup y=some c->scope.names.lookup y=some .cell:=λy c e=>by
  rcases gY _ _ _ (cI e) with z | z
  .cases z
  .exact T _ z rfl
 obtain⟨cells,hcells⟩:∃ l,l=cellsFrom (s.heap.objs.size+1) scope.names []:=⟨_,rfl⟩
 rw[<- hcells]at x ⊢;have d:(dN CX P w K mg base N C scope f Z A a s H E).env.cells=cells:=hcells.symm
 let G:Addr->V->Prop:=λb v=>∃(i:Nat) (y:Str),N[i]? = some y/\σ[i]? = some (some v)/\cells.lookup y=some b
 have G1:∀ b v W,G b v->G b W->v=W:=by
  rintro b v W ⟨i,y,O,L,g⟩ ⟨j,z,b1,Y,b3⟩;have:y=z:=J.ok.inj y z b (by rw[d];exact g) (by rw[d];exact b3);subst this;have:i=j:=jR hN O b1;subst this;rw[L]at Y;cases Y;rfl
 have X:∀ b v,G b v->B b=none/\s.heap.objs.size<=b/\dG b v I.heap:=by
  rintro b v ⟨i,y,O,L,g⟩;refine⟨J.freeC y b (by rw[d];exact g),J.ok.cab y b rfl (by rw[d];exact g),?_⟩;obtain⟨m,hn,hl⟩:=J.loc;obtain⟨u,r,l⟩:=hl i y v O L (.inr (.inl (x y b g)))
  rcases l with⟨k,_⟩ | ⟨k,c,e,o,ho,hd⟩
  .exfalso
   have k:scope.names.lookup y = some .local:=k;rw[x y b g]at k;cases k
  .have e:cells.lookup y=some c:=by rw[<- d];exact e
   rw[g]at e;cases e;exact⟨o,u,ho,hd,r⟩
 classical
 let H3:Hp:=λb=>if h:∃ v,G b v then some (.ext (dG b (Classical.choose h))) else B b
 have g1:∀ b v,G b v->H3 b=some (.ext (dG b v)):=λb v h=>by
  have R:∃ v,G b v:=⟨v,h⟩
  show(if h:∃ v,G b v then some (.ext (dG b (Classical.choose h))) else B b)=_;rw[dif_pos R,G1 b _ v (Classical.choose_spec R) h]
 have S:∀ b,(¬∃ v,G b v)->H3 b=B b:=λb h=>dif_neg h
 have F:Same B H3:=λb o e=>by
  rw[S b λ⟨v,z⟩=>by rw[(X b v z).1]at e;cases e];exact e
 have D:Un (frs a) [] H B s.heap I.heap:=J.base;refine⟨H3,F,λi y v c O L g=>g1 c v ⟨i,y,O,L,g⟩,(λb n1 n2=>?_),⟨D.keep,D.slot,λb o e n R=>?_,D.there,λb xs e=>F _ _ (D.tups b xs e),λb o u e=>F _ _ (D.frzs b o u e),λb ps e=>?_⟩,λb o e=>?_⟩
 .by_cases h:∃ v,G b v
  .obtain⟨v,i,y,_,_,g⟩:=h
   exact⟨y,g⟩
  .rw[S b h]at n2
   exact absurd n1 n2
 .rw[S b λ⟨v,z⟩=>absurd (Nat.lt_of_lt_of_le (Heap.lt_size e) (X b v z).2.1) (Nat.lt_irrefl _)]
  exact D.free b o e n R
 .obtain⟨Q,z⟩:=D.tbls b ps e
  exact⟨Q,F _ _ z⟩
 .by_cases h:∃ v,G b v
  .obtain⟨v,h⟩:=h
   rw[g1 b v h]at e;cases e;exact oh (X b v h).2.2
  .rw[S b h]at e
   exact(J.hok b o e).stay (λb' u' _ q=>q) (λb' q=>F _ _ q) λb' xs q=>F _ _ q
theorem qF{N:List Str}{c:Str}{scope:Scope}{f:Addr}{i:Value}{A:Around}{a:List Env}{s:Shared}{H:Hp}{E:XK}{k:Nat}{g:Addr}{fd:FuncData}{ps:List Str}{sp:Sp}{ds:List Value}{C:List V}{x:Str}{p L rp:Pos}{e:Expr}{es:List Expr}{t:TA}
  (hN:N.Nodup) (an:∀ p∈scope.names,p.2=.cell->scope.names.lookup p.1=some .cell)
  (F:FnOk P w K mg base CX0 k g fd ps sp) (hr:Room k (dN CX0 P w K mg base N c scope f i A a s H E).nox.A) (hg:Gl (dN CX0 P w K mg base N c scope f i A a s H E).nox x) (hm:mg x=some (.ref g)) (hk:keepIn K (.ref g)=true) (l:Binds K fd ps ds) (hd:Vals C ds)
  (ha:PA (dN CX0 P w K mg base N c scope f i A a s H E).nox (e::es) t) (as:(x == ("__debug__" : Str))=false:=by decide)
  (he:starEach (e::es) (dN CX0 P w K mg base N c scope f i A a s H E).nox.env=(false,eval e (dN CX0 P w K mg base N c scope f i A a s H E).nox.env)::starEach es (dN CX0 P w K mg base N c scope f i A a s H E).nox.env:=by rfl)
  (ab:(backTo L (starEach es (dN CX0 P w K mg base N c scope f i A a s H E).nox.env)).any (·.1)=false:=by rfl) :
  PR (dN CX0 P w K mg base N c scope f i A a s H E).nox [.Return (some (.Call (.Name x p) (e::es) [] L)) rp]
   (λR _ σ H'=>t σ H' λvs H1=>∀ H3,Same H1 H3->i8 (cellsFrom (s.heap.objs.size+1) scope.names []) N σ H3->sp (vs++C) H3 R λ_ _ _=>False):=by
 intro D s1 σ H1 R Z I h;refine wpAny_execs_cons (wpAny_Return_some ?_);refine wpAny_Call_Name_kw (fR I hg hm ?_ as);refine callWith_K (h₀:=base) I.ok.mod.kin hk (thn (ha L D s1 σ H1 _ I h) λS X ⟨vs,H2,I2,r,q⟩=>⟨I2.kIn,?_⟩) he ab;have J:Inv (dN CX0 P w K mg base N c scope f i A a s H E) D σ H2 X:=I2.unwish;obtain⟨H3,sm,hc,M,B,a0⟩:=uz hN an J;have r2:Vals (vs++C) (S++ds):=r.append hd;have q':=q H3 sm hc;have hl:(S++ds).length=ps.length:=by rw[<- r2.length];exact F.len _ _ _ _ q'
 have hL:∀ b∈frs (envOfC c scope s.heap.objs.size f i::a),b=s.heap.objs.size\/b∈frs a:=λb l=>by
  have:b∈s.heap.objs.size::frs a:=l;exact mem_cons.mp this
 have e0:Env0 P w K mg base (dN CX0 P w K mg base N c scope f i A a s H E).A (envOfC c scope s.heap.objs.size f i::a) X H3:=by
  have z:=J.env0;refine⟨z.frames,z.mod,λb o e=>⟨(z.bs b o e).1,B.free b o (J.ok.bs b o e).1 (J.ok.bs b o e).2 (by simp)⟩,z.bsz,z.funs,λb l=>?_,a0,z.bare⟩;cases q3:H3 b with
  | none=>rfl
  | some o =>
   obtain⟨y,hy⟩:=M b (z.frf b l) (by rw[q3];simp)
   rcases hL b l with rfl | hb'
   .exact absurd rfl (J.cne y _ hy)
   .obtain⟨_,Y,al,_⟩:=J.ok.funs.mem hb'
    have:=J.ok.cab y b rfl hy;exact absurd (Nat.lt_of_lt_of_le (Heap.lt_size al) this) (Nat.lt_irrefl _)
 refine wpAny_call (codeAny_mono (F.run _ _ X H3 ⟨S,[]⟩ (S++ds) (vs++C) R _ hr e0 (l X S J.kIn hl) r2 q') λrr s' Q=>?_);cases rr with
 | error e=>exact False.elim Q
 | ok fl =>
  cases fl with
  | ret u =>
   obtain⟨v,H4,os,O,d,W,rv,qq⟩:=Q
   have T:∀ b o,s.heap.get? b=some o->b ∉ frs a->b ∉ frs (envOfC c scope s.heap.objs.size f i::a):=λb o e n z=>by
    rcases hL b z with rfl | z
    .exact absurd (Heap.lt_size e) (Nat.lt_irrefl _)
    .exact n z
   have a1:∀ b,b∈frs a->b∈frs (envOfC c scope s.heap.objs.size f i::a):=λb z=>by
    show b∈s.heap.objs.size::frs a;exact mem_cons_of_mem _ z
   refine⟨u,rfl,.inr ⟨v,H4,os.trans J.os,O,⟨λb o e n l j=>d.keep b o (B.keep b o e n l j) (B.free b o e n j) (T b o e l) j,λb o e n l j=>?_,λb o e n j=>?_,λb o e j=>?_,λb xs e=>d.tups b xs (B.tups b xs e),λb o u e=>d.frzs b o u (B.frzs b o u e),λb qs e=>?_⟩,W,rv,qq⟩⟩
   .obtain⟨sl,G⟩:=B.slot b o e n l j
    obtain⟨a2,e2⟩:=d.slot b _ G (B.free b o e n j) (a1 b l) j;exact⟨a2,e2⟩
   .obtain⟨Y,G⟩:=B.there b o e j
    exact d.free b Y G (B.free b o e n j) j
   .obtain⟨Y,G⟩:=B.there b o e j
    exact d.there b Y G j
   .obtain⟨m1,G⟩:=B.tbls b qs e
    obtain⟨m2,e2⟩:=d.tbls b _ G;exact⟨m1++m2,by rw[e2,Array.append_assoc]⟩
  | next=>exact False.elim Q
  | brk=>exact False.elim Q
  | cont=>exact False.elim Q
theorem Fun.okL{x a:Str}{d:Stmt}{f c:Addr}{C:FuncData}{N ps:List Str}{k:Nat}{sp:Sp}(F:Fun K x a d f C)(hc:C.code=.ref c)(S:FnScope N ps (ac d))(D:∀ p∈(ac d).names,p.2=.cell->(ac d).names.lookup p.1=some .cell)
  (l:∀ vs H Q E,sp vs H Q E->vs.length=ps.length)
  (g:∀(A:Around) (outer:List Env) (s:Shared) (H:Hp) (vs:List V) (Q:VK) (E:XK),Room k (A.deeper (envOfC a (ac d) s.heap.objs.size f (.ref c)))->sp vs H Q E ->
   ∃ t,PR (dN CX0 P w K mg base N a (ac d) f (.ref c) A outer s H E).nox (ag d) t/\t Q (λv σ H'=>∀ H3,Same H' H3->i8 (cellsFrom (s.heap.objs.size+1) (ac d).names []) N σ H3->Q v H3) (start N vs) H):FnOk P w K mg base CX0 (k+1) f C ps sp:=by
 obtain⟨oc,od,kV,as,pm,an,L,ct,a0,rfl,lk,M⟩:=F.ex;obtain rfl:L=.ref c:=hc;refine⟨l,λA outer s H W us vs Q E G j X r i=>?_⟩;have hl:=l _ _ _ _ i;have R:K.In s.heap:=j.mod.kin.keeps λb o e=>(j.bs b o e).1
 have B:s.heap.NoLimit:=j.mod.nolimit.keeps λb o e=>(j.bs b o e).1
 have h:∀ y ∈ ps.zip us,(ac d).names.lookup y.1 = some .local\/((ac d).names.lookup y.1 = some .cell/\((cellsFrom (s.heap.objs.size + 1) (ac d).names []).lookup y.1).isSome = true):=λ⟨n,v⟩ Y=>by
  rcases S.par n (of_mem_zip Y).1 with q | q
  .exact .inl q
  .exact .inr ⟨q,cellsFrom_some _ _ _ (.inl q)⟩
 refine codeAny_call_function G.depth (R _ _ lk) rfl S.co S.gen rfl (codeRec_of R M) (X _ _ _ _ ?_);refine wpAny_newFunctionEnv_cells S.kind h λab he T x=>?_
 subst he;refine⟨B.keeps x.toInCall.keep,codeAny_func ?_⟩;obtain⟨t,ht,hq⟩:=g A outer s H vs Q E (G.deeper _) i;have I:Inv (dN CX0 P w K mg base N a (ac d) f (.ref c) A outer s H E) [] (start N vs) H T:=gZ S G.hd j hl r x;refine wpAny_mono (ht [] T (start N vs) H Q _ (I.wish _) hq) (λfl Z O=>?_) λe Z O=>False.elim O
 obtain⟨u,rfl,⟨v,al,H',J,z,q⟩ | ⟨v,H',g1,g2,g3,g4,z,q⟩⟩:=O
 .have J:=J.unwish
  rcases q with q | q
  .exact⟨v,H',J.os,J.bare,J.base,J.hok,z,q⟩
  .obtain⟨H3,h1,h2,_,h3,h4⟩:=uz S.nd D J
   exact⟨v,H3,J.os,J.bare,h3,h4,z,q H3 h1 h2⟩
 .exact⟨v,H',g1,g2,g3,g4,z,q⟩
theorem Fun.okF{x a:Str}{d:Stmt}{f c:Addr}{C:FuncData}{N ps:List Str}{k:Nat}{sp:Sp}(F:Fun K x a d f C)(hc:C.code=.ref c)(S:FnScope N ps (ac d))(D:∀ p∈(ac d).names,p.2=.cell->(ac d).names.lookup p.1=some .cell)
  (l:∀ vs H Q E,sp vs H Q E->vs.length=ps.length)
  (g:∀(A:Around) (outer:List Env) (s:Shared) (H:Hp) (vs:List V) (Q:VK) (E:XK),Room k (A.deeper (envOfC a (ac d) s.heap.objs.size f (.ref c)))->sp vs H Q E ->
   ∃ t,PR (dN CX0 P w K mg base N a (ac d) f (.ref c) A outer s H E).nox (ag d) t/\t Q (λv σ H'=>∀ H3,Same H' H3->i8 (cellsFrom (s.heap.objs.size+1) (ac d).names []) N σ H3->(∀ y b,(cellsFrom (s.heap.objs.size+1) (ac d).names []).lookup y=some b->H' b=none)->Q v H3) (start N vs) H):FnOk P w K mg base CX0 (k+1) f C ps sp:=by
 obtain⟨oc,od,kV,as,pm,an,L,ct,a0,rfl,lk,M⟩:=F.ex;obtain rfl:L=.ref c:=hc;refine⟨l,λA outer s H W us vs Q E G j X r i=>?_⟩;have hl:=l _ _ _ _ i;have R:K.In s.heap:=j.mod.kin.keeps λb o e=>(j.bs b o e).1
 have B:s.heap.NoLimit:=j.mod.nolimit.keeps λb o e=>(j.bs b o e).1
 have h:∀ y ∈ ps.zip us,(ac d).names.lookup y.1 = some .local\/((ac d).names.lookup y.1 = some .cell/\((cellsFrom (s.heap.objs.size + 1) (ac d).names []).lookup y.1).isSome = true):=λ⟨n,v⟩ Y=>by
  rcases S.par n (of_mem_zip Y).1 with q | q
  .exact .inl q
  .exact .inr ⟨q,cellsFrom_some _ _ _ (.inl q)⟩
 refine codeAny_call_function G.depth (R _ _ lk) rfl S.co S.gen rfl (codeRec_of R M) (X _ _ _ _ ?_);refine wpAny_newFunctionEnv_cells S.kind h λab he T x=>?_
 subst he;refine⟨B.keeps x.toInCall.keep,codeAny_func ?_⟩;obtain⟨t,ht,hq⟩:=g A outer s H vs Q E (G.deeper _) i;have I:Inv (dN CX0 P w K mg base N a (ac d) f (.ref c) A outer s H E) [] (start N vs) H T:=gZ S G.hd j hl r x;refine wpAny_mono (ht [] T (start N vs) H Q _ (I.wish _) hq) (λfl Z O=>?_) λe Z O=>False.elim O
 obtain⟨u,rfl,⟨v,al,H',J,z,q⟩ | ⟨v,H',g1,g2,g3,g4,z,q⟩⟩:=O
 .have J:=J.unwish
  rcases q with q | q
  .exact⟨v,H',J.os,J.bare,J.base,J.hok,z,q⟩
  .obtain⟨H3,h1,h2,_,h3,h4⟩:=uz S.nd D J
   exact⟨v,H3,J.os,J.bare,h3,h4,z,q H3 h1 h2 λy b e=>J.freeC y b e⟩
 .exact⟨v,H',g1,g2,g3,g4,z,q⟩
end
theorem sC{P:Program}{w:World}{K:Frag}{mg mb:Str->Option Value}{CX:CXT}{k:Nat}{fa a:Addr}{fd:FuncData}{x:Str}{sp:Sp}{f:Shared}{vs:List Value}{N:List Int}{p:List Addr}
  (KX:K.In f.heap) (I:f.heap.Ns mainGlobals mg) (g:f.heap.Ns builtinsNs mb) (as:∀ x:Str,x ≠ "__name__" -> mb x=bootBuiltins x) (X:f.heap.NoLimit) (hg:f.gens = #[])
  (G:f.heap.get? a=some { cls:=.type "list",data:=.seq vs.toArray }) (hi:IntsAre vs N) (hl:N.length<=sizeLine) (hr:Room k callerA) (a0:Bm mg f.heap)
  (l:∀ P∈p,f.heap.get? P=some (tabObj #[])) (a3:∀ P∈p,∃ c,codeHdIn K c P=true) (a2:∀ P∈p,K.lookup P=none)
  (F:∀ base:Heap,K.In base->base.Ns mainGlobals mg->Bm mg base->FnOk P w K mg base CX k fa fd [x] sp) (E:∀(s:Shared) (u:Value),BindsTo s fd ⟨[u],[]⟩ [(x,u)])
  (ab:∀ H:Hp,(∀ P∈p,H P=some (.tbl #[]))->SqL K H a (N.map V.int)->sp [.ref a] H (λv _=>v=.bl true) λ_ _ _=>False)
  (al:∀ H e s',CX [] H f (λ_ _ _=>False) e s'->False) :
  codeAny (model P w) callerA (.call (.ref fa) ⟨[.ref a],[]⟩) (λr s'=>r=.ok (.ret (.bool true))/\OldK f.heap s'.heap/\s'.os=f.os/\AllBare s'.gens) f:=by
 have rv:=km hi;have W:=hi.length;have R:a ∉ p:=λz=>by have:=l a z;rw[G]at this;cases this
 have B:∀ H:Hp,(∀ P∈p,H P=some (.tbl #[]))->SqL K H a (N.map V.int)->HOk P w H f.heap->(∀ b u,H b=some u->(b=a/\∃ o xs,u=.frz o (.lst xs))\/(b∈p/\u=.tbl #[]))->(H a≠none->K.lookup a=none) ->
   codeAny (model P w) callerA (.call (.ref fa) ⟨[.ref a],[]⟩) (λr s'=>r=.ok (.ret (.bool true))/\OldK f.heap s'.heap/\s'.os=f.os/\AllBare s'.gens) f:=by
  intro H hT hS O Y hK;have j:∀{b:Addr}{o:Obj},f.heap.get? b=some o->H b=none->(j2 f.heap H).get? b=some o:=λe n=>uC e n
  have a1:∀{b:Addr}{o:Obj},f.heap.get? b=some o->o.cls≠.none->(∀ M n,o.data≠.seq M n)->H b=none:=λ{b o} e d1 d2=>by
   cases q:H b with
   | none=>rfl
   | some u =>
    rcases Y b u q with⟨rfl,_⟩ | ⟨g,_⟩
    .rw[G]at e;cases e;exact(d2 _ _ rfl).elim
    .rw[l b g]at e;cases e;exact(d1 rfl).elim
  have an:∀{b:Addr}{o:Obj}{L:Array DictEntry}{Q:Nat},f.heap.get? b=some o->o.data=.dict L Q->H b=none:=λ{b o L Q} e d=>by
   cases q:H b with
   | none=>rfl
   | some u =>
    rcases Y b u q with⟨rfl,_⟩ | ⟨g,_⟩
    .rw[G]at e;cases e
     have d':Data.seq vs.toArray _=Data.dict L Q:=d;cases d'
    .rw[l b g]at e;cases e;cases d
  have y:∀{b:Addr}{m:Str->Option Value},f.heap.Ns b m->(j2 f.heap H).Ns b m:=λ{b m} ⟨o,L,Q,e,d,r⟩=>⟨o,L,Q,j e (an e d),d,r⟩
  have S:K.In (j2 f.heap H):=λb o e=>j (KX b o e) (by
   cases q:H b with
   | none=>rfl
   | some u =>
    rcases Y b u q with⟨rfl,_⟩ | ⟨g,_⟩
    .rw[hK (by rw[q];simp)]at e;cases e
    .rw[a2 b g]at e;cases e)
  have hM:Mod K mg (j2 f.heap H):=⟨S,y I,⟨mb,y g,as⟩,let ⟨mc,h1,h2⟩:=X;⟨mc,y h1,h2⟩⟩
  have hB:Bm mg (j2 f.heap H):=by
   obtain⟨bm,ob,b1,b2,b3,b4,b5⟩:=a0;exact⟨bm,ob,b1,j b2 (a1 b2 (by rw[b3];simp) (λM n=>by rw[b5];intro z;cases z)),b3,b4,b5⟩
  have e0:Env0 P w K mg (j2 f.heap H) callerA [] f H:=⟨rfl,hM,λb o e=>wK e,Nat.le_of_eq (tP _ _),trivial,λb g=>absurd (show b∈([]:List Addr) from g) (by simp),O,.of_eq hg⟩
  refine codeAny_mono ((F _ S (y I) hB).run callerA [] f H ⟨[.ref a],[]⟩ [.ref a] [.ref a] _ _ hr e0 (E f (.ref a)) (.cons rfl .nil) (ab H hT hS)) λr s' h=>?_
  cases r with
  | error e=>exact(al H e s' h).elim
  | ok fl =>
   cases fl with
   | next=>exact False.elim h
   | brk=>exact False.elim h
   | cont=>exact False.elim h
   | ret u =>
    obtain⟨v,H',os,J,Z,A,r',q⟩:=h;have q':v=.bl true:=q;subst q';obtain rfl:u=Value.bool true:=r';refine⟨rfl,⟨λb o e=>?_,λb o e=>Z.there b o e (by simp)⟩,os,J⟩;cases q:H b with
    | none=>exact .inl (Z.keep b o e q (by intro z;exact absurd (show b∈([]:List Addr) from z) (by simp)) (by simp))
    | some u =>
     rcases Y b u q with⟨_,ob,xs,rfl⟩ | ⟨g,rfl⟩
     .have z2:=Z.frzs b ob _ q
      obtain⟨e1,_⟩:=O b _ q;obtain⟨e2,_⟩:=A b _ z2;rw[e]at e1;cases e1;exact .inl e2
     .obtain⟨c,hc⟩:=a3 b g
      have C:=codeHd_of_K KX hc;obtain⟨D,z⟩:=Z.tbls b _ q;have z2:s'.heap.get? b=some (tabObj (#[]++D)):=A b _ z;rw[l b g]at e;cases e;exact .inr (.inl ⟨(C.tab (l b g)).isCodeTable,rfl,#[],D,rfl,z2⟩)
 let T:Hp:=λb=>if b∈p then some (.tbl #[]) else none
 cases hk:K.lookup a with
 | some o =>
  have e:=KX a o hk;rw[G]at e;cases e;refine B T (λP hP=>if_pos hP) (.inr ⟨_,vs.toArray,_,hk,rfl,rfl,rfl,by rw[size_toArray,W];exact hl,by simpa using rv⟩) (λb u z=>?_) (λb u z=>?_) λz=>absurd (if_neg R) z
  .by_cases g:b∈p
   .have i:=(if_pos g).symm.trans z
    cases i;exact l b g
   .have i:=(if_neg g).symm.trans z
    cases i
  .by_cases g:b∈p
   .have i:=(if_pos g).symm.trans z
    cases i;exact .inr ⟨g,rfl⟩
   .have i:=(if_neg g).symm.trans z
    cases i
 | none =>
  refine B (λb=>if b=a then some (.frz { cls:=.type "list",data:=.seq vs.toArray } (.lst (N.map V.int))) else T b) (λP hP=>?_) (.inl (.inr ⟨{ cls:=.type "list",data:=.seq vs.toArray },if_pos rfl⟩)) (λb u z=>?_) (λb u z=>?_) λ_=>hk
  .have a4:P≠a:=λz=>R (by rw[<- z];exact hP)
   exact(if_neg a4).trans (if_pos hP)
  .by_cases g:b=a
   .have i:=(if_pos g).symm.trans z
    cases i;subst g;exact⟨G,by rw[length_map];exact hl,vs,_,rv,G⟩
   .have i:=(if_neg g).symm.trans z
    by_cases g:b∈p
    .have i:=(if_pos g).symm.trans i
     cases i;exact l b g
    .have i:=(if_neg g).symm.trans i
     cases i
  .by_cases g:b=a
   .have i:=(if_pos g).symm.trans z
    cases i;exact .inl ⟨g,_,_,rfl⟩
   .have i:=(if_neg g).symm.trans z
    by_cases g:b∈p
    .have i:=(if_pos g).symm.trans i
     cases i;exact .inr ⟨g,rfl⟩
    .have i:=(if_neg g).symm.trans i
     cases i
theorem walk_ofT{l:PySem.W.OpenLaw}{n k:Nat}{q:Program}{p:List Str}{XP:(Str->Option Value)->Heap->Prop}{J:World->Heap->Prop}{d:DefRec}{K:Params->Frag}{CX:CXT}{sp:Frag->List Addr->Sp}{x:Str}{i:List Addr}
  (T:l.most=some n) (I:n<=sizeLine) (C:d.params.defaults=[]) (R:Room k callerA)
  (hY:∀(w:World) (h:Heap),J w h->(K w.params).In h/\∀ P∈i,h.get? P=some (tabObj #[]))
  (F:∀(ts':List Addr),ts'=i->∀(w:World) (mg:Str->Option Value) (fa:Addr) (h:Heap),(K w.params).In h->h.Ns mainGlobals mg->mg d.name=some (.ref fa) ->
   ∃ fd:FuncData,(∀(s:Shared) (u:Value),BindsTo s fd ⟨[u],[]⟩ [(x,u)])/\(∀ P∈i,∃ c,codeHdIn (K w.params) c P=true)/\(∀ P∈i,(K w.params).lookup P=none) /\
    ∀ base:Heap,(K w.params).In base->base.Ns mainGlobals mg->Bm mg base->FnOk l.prog w (K w.params) mg base CX k fa fd [x] (sp (K w.params) i))
  (y:∀(K:Frag) (H:Hp) (a:Addr) (ns:List Int),ns.length<=n->(∀ P∈i,H P=some (.tbl #[]))->SqL K H a (ns.map V.int)->sp K i [.ref a] H (λv _=>v=.bl true) λ_ _ _=>False)
  (z:∀(H:Hp) (s:Shared) (e:Value) (s':Shared),CX [] H s (λ_ _ _=>False) e s'->False) :
  PySem.W.WalkO q p XP J l.row.toRowW d [] (λf vs=>PySem.call f vs):=by
 refine Att.attach_call T C λw L b mg mb fa o pm cd W a vs ns G Y ho hd X A r j g Z=>?_
 obtain⟨M,O⟩:=hY w _ Y;obtain⟨fd,N,E,D,hF⟩:=F i rfl w mg fa _ M G.T.g A;have B:Bm mg b.heap:=let ⟨bm,ob,b1,_,b3,b4,b5,b6⟩:=G.T.bmain;⟨bm,ob,b1,b3,b4,b5,b6⟩;exact sC M G.T.g G.T.b G.T.builtins G.T.nolimit Z r j (Nat.le_trans g I) R B O E D hF N (λH S Q=>y (K w.params) H a ns g S Q) λH e s'=>z H b e s'
end L2
namespace FrM
def lowP(t b:Int):Int×Int:=(t/(Int.gcd t b:Int),b/(Int.gcd t b:Int))
end FrM
namespace L2
open PySem PySem.Spec PyProof.Rows
def kQ:List V->List Value->Bool
 | [],[]=>true
 | .int i::xs,.int j _::us=>decide (i=j) && kQ xs us
 | _,_=>false
theorem iE:∀{xs:List V}{us:List Value},kQ xs us=true->Vals xs us
 | [],[],_=>.nil
 | .int i::xs,.int j t::us,h=>by
  have h:(decide (i=j) && kQ xs us)=true:=h;rw[Bool.and_eq_true]at h;have e:=of_decide_eq_true h.1;exact .cons ⟨t,by rw[e]⟩ (iE h.2)
def uZ(K:Frag)(a:Addr)(xs:List V):Bool :=
 match K.lookup a with
 | some o =>
  (match o.cls with
  | .type t=>t == "tuple"
  | _=>false) &&
  (match o.data with
  | .seq its _=>decide (its.size<=1000) && kQ xs its.toList
  | _=>false)
 | none=>false
theorem Av{K:Frag}{H:Hp}{a:Addr}{xs:List V}(h:uZ K a xs=true):SqT K H a xs:=by
 unfold uZ at h
 split at h
 .rename_i o e
  rw[Bool.and_eq_true]at h;obtain⟨c,b⟩:=h
  split at c
  .rename_i t ec
   split at b
   .rename_i its n ed
    rw[Bool.and_eq_true]at b;refine .inr ⟨o,its,n,e,by rw[ec,beq_iff_eq.mp c],ed,?_,iE b.2⟩;have:=of_decide_eq_true b.1;have:sizeLine=16777216:=sizeLine_eq;lia
   .cases b
  .cases c
 .cases h
def TyS(K:Frag)(H:Hp)(x:V)(t:Value):Prop:=TyOf K H x t\/∃ a xs,x=.ref a/\t=.type "tuple" /\ SqT K H a xs
section
variable {X:Cx}
open PySem.W in
theorem Cl{b:List (Addr×Obj)}{σ:St}{H:Hp}{s:Shared}{x:V}{u t:Value}(I:Inv X b σ H s)(d:RelV x u)(ty:TyS X.K H x t) :
  ∃ Hh:Heap->Prop,KitX X.K u t Hh/\Hh s.heap/\u≠.builtin "__main__.__loader__#opaque" := by
 rcases ty with ty | ⟨a,i,rfl,rfl,f⟩
 .exact uI I d ty
 .cases(show u=Value.ref a from d)
  obtain⟨g,j,p,h⟩:=I.tuple f;exact⟨_,kitx_tuple,let ⟨o,e,c,_⟩:=p;⟨o,e,c⟩,λz=>nomatch z⟩
theorem vO:bootBuiltins "sum" = some (.builtin "sum"):=by decide +kernel
theorem gz:∀{ns:List Int}{us:List Value},Vals (ns.map V.int) us->IntsAre us ns
 | [],_,.nil=>.nil
 | n::ns,_,.cons r t=>by
  obtain⟨a,rfl⟩:=r;exact .cons _ _ (gz t)
inductive rSumI(K:Frag)(xs:List V)(H:Hp)(Q:VK):Prop
 | mk(p:Addr)(ns:List Int)(h0:xs=[.ref p])(h1:SqL K H p (ns.map V.int))(h2:Q (.int ns.sum) H):rSumI K xs H Q
theorem kh(n:X.calm=true):CallR X (.builtin "sum") (rSumI X.K):=by
 intro f s x H xs z Q I r h;obtain⟨p,b,rfl,g,q⟩:=h;obtain⟨u,rfl,l⟩:=dJ r;cases l;obtain⟨a,j,v,C⟩:=I.list g;have c:=gz j;obtain⟨xs,d⟩:=c.allInts.items;have i:(numsOf a)=b:=c.numsOf;refine sum_intListG (I.ok.hd n) (xs:=xs) (by rw[<- d];exact v.isList) λB A y o=>?_
 have w:preSum (numAt xs) xs.size=b.sum:=by
  rw[preSum_eq,take_of_length_le (by simp),<- i,<- nums_intItems,<- d]
 rw[w];exact⟨.int b.sum,H,I.kept o,⟨_,rfl⟩,q⟩
theorem gF(v:X.calm=true):CallR X (.type "list") (λxs H Q=>∃(p:Addr) (n:Nat),xs=[.ref p]/\n<=1000/\H p=some (.rng 0 (n:Int))/\∀ l,H l=none->Q (.ref l) (upd H l (.lst ((List.range n).map λ(i:Nat)=>V.int (i:Int))))):=by
 intro f s J H xs M Q I r h;obtain⟨p,n,rfl,L,e,q⟩:=h;obtain⟨u,rfl,C⟩:=dJ r;cases C
 obtain⟨t,K,G,y⟩:=(show ObjOk X.prog X.w H s.heap p (.rng 0 (n:Int)) from I.hok p _ e)
 refine call_list_range (n:=n) (I.ok.hd v) y (small_one (by decide) (by decide) (by lia) (by lia)) (by rw[rangeSize_one];split <;> lia) (by lia) λN w d c B j F=>?_
 refine⟨.ref s.heap.objs.size,_,I.laid (t':=w) (o:=.lst ((List.range n).map λ(i:Nat)=>V.int (i:Int))) B (Nat.le_refl _) ?_,rfl,q _ (I.hok.fresh (Nat.le_refl _))⟩;obtain⟨z,E⟩:=F;refine⟨by rw[length_map,length_range,sizeLine_eq];lia,d.toList,c,lE (by rw[length_map,length_range];simpa using z.symm) λi x u a A=>?_,j⟩;rw[List.getElem?_map]at a
 have b:i<n:=by
  by_cases b:i<n
  .exact b
  .rw[List.getElem?_eq_none (by rw[length_range];lia)]at a
   cases a
 rw[List.getElem?_range b]at a;cases a;obtain⟨g,D⟩:=E i u (by simpa using A);refine(show ∃ t',u=Value.int (i:Int) t' from⟨g,?_⟩);rw[D]
 congr 1
 lia
end
def dE:Expr:=.Name "" ⟨0,0,0,0⟩
def tQ(st:Stmt)(i:Nat):Stmt:=(ag st).getD i (.Pass ⟨0,0,0,0⟩)
def sy:Stmt->Expr
 | .Return (some e) _=>e
 | _=>dE
def wP:Expr->Nat->Expr
 | .Call _ es _ _,i=>es.getD i dE
 | _,_=>dE
def Bu:Expr->Nat->Expr
 | .List es _,i=>es.getD i dE
 | _,_=>dE
def Bs:Expr->Nat->Expr
 | .Tuple es _ _,i=>es.getD i dE
 | _,_=>dE
def kL(q:Str):Expr->LamD
 | .Lambda p b s _=>⟨q,p,b,s⟩
 | _=>⟨q,default,dE,default⟩
def sZ:Expr->Pos
 | .Lambda _ _ _ p=>p
 | _=>⟨0,0,0,0⟩
theorem ip:bootBuiltins "sorted" = some (.builtin "sorted"):=by decide +kernel
theorem eU:∀{us:List Value}{ns:List Int},IntsAre us ns->Vals (ns.map V.int) us
 | _,_,.nil=>.nil
 | _,_,.cons n t h=>.cons ⟨_,rfl⟩ (eU h)
theorem lS{X:Cx}:CallR X (.builtin "sorted") (λxs H Q=>∃(p:Addr) (ns:List Int),xs=[.ref p]/\SqL X.K H p (ns.map V.int)/\ns.length<64/\∀ q (ns':List Int),ns'.Perm ns->ns'.Pairwise (·<=·)->H q=none->Q (.ref q) (upd H q (.lst (ns'.map V.int)))):=by
 intro l s D H xs E Q I r h;obtain⟨p,ns,rfl,v,F,q⟩:=h;obtain⟨u,rfl,y⟩:=dJ r;cases y;obtain⟨c,i,B,G⟩:=I.list v;have n:=gz i;have g:c.length=ns.length:=by have:=i.length;rw[length_map]at this;exact this.symm
 refine sorted_ints B.isList n (by lia) λd ns' C j x=>?_
 obtain⟨e,A⟩:=sortedAll_at s.heap c d;have w:H (s.heap.objs.size+1)=none:=I.hok.fresh (Nat.le_succ _);have f:sizeLine=16777216:=sizeLine_eq;refine⟨.ref (s.heap.objs.size+1),_,I.laid (a:=s.heap.objs.size+1) (o:=.lst (ns'.map V.int)) (t':=s.toks) (λb u z=>sortedAll_old z) (Nat.le_succ _) ⟨?_,d.toList,e,eU C,?_⟩,rfl,q _ ns' j x w⟩
 .rw[length_map,j.length_eq];lia
 .rw[A,Array.toArray_toList]
section
variable {X:Cx}{e:Expr}{es:List Expr}{pos:Pos}
theorem AA{a b:Expr}{d c:TE}{r:R2}(g:IxR X r)(h:PEq X a d)(f:PE X b c)(i:qa b):PEq X (.Subscript a b pos) (tOp r d c):=bL (ci g (i4 h) f i)
end
theorem nj{prog:Program}{w:World}{A:Around}{E:Value->Shared->Prop}{a l:Addr}{items:Array Value}(f:l≠a):∀(n i:Nat) (s:Shared) (Q:List Value->Shared->Prop),
  s.heap.IsListIter a l i->s.heap.IsList l items->i+n<=items.size ->
  (∀ h':Heap,h'.IsListIter a l (i+n)->Heap.SameBut a s.heap h'->Q ((items.toList.drop i).take n) { s with heap:=h' }) ->
  wpAny (model prog w) A (draw (.ref a) n) Q E s
 | 0,i,s,Q,hi,hl,hle,q=>by
  have o:=q s.heap hi (by constructor <;> intros <;> first | rfl | assumption);rw[take_zero]at o;exact wpAny_pure o
 | n+1,i,s,Q,hi,hl,hle,q=>by
  have d:i<items.size:=by lia
  have u:items[i]? = some items[i]:=by simp[d]
  refine wpAny_bind (wpAny_pyNext_list_item hi hl u λv j c=>?_);refine wpAny_bind (wpAny_holding (nj f n (i+1) _ _ j (hl.extBut c.extBut f) (by lia) λp h g=>?_));refine wpAny_pure ?_;have b:p.IsListIter a l (i+(n+1)):=by rw[show i+(n+1)=i+1+n by lia];exact h
  have r:=q p b (c.trans g)
  have e:(items.toList.drop i).take (n+1)=items[i]::(items.toList.drop (i+1)).take n:=by
   rw[List.drop_eq_getElem_cons (by simpa using d),List.take_succ_cons];simp
  rw[e]at r;exact r
theorem iO{prog:Program}{w:World}{A:Around}{E:Value->Shared->Prop}{s:Shared}{l:Addr}{items:Array Value}{Q:List Value->Shared->Prop}(p:A.handled=none)(f:s.heap.IsList l items)
  (q:∀ h':Heap,Heap.ExtBut s.heap.objs.size s.heap h'->Q items.toList { s with heap:=h' }):wpAny (model prog w) A (unpackItems (.ref l) items.size none) Q E s:=by
 have c:l≠s.heap.objs.size:=by
  obtain⟨o,r,_⟩:=f;exact Nat.ne_of_lt (Heap.lt_size r)
 unfold unpackItems;refine wpAny_bind ?_;unfold notIterableAtAll;refine wpAny_bind (wpAny_specialOf (Heap.IsList.typeIs f) F.slot_list_iter.lookup (wpAny_pure ?_));simp only[Bool.false_eq_true,if_false];refine wpAny_bind (wpAny_holding (wpAny_pyIter_list f ?_));have a:=f.push { cls:=Value.type "list_iterator",data:=Data.fields #[Value.ref l,Value.int 0 0] }
 have i:(s.heap.push { cls:=Value.type "list_iterator",data:=Data.fields #[Value.ref l,Value.int 0 0] }).IsListIter s.heap.objs.size l 0:=⟨_,Heap.get?_push_size _ rfl,rfl,rfl⟩
 refine wpAny_bind (wpAny_holding (nj c items.size 0 _ _ i a (by lia) λu g d=>?_));have e:(items.toList.drop 0).take items.size=items.toList:=by rw[List.drop_zero];exact take_of_length_le (by simp)
 rw[e,if_neg (by simp)];refine wpAny_bind (wpAny_holding (wpAny_pyNext_list_end p g (a.extBut d.extBut c) (by simp) λn h=>?_));exact wpAny_pure (q n λb o j e=>h b o j (d.extBut b o j (Heap.get?_push_of_some _ e)))
section
variable {X:Cx}{pos:Pos}
def CC(K:Frag)(n:Nat)(t:TGs):TG:=λv σ H Q=>∃ a xs,v=.ref a/\SqL K H a xs/\xs.length=n/\t xs σ H Q
theorem wb{es:List Expr}{k:Nat}{t:TGs}{n:Nat}(C:X.calm=true)(h:PGs X es t)
  (A:(assignEach es X.env).length=n:=by rfl) (i:(assignEach es X.env).findIdx? (·.1)=none:=by rfl):PG X (.Tuple es k pos) (CC X.K n t):=by
 intro c s j H v u Q I r g;obtain⟨a,z,G,y,E,g⟩:=g;subst G;cases r;obtain⟨f,l,⟨o,w,e,x,K,d⟩,J⟩:=I.list y
 have p:s.heap.IsList a f.toArray:=⟨o,e,x,w,d⟩
 rw[arm_assign_Tuple];refine wpAny_bind (wpAny_standAt ?_);unfold unpack;refine wpAny_bind (wpAny_holding ?_);rw[i];have B:(assignEach es X.env).length=f.toArray.size:=by simp[A,<- E,l.length]
 rw[B];refine iO (I.ok.hd C) p λF D=>?_
 have q:Inv X c j H { s with heap:=F }:=I.kept (t':=s.toks) λb o e=>D b o (Nat.ne_of_lt (Heap.lt_size e)) e
 exact h c _ j H z _ Q q (by simpa using l) g
end
structure FunD(K:Frag)(x qual:Str)(st:Stmt)(f:Addr)(fd:FuncData):Prop where
 ex:∃(oc:Value) (od:Option Addr) (dV kV doc pm:Value) (an:Option Addr) (cdv ct:Value) (osl:Array (Option Value)),
  fd=fnOf x qual (ah st) (ag st) (ac st) dV kV doc pm an cdv ct/\K.lookup f=some ⟨oc,od,.func fd,osl⟩/\codeIn K cdv qual=true
 kp:keepIn K (.ref f)=true
section
variable {P:Program}{w:World}{K:Frag}{mg:Str->Option Value}{base:Heap}
theorem FunD.okG{x a:Str}{c:Stmt}{f:Addr}{i:FuncData}{N ps:List Str}{k:Nat}{sp:Sp}(F:FunD K x a c f i)(S:FnScope N ps (ac c))(h:∀ vs H Q E,sp vs H Q E->vs.length=ps.length)
  (b:∀(cdv:Value) (A:Around) (outer:List Env) (s:Shared) (H:Hp) (vs:List V) (Q:VK) (E:XK),Room k (A.deeper (envOfC a (ac c) s.heap.objs.size f cdv))->sp vs H Q E ->
   ∃ t,PSs (cxG P w K mg base N a (ac c) f cdv A outer s H E) (ag c) t/\t { nx:=λ_ H'=>Q .non H',rt:=Q } (start N vs) H):FnOk P w K mg base (CXG P w) (k+1) f i ps sp:=by
 obtain⟨q,p,y,v,o,r,z,cdv,u,n,rfl,l,g⟩:=F.ex;exact uA l g S h λA outer s H vs Q E j d=>b cdv A outer s H vs Q E j d
theorem wI{x a:Str}{d:Stmt}{f:Addr}{q:Value}{od p:Option Addr}{h:Array (Option Value)}{o j g i b n:Value}(l:K.lookup f=some ⟨q,od,.func (fnOf x a (ah d) (ag d) (ac d) o j g i p b n),h⟩)
  (c:codeIn K b a=true) (k:keepIn K (.ref f)=true):FunD K x a d f (fnOf x a (ah d) (ag d) (ac d) o j g i p b n):=⟨⟨q,od,o,j,g,i,p,b,n,h,rfl,l,c⟩,k⟩
theorem ji{a:FuncData}{D:Addr}{o:Obj}{items:Array Value}{n:Nat}{ps:List Str}{ds:List Value}(b:a.defaults=.ref D)(i:K.lookup D=some o)(d:o.data=.seq items n)
  (h:∀ us:List Value,(us++ds).length=ps.length->∃ k,bindArgs a ⟨us,[]⟩=seqItems? a.defaults >>= k/\k (some items)=pure (ps.zip (us++ds))):Binds K a ps ds:=λs us X c=>by
 obtain⟨k,f,g⟩:=h us c;exact .of_defaults b (X _ _ i) d f g
theorem Ae{us:List Value}{v:Value}(h:(us++[v]).length=3):∃ x y,us=[x,y]:=by
 rw[length_append]at h
 match us,h with
 | [x,y],_=>exact⟨x,y,rfl⟩
 | [],h=>cases h
 | [_],h=>cases h
 | _::_::_::tl,h=>simp at h
end
end L2
namespace L2
open PySem PySem.Calls PySem.Spec PyProof.Rows PySem.W
section
variable {prog:Program}{w:World}{s:Shared}{A:Around}{E:Value->Shared->Prop}
theorem vf{t:Addr}{us:List Value}{h:List Int}{R:Value->Shared->Prop}(x:IsTup s.heap t us.toArray)(p:IntsAre us h)(a:us.length<64)
  (c:∀(out:Array Value) (ns':List Int),IntsAre out.toList ns'->ns'.Perm h->ns'.Pairwise (·<=·)->R (.ref (s.heap.objs.size+1)) { s with heap:=sortedAll s.heap us out }) :
  wpAny (model prog w) A (call (.builtin "sorted") [.ref t]) R E s:=by
 obtain⟨o,q,j,n,v⟩:=id x;have i:us.length<=sizeLine:=by rw[sizeLine_eq];lia
 refine call_function_entry kind_sorted plain_sorted entry_sorted (args_sorted1 _) ?_;unfold Builtin.«sorted»;refine wpAny_bind (m:=checkCount "sorted" 1 1 _) (wpAny_pure (wpAny_bind ?_));unfold collect;refine wpAny_bind (wpAny_runValue (codeAny_builtin entry_proto_collect' ?_));show wpAny _ _ (do again (.builtin "list.__iadd__" ⟨[<- newList [],.ref t],[]⟩)) _ _ s;refine wpAny_bind (wpAny_newList (wpAny_pure ⟨Code.quiet_builtin _ (by decide +kernel),codeAny_builtin entry_list_iadd' ?_⟩));show wpAny _ _ (Builtin.List.listExtendWith (.ref s.heap.objs.size) (.ref t) (.ref s.heap.objs.size)) _ _ { s with heap:=s.heap.push (seqObj "list" #[] 0) };unfold Builtin.List.listExtendWith;have b:(s.heap.push (seqObj "list" #[] 0)).get? t=some o:=Heap.get?_push_of_some _ q;have d:(s.heap.push (seqObj "list" #[] 0)).get? s.heap.objs.size=some (seqObj "list" #[] 0):=Heap.get?_push_size _ rfl;refine wpAny_bind (wpAny_typeOf (T := "tuple") ⟨o,b,j⟩ ?_);have e:(Value.type "tuple" == Value.type "tuple")=true:=rfl;rw[if_pos (by rw[e];simp)];refine wpAny_bind (listItems_at b v (wpAny_bind (listItems_at (xs:=#[]) (n:=0) d rfl ?_)));rw[if_neg (by simp)];refine wpAny_bind (listUpdate_at (xs:=#[]) (n:=0) d rfl (wpAny_pure ?_) (Nat.zero_le _) (by show(#[]++us.toArray).size<=sizeLine+1;simp only[Array.size_append,size_toArray,length_nil];lia));show wpAny (model prog w) _ (do let o <- load s.heap.objs.size;match o.data with | .seq xs _=>pure xs.toList | _=>unsupported "internal:collect") _ E { s with heap:=(s.heap.push (seqObj "list" #[] 0)).update s.heap.objs.size (Obj.mapSeq (· ++ us.toArray)) };refine wpAny_bind (wpAny_load (get?_update_seq d _) ?_);show wpAny _ _ (pure ((#[]:Array Value)++us.toArray).toList) _ E _;have u:((#[]:Array Value)++us.toArray).toList=us:=by simp
 rw[u];refine wpAny_pure (wpAny_bind (wpAny_newList ?_));have f:((s.heap.push (seqObj "list" #[] 0)).update s.heap.objs.size (Obj.mapSeq (· ++ us.toArray))).objs.size=s.heap.objs.size+1:=by rw[Heap.size_update,size_push']
 have g:(((s.heap.push (seqObj "list" #[] 0)).update s.heap.objs.size (Obj.mapSeq (· ++ us.toArray))).push (seqObj "list" us.toArray 0)).get? (s.heap.objs.size+1)=some (seqObj "list" us.toArray 0):=by rw[<- f];exact Heap.get?_push_size _ rfl
 show wpAny _ _ _ _ _ { s with heap:=((s.heap.push (seqObj "list" #[] 0)).update s.heap.objs.size (Obj.mapSeq (· ++ us.toArray))).push (seqObj "list" us.toArray 0) };rw[f];exact wpAny_bind (wpAny_holding (wpAny_call_entry slot_list_sort ⟨_,g,rfl⟩ entry_list_sort (list_sort_tree g p a λout ns' l r y=>⟨_,rfl,wpAny_pure ⟨_,rfl,c out ns' l r y⟩⟩) (args_list_sort _)))
end
theorem jV{X:Cx}:CallR X (.builtin "sorted") (λxs H Q=>∃(p:Addr) (ns:List Int),xs=[.ref p]/\(SqL X.K H p (ns.map V.int)\/SqT X.K H p (ns.map V.int))/\ns.length<64/\∀ q (ns':List Int),ns'.Perm ns->ns'.Pairwise (·<=·)->H q=none->Q (.ref q) (upd H q (.lst (ns'.map V.int)))):=by
 intro c s v H xs w Q I r h;obtain⟨p,ns,rfl,hq,A,q⟩:=h
 rcases hq with hq | hq
 .exact lS c s v H _ w Q I r ⟨p,ns,rfl,hq,A,q⟩
 obtain⟨u,rfl,E⟩:=dJ r;cases E;obtain⟨f,j,x,F⟩:=I.tuple hq;have y:=gz j;have l:f.length=ns.length:=by have:=j.length;rw[length_map]at this;exact this.symm
 refine vf x y (by lia) λd ns' B i n=>?_
 obtain⟨e,C⟩:=sortedAll_at s.heap f d;have D:H (s.heap.objs.size+1)=none:=I.hok.fresh (Nat.le_succ _);have g:sizeLine=16777216:=sizeLine_eq;refine⟨.ref (s.heap.objs.size+1),_,I.laid (a:=s.heap.objs.size+1) (o:=.lst (ns'.map V.int)) (t':=s.toks) (λb u z=>sortedAll_old z) (Nat.le_succ _) ⟨?_,d.toList,e,eU B,?_⟩,rfl,q _ ns' i n D⟩
 .rw[length_map,i.length_eq];lia
 .rw[C,Array.toArray_toList]
end L2
namespace WSrt
open PySem PySem.W PyProof.Rows
def run{α:Type}(lt:Nat->Nat->Bool):KasT α->α
 | .ret x=>x
 | .ask i j k=>run lt (k (lt i j))
theorem eE{a b:Type}(lt:Nat->Nat->Bool)(f:a->KasT b):∀ t:KasT a,run lt (t.bind f)=run lt (f (run lt t))
 | .ret _=>rfl
 | .ask i j k=>eE lt f (k (lt i j))
def e(p:Array Nat)(i:Nat):Nat:=(p[i]?).getD 0
theorem aU(p:Array Nat)(i:Nat):p.getD i 0=e p i:=by unfold e;simp[Array.getD_eq_getD_getElem?]
variable (lt:Nat->Nat->Bool) (n:Nat)
structure Wk:Prop where
 asy:∀ i j,i<n->j<n->lt i j=true->lt j i=false
 tr:∀ i j k,i<n->j<n->k<n->lt j i=false->lt k j=false->lt k i=false
structure PV(p:Array Nat):Prop where
 sz:p.size=n
 pm:p.toList.Perm (List.range n)
theorem e_list{p:Array Nat}{i:Nat}(h:i<p.size):p.toList[i]? = some (e p i):=by
 unfold e;rw[Array.getElem?_toList];simp[h]
theorem PV.bd{p:Array Nat}(h:PV n p){i:Nat}(b:i<n):e p i<n:=by
 have:=e_list (p:=p) (i:=i) (by rw[h.sz];exact b);have a:=h.pm.mem_iff.mp (List.mem_of_getElem? this);exact mem_range.mp a
theorem PV.ne{p:Array Nat}(h:PV n p){i j:Nat}(u:i<n)(q:j<n)(a:i≠j):e p i≠e p j:=by
 have s:p.toList.Nodup:=h.pm.nodup_iff.mpr nodup_range;have o:=e_list (p:=p) (i:=i) (by rw[h.sz];exact u);have w:=e_list (p:=p) (i:=j) (by rw[h.sz];exact q);intro z;rw[z]at o
 have v:=(List.getElem?_eq_some_iff.mp o)
 have r:=(List.getElem?_eq_some_iff.mp w)
 obtain⟨f,b⟩:=v;obtain⟨g,d⟩:=r;have l:=pairwise_iff_getElem.mp s
 rcases Nat.lt_trichotomy i j with c | c | c
 .exact l i j f g c (b.trans d.symm)
 .exact a c
 .exact l j i g f c (d.trans b.symm)
def Asc(p:Array Nat)(m:Nat):Prop:=∀ i j,i<j->j<m->lt (e p j) (e p i)=false
def Dsc(p:Array Nat)(m:Nat):Prop:=∀ i j,i<j->j<m->lt (e p i) (e p j)=false
def Blk(p:Array Nat)(i j:Nat):Prop:=∀ x y,i<=x->x<j->i<=y->y<j->lt (e p x) (e p y)=false
variable (T:Wk lt n)
include T
theorem vF{p:Array Nat}{m:Nat}(h:PV n p)(f:1<=m)(d:m<n)(a:Asc lt p m)(c:lt (e p m) (e p (m - 1))=false):Asc lt p (m+1):=by
 intro i j b g
 by_cases c1:j<m
 .exact a i j b c1
 .have:j=m:=by omega
  subst this
  by_cases c2:i=j - 1
  .rw[c2];exact c
  .exact T.tr _ (e p (j - 1)) _ (h.bd n (by omega)) (h.bd n (by omega)) (h.bd n (by omega)) (a i (j - 1) (by omega) (by omega)) c
theorem jH{p:Array Nat}{m:Nat}(h:PV n p)(f:1<=m)(d:m<n)(a:Dsc lt p m)(c:lt (e p (m - 1)) (e p m)=false):Dsc lt p (m+1):=by
 intro i j b g
 by_cases c1:j<m
 .exact a i j b c1
 .have:j=m:=by omega
  subst this
  by_cases c2:i=j - 1
  .rw[c2];exact c
  .exact T.tr _ (e p (j - 1)) _ (h.bd n (by omega)) (h.bd n (by omega)) (h.bd n (by omega)) c (a i (j - 1) (by omega) (by omega))
theorem iX{p:Array Nat}(h:PV n p):∀(f m:Nat),1<=m->m+f<=n->Asc lt p m->m<=run lt (kas_asc p f m)/\run lt (kas_asc p f m)<=m+f/\Asc lt p (run lt (kas_asc p f m))/\(run lt (kas_asc p f m)<m+f->lt (e p (run lt (kas_asc p f m))) (e p (run lt (kas_asc p f m) - 1))=true)
 | 0,m,_,_,a=>⟨Nat.le_refl _,Nat.le_refl _,a,λz=>absurd z (Nat.lt_irrefl _)⟩
 | f+1,m,h1,h2,a=>by
  have b:run lt (kas_asc p (f+1) m)=run lt (if lt (e p m) (e p (m - 1))=true then .ret m else kas_asc p f (m+1)):=by
   show run lt (if lt (p.getD m 0) (p.getD (m - 1) 0)=true then .ret m else kas_asc p f (m+1))=_;rw[aU,aU]
  rw[b];cases c:lt (e p m) (e p (m - 1)) with
  | true =>
   rw[if_pos rfl];exact⟨Nat.le_refl _,by show m<=_;omega,a,λ_=>c⟩
  | false =>
   rw[if_neg (by decide)];obtain⟨j,i,d,g⟩:=iX h f (m+1) (by omega) (by omega) (vF lt n T h h1 (by omega) a c);exact⟨by omega,by omega,d,λz=>g (by omega)⟩
omit T in
theorem iC{p:Array Nat}{i m k:Nat}(a:m<=p.size):e (kas_rev p i m) k=if i<=k/\k<m then e p (i+m - 1 - k) else e p k:=by
 unfold e kas_rev;rw[getElem?_mirror_all a]
 split <;> rfl
omit T in
theorem PV.rev{p:Array Nat}(h:PV n p)(i m:Nat):PV n (kas_rev p i m):=⟨by unfold kas_rev;rw[mirror_size];exact h.sz,(Array.perm_iff_toList_perm.mp (mirror_perm p i m ((m - i)/2))).trans h.pm⟩
theorem nG{p:Array Nat}{i m:Nat}(h:PV n p)(g:m<=n)(a:Dsc lt p m)(b:Blk lt p i m):Dsc lt (kas_rev p i m) m:=by
 intro x y c f;have d:m<=p.size:=by rw[h.sz];exact g
 rw[iC d,iC d]
 by_cases cy:i<=y/\y<m
 .rw[if_pos cy]
  by_cases cx:i<=x/\x<m
  .rw[if_pos cx]
   exact b _ _ (by omega) (by omega) (by omega) (by omega)
  .rw[if_neg cx]
   exact a _ _ (by omega) (by omega)
 .rw[if_neg cy,if_neg (by omega)]
  exact a _ _ c f
theorem fm:∀(f:Nat) (p:Array Nat) (m q:Nat),PV n p->q+1<=m->m+f<=n->Dsc lt p m->Blk lt p (m - (q+1)) m->∃ p' m' q',run lt (kas_desc f p m q)=(p',m',q')/\PV n p'/\m<=m'/\m'<=m+f/\q'+1<=m'/\Dsc lt p' m'/\Blk lt p' (m' - (q'+1)) m'
 | 0,p,m,q,h,hq,_,a,b=>⟨p,m,q,rfl,h,Nat.le_refl _,Nat.le_refl _,hq,a,b⟩
 | f+1,p,m,q,h,hq,hf,a,b=>by
  have H:run lt (kas_desc (f+1) p m q)=run lt (if lt (e p m) (e p (m - 1))=true then (if q > 0 then kas_desc f (kas_rev p (m - (q+1)) m) (m+1) 0 else kas_desc f p (m+1) 0) else (if lt (e p (m - 1)) (e p m)=true then .ret (p,m,q) else kas_desc f p (m+1) (q+1))):=by
   show run lt (if lt (p.getD m 0) (p.getD (m - 1) 0)=true then (if q > 0 then kas_desc f (kas_rev p (m - (q+1)) m) (m+1) 0 else kas_desc f p (m+1) 0) else .ask (p.getD (m - 1) 0) (p.getD m 0) λd=>if d=true then .ret (p,m,q) else kas_desc f p (m+1) (q+1))=_;rw[aU,aU]
   split <;> rfl
  rw[H]
  have i:∀ p':Array Nat,PV n p'->Blk lt p' (m+1 - (0+1)) (m+1):=λp' l x y g z j w=>by
   have:x=m:=by omega
   have:y=m:=by omega
   subst x y;cases c:lt (e p' m) (e p' m) with
   | false=>rfl
   | true=>rw[T.asy _ _ (l.bd n (by omega)) (l.bd n (by omega)) c]at c;exact absurd c (by decide)
  have F:m<=p.size:=by rw[h.sz];omega
  cases c:lt (e p m) (e p (m - 1)) with
  | true =>
   have G:=T.asy _ _ (h.bd n (by omega)) (h.bd n (by omega)) c;rw[if_pos rfl]
   by_cases hq0:q > 0
   .rw[if_pos hq0]
    have l:=h.rev n (m - (q+1)) m;have K:=nG lt n T h (by omega) a b
    have M:lt (e (kas_rev p (m - (q+1)) m) (m - 1)) (e (kas_rev p (m - (q+1)) m) m)=false:=by
     rw[iC F,iC F,if_pos ⟨by omega,by omega⟩,if_neg (by omega)];have L:m - (q+1)+m - 1 - (m - 1)=m - (q+1):=by omega
     rw[L];exact T.tr _ (e p (m - 1)) _ (h.bd n (by omega)) (h.bd n (by omega)) (h.bd n (by omega)) G (b _ _ (by omega) (by omega) (by omega) (by omega))
    obtain⟨p',m',q',r,o,C,B,u,v,s⟩:=fm f _ (m+1) 0 l (by omega) (by omega) (jH lt n T l (by omega) (by omega) K M) (i _ l);exact⟨p',m',q',r,o,by omega,by omega,u,v,s⟩
   .rw[if_neg hq0]
    obtain⟨p',m',q',r,o,C,B,u,v,s⟩:=fm f p (m+1) 0 h (by omega) (by omega) (jH lt n T h (by omega) (by omega) a G) (i _ h);exact⟨p',m',q',r,o,by omega,by omega,u,v,s⟩
  | false =>
   rw[if_neg (by decide)];cases d:lt (e p (m - 1)) (e p m) with
   | true =>
    rw[if_pos rfl];exact⟨p,m,q,rfl,h,Nat.le_refl _,by omega,hq,a,b⟩
   | false =>
    rw[if_neg (by decide)]
    have J:Blk lt p (m+1 - (q+1+1)) (m+1):=by
     have I:m+1 - (q+1+1)=m - (q+1):=by omega
     rw[I]
     have E:∀ x,m - (q+1)<=x->x<m->lt (e p x) (e p m)=false/\lt (e p m) (e p x)=false:=λx A D =>
      ⟨T.tr _ (e p (m - 1)) _ (h.bd n (by omega)) (h.bd n (by omega)) (h.bd n (by omega)) d (b _ _ A D (by omega) (by omega)),T.tr _ (e p (m - 1)) _ (h.bd n (by omega)) (h.bd n (by omega)) (h.bd n (by omega)) (b _ _ (by omega) (by omega) A D) c⟩
     intro x y g z j w
     by_cases cx:x=m
     .by_cases cy:y=m
      .rw[cx,cy]
       exact i p h m m (by omega) (by omega) (by omega) (by omega)
      .rw[cx];exact(E y j (by omega)).2
     .by_cases cy:y=m
      .rw[cy];exact(E x g (by omega)).1
      .exact b x y g (by omega) j (by omega)
    obtain⟨p',m',q',r,o,C,B,u,v,s⟩:=fm f p (m+1) (q+1) h (by omega) (by omega) (jH lt n T h (by omega) (by omega) a d) J;exact⟨p',m',q',r,o,by omega,by omega,u,v,s⟩
omit T in
theorem xz{p:Array Nat}{m:Nat}(h:PV n p)(d:m<=n)(a:Dsc lt p m):Asc lt (kas_rev p 0 m) m:=by
 intro i j c f;have b:m<=p.size:=by rw[h.sz];exact d
 rw[iC b,iC b,if_pos ⟨by omega,by omega⟩,if_pos ⟨by omega,by omega⟩];exact a _ _ (by omega) (by omega)
theorem nI{p:Array Nat}{m:Nat}(h:PV n p)(f:1<=m)(d:m<=n)(a:Dsc lt p m):∃ m' p',run lt (kas_tail3 m n p)=(m',p')/\PV n p'/\Asc lt p' m'/\1<=m'/\m'<=n:=by
 unfold kas_tail3;rw[eE];have b:=h.rev n 0 m;obtain⟨i,g,c,_⟩:=iX lt n T b (n - m) m f (by omega) (xz lt n h d a);exact⟨_,_,rfl,b,c,by omega,by omega⟩
theorem kG{p:Array Nat}{m:Nat}(h:PV n p)(w:1<=m)(i:m<n)(a:Dsc lt p (m+1)):∃ m' p',run lt (kas_descPart m n p)=(m',p')/\PV n p'/\Asc lt p' m'/\1<=m'/\m'<=n:=by
 unfold kas_descPart;rw[eE]
 have f:Blk lt p (m+1 - (0+1)) (m+1):=λx y o r s q=>by
  have:x=m:=by omega
  have:y=m:=by omega
  subst x y;cases c:lt (e p m) (e p m) with
  | false=>rfl
  | true=>rw[T.asy _ _ (h.bd n i) (h.bd n i) c]at c;exact absurd c (by decide)
 obtain⟨p',m',b,j,d,u,z,v,g,l⟩:=fm lt n T (n - (m+1)) p (m+1) 0 h (by omega) (by omega) a f;rw[j];show ∃ m'' p'',run lt (if b > 0 then kas_tail3 m' n (kas_rev p' (m' - (b+1)) m') else kas_tail3 m' n p')=_/\_
 by_cases c:b > 0
 .rw[if_pos c]
  exact nI lt n T (d.rev n _ _) (by omega) (by omega) (nG lt n T d (by omega) g l)
 .rw[if_neg c]
  exact nI lt n T d (by omega) (by omega) g
theorem nE{p:Array Nat}{m:Nat}(h:PV n p)(v:1<=m)(u:m<n)(o:Asc lt p m)(l:lt (e p 0) (e p (m - 1))=false)(r:lt (e p (m - 1)) (e p m)=false):Dsc lt (kas_rev p 0 m) (m+1):=by
 have c:m<=p.size:=by rw[h.sz];omega
 have b:∀ x y,x<=y->y<m->lt (e p y) (e p x)=false:=λx y f a=>by
  by_cases z:x=y
  .subst z
   cases c4:lt (e p x) (e p x) with
   | false=>rfl
   | true=>rw[T.asy _ _ (h.bd n (by omega)) (h.bd n (by omega)) c4]at c4;exact absurd c4 (by decide)
  .exact o x y (by omega) a
 have d:∀ x y,x<m->y<m->lt (e p x) (e p y)=false:=λx y q a =>
  T.tr _ (e p 0) _ (h.bd n (by omega)) (h.bd n (by omega)) (h.bd n (by omega)) (T.tr _ (e p (m - 1)) _ (h.bd n (by omega)) (h.bd n (by omega)) (h.bd n (by omega)) (b y (m - 1) (by omega) (by omega)) l) (b 0 x (by omega) q)
 intro i j g s;rw[iC c,iC c,if_pos ⟨by omega,by omega⟩]
 by_cases cj:j<m
 .rw[if_pos ⟨by omega,cj⟩]
  exact d _ _ (by omega) (by omega)
 .rw[if_neg (by omega)]
  have:j=m:=by omega
  subst this;exact T.tr _ (e p (j - 1)) _ (h.bd n (by omega)) (h.bd n (by omega)) (h.bd n (by omega)) r (d _ _ (by omega) (by omega))
theorem kd{p:Array Nat}(h:PV n p)(s:2<=n):∃ m' p',run lt (kas_count n p)=(m',p')/\PV n p'/\Asc lt p' m'/\1<=m'/\m'<=n:=by
 unfold kas_count;rw[eE];have o:Asc lt p 1:=λi j d l=>by omega
 obtain⟨b,r,a,f⟩:=iX lt n T h (n - 1) 1 (Nat.le_refl _) (by omega) o;generalize run lt (kas_asc p (n - 1) 1)=m at b r a f
 by_cases c:m=n
 .have:(m == n)=true:=by simpa using c
  rw[if_pos this];exact⟨m,p,rfl,h,a,b,by omega⟩
 .have:¬(m == n)=true:=by simpa using c
  rw[if_neg this];have g:=T.asy _ _ (h.bd n (by omega)) (h.bd n (by omega)) (f (by omega))
  by_cases c2:m > 1
  .rw[if_pos c2]
   show ∃ m' p',run lt (if lt (p.getD 0 0) (p.getD (m - 1) 0)=true then .ret (m,p) else kas_descPart m n (kas_rev p 0 m))=_/\_;rw[aU,aU];cases c3:lt (e p 0) (e p (m - 1)) with
   | true =>
    rw[if_pos rfl];exact⟨m,p,rfl,h,a,b,by omega⟩
   | false =>
    rw[if_neg (by decide)];exact kG lt n T (h.rev n 0 m) (by omega) (by omega) (nE lt n T h b (by omega) a c3 g)
  .rw[if_neg c2]
   have q:m=1:=by omega
   subst q;refine kG lt n T h (by omega) (by omega) ?_;intro i j d l;have:i=0:=by omega
   have:j=1:=by omega
   subst i j;exact g
theorem iz{p:Array Nat}{k:Nat}(h:PV n p)(g:k<n)(a:Asc lt p k):∀(f l r:Nat),l<=r->r<=k->r - l<=f->(∀ i,i<l->lt (e p k) (e p i)=false)->(∀ i,r<=i->i<k->lt (e p i) (e p k)=false) ->
  run lt (kas_place p k f l r)<=k/\(∀ i,i<run lt (kas_place p k f l r)->lt (e p k) (e p i)=false)/\(∀ i,run lt (kas_place p k f l r)<=i->i<k->lt (e p i) (e p k)=false)
 | 0,l,r,h1,h2,h3,lo,hi=>⟨by show l<=k;omega,lo,λi d b=>hi i (by have z:l<=i:=d;omega) b⟩
 | f+1,l,r,h1,h2,h3,lo,hi=>by
  by_cases c:l >= r
  .have q:run lt (kas_place p k (f+1) l r)=l:=by
    show run lt (if l >= r then .ret l else _)=l;rw[if_pos c];rfl
   rw[q];exact⟨by omega,lo,λi d b=>hi i (by omega) b⟩
  .have q:run lt (kas_place p k (f+1) l r)=run lt (if lt (e p k) (e p ((l+r)/2))=true then kas_place p k f l ((l+r)/2) else kas_place p k f ((l+r)/2+1) r):=by
    show run lt (if l >= r then .ret l else .ask (p.getD k 0) (p.getD ((l+r)/2) 0) λc=>if c=true then kas_place p k f l ((l+r)/2) else kas_place p k f ((l+r)/2+1) r)=_;rw[if_neg c,aU,aU];rfl
   rw[q];have j:l<=(l+r)/2:=by omega
   have s:(l+r)/2<r:=by omega
   generalize (l+r)/2=m at j s;cases cc:lt (e p k) (e p m) with
   | true =>
    have o:=T.asy _ _ (h.bd n g) (h.bd n (by omega)) cc;rw[if_pos rfl];refine iz h g a f l m j (by omega) (by omega) lo λi d b=>?_
    by_cases c3:i=m
    .rw[c3];exact o
    .exact T.tr _ (e p m) _ (h.bd n g) (h.bd n (by omega)) (h.bd n (by omega)) o (a m i (by omega) b)
   | false =>
    rw[if_neg (by decide)];refine iz h g a f (m+1) r (by omega) h2 (by omega) (λi d=>?_) hi
    by_cases c3:i=m
    .rw[c3];exact cc
    .exact T.tr _ (e p m) _ (h.bd n (by omega)) (h.bd n (by omega)) (h.bd n g) (a i m (by omega) (by omega)) cc
omit T in
theorem kg{p:Array Nat}{k l i:Nat}(a:k<p.size)(c:l<=k):e (bubble p k (k - l)) i=if i=l then e p k else if l<i/\i<=k then e p (i - 1) else e p i:=by
 unfold e;rw[getElem?_bubble a (k - l) (by omega)];have b:k - (k - l)=l:=by omega
 rw[b]
 split
 .rfl
 .split <;> rfl
theorem qp:∀(f:Nat) (p:Array Nat) (k:Nat),PV n p->k+f<=n->Asc lt p k->∃ p',run lt (kas_bin f p k)=p'/\PV n p'/\Asc lt p' (k+f)
 | 0,p,k,h,_,a=>⟨p,rfl,h,a⟩
 | f+1,p,k,h,hk,a=>by
  obtain⟨b,s,r⟩:=iz lt n T h (by omega) a k 0 k (by omega) (Nat.le_refl _) (by omega) (λi hi=>by omega) (λi h1 h2=>by omega)
  have u:run lt (kas_bin (f+1) p k)=run lt (kas_bin f (bubble p k (k - run lt (kas_place p k k 0 k))) (k+1)):=by
   show run lt ((kas_place p k k 0 k).bind λl=>kas_bin f (bubble p k (k - l)) (k+1))=_;rw[eE]
  rw[u];generalize run lt (kas_place p k k 0 k)=l at b s r;have d:k<p.size:=by rw[h.sz];omega
  have y:PV n (bubble p k (k - l)):=⟨by rw[bubble_size];exact h.sz,(Array.perm_iff_toList_perm.mp (bubble_perm p k (k - l))).trans h.pm⟩
  have w:Asc lt (bubble p k (k - l)) (k+1):=by
   intro i j q B
   by_cases c1:i=l
   .have o:e (bubble p k (k - l)) i=e p k:=by rw[kg d b,if_pos c1]
    have g:e (bubble p k (k - l)) j=e p (j - 1):=by rw[kg d b,if_neg (by omega),if_pos ⟨by omega,by omega⟩]
    rw[o,g];exact r (j - 1) (by omega) (by omega)
   .by_cases c2:j=l
    .have o:e (bubble p k (k - l)) i=e p i:=by rw[kg d b,if_neg c1,if_neg (by omega)]
     have g:e (bubble p k (k - l)) j=e p k:=by rw[kg d b,if_pos c2]
     rw[o,g];exact s i (by omega)
    .have o:e (bubble p k (k - l)) i=if l<i then e p (i - 1) else e p i:=by
      rw[kg d b,if_neg c1]
      by_cases c:l<i
      .rw[if_pos ⟨c,by omega⟩,if_pos c]
      .rw[if_neg (λz=>c z.1),if_neg c]
     have g:e (bubble p k (k - l)) j=if l<j then e p (j - 1) else e p j:=by
      rw[kg d b,if_neg c2]
      by_cases c:l<j
      .rw[if_pos ⟨c,by omega⟩,if_pos c]
      .rw[if_neg (λz=>c z.1),if_neg c]
     rw[o,g]
     split
     .split
      .exact a _ _ (by omega) (by omega)
      .exact a _ _ (by omega) (by omega)
     .split
      .omega
      .exact a _ _ q (by omega)
  obtain⟨p',A,x,v⟩:=qp f _ (k+1) y (by omega) w;exact⟨p',A,x,by rw[show k+(f+1)=k+1+f by omega];exact v⟩
theorem run_sort(j:2<=n):∃ p,run lt (kas_sort n)=p/\PV n p/\Asc lt p n:=by
 unfold kas_sort;rw[eE]
 have g:PV n (List.toArray (List.range n)):=⟨by simp,by simp⟩
 obtain⟨m,p,l,d,f,r,q⟩:=kd lt n T g j;rw[l];show ∃ a,run lt (if m<n then kas_bin (n - max m 1) p (max m 1) else .ret p)=a/\_;have h:max m 1=m:=by omega
 by_cases c:m<n
 .rw[if_pos c,h]
  obtain⟨a,o,i,b⟩:=qp lt n T (n - m) p m d (by omega) f;exact⟨a,o,i,by rw[show m+(n - m)=n by omega]at b;exact b⟩
 .rw[if_neg c]
  have:m=n:=by omega
  subst this;exact⟨p,rfl,d,f⟩
omit T in
def In{α:Type}:KasT α->Prop
 | .ret _=>True
 | .ask i j k=>i<n/\j<n/\i≠j/\In (k (lt i j))
omit T in
theorem fT{a b:Type}{f:a->KasT b}:∀{t:KasT a},In lt n t->In lt n (f (run lt t))->In lt n (t.bind f)
 | .ret _,_,h=>h
 | .ask i j k,h,h'=>⟨h.1,h.2.1,h.2.2.1,fT h.2.2.2 h'⟩
omit T in
theorem pL{p:Array Nat}(h:PV n p):∀(f m:Nat),1<=m->m+f<=n->In lt n (kas_asc p f m)
 | 0,_,_,_=>trivial
 | f+1,m,h1,h2=>by
  refine⟨by rw[aU];exact h.bd n (by omega),by rw[aU];exact h.bd n (by omega),by rw[aU,aU];exact h.ne n (by omega) (by omega) (by omega),?_⟩;dsimp only
  split
  .exact trivial
  .exact pL h f (m+1) (by omega) (by omega)
omit T in
theorem je:∀(f:Nat) (p:Array Nat) (m q:Nat),PV n p->1<=m->m+f<=n->In lt n (kas_desc f p m q)
 | 0,_,_,_,_,_,_=>trivial
 | f+1,p,m,q,h,h1,h2=>by
  refine⟨by rw[aU];exact h.bd n (by omega),by rw[aU];exact h.bd n (by omega),by rw[aU,aU];exact h.ne n (by omega) (by omega) (by omega),?_⟩;dsimp only
  split
  .split
   .exact je f _ _ _ (h.rev n _ _) (by omega) (by omega)
   .exact je f _ _ _ h (by omega) (by omega)
  .refine⟨by rw[aU];exact h.bd n (by omega),by rw[aU];exact h.bd n (by omega),by rw[aU,aU];exact h.ne n (by omega) (by omega) (by omega),?_⟩
   dsimp only
   split
   .exact trivial
   .exact je f _ _ _ h (by omega) (by omega)
omit T in
theorem rC{p:Array Nat}{m:Nat}(h:PV n p)(a:1<=m)(b:m<=n):In lt n (kas_tail3 m n p):=fT lt n (pL lt n (h.rev n 0 m) (n - m) m a (by omega)) trivial
theorem mv{p:Array Nat}{m:Nat}(h:PV n p)(A:1<=m)(j:m<n)(a:Dsc lt p (m+1)):In lt n (kas_descPart m n p):=by
 have d:Blk lt p (m+1 - (0+1)) (m+1):=λx y o r s q=>by
  have:x=m:=by omega
  have:y=m:=by omega
  subst x y;cases c:lt (e p m) (e p m) with
  | false=>rfl
  | true=>rw[T.asy _ _ (h.bd n j) (h.bd n j) c]at c;exact absurd c (by decide)
 obtain⟨g,b,f,l,i,w,B,z,v,u⟩:=fm lt n T (n - (m+1)) p (m+1) 0 h (by omega) (by omega) a d;refine fT lt n (je lt n _ _ _ _ h (by omega) (by omega)) ?_;rw[l];show In lt n (if f > 0 then kas_tail3 b n (kas_rev g (b - (f+1)) b) else kas_tail3 b n g)
 split
 .exact rC lt n (i.rev n _ _) (by omega) (by omega)
 .exact rC lt n i (by omega) (by omega)
theorem u9{p:Array Nat}(h:PV n p)(s:2<=n):In lt n (kas_count n p):=by
 refine fT lt n (pL lt n h (n - 1) 1 (by omega) (by omega)) ?_;have o:Asc lt p 1:=λi j a l=>by omega
 obtain⟨g,r,b,d⟩:=iX lt n T h (n - 1) 1 (Nat.le_refl _) (by omega) o;generalize run lt (kas_asc p (n - 1) 1)=m at g r b d
 by_cases c:m=n
 .have:(m == n)=true:=by simpa using c
  rw[if_pos this];exact trivial
 .have:¬(m == n)=true:=by simpa using c
  rw[if_neg this];have f:=T.asy _ _ (h.bd n (by omega)) (h.bd n (by omega)) (d (by omega))
  by_cases c2:m > 1
  .rw[if_pos c2]
   refine⟨by rw[aU];exact h.bd n (by omega),by rw[aU];exact h.bd n (by omega),by rw[aU,aU];exact h.ne n (by omega) (by omega) (by omega),?_⟩;rw[aU,aU];cases c3:lt (e p 0) (e p (m - 1)) with
   | true=>exact trivial
   | false =>
    show In lt n (if false=true then _ else kas_descPart m n (kas_rev p 0 m));rw[if_neg (by decide)];exact mv lt n T (h.rev n 0 m) (by omega) (by omega) (nE lt n T h g (by omega) b c3 f)
  .rw[if_neg c2]
   have q:m=1:=by omega
   subst q;refine mv lt n T h (by omega) (by omega) ?_;intro i j a l;have:i=0:=by omega
   have:j=1:=by omega
   subst i j;exact f
omit T in
theorem jw{p:Array Nat}{k:Nat}(h:PV n p)(a:k<n):∀(f l r:Nat),r<=k->In lt n (kas_place p k f l r)
 | 0,_,_,_=>trivial
 | f+1,l,r,h2=>by
  show In lt n (if l >= r then .ret l else .ask (p.getD k 0) (p.getD ((l+r)/2) 0) λc=>if c=true then kas_place p k f l ((l+r)/2) else kas_place p k f ((l+r)/2+1) r)
  split
  .exact trivial
  .refine⟨by rw[aU];exact h.bd n a,by rw[aU];exact h.bd n (by omega),by rw[aU,aU];exact h.ne n a (by omega) (by omega),?_⟩
   dsimp only
   split
   .exact jw h a f l _ (by omega)
   .exact jw h a f _ r h2
omit T in
theorem v8:∀(f:Nat) (p:Array Nat) (k:Nat),PV n p->k+f<=n->In lt n (kas_bin f p k)
 | 0,_,_,_,_=>trivial
 | f+1,p,k,h,hk=>by
  refine fT lt n (jw lt n h (by omega) k 0 k (Nat.le_refl _)) ?_;exact v8 f _ (k+1) ⟨by rw[bubble_size];exact h.sz,(Array.perm_iff_toList_perm.mp (bubble_perm p k _)).trans h.pm⟩ (by omega)
theorem In_sort(b:2<=n):In lt n (kas_sort n):=by
 have a:PV n (List.toArray (List.range n)):=⟨by simp,by simp⟩
 refine fT lt n (u9 lt n T a b) ?_;obtain⟨m,p,d,c,g,h,f⟩:=kd lt n T a b;rw[d];show In lt n (if m<n then kas_bin (n - max m 1) p (max m 1) else .ret p)
 split
 .exact v8 lt n _ _ _ c (by omega)
 .exact trivial
omit T in
theorem wp_run{b:Type}{a:Nat->Nat->(Bool->Shared->Prop)->Shared->Prop}{s:Shared}(c:∀ i j,i<n->j<n->i≠j->∀ C,C (lt i j) s->a i j C s){Q:b->Shared->Prop}:∀ t:KasT b,In lt n t->Q (run lt t) s->t.kasWp a Q s
 | .ret _,_,h=>h
 | .ask i j k,hi,h=>c i j hi.1 hi.2.1 hi.2.2.1 _ (wp_run c (k (lt i j)) hi.2.2.2 h)
end WSrt
namespace L2
open PySem PySem.Spec PyProof.Rows PySem.W
def ord(lt:Nat->Nat->Bool)(n:Nat):List Nat:=if 2<=n then (WSrt.run lt (kas_sort n)).toList else List.range n
theorem vI{lt:Nat->Nat->Bool}{n:Nat}(T:WSrt.Wk lt n):(ord lt n).Perm (List.range n):=by
 unfold ord
 split
 .rename_i h
  obtain⟨p,e,a,b⟩:=WSrt.run_sort lt n T h;rw[e];exact a.pm
 .exact .refl _
theorem xH{lt:Nat->Nat->Bool}{n:Nat}(T:WSrt.Wk lt n):(ord lt n).Pairwise λi j=>lt j i=false:=by
 unfold ord
 split
 .rename_i h
  obtain⟨p,e,c,l⟩:=WSrt.run_sort lt n T h;rw[e,pairwise_iff_getElem];intro i j o d a;have b:j<n:=by rw[Array.length_toList,c.sz]at d;exact d
  have g:=(List.getElem?_eq_some_iff.mp (WSrt.e_list (p:=p) (i:=i) (by rw[c.sz];lia))).2;have f:=(List.getElem?_eq_some_iff.mp (WSrt.e_list (p:=p) (i:=j) (by rw[c.sz];lia))).2;rw[g,f];exact l i j a b
 .match n with
  | 0=>exact List.Pairwise.nil
  | 1=>exact List.pairwise_singleton _ _
  | n+2=>exact absurd (show 2<=n+2 by lia) (by assumption)
section
variable {X:Cx}{pins:List (Addr×Obj)}{σ:St}{H:Hp}{s:Shared}{κ:SortKind}{lt:Nat->Nat->Bool}{KO:Nat->V->Hp->Prop}{xs:List V}{q:Addr}
end
def DE(h:Heap)(d:Addr)(es:Array DictEntry)(ep:Nat):Prop:=∃ o,h.get? d=some o/\o.ExactDict/\o.data=.dict es ep
theorem DE.on{h h':Heap}{d:Addr}{es:Array DictEntry}{ep:Nat}(x:DE h d es ep)(k:∀ o,h.get? d=some o->h'.get? d=some o):DE h' d es ep:=let ⟨o,e,r⟩:=x;⟨o,k o e,r⟩
theorem DE.lt{h:Heap}{d:Addr}{es:Array DictEntry}{ep:Nat}(x:DE h d es ep):d<h.objs.size:=let ⟨_,e,_⟩:=x;Heap.lt_size e
theorem DE.ty{s:Shared}{d:Addr}{es:Array DictEntry}{ep:Nat}(x:DE s.heap d es ep):s.TypeIs (.ref d) "dict" := let ⟨o,e,c,_⟩:=x;⟨o,e,c.1⟩
section
variable {prog:Program}{w:World}{A:Around}{E:Value->Shared->Prop}{s:Shared}{d I:Addr}{es:Array DictEntry}{ep i:Nat}
theorem yn{Q:Value->Shared->Prop}(f:(d == sysModules)=false)(x:DE s.heap d es ep)
  (q:Q (.ref s.heap.objs.size) { s with heap:=s.heap.push { cls:=.type "dict_keyiterator",data:=.fields #[.ref d,.int 0 0,.int es.size 0,.int ep 0] } }):wpAny (model prog w) A (pyIter (.ref d)) Q E s:=by
 have a:=x.ty;obtain⟨g,b,h,c⟩:=id x;refine wpAny_pyIter_slot a F.slot_dict_iter (wpAny_call_entry F.slot_dict_iter a F.entry_dict_iter ?_ (F.args_dict_iter_1 _));unfold Builtin.«dict.__iter__»;refine wpAny_bind ?_;unfold Builtin.Dict.dictSlotNone;refine wpAny_bind (wpAny_notOrdered_dict a (wpAny_pure ?_));show wpAny _ _ (Builtin.Dict.showsAll d >>= _) _ _ _;unfold Builtin.Dict.showsAll;rw[if_neg (λz=>by rw[f]at z;cases z)];refine wpAny_bind (wpAny_pure (wpAny_bind (wpAny_dictEntries b c (wpAny_bind (wpAny_dictEpoch b c ?_)))));refine wpAny_bind (wpAny_newObj_type (wpAny_pure ⟨_,rfl, "dict_keyiterator",_,⟨_,Heap.get?_push_size _ rfl,rfl⟩,F.slot_dict_keyiterator_next.lookup,?_⟩));simpa[rawInt] using q
theorem xq{Q:Option Value->Shared->Prop}{e:DictEntry}(a:s.heap.IsKeyIter I d i es.size ep)(x:DE s.heap d es ep)(n:es[i]? = some e)
  (q:∀ h',h'.IsKeyIter I d (i+1) es.size ep->Heap.SameBut I s.heap h'->Q (some e.key) { s with heap:=h' }):wpAny (model prog w) A (pyNext (.ref I)) Q E s:=by
 obtain⟨p,f,o,c⟩:=id a;obtain⟨r,j,u,l⟩:=id x;unfold pyNext;refine wpAny_bind (wpAny_attempt (wpAny_callSpecial?_slot (name:=Str.ofString "__next__") a.typeIs F.slot_dict_keyiterator_next (wpAny_call_entry F.slot_dict_keyiterator_next a.typeIs F.entry_dict_keyiterator_next ?_ (F.args_dict_keyiterator_next_1 _))));refine wpAny_bind (wpAny_pure (wpAny_bind (wpAny_bind ?_)))
 first | refine wpAny_bind (wpAny_typeNameOfWhole_keyiter a.typeIs (wpAny_pure ?_)) | refine wpAny_bind (wpAny_typeNameOf_keyiter a.typeIs (wpAny_pure ?_))
 refine wpAny_bind (wpAny_fieldsOf f c ?_);have h:Builtin.Dict_items.ownsTuple "dict_keyiterator" = false:=by decide
 simp only[h,Bool.false_eq_true,if_false];show wpAny _ _ (if (Value.ref d == Value.none)=true then _ else _) _ _ _;rw[if_neg (λz:(Value.ref d == Value.none)=true=>Bool.false_ne_true z)];refine wpAny_bind (wpAny_pure (wpAny_bind (wpAny_dictEntries j l ?_)));rw[if_neg (by simp)];refine wpAny_bind (wpAny_pure (wpAny_bind (wpAny_dictEpoch j l ?_)));rw[if_neg (by simp)];refine wpAny_pure ?_;obtain⟨g,rfl⟩:=Array.getElem?_eq_some_iff.mp n;simp only[show ¬((i:Int)<0) from by lia,if_false,Int.toNat_natCast,Array.getElem?_eq_getElem g];refine wpAny_bind ?_
 first | refine wpAny_bind (wpAny_typeNameOfWhole_keyiter a.typeIs (wpAny_pure ?_)) | refine wpAny_bind (wpAny_typeNameOf_keyiter a.typeIs (wpAny_pure ?_))
 refine wpAny_bind (wpAny_isOneOf_keyiter a.typeIs ?_);show wpAny _ _ (setField (.ref I) 1 (rawInt ((i:Int)+1)) >>= _) _ _ _;refine wpAny_bind (wpAny_setField f c (by simp) ?_)
 have b:(s.heap.update I (Obj.mapFields (·.setIfInBounds 1 (rawInt ((i:Int)+1))))).IsKeyIter I d (i+1) es.size ep:=⟨_,Heap.get?_update_self _ f (Obj.isFreed_of_fields (Obj.data_mapFields c _)),(Obj.cls_mapFields ..).trans o,by rw[Obj.data_mapFields c];simp[rawInt]⟩
 refine wpAny_bind (wpAny_holding (wpAny_bind (wpAny_isOneOf_keyiter (s:={ s with heap:=s.heap.update I (Obj.mapFields (·.setIfInBounds 1 (rawInt ((i:Int)+1)))) }) b.typeIs ?_)));show wpAny _ _ (pure es[i].key) _ _ _;exact wpAny_pure (wpAny_pure ⟨_,rfl,wpAny_pure (q _ b (Heap.SameBut.update ..))⟩)
theorem zj{Q:Option Value->Shared->Prop}(o:A.handled=none)(c:s.heap.IsKeyIter I d i es.size ep)(x:DE s.heap d es ep)(n:es.size<=i)
  (q:∀ h',Heap.ExtBut I s.heap h'->Q none { s with heap:=h' }):wpAny (model prog w) A (pyNext (.ref I)) Q E s:=by
 obtain⟨p,l,u,g⟩:=id c;obtain⟨r,h,v,j⟩:=id x;unfold pyNext;refine wpAny_bind (wpAny_attempt (wpAny_callSpecial?_slot (name:=Str.ofString "__next__") c.typeIs F.slot_dict_keyiterator_next (wpAny_call_entry F.slot_dict_keyiterator_next c.typeIs F.entry_dict_keyiterator_next ?_ (F.args_dict_keyiterator_next_1 _))));refine wpAny_bind (wpAny_pure (wpAny_bind (wpAny_bind ?_)))
 first | refine wpAny_bind (wpAny_typeNameOfWhole_keyiter c.typeIs (wpAny_pure ?_)) | refine wpAny_bind (wpAny_typeNameOf_keyiter c.typeIs (wpAny_pure ?_))
 refine wpAny_bind (wpAny_fieldsOf l g ?_);have f:Builtin.Dict_items.ownsTuple "dict_keyiterator" = false:=by decide
 simp only[f,Bool.false_eq_true,if_false];show wpAny _ _ (if (Value.ref d == Value.none)=true then _ else _) _ _ _;rw[if_neg (λz:(Value.ref d == Value.none)=true=>Bool.false_ne_true z)];refine wpAny_bind (wpAny_pure (wpAny_bind (wpAny_dictEntries h j ?_)));rw[if_neg (by simp)];refine wpAny_bind (wpAny_pure (wpAny_bind (wpAny_dictEpoch h j ?_)));rw[if_neg (by simp)];refine wpAny_pure ?_;simp only[show ¬((i:Int)<0) from by lia,if_false,Int.toNat_natCast,Array.getElem?_eq_none n];refine wpAny_bind ?_
 first | refine wpAny_bind (wpAny_typeNameOfWhole_keyiter c.typeIs (wpAny_pure ?_)) | refine wpAny_bind (wpAny_typeNameOf_keyiter c.typeIs (wpAny_pure ?_))
 show wpAny _ _ (setField (.ref I) 0 .none >>= _) _ _ _;refine wpAny_bind (wpAny_setField l g (by simp) ?_);show wpAny _ _ (newExc (.type "StopIteration") [] >>= _) _ _ _;refine wpAny_bind ?_;simp only[newExc,newTuple];refine wpAny_bind (wpAny_newObj_type (wpAny_bind (m:=firstArgMember _ _) (wpAny_of_eq (a:=Value.none) (by first | rfl | (simp only[firstArgMember];rfl)) (wpAny_newObj_type ?_ (by size_fits)))) (by size_fits));simp only[raiseNew];refine wpAny_bind (wpAny_handled ?_);rw[show A.in1.handled=none from o];refine wpAny_bind (wpAny_pure (wpAny_throw ?_));refine wpAny_bind (wpAny_isInstance (T := "StopIteration") (b:=true) ⟨_,Heap.get?_push_size _ rfl,rfl⟩ isSubtype_stop ?_);exact wpAny_pure (q _ (((Heap.SameBut.update ..).extBut.push _).push _))
theorem uJ(q:A.handled=none)(l:d≠I):Walks prog w A I [I,d] [I] es.size (λi v=>∃ e,es[i]? = some e/\v=e.key) (λi h=>h.IsKeyIter I d i es.size ep/\DE h d es ep) where
 sub:=λb c=>by rw[mem_singleton.mp c];exact mem_cons_self ..
 frame:=λ_ _ _ a n=>⟨a.1.at λo e=>n I (mem_cons_self ..) o e,a.2.on λo e=>n d (by simp) o e⟩
 item:=λi s Q E p a f=>by
  refine xq a.1 a.2 (Array.getElem?_eq_getElem p) λj r g=>?_
  exact f _ j s.toks ⟨_,Array.getElem?_eq_getElem p,rfl⟩ ⟨r,a.2.on λo e=>g.extBut d o l e⟩ λb o c e=>g.extBut b o (λz=>c (by rw[z];exact mem_cons_self ..)) e
 done:=λs Q E a f=>zj q a.1 a.2 (Nat.le_refl _) λj g=>f j s.toks λb o c e=>g b o (λz=>c (by rw[z];exact mem_cons_self ..)) e
 self:=λ_ _ _ _ a f=>wpAny_pyIter_keyiter a.1 f
theorem zN(c:(d == sysModules)=false):KdlSrc prog w "dict" d d es.size (λi v=>∃ e,es[i]? = some e/\v=e.key) (λh=>DE h d es ep) where
 type:=λ_ x=>x.ty
 there:=λ_ x=>⟨x.lt,x.lt⟩
 keep:=λ_ _ x b=>x.on λo e=>b d (.inl rfl) o e
 notList:=by decide
 notTuple:=by decide
 hint:=λ_ _ _ _ x q=>kdl_hint_dict x.ty q
 iter:=λ_ _ a x=>⟨_,_,(λ_ _ q=>yn c x q),uJ a (Nat.ne_of_lt x.lt),⟨⟨_,Heap.get?_push_size _ rfl,rfl,rfl⟩,x.on λo e=>Heap.get?_push_of_some _ e⟩⟩
def ju(es:Array DictEntry):List Value:=es.toList.map (·.key)
theorem oB{a:Array Value}(h:ItemsOf (λi v=>∃ e,es[i]? = some e/\v=e.key) a es.size):a.toList=ju es:=by
 obtain⟨g,d⟩:=h;refine List.ext_getElem? λj=>?_
 unfold ju;rw[List.getElem?_map,Array.getElem?_toList,Array.getElem?_toList]
 by_cases c:j<a.size
 .obtain⟨e,f,b⟩:=d j _ (Array.getElem?_eq_getElem c)
  rw[Array.getElem?_eq_getElem c,f,b];rfl
 .rw[Array.getElem?_eq_none (by lia),Array.getElem?_eq_none (by lia)];rfl
theorem oo{Q:List Value->Shared->Prop}(g:A.handled=none)(h:(d == sysModules)=false)(x:DE s.heap d es ep)(i:es.size<=sizeLine)
  (q:∀ h' tk,s.heap.objs.size<h'.objs.size->(∀ b o,s.heap.get? b=some o->h'.get? b=some o)->Q (ju es) { s with heap:=h',toks:=tk }):wpAny (model prog w) A (collect (.ref d)) Q E s:=by
 unfold collect;refine wpAny_bind (wpAny_runValue (codeAny_builtin entry_proto_collect' ?_));show wpAny _ _ (do again (.builtin "list.__iadd__" ⟨[<- newList [],.ref d],[]⟩)) _ _ _;refine wpAny_bind (wpAny_newList (wpAny_pure ⟨Code.quiet_builtin _ (by decide +kernel),codeAny_builtin entry_list_iadd' ?_⟩));have c:=x.lt;refine kdl_extend (R:=λr f=>match r with | Except.ok (Flow.ret v)=>wpAny (model prog w) A (match v with | Value.ref a=>(do let o <- load a;match o.data with | Data.seq xs _=>pure xs.toList | _=>unsupported "internal:collect") | _=>unsupported "internal:collect") Q E f | Except.ok _=>False | Except.error e=>E e f) (s:={ s with heap:=s.heap.push { cls:=.type "list",data:=.seq #[] } }) (zN h) g (x.on λo e=>Heap.get?_push_of_some _ e) s.heap.objs.size (Nat.ne_of_gt c) (Nat.ne_of_gt c) _ 0 (Heap.get?_push_size _ rfl) (λh' tk acc c' hk hS ha=>?_) i
 show wpAny (model prog w) A (do
   let o <- load s.heap.objs.size
   match o.data with
   | .seq xs _=>pure xs.toList
   | _=>unsupported "internal:collect") Q E _
 refine wpAny_bind (wpAny_load hS (wpAny_pure ?_));rw[oB ha];exact q h' tk (Heap.lt_size hS) λb o e=>hk b o (Nat.ne_of_lt (Heap.lt_size e)) (Heap.get?_push_of_some _ e)
end
section
variable {X:Cx}
theorem KT.at{H:Hp}:∀{kvs:List (List Key×V)}{xs:List (List Key×Addr×Value)}{i:Nat}{kv:List Key×V},KT H kvs xs->kvs[i]? = some kv->∃ x,xs[i]? = some x/\H x.2.1=some (.tup (kv.1.map kV))
 | _,_,_,_,.nil,h=>by cases h
 | _,_,0,_,.cons r t,h=>by cases h;exact⟨_,rfl,r.2.1⟩
 | _,_,i+1,_,.cons r t,h=>KT.at (i:=i) t h
theorem kA{vs:List Value}(f:Nat->V):∀{o:List Nat},(∀ i∈o,RelV (f i) (vs.getD i Value.none))->Vals (o.map f) (o.map λi=>vs.getD i Value.none)
 | [],_=>.nil
 | i::o,h=>.cons (h i (mem_cons_self ..)) (kA f λj a=>h j (mem_cons_of_mem _ a))
end
section
variable {X:Cx}{pins:List (Addr×Obj)}{σ:St}{H:Hp}{s:Shared}{a:Addr}{kvs:List (List Key×V)}{o:Obj}
theorem Inv.freeze(I:Inv X pins σ H s)(h:Rd H a (.dT kvs))(w:s.heap.get? a=some o):Inv X pins σ (upd H a (.frz o (.dT kvs))) s:=by
 have l:=h.ok I.hok
 have J:∃ u,H a=some u:=by rcases h with e | ⟨_,e⟩ <;> exact⟨_,e⟩
 have j:∀{b},H b=none->b≠a:=λ{b} e z=>by subst z;obtain⟨u,q⟩:=J;rw[e]at q;cases q
 have r:∀{b d},H b=some (.tup d)->b≠a:=λ{b d} e z=>by subst z;rcases h with q | ⟨_,q⟩ <;> (rw[e]at q;cases q)
 have B:∀{b y},H b=some (.own y)->b≠a:=λ{b y} e z=>by subst z;rcases h with q | ⟨_,q⟩ <;> (rw[e]at q;cases q)
 have D:∀{b i},H b=some (.tbl i)->b≠a:=λ{b i} e z=>by subst z;rcases h with q | ⟨_,q⟩ <;> (rw[e]at q;cases q)
 have E:∀ b u v,H b=some (.frz u v)->(upd H a (.frz o (.dT kvs))) b=some (.frz u v):=λb u v e=>by
  by_cases c:b=a
  .subst c
   rcases h with q | ⟨K,q⟩
   .rw[e]at q;cases q
   .rw[e]at q
    cases q
    obtain⟨g,_⟩:=(show ObjOk X.prog X.w H s.heap b (.frz u (.dT kvs)) from I.hok b _ e)
    rw[w]at g;cases g;exact ad
  .rw[af c];exact e
 refine⟨I.ok,I.os,I.bare,⟨I.base.keep,I.base.slot,λb u e n C=>?_,I.base.there,λb d e=>?_,λb u v e=>E b u v (I.base.frzs b u v e),λb i e=>?_⟩,I.loc,I.cell,?_,λx c e=>?_,λp hp=>?_,λb u e=>?_,I.len⟩
 .have:=I.base.free b u e n C;rw[af (j this)];exact this
 .have:=I.base.tups b d e;rw[af (r this)];exact this
 .obtain⟨f,z⟩:=I.base.tbls b i e;exact⟨f,by rw[af (D z)];exact z⟩
 .rw[af (j I.free)];exact I.free
 .rw[af (j (I.freeC x c e))];exact I.freeC x c e
 .obtain⟨F,A,G⟩:=I.pin p hp;exact⟨F,by rw[af (j A)];exact A,G⟩
 .by_cases hb:b=a
  .subst hb
   rw[ad]at e;cases e;exact⟨w,l.stay (λ_ _ _ q=>q) (λc q=>by rw[af (B q)];exact q) λc d q=>by rw[af (r q)];exact q⟩
  .rw[af hb]at e
   exact(I.hok b u e).stay (λ_ _ _ q=>q) (λc q=>by rw[af (B q)];exact q) λc d q=>by rw[af (r q)];exact q
end
theorem ot{P:Program}{w:World}{H:Hp}{h:Heap}{d:Addr}{o:Obj}{a:List (List Key×V)}(f:HOk P w H h)(e:H d=some (.frz o (.dT a))):∃ xs es ep,KT H a xs/\h.get? d=some o/\o.ExactDict/\o.data=.dict es ep/\es.toList=xs.map (entryOfKey (tupleKind (aO P w)))/\(d == sysModules)=false:=by
 obtain⟨g,z,y,xs,r,n,es,ep,b,i,c,j,l⟩:=(show ObjOk P w H h d (.frz o (.dT a)) from f d _ e)
 rw[g]at b;cases b;exact⟨xs,es,ep,r,g,i,c,j,y⟩
section
variable {prog:Program}{w:World}{A:Around}{E:Value->Shared->Prop}{s:Shared}{d:Addr}{es:Array DictEntry}{ep:Nat}
theorem vY(b:(d == sysModules)=false):MeetsIn prog w (Builtin.«dict.__len__» ⟨[.ref d],[]⟩) (λ_ R s=>DE s.heap d es ep/\R (.ok (.ret (.int es.size s.toks))) { s with toks:=s.toks+1 }) :=
 .of_wp λA R s ⟨a,h⟩=>by
  obtain⟨g,f,i,c⟩:=a;show wpAny _ _ (dictSize d >>= _) _ _ _;unfold dictSize;refine wpAny_bind (wpAny_bind (wpAny_dictEntries f c (wpAny_pure ?_)));show wpAny _ _ (Builtin.Dict.pendingCount d >>= _) _ _ _;refine wpAny_bind (wpAny_pendingCount_other b (wpAny_ret_mkInt ?_));rw[Nat.add_zero];exact h
theorem xG{Q:Value->Shared->Prop}(a:(d == sysModules)=false)(x:DE s.heap d es ep)(b:(es.size:Int)<2 ^ 63)
  (h:Q (.int es.size (s.toks+1)) { s with toks:=s.toks+1+1 }):wpAny (model prog w) A (Builtin.«len» ⟨[.ref d],[]⟩) (λfin s'=>∃ r,fin=.done (.ret r)/\Q r s') E s:=by
 unfold Builtin.«len»;refine wpAny_bind (m:=oneArg "len" _) (wpAny_pure ?_);refine wpAny_bind (m:=callSpecial? (.ref d) (Str.ofString "__len__")) (wpAny_callSpecial?_slot (name:=Str.ofString "__len__") x.ty F.slot_dict_len (call_meetsIn F.slot_dict_len x.ty F.entry_dict_len (F.args_dict_len_1 _) (vY (es:=es) (ep:=ep) a) ⟨x,?_⟩));show wpAny _ _ _ _ _ { s with toks:=s.toks+1 };refine wpAny_bind (wpAny_holding (wpAny_pure (wpAny_bind (wpAny_letGo ?_))));show wpAny _ _ (if ((es.size:Nat):Int)<0 then _ else _) _ _ _;rw[if_neg (by lia)];show wpAny _ _ (if ((es.size:Nat):Int) >= 2 ^ 63 then _ else _) _ _ _;rw[if_neg (by lia)];exact wpAny_bind (wpAny_mkInt (wpAny_pure ⟨_,rfl,h⟩))
end
section
variable {X:Cx}
variable {o e:Expr}{es:List Expr}{to:TE}{t:TA}{apos cpos:Pos}
end
section
variable {prog:Program}{w:World}{A:Around}{E:Value->Shared->Prop}{s:Shared}{d I v:Addr}{es:Array DictEntry}{ep i:Nat}{k0 v0:Value}
theorem qQ(a:(d == sysModules)=false):MeetsIn prog w (Builtin.«dict.items» ⟨[.ref d],[]⟩) (λ_ R s=>DE s.heap d es ep /\
  R (.ok (.ret (.ref s.heap.objs.size))) { s with heap:=s.heap.push { cls:=.type "dict_items",data:=.fields #[.ref d] } }):=.of_wp λA R s ⟨x,h⟩=>by
 unfold Builtin.«dict.items»;refine wpAny_bind ?_;unfold Builtin.Dict.noArgs;refine wpAny_bind (wpAny_notOrdered_dict x.ty ?_);show wpAny _ _ (pure d) _ _ s;refine wpAny_pure ?_;show wpAny _ _ (Builtin.Dict.showsAll d >>= _) _ _ s;unfold Builtin.Dict.showsAll;rw[if_neg (λz=>by rw[a]at z;cases z)];refine wpAny_bind (wpAny_pure ?_);exact wpAny_bind (wpAny_newObj_type (wpAny_pure ⟨_,rfl,h⟩))
theorem p6{Q:Value->Shared->Prop}(a:s.heap.IsItemsView v d)(x:DE s.heap d es ep)
  (q:Q (.ref s.heap.objs.size) { s with heap:=s.heap.push { cls:=.type "dict_itemiterator",data:=.fields #[.none,.bool false,.ref d,.int 0 0,.int es.size 0,.int ep 0,.none,.none] } }):wpAny (model prog w) A (pyIter (.ref v)) Q E s:=by
 obtain⟨h,c,g,f⟩:=id a;obtain⟨ob,g1,g2,g3⟩:=id x;refine wpAny_pyIter_slot a.typeIs F.slot_dict_items_iter (wpAny_call_entry F.slot_dict_items_iter a.typeIs F.entry_dict_items_iter ?_ (F.args_dict_items_iter_1 _));unfold Builtin.«dict_items.__iter__»;refine wpAny_bind (wpAny_pure (wpAny_bind ?_));unfold Builtin.Dict_items.dictOf;refine wpAny_bind (wpAny_field c f (x:=.ref d) rfl (wpAny_pure (wpAny_bind ?_)));unfold Builtin.Dict_items.newIterator;refine wpAny_bind (wpAny_dictEntries g1 g3 (wpAny_bind (wpAny_dictEpoch g1 g3 ?_)));have b:Builtin.Dict_items.ownsTuple "dict_itemiterator" = true:=by decide
 simp only[b,if_true];refine wpAny_newObj_type (wpAny_pure ⟨_,rfl, "dict_itemiterator",_,⟨_,Heap.get?_push_size _ rfl,rfl⟩,F.slot_dict_itemiterator_next.lookup,?_⟩) (by simp only[sizeOk,Builtin.Dict_items.ownedTupleFields,size_toArray,length_append,length_cons,length_nil,sizeLine_eq];lia);simpa[rawInt,Builtin.Dict_items.ownedTupleFields] using q
theorem qO{Q:Option Value->Shared->Prop}{e:DictEntry}(J:IsItemIter s.heap I d i es.size ep k0 v0)(x:DE s.heap d es ep)(Y:es[i]? = some e)
  (q:∀ h',IsItemIterOut h' I d (i+1) es.size ep e.key e.val s.heap.objs.size->h'.get? s.heap.objs.size=some { cls:=.type "tuple",data:=.seq #[e.key,e.val] }->h'.objs.size=s.heap.objs.size+1 ->
   (∀ b o,b≠I->s.heap.get? b=some o->h'.get? b=some o)->Q (some (.ref s.heap.objs.size)) { s with heap:=h' }):wpAny (model prog w) A (pyNext (.ref I)) Q E s:=by
 obtain⟨a,g,y,p,u⟩:=s;obtain⟨ob,g1,g2,g3⟩:=id x;have j:Shared.TypeIs ⟨a,g,y,p,u⟩ (.ref I) "dict_itemiterator" := ⟨_,J,rfl⟩;unfold pyNext;refine wpAny_bind (wpAny_attempt (wpAny_callSpecial?_slot (name:=Str.ofString "__next__") j F.slot_dict_itemiterator_next (wpAny_call_entry F.slot_dict_itemiterator_next j F.entry_dict_itemiterator_next ?_ (F.args_dict_itemiterator_next_1 _))));refine wpAny_bind (wpAny_pure (wpAny_bind (wpAny_bind ?_)))
 first | refine wpAny_bind (wpAny_typeNameOfWhole_itemiter j (wpAny_pure ?_)) | refine wpAny_bind (wpAny_typeNameOf_itemiter j (wpAny_pure ?_))
 refine wpAny_bind (wpAny_fieldsOf J rfl ?_);have M:Builtin.Dict_items.ownsTuple "dict_itemiterator" = true:=by decide
 simp only[M,if_true];show wpAny _ _ (if (Value.ref d == Value.none)=true then _ else _) _ _ _;rw[if_neg (λz:(Value.ref d == Value.none)=true=>Bool.false_ne_true z)];refine wpAny_bind (wpAny_pure (wpAny_bind (wpAny_dictEntries g1 g3 ?_)));rw[if_neg (by simp)];refine wpAny_bind (wpAny_pure (wpAny_bind (wpAny_dictEpoch g1 g3 ?_)));rw[if_neg (by simp)];refine wpAny_pure ?_;obtain⟨N,rfl⟩:=Array.getElem?_eq_some_iff.mp Y;simp only[show ¬((i:Int)<0) from by lia,if_false,Int.toNat_natCast,Array.getElem?_eq_getElem N];refine wpAny_bind ?_
 first | refine wpAny_bind (wpAny_typeNameOfWhole_itemiter j (wpAny_pure ?_)) | refine wpAny_bind (wpAny_typeNameOf_itemiter j (wpAny_pure ?_))
 refine wpAny_bind (wpAny_isOneOf_itemiter j ?_);show wpAny _ _ (setField (.ref I) 3 (rawInt ((i:Int)+1)) >>= _) _ _ ⟨a,g,y,p,u⟩;refine wpAny_bind (wpAny_setField_rec J (by simp) λf v n=>?_);replace n:Heap.SameBut I a f:=n
 replace v:IsItemIter f I d (i+1) es.size ep k0 v0:=by
  have z:((i+1:Nat):Int)=(i:Int)+1:=by lia
  unfold IsItemIter;rw[z];simpa[rawInt] using v
 have h:Shared.TypeIs ⟨f,g,y,p,u⟩ (.ref I) "dict_itemiterator" := ⟨_,v,rfl⟩;refine wpAny_bind (wpAny_holding (wpAny_bind (wpAny_isOneOf_itemiter h (wpAny_bind (wpAny_isOneOf_itemiter h ?_)))));show wpAny _ _ (Builtin.Dict_items.pairFromOwner (.ref I) 6 es[i].key es[i].val) _ _ ⟨f,g,y,p,u⟩;unfold Builtin.Dict_items.pairFromOwner;refine wpAny_bind (wpAny_newTuple ?_);have l:IsItemIter (f.push { cls:=.type "tuple",data:=.seq #[es[i].key,es[i].val] }) I d (i+1) es.size ep k0 v0:=Heap.get?_push_of_some _ v;generalize hh:f.push { cls:=.type "tuple",data:=.seq #[es[i].key,es[i].val] }=h2 at l;have D:f.objs.size=a.objs.size:=n.1;have lt:I<a.objs.size:=Heap.lt_size J;have X:h2.get? a.objs.size=some { cls:=.type "tuple",data:=.seq #[es[i].key,es[i].val] }:=by rw[<- hh,<- D];exact Heap.get?_push_size _ rfl
 have z2:h2.objs.size=a.objs.size+1:=by rw[<- hh,Heap.size_push,D]
 have Z:∀ b o,b≠I->a.get? b=some o->h2.get? b=some o:=λb o c e=>by rw[<- hh];exact Heap.get?_push_of_some _ (n.extBut b o c e)
 show wpAny _ _ (Builtin.Dict_items.ownedTupleIsFree (.ref I) >>= _) _ _ ⟨h2,g,y,p,u⟩;rw[D];clear hh v n h D f;refine wpAny_bind ?_;unfold Builtin.Dict_items.ownedTupleIsFree;refine wpAny_bind (wpAny_field l rfl (x:=.none) rfl (wpAny_pure ?_));simp only[if_true];refine wpAny_bind (wpAny_field l rfl (x:=k0) rfl (wpAny_bind (wpAny_field l rfl (x:=v0) rfl ?_)));refine wpAny_bind (wpAny_setField_rec l (by simp) λR S C=>?_);replace C:Heap.SameBut I h2 R:=C;replace S:IsItemIter R I d (i+1) es.size ep es[i].key v0:=S;refine wpAny_bind (wpAny_setField_rec S (by simp) λT K B=>?_);replace B:Heap.SameBut I R T:=B;replace K:IsItemIter T I d (i+1) es.size ep es[i].key es[i].val:=K;refine wpAny_bind (wpAny_setField_rec K (by simp) λL P G=>?_);replace G:Heap.SameBut I T L:=G;replace P:IsItemIterOut L I d (i+1) es.size ep es[i].key es[i].val a.objs.size:=P;refine wpAny_bind (wpAny_setField_rec P (by simp) λr O H=>?_);replace H:Heap.SameBut I L r:=H;replace O:IsItemIterOut r I d (i+1) es.size ep es[i].key es[i].val a.objs.size:=O;have W:∀ b o,b≠I->h2.get? b=some o->r.get? b=some o:=λb o c e=>H.extBut b o c (G.extBut b o c (B.extBut b o c (C.extBut b o c e)))
 refine wpAny_bind (wpAny_letGo (wpAny_pure (wpAny_pure ⟨_,rfl,wpAny_pure (q r O (W _ _ (Nat.ne_of_gt lt) X) ?_ λb o c e=>W b o c (Z b o c e))⟩)));show r.objs.size=a.objs.size+1;rw[H.1,G.1,B.1,C.1,z2]
theorem uB{Q:Option Value->Shared->Prop}(n:A.handled=none)(f:IsItemIter s.heap I d i es.size ep k0 v0)(x:DE s.heap d es ep)(l:es.size<=i)
  (q:∀ h',Heap.ExtBut I s.heap h'->Q none { s with heap:=h' }):wpAny (model prog w) A (pyNext (.ref I)) Q E s:=by
 obtain⟨o,h,p,j⟩:=id x;have c:s.TypeIs (.ref I) "dict_itemiterator" := ⟨_,f,rfl⟩;unfold pyNext;refine wpAny_bind (wpAny_attempt (wpAny_callSpecial?_slot (name:=Str.ofString "__next__") c F.slot_dict_itemiterator_next (wpAny_call_entry F.slot_dict_itemiterator_next c F.entry_dict_itemiterator_next ?_ (F.args_dict_itemiterator_next_1 _))));refine wpAny_bind (wpAny_pure (wpAny_bind (wpAny_bind ?_)))
 first | refine wpAny_bind (wpAny_typeNameOfWhole_itemiter c (wpAny_pure ?_)) | refine wpAny_bind (wpAny_typeNameOf_itemiter c (wpAny_pure ?_))
 refine wpAny_bind (wpAny_fieldsOf f rfl ?_);have g:Builtin.Dict_items.ownsTuple "dict_itemiterator" = true:=by decide
 simp only[g,if_true];show wpAny _ _ (if (Value.ref d == Value.none)=true then _ else _) _ _ _;rw[if_neg (λz:(Value.ref d == Value.none)=true=>Bool.false_ne_true z)];refine wpAny_bind (wpAny_pure (wpAny_bind (wpAny_dictEntries h j ?_)));rw[if_neg (by simp)];refine wpAny_bind (wpAny_pure (wpAny_bind (wpAny_dictEpoch h j ?_)));rw[if_neg (by simp)];refine wpAny_pure ?_;simp only[show ¬((i:Int)<0) from by lia,if_false,Int.toNat_natCast,Array.getElem?_eq_none l];refine wpAny_bind ?_
 first | refine wpAny_bind (wpAny_typeNameOfWhole_itemiter c (wpAny_pure ?_)) | refine wpAny_bind (wpAny_typeNameOf_itemiter c (wpAny_pure ?_))
 show wpAny _ _ (setField (.ref I) 2 .none >>= _) _ _ s;refine wpAny_bind (wpAny_setField f rfl (by simp) ?_);show wpAny _ _ (newExc (.type "StopIteration") [] >>= _) _ _ _;refine wpAny_bind ?_;simp only[newExc,newTuple];refine wpAny_bind (wpAny_newObj_type ?_ (by size_fits));refine wpAny_bind (m:=firstArgMember _ _) (wpAny_of_eq (a:=Value.none) (by first | rfl | (simp only[firstArgMember];rfl)) (wpAny_newObj_type ?_ (by size_fits)));simp only[raiseNew];refine wpAny_bind (wpAny_handled ?_);rw[show A.in1.handled=none from n];refine wpAny_bind (wpAny_pure (wpAny_throw ?_));exact wpAny_bind (wpAny_isInstance (T := "StopIteration") (b:=true) ⟨_,Heap.get?_push_size _ rfl,rfl⟩ isSubtype_stop (wpAny_pure (q _ (((Heap.SameBut.update ..).extBut.push _).push _))))
end
def Iti(d:Addr)(o:Obj)(kvs:List (List Key×V)):It :=
 ⟨λi H=>H d=some (.frz o (.dT kvs))/\i<kvs.length,λi H x H'=>∃ p b kv,H p=none/\kvs[i]? = some kv/\x=.ref p/\H b=some (.tup (kv.1.map kV))/\H'=upd H p (.tup [.ref b,kv.2]),λi H=>H d=some (.frz o (.dT kvs))/\kvs.length<=i⟩
theorem KT.at2{H:Hp}:∀{kvs:List (List Key×V)}{xs:List (List Key×Addr×Value)}{i:Nat}{kv:List Key×V},KT H kvs xs->kvs[i]? = some kv->∃ x,xs[i]? = some x/\H x.2.1=some (.tup (kv.1.map kV))/\RelV kv.2 x.2.2
 | _,_,0,_,.cons r _,h=>by cases h;exact⟨_,rfl,r.2.1,r.2.2⟩
 | _,_,i+1,_,.cons _ t,h=>by obtain⟨x,e,q⟩:=KT.at2 (i:=i) t h;exact⟨x,e,q⟩
theorem rK{prog:Program}{w:World}{A:Around}{E:Value->Shared->Prop}{s:Shared}{a d:Addr}{i n ep:Nat}{g j:Value}{Q:Value->Shared->Prop}(f:IsItemIter s.heap a d i n ep g j)(h:Q (.ref a) s):wpAny (model prog w) A (pyIter (.ref a)) Q E s:=by
 have b:s.TypeIs (.ref a) "dict_itemiterator" := ⟨_,f,rfl⟩;have c:entryFor table "dict_itemiterator.__iter__" = some Builtin.«dict_keyiterator.__iter__»:=entryFor_alias (id' := "dict_keyiterator.__iter__") (by kernel_rfl) rfl (by decide +kernel) (by kernel_rfl);refine wpAny_pyIter_slot b F.slot_dict_itemiterator_iter (wpAny_call_entry F.slot_dict_itemiterator_iter b c ?_ (F.args_dict_itemiterator_iter_1 _));show wpAny _ _ (ret (.ref a)) _ _ s;exact wpAny_pure ⟨_,rfl, "dict_itemiterator",_,b,F.slot_dict_itemiterator_next.lookup,h⟩
theorem pJ{P:Program}{w:World}{K:Frag}{el:List Expr}{kk:Nat}{N:Pos}{d c:Addr}{o:Obj}{l:List (List Key×V)}{es:Array DictEntry}{ep:Nat}(g:o.data=.dict es ep)(hsz:es.size=l.length):Turn P w K (.Tuple el kk N) (Iti d o l) [c] c (λi h=>∃ k0 v0,IsItemIter h c d i es.size ep k0 v0) where
 mem:=mem_cons_self ..
 obj:=λi h a b j=>by
  rw[mem_singleton.mp j];obtain⟨k0,v0,e⟩:=a;exact⟨_,e,λv z=>by cases z⟩
 keep:=λi h h' a kp=>by
  obtain⟨k0,v0,e⟩:=a;exact⟨k0,v0,kp c (mem_cons_self ..) _ e⟩
 item:=by
  intro X B M L Y i f s T H E I u a F;subst B M L;obtain⟨D,R⟩:=F;obtain⟨k0,v0,a⟩:=a;obtain⟨xs,A,C,p,O,Q,n,S,g5⟩:=ot I.hok D;have y:=g.symm.trans n;cases y
  obtain⟨kv,hkv⟩:∃ kv,l[i]? = some kv:=⟨_,List.getElem?_eq_getElem R⟩
  obtain⟨x,hx,hH,rv⟩:=p.at2 hkv;have he:es[i]? = some (entryOfKey (tupleKind (aO X.prog X.w)) x):=by rw[entry_at S,hx];rfl
  refine qO a ⟨o,O,Q,n⟩ he λh1 e1 e2 e3 e4=>?_
  refine⟨_,rfl,wpAny_letOwnedTupleGo_items e1 λh2 e5 Z=>?_⟩;have r:s.heap.objs.size≠c:=λq=>absurd (Heap.lt_size a) (by rw[<- q];exact Nat.lt_irrefl _)
  have hn:H s.heap.objs.size=none:=I.hok.fresh (Nat.le_refl _);have G:h2.get? s.heap.objs.size=some { cls:=.type "tuple",data:=.seq #[.ref x.2.1,x.2.2] }:=(Z.2 _ r).trans e2
  have J:Inv X f T (upd H s.heap.objs.size (.tup [.ref x.2.1,kv.2])) { s with heap:=h2,toks:=s.toks }:=by
   refine I.turnedNew (ch:=[c]) (λb o j q=>?_) u (Nat.le_refl _) ⟨by rw[sizeLine_eq];show 2<=16777216;decide,[.ref x.2.1,x.2.2],.cons rfl (.cons rv .nil),_,G,rfl,0,rfl⟩;have W:b≠c:=λz=>j (by simp[z])
   exact(Z.2 b W).trans (e4 b o W q)
  refine⟨.ref s.heap.objs.size,_,J,rfl,⟨s.heap.objs.size,x.2.1,kv,hn,hkv,rfl,hH,rfl⟩,⟨_,_,e5⟩,λb j=>?_⟩;rw[mem_singleton.mp j,af r.symm];exact(u c (mem_cons_self ..)).1
 done:=by
  intro X B M L Y i f s T H E I u a F;subst B M L;obtain⟨D,R⟩:=F;obtain⟨k0,v0,a⟩:=a;obtain⟨xs,A,C,p,O,Q,n,S,g5⟩:=ot I.hok D;have y:=g.symm.trans n;cases y
  exact uB (I.ok.hd Y) a ⟨o,O,Q,n⟩ (by lia) λh1 eb=>⟨rfl,I.turnedN (ch:=[c]) (t':=s.toks) (λb o j q=>eb b o (λz=>j (by simp[z])) q) u⟩
 self:=λ_ _ _ _ _ a h=>by
  obtain⟨k0,v0,e⟩:=a;exact rK e h
def ro:V->List V->Hp->VK->Prop:=λx vs H Q=>∃(d:Addr) (kvs:List (List Key×V)),x=.ref d/\vs=[]/\Rd H d (.dT kvs)/\∀ v,H v=none->Q (.ref v) (upd H v (.ext (IV v d)))
section
variable {X:Cx}{o e:Expr}{es:List Expr}{to:TE}{t:TA}{apos cpos:Pos}
theorem sI:MtR X "dict.items" ro:=by
 intro f s E H x D v F Q I C B h;obtain⟨d,c,rfl,rfl,e,q⟩:=h;cases C;cases B
 obtain⟨z,y,G,r,o,n,p,j,l,A,K,J⟩:=(show ObjOk X.prog X.w H s.heap d (.dT c) from e.ok I.hok)
 have x:DE s.heap d n p:=⟨o,j,l,A⟩
 refine call_meetsIn PySem.F.slot_dict_items x.ty PySem.F.entry_dict_items (PySem.F.args_dict_items_1 _) (qQ y) ⟨x,?_⟩;refine⟨.ref s.heap.objs.size,_,I.laid (t':=s.toks) (a:=s.heap.objs.size) (o:=.ext (IV s.heap.objs.size d)) (λb u e=>Heap.get?_push_of_some _ e) (Nat.le_refl _) ?_,rfl,q _ (I.hok.fresh (Nat.le_refl _))⟩;have g:(s.heap.push { cls:=.type "dict_items",data:=.fields #[.ref d] }).get? s.heap.objs.size=some { cls:=.type "dict_items",data:=.fields #[.ref d] }:=Heap.get?_push_size _ rfl;exact⟨⟨_,g,rfl,rfl⟩,⟨_,g⟩,λj l ⟨i,w,r⟩ k=>⟨i,k i w,r⟩⟩
theorem pe_m.itemsT(c:PE X o to)(b:attributeBase o "items" X.env (eval o X.env)=eval o X.env:=by rfl)(a:(apos.endLine == cpos.line)=true:=by rfl) :
  PE X (.Call (.Attribute o "items" apos) [] [] cpos) (Ah X.K "dict" ro to):=vK F.plainAttrs_dict F.slot_dict_items F.type_dict_items sI c b a
theorem u6{D:List Expr}{G:Nat}{f:Pos}{w:TE}(F:PE X e w):PI X (.Tuple D G f) e (λσ H R=>w σ H λx H1=>∃ v d kvs,x=.ref v/\H1 v=some (.ext (IV v d))/\Rd H1 d (.dT kvs)/\∀ o,R (Iti d o kvs) (upd H1 d (.frz o (.dT kvs)))):=by
 intro c s σ H R I h;refine thn (F c s σ H _ I h) λu a ⟨x,H1,j,A,v,d,kvs,E,J,p,q⟩=>?_
 subst E;obtain rfl:u=Value.ref v:=A
 obtain⟨o,ho⟩:∃ o,a.heap.get? d=some o:=by
  obtain⟨_,_,C,_,o,_,_,g,_⟩:=(show ObjOk X.prog X.w H1 a.heap d (.dT kvs) from p.ok j.hok)
  exact⟨o,g⟩
 have y:a.heap.IsItemsView v d:=(show ObjOk X.prog X.w H1 a.heap v (.ext (IV v d)) from j.hok v _ J).1;have i:=j.freeze p ho;obtain⟨C,B,M,n,K,L,r,z,N⟩:=ot i.hok ad;have l:B.size=kvs.length:=by rw[size_of_entries z,Paired.length n]
 refine p6 y ⟨o,K,L,r⟩ ?_;refine⟨a.heap.objs.size,[a.heap.objs.size],_,_,_,rfl,i.kept (t':=a.toks) λb o e=>Heap.get?_push_of_some _ e,pJ r l,⟨_,_,Heap.get?_push_size _ rfl⟩,λb hb=>?_,q o⟩;have e:b=a.heap.objs.size:=mem_singleton.mp hb;subst e;exact i.fpOk (Nat.le_refl _) (i.hok.fresh (Nat.le_refl _))
end
theorem tO{d:Addr}{o:Obj}{a:List (List Key×V)}{g:TG}{h:TS}{D:Ends}{σ:St}{H:Hp}(Pv:Nat->St->Hp->Prop)(l:Pv 0 σ H)(r:∀ i σ H,Pv i σ H->H d=some (.frz o (.dT a)))
  (v:∀(i:Nat) kv b σ H p,a[i]? = some kv->H b=some (.tup (kv.1.map kV))->Pv i σ H->H p=none->g (.ref p) σ (upd H p (.tup [.ref b,kv.2])) λσ2 H2=>h { D with nx:=Pv (i+1),ct:=Pv (i+1),bk:=D.nx } σ2 H2) (s:∀ σ H,Pv a.length σ H->D.nx σ H) :
  ∃ W:Nat->Nat->St->Hp->Prop,(∃ m,W 0 m σ H)/\∀ i m σ H,W i m σ H ->
   ((Iti d o a).stop i H/\D.nx σ H)\/((Iti d o a).go i H/\∃ N:St->Hp->Prop,(∀ σ' H',N σ' H'->∃ m',m'<m/\W (i+1) m' σ' H')/\∀ x H',(Iti d o a).yld i H x H'->g x σ H' λσ2 H2=>h { D with nx:=N,ct:=N,bk:=D.nx } σ2 H2):=by
 refine⟨λi m σ H=>m=a.length - i/\i<=a.length/\Pv i σ H,⟨_,rfl,Nat.zero_le _,l⟩,?_⟩;rintro i m σ H ⟨rfl,w,p⟩;have q:=r i σ H p
 by_cases hlt:i<a.length
 .refine .inr ⟨⟨q,hlt⟩,Pv (i+1),λσ' H' n=>⟨_,by lia,rfl,hlt,n⟩,λx H' y=>?_⟩
  obtain⟨b,u,kv,j,c,rfl,f,rfl⟩:=y;exact v i kv u σ H b c f p j
 .have e:i=a.length:=by lia
  subst e;exact .inl ⟨⟨q,Nat.le_refl _⟩,s σ H p⟩
end L2
namespace L2
open PySem PySem.Spec PyProof.Rows
section
variable {prog:Program}{w:World}{KT:Type} [DecidableEq KT] {knd:HeapKind prog w KT}{A:Around}{E:Value->Shared->Prop}{s:Shared}{d a:Addr}{xs:List (KT×Addr×Value)}{k:KT}{dflt:Value}
theorem sdH{Q:Value->Shared->Prop}(v:knd.room A)(b:knd.is s.heap k a)(C:s.heap.DictOfH knd d xs)(hsz:xs.length<=sizeLine)
  (D:∀ p,atKey xs k=some p->Q p.2 { s with toks:=s.toks+knd.draws k })
  (F:atKey xs k=none->∀ h',h'.DictOfH knd d (storedH xs k a dflt)->Heap.SameBut d s.heap h'->Q dflt { s with heap:=h',toks:=s.toks+knd.draws k }):wpAny (model prog w) A (dictSetDefault d (.ref a) dflt) Q E s:=by
 obtain⟨o,G,B,g,z,c,n,i,q⟩:=C;unfold dictSetDefault;refine wpAny_holding (wpAny_bind (knd.pyHash v b (wpAny_bind (wpAny_dictFind_heap (s:={ s with toks:=s.toks+knd.draws k }) v b g c n i q ?_ ?_))))
 .intro l
  have h:k ∉ xs.map (·.1):=not_mem_keys_of_get l;have f:=atKey_none_of_get l
  refine wpAny_bind (wpAny_rule (wpAny_bind (wpAny_updateDictKeys (hz:=by have e:=size_of_entries n;lia) (s:={ s with toks:=s.toks+knd.draws k }) g c (wpAny_pure (F f _ ⟨_,_,B+1,Heap.get?_update_self _ g (Obj.isFreed_of_dict (Obj.data_mapDictKeys c _)),
   z.mapDictKeys _,Obj.data_mapDictKeys c _,?_,?_,?_⟩ (Heap.SameBut.update ..))))))
  .rw[storedH_new f]
   simp[n,entryOfKey]
  .rw[storedH_new f]
   intro x hx
   rcases mem_append.mp hx with hx | hx
   .exact knd.keeps (i x hx) g c (Heap.SameBut.update ..)
   .simp only[mem_singleton]at hx
    subst hx;exact knd.keeps b g c (Heap.SameBut.update ..)
  .rw[storedH_new f]
   rw[map_append,nodup_append];refine⟨q,by simp,?_⟩;intro x hx y r;simp only[map_cons,map_nil,mem_singleton]at r;subst r;exact λe=>h (e ▸ hx)
 .intro j p u
  have f:=atKey_of_get q u;refine wpAny_bind (wpAny_dictEntries (s:={ s with toks:=s.toks+knd.draws k }) g c ?_);rw[entry_at n j,u];exact wpAny_bind (wpAny_rule (wpAny_pure (D p f)))
theorem rW(i:(d == sysModules)=false)(b:Value):MeetsIn prog w (Builtin.«dict.setdefault» ⟨[.ref d,.ref a,b],[]⟩) (λA R s=>knd.room A.in1/\∃ k xs,knd.is s.heap k a/\s.heap.DictOfH knd d xs/\xs.length<=sizeLine /\
  (∀ p,atKey xs k=some p->R (.ok (.ret p.2)) { s with toks:=s.toks+knd.draws k })/\(atKey xs k=none->∀ h',h'.DictOfH knd d (storedH xs k a b)->Heap.SameBut d s.heap h'->R (.ok (.ret b)) { s with heap:=h',toks:=s.toks+knd.draws k })) :=
 .of_wp λA R s ⟨n,k,xs,c,f,g,j,l⟩=>by
  unfold Builtin.«dict.setdefault»;refine wpAny_bind ?_;unfold Builtin.Dict.keyAndDefault;refine wpAny_bind (wpAny_notOrdered_dict f.typeIs (show wpAny _ _ (pure (d,Value.ref a,some b)) _ _ s from wpAny_pure ?_));show wpAny _ _ (if (d == sysModules)=true then _ else (dictSetDefault d (.ref a) b >>= _)) _ _ s;rw[if_neg (by rw[i];exact Bool.false_ne_true)];exact wpAny_bind (sdH n c f g (λp h=>wpAny_pure ⟨_,rfl,j p h⟩) λhn h' m' s'=>wpAny_pure ⟨_,rfl,l hn h' m' s'⟩)
end
def CP(td ty tx:TE):TE:=λσ H Q=>td σ H λx H1=>∃ a,x=.ref a/\IsD H1 a/\ty σ H1 λy H2=>tx σ H2 λz H3=>∃ kvs k b,y=.ref b/\H3 b=some (.tup (k.map kV))/\H3 a=some (.dT kvs)/\kvs.length<sizeLine /\
 (∀ v,dh kvs k=some v->Q v H3)/\(dh kvs k=none->Q z (upd H3 a (.dT (kvs++[(k,z)]))))
section
variable {X:Cx}{o e f:Expr}{apos cpos:Pos}{td ty tx:TE}
theorem zC(hu:X.A.units+1<cLine)(ho:PE X o td)(he:PE X e ty)(hf:PE X f tx)(m:M2 X o "setdefault" apos e f cpos):PE X (.Call (.Attribute o "setdefault" apos) [e,f] [] cpos) (CP td ty tx):=by
 intro i s v H Q I h;refine wpAny_Call_method m.base m.few m.line PySem.F.plainAttrs_dict PySem.F.slot_dict_setdefault PySem.F.type_dict_setdefault (thn (ho i s v H _ I h) λu s1 ⟨x,M,B,rx,a,ex,d,S⟩=>?_);subst ex;obtain rfl:u=Value.ref a:=rx;obtain⟨W,Y,_⟩:=vo B d;refine⟨W,Y,?_⟩;rw[m.trees]
 refine Calls.callWith_builtin rfl (Calls.evalArgs_plain (Calls.spliced_cons (thn (he i s1 v M _ B S) λK P ⟨y,H2,N,T,Z⟩ =>
  Calls.spliced_cons (thn (hf i P v H2 _ N Z) λR s3 ⟨z,L,r,G,g,k,b,ey,E,w,l,q3,q4⟩=>Calls.spliced_nil ?_))))
 subst ey;cases(show K=Value.ref b from T);obtain⟨zz,F,D,n,J⟩:=uf r.hok w;have hz:D.length<=sizeLine:=by rw[<- Paired.length n];exact zz
 refine call_meetsIn PySem.F.slot_dict_setdefault J.typeIs PySem.F.entry_dict_setdefault (PySem.F.args_dict_setdefault_3 _ _ _) (rW (knd:=tupleKind (aO X.prog X.w)) F R) ⟨tupleKind_room_in1 hu,k,D,gU r.hok E,J,hz,λp O=>?_,λhn h' m' s'=>?_⟩
 .have j:=n.val k
  rw[O]at j;cases q:dh g k with
  | none=>rw[q]at j;exact False.elim j
  | some y'=>rw[q]at j;exact⟨y',L,r.tok _,j,q3 y' q⟩
 .have j:=n.val k
  rw[hn]at j
  have q:dh g k=none:=by
   cases q:dh g k with
   | none=>rfl
   | some y'=>rw[q]at j;exact False.elim j
  have hl:(g++[(k,z)]).length<=sizeLine:=by rw[length_append];exact l
  have A:=n.put k E G;rw[uW z q]at A;obtain⟨ob,es,ep,C,h2,h3,h4,_,h5⟩:=m';refine⟨z,_,jf (ob:=.dT (g++[(k,z)])) r (by rw[w];exact True.intro) s' ⟨ob,C⟩ ⟨hl,F,_,A.keeps λc ys ec=>?_,ob,es,ep,C,h2,h3,h4,h5⟩,G,q4 q⟩;rw[af (fZ ec w (λz=>nomatch z))];exact ec
end
end L2
namespace L2
open PySem PySem.Spec PyProof.Rows PySem.W
def jz(lt:Nat->Nat->Bool)(n:Nat):List Nat:=ord lt n
theorem kj{lt:Nat->Nat->Bool}{n:Nat}(T:WSrt.Wk lt n):(jz lt n).Perm (List.range n):=vI T
theorem ww{lt:Nat->Nat->Bool}{n:Nat}(T:WSrt.Wk lt n):(jz lt n).Pairwise λi j=>lt j i=false:=xH T
structure Tot(lt:Nat->Nat->Bool)(n:Nat):Prop where
 asy:∀ i j,i<n->j<n->lt i j=true->lt j i=false
 tr:∀ i j k,i<n->j<n->k<n->lt i j=true->lt j k=true->lt i k=true
 tot:∀ i j,i<n->j<n->i≠j->lt i j=false->lt j i=true
section
variable {prog:Program}{w:World}{A:Around}{E:Value->Shared->Prop}{s:Shared}{κ:SortKind}{lt:Nat->Nat->Bool}
theorem zt{ks vs:List Value}(o:ks.length=vs.length)(d:2<=vs.length)(T:WSrt.Wk lt vs.length)(f:vs.length<64)
  (v:∀ i j,i<vs.length->j<vs.length->i≠j->∀ C,C (lt i j) s->kas_ask prog w A κ ks i j C s){Q:Unit×SortSt->Shared->Prop}
  (h:∀ st,(arrOf st).map (·.2)=List.toArray ((jz lt vs.length).map λi=>vs.getD i Value.none)->failedOf st=none->Q ((),st) s) :
  wpAny (model prog w) A ((sortRuns').run (SortSt.mk' κ (ks.toArray.zip vs.toArray) #[] 7 none)) Q E s:=by
 obtain⟨p,b,y,q⟩:=WSrt.run_sort lt vs.length T d
 refine wpAny_mono (kat_run (ks:=ks) (vs:=vs) (Q:=λa c=>c=s/\arrOf a=p.map (kas_item (ks.toArray.zip vs.toArray))/\failedOf a=none) (G:=λn c=>n=p/\c=s)
  o d f (λn a c B x r l=>⟨l.2,by rw[x,l.1],r⟩) (WSrt.wp_run lt vs.length (λi j hi hj hn C hC=>v i j hi hj hn C hC) _ (WSrt.In_sort lt vs.length T d) ⟨b,rfl⟩)) ?_ λ_ _ z=>z
 rintro⟨⟨⟩,a⟩ c ⟨rfl,g,u⟩;refine h a ?_ u;rw[kat_snds o g];unfold jz ord;rw[if_pos d,b]
theorem xn{a:Addr}{vs:List Value}{m:Nat}{κ:SortKind}{lt:Nat->Nat->Bool}{P:PySem.Fin->Shared->Prop}(n:s.heap.get? a=some (seqObj "list" vs.toArray m))(T:WSrt.Wk lt vs.length)(hz:vs.length<16000000)(r:vs.length<64)
  (J:2<=vs.length->∀ g,(∀ b o,b≠a->s.heap.get? b=some o->g.get? b=some o)->∀ Q:SortKind->Shared->Prop,Q κ { s with heap:=g }->wpAny (model prog w) A (keyKind' vs.toArray) Q (λ_ _=>False) { s with heap:=g })
  (D:∀ g,(∀ b o,b≠a->s.heap.get? b=some o->g.get? b=some o)->∀ i j,i<vs.length->j<vs.length->i≠j->∀ C,C (lt i j) { s with heap:=g }->kas_ask prog w A κ vs i j C { s with heap:=g })
  (h:P (.done (.ret .none)) { s with heap:=sortedHeap s.heap a vs (List.toArray ((jz lt vs.length).map λi=>vs.getD i Value.none)) }) :
  wpAny (model prog w) A (Builtin.«list.sort» ⟨[.ref a],[]⟩) P E s:=by
 rw[list_sort_plain];have I:a<s.heap.objs.size:=Heap.lt_size n;refine wpAny_bind (listItems_at n rfl (wpAny_bind (listUpdate_at n rfl ?_)))
 obtain⟨c1,ho1⟩:∃ c1,(s.heap.update a (Obj.mapSeq λ_=>(#[]:Array Value))).get? a=some (seqObj "list" #[] c1):=⟨_,get?_update_seq n λ_=>#[]⟩
 refine wpAny_bind (seqEpoch_at ho1 rfl (wpAny_bind (wpAny_newTuple (wpAny_bind (wpAny_newList (wpAny_holding ?_))))));have c:(((s.heap.update a (Obj.mapSeq λ_=>(#[]:Array Value))).push (seqObj "tuple" vs.toArray 0)).push (seqObj "list" #[] 0)).get? a=some (seqObj "list" #[] c1):=Heap.get?_push_of_some _ (Heap.get?_push_of_some _ ho1);have d:∀ b o,b≠a->s.heap.get? b=some o->(((s.heap.update a (Obj.mapSeq λ_=>(#[]:Array Value))).push (seqObj "tuple" vs.toArray 0)).push (seqObj "list" #[] 0)).get? b=some o:=λb o hb e=>Heap.get?_push_of_some _ (Heap.get?_push_of_some _ (by rw[Heap.get?_update_ne _ _ _ _ hb];exact e))
 show wpAny (model prog w) A _ P E { s with heap:=((s.heap.update a (Obj.mapSeq λ_=>(#[]:Array Value))).push (seqObj "tuple" vs.toArray 0)).push (seqObj "list" #[] 0) };dsimp only
 by_cases h2:vs.toArray.size<2
 .rw[if_pos h2,if_pos h2]
  refine wpAny_bind (wpAny_pure ?_);rw[StateT.run_pure];refine wpAny_bind (wpAny_pure ?_);dsimp only;refine wpAny_bind (seqEpoch_at c rfl (wpAny_bind (listUpdate_at c rfl ?_ (hsz2:=by rw[Array.size_map];show(pairsOf vs).size<=_;rw[pairsOf_size,sizeLine_eq];lia))));simp only[bne_self_eq_false,Bool.false_eq_true,if_false];have u:vs.length<2:=by simpa using h2
  have B:jz lt vs.length=List.range vs.length:=by unfold jz ord;rw[if_neg (by lia)]
  rw[B]at h;have f:=kas_range (vs.toArray.zip vs.toArray);rw[show(vs.toArray.zip vs.toArray).size=vs.length by simp]at f;have p:arrOf (SortSt.mk' general' (vs.toArray.zip vs.toArray) #[] 7 none)=(List.toArray (List.range vs.length)).map (kas_item (vs.toArray.zip vs.toArray)):=f.symm;have G:=(kat_snds (ks:=vs) rfl p).symm;rw[show(List.range vs.length).map (λi=>vs.getD i Value.none)=(List.toArray (List.range vs.length)).toList.map (λi=>vs.getD i Value.none) from rfl,G]at h;exact wpAny_pure h
 .rw[if_neg h2,if_neg h2]
  have u:2<=vs.length:=by simpa using h2
  refine wpAny_bind (wpAny_mono (J u _ d (λl v=>l=κ/\v={ s with heap:=((s.heap.update a (Obj.mapSeq λ_=>(#[]:Array Value))).push (seqObj "tuple" vs.toArray 0)).push (seqObj "list" #[] 0) }) ⟨rfl,rfl⟩) (λl s0 hs=>?_) λ_ _ z=>z.elim);obtain⟨rfl,rfl⟩:=hs;refine wpAny_bind (zt rfl u T r (λi j x H F C y=>D _ d i j x H F C y) λst' hout hf=>?_);dsimp only;have q:(List.toArray ((jz lt vs.length).map λi=>vs.getD i Value.none)).size=vs.length:=by rw[size_toArray,length_map,(kj T).length_eq,length_range]
  rw[hout];refine wpAny_bind (seqEpoch_at c rfl (wpAny_bind (listUpdate_at c rfl ?_ (hsz2:=Nat.le_trans (Nat.le_of_eq q) (by rw[sizeLine_eq];lia)))));rw[hf];simp only[bne_self_eq_false,Bool.false_eq_true,if_false];exact wpAny_pure h
end
end L2
namespace LexM
def aI:List Int->List Int->Bool
 | [],[]=>false
 | [],_::_=>true
 | _::_,[]=>false
 | x::xs,y::ys=>if x=y then aI xs ys else decide (x<y)
theorem ly:∀ a,aI a a=false
 | []=>rfl
 | x::xs=>by rw[aI,if_pos rfl];exact ly xs
theorem jP:∀ a b,aI a b=true->aI b a=false
 | [],[],h=>by cases h
 | [],_::_,_=>rfl
 | _::_,[],h=>by cases h
 | x::xs,y::ys,h=>by
  rw[aI]at h ⊢
  by_cases e:x=y
  .rw[if_pos e]at h;rw[if_pos e.symm];exact jP xs ys h
  .rw[if_neg e]at h;rw[if_neg (λz=>e z.symm)]
   have:=of_decide_eq_true h;exact decide_eq_false (by omega)
theorem kT:∀ a b,a≠b->aI a b=true\/aI b a=true
 | [],[],h=>absurd rfl h
 | [],_::_,_=>.inl rfl
 | _::_,[],_=>.inr rfl
 | x::xs,y::ys,h=>by
  rw[aI,aI]
  by_cases e:x=y
  .rw[if_pos e,if_pos e.symm]
   exact kT xs ys λz=>h (by rw[e,z])
  .rw[if_neg e,if_neg (λz=>e z.symm)]
   rcases Int.lt_or_gt_of_ne e with z | z
   .exact .inl (decide_eq_true z)
   .exact .inr (decide_eq_true z)
theorem hX:∀ a b c,aI a b=true->aI b c=true->aI a c=true
 | [],[],_,h,_=>by cases h
 | [],_::_,[],_,h=>by cases h
 | [],_::_,_::_,_,_=>rfl
 | _::_,[],_,h,_=>by cases h
 | _::_,_::_,[],_,h=>by cases h
 | x::xs,y::ys,z::zs,h,k=>by
  rw[aI]at h k ⊢
  by_cases e:x=y
  .rw[if_pos e]at h
   by_cases e2:y=z
   .rw[if_pos e2]at k;rw[if_pos (e.trans e2)];exact hX xs ys zs h k
   .rw[if_neg e2]at k;rw[if_neg (λq=>e2 (by omega))]
    have:=of_decide_eq_true k;exact decide_eq_true (by omega)
  .rw[if_neg e]at h
   have h:=of_decide_eq_true h
   by_cases e2:y=z
   .rw[if_neg (by omega)];exact decide_eq_true (by omega)
   .rw[if_neg e2]at k
    have k:=of_decide_eq_true k;rw[if_neg (by omega)];exact decide_eq_true (by omega)
end LexM
namespace L2
open PySem PySem.Spec PyProof.Rows PySem.W LexM
def Ti(h:Heap)(x:List Int)(a:Addr):Prop:=∃ o its n,h.get? a=some o/\o.cls=.type "tuple" /\ o.data=.seq its n/\IntsAre its.toList x
section
variable {prog:Program}{w:World}{A:Around}{E:Value->Shared->Prop}{s:Shared}
theorem Ti.ty{x:List Int}{a:Addr}(h:Ti s.heap x a):s.TypeIs (.ref a) "tuple" := by
 obtain⟨o,c,n,b,d,_⟩:=h;exact⟨o,b,d⟩
theorem rg{x y:List Int}{a b:Addr}{P:PySem.Fin->Shared->Prop}(Q:Ti s.heap x a)(N:Ti s.heap y b)(h:P (.done (.ret (.bool (aI x y)))) s) :
  wpAny (model prog w) A (Builtin.«tuple.__lt__» ⟨[.ref a,.ref b],[]⟩) P E s:=by
 have I:=N.ty;obtain⟨Y,B,Z,H,_,L,K⟩:=Q;obtain⟨S,D,T,F,_,J,M⟩:=N;show wpAny _ _ (isInstance (.ref b) (.type "tuple") >>= _) _ _ s;refine wpAny_bind (wpAny_isInstance I isSubtype_tuple_tuple ?_);simp only[Bool.not_true,Bool.false_eq_true,if_false];refine wpAny_bind (wpAny_tupleItemsOf H L ?_);refine wpAny_bind (wpAny_tupleItemsOf F J ?_);refine wpAny_bind ?_
 refine wpAny_forIn_list _
  (λj r n=>r.1=none/\n=s/\∃ C q g f,j=List.zip g f/\IntsAre g C/\IntsAre f q/\aI C q=aI x y/\decide (g.length<f.length)=decide (B.size<D.size))
  _ ?_ ?_ _ _ ⟨rfl,rfl,x,y,B.toList,D.toList,rfl,K,M,rfl,by simp⟩
 .rintro⟨u,v⟩ j r n ⟨G,rfl,C,q,g,f,o,l,i,c,d⟩
  cases l with
  | nil=>simp at o
  | @cons k1 t1 xs'' x'' hx'' =>
   cases i with
   | nil=>simp at o
   | @cons k2 t2 ys'' y'' hy'' =>
    simp only[List.zip_cons_cons,List.cons.injEq,Prod.mk.injEq]at o;obtain⟨⟨rfl,rfl⟩,rfl⟩:=o;refine wpAny_bind (wpAny_eqBool_int ?_)
    by_cases hk:k1=k2
    .subst hk
     rw[show(k1 == k1)=true by simp];simp only[Bool.not_true,Bool.false_eq_true,if_false];refine wpAny_pure ⟨rfl,rfl,x'',y'',xs'',ys'',rfl,hx'',hy'',?_,by simpa using d⟩;rw[<- c,aI,if_pos rfl]
    .rw[show(k1 == k2)=false by simpa using hk]
     simp only[Bool.not_false,if_true];have R:decide (k1<k2)=aI x y:=by rw[<- c,aI,if_neg hk]
     rw[<- R]at h;refine wpAny_bind (wpAny_rule ?_);refine wpAny_bind ?_;refine wpAny_mono (show wpAny (model prog w) A (richCompare .Lt (.int k1 t1) (.int k2 t2)) (λv O=>v=.bool (decide (k1<k2))/\O=n) E n from lt_int ⟨rfl,rfl⟩) (λv O hv=>?_) λ_ _ z=>z
     obtain⟨rfl,rfl⟩:=hv;exact wpAny_pure (wpAny_pure h)
 .rintro⟨X,W⟩ n ⟨G,rfl,C,q,g,f,o,l,i,c,d⟩
  simp only at G;subst G;refine wpAny_pure ?_
  have p:decide (B.size<D.size)=aI x y:=by
   rw[<- c,<- d];cases l with
   | nil =>
    cases i with
    | nil=>rfl
    | cons _ _ _=>simp[aI]
   | cons _ _ _ =>
    cases i with
    | nil=>simp[aI]
    | cons _ _ _=>simp at o
  show P (.done (.ret (.bool (decide (B.size<D.size))))) n;rw[p];exact h
theorem nP{a:Bool}{C:Bool->Shared->Prop}:∀{xs ys:List Value}{x y:List Int}(i:Nat),IntsAre xs x->IntsAre ys y->decide (xs.length<ys.length)=a->C (aI x y) s->KatLex prog w A true a C (xs.zip ys) i s
 | _,_,_,_,i,.nil,.nil,hf,h=>kat_nil (by rw[<- hf];exact h)
 | _,_,_,_,i,.nil,.cons _ _ _,hf,h=>kat_nil (by rw[<- hf,decide_eq_true (by simp)];exact h)
 | _,_,_,_,i,.cons _ _ _,.nil,hf,h=>kat_nil (by rw[<- hf,decide_eq_false (by simp)];exact h)
 | _,_,_,_,i,.cons p t hx,.cons q t' hy,hf,h=>by
  rw[List.zip_cons_cons];refine kat_cons (wpAny_eqBool_int ?_);rw[aI]at h
  by_cases e:p=q
  .rw[show(p == q)=true by simpa using e]
   rw[if_pos e]at h;exact kat_yes (nP (i+1) hx hy (by rw[<- hf];simp) h)
  .rw[show(p == q)=false by simpa using e]
   rw[if_neg e]at h;cases i with
   | zero=>exact kat_no (oneLt_int h)
   | succ i=>exact kat_no (kat_one _ _ (lt_int h))
theorem xV{x y:List Int}{a b:Addr}{C:Bool->Shared->Prop}(n:Ti s.heap x a)(l:Ti s.heap y b)(h:C (aI x y) s):wpAny (model prog w) A (keyLt' (tuples' true) (.ref a) (.ref b)) C E s:=by
 obtain⟨v,p,u,c,_,j,i⟩:=n;obtain⟨q,o,r,d,_,f,g⟩:=l;exact kat_lt c j d f (nP 0 i g (by simp) h)
theorem we{x y:List Int}{a b:Addr}{C:Bool->Shared->Prop}(f:A.units<cLine)(c:Ti s.heap x a)(d:Ti s.heap y b)(h:C (aI x y) s):wpAny (model prog w) A (keyLt' oneType' (.ref a) (.ref b)) C E s:=by
 rw[keyLt'_oneType,oneLt'_eq];simp only[if_true];refine wpAny_bind (wpAny_cRoomFor_or (.inr f) ?_);refine wpAny_bind (wpAny_callSpecialIfBound?_slot c.ty F.slot_tuple_lt (wpAny_call_entry F.slot_tuple_lt c.ty F.entry_tuple_lt (rg c d ⟨_,rfl,?_⟩) (F.args_tuple_lt_2 _ _)));exact wpAny_truthy_bool h
theorem wH{x y:List Int}{a b:Addr}{C:Bool->Shared->Prop}(f:A.units<cLine)(c:Ti s.heap x a)(d:Ti s.heap y b)(h:C (aI x y) s):wpAny (model prog w) A (keyLt' general' (.ref a) (.ref b)) C E s:=by
 show wpAny _ _ (oneLt' false (.ref a) (.ref b)) _ _ s;refine kat_one _ _ ?_;refine wpAny_richCompare_same_room (op:=.Lt) c.ty d.ty F.slot_tuple_lt (wpAny_call_entry F.slot_tuple_lt c.ty F.entry_tuple_lt (rg c d ⟨_,rfl,(λe=>nomatch e),h⟩) (F.args_tuple_lt_2 _ _)) f
inductive Tis(h:Heap):List Value->List (List Int)->Prop
 | nil:Tis h [] []
 | cons {a:Addr}{x:List Int}{vs:List Value}{gs:List (List Int)}(hx:Ti h x a) (t:Tis h vs gs):Tis h (.ref a::vs) (x::gs)
theorem Tis.len{h:Heap}:∀{vs:List Value}{gs:List (List Int)},Tis h vs gs->vs.length=gs.length
 | _,_,.nil=>rfl
 | _,_,.cons _ t=>by rw[length_cons,length_cons,t.len]
theorem Tis.mem{h:Heap}:∀{vs:List Value}{gs:List (List Int)},Tis h vs gs->∀ v∈vs,∃ a x,v=.ref a/\Ti h x a
 | _,_,.nil,v,hv=>by cases hv
 | _,_,.cons hx t,v,hv=>by
  rcases mem_cons.mp hv with rfl | hv
  .exact⟨_,_,rfl,hx⟩
  .exact t.mem v hv
theorem jh{M:Model}:∀{vs:List Value}{gs:List (List Int)}{Q:List (Option Value)->Shared->Prop},Tis s.heap vs gs->(∀ fs:List (Option Value),fs.length=gs.length->(∀(i:Nat) (x:List Int),gs[i]? = some x->(fs[i]? = some none/\x=[])\/∃(n:Int) (t:Tok) (r:List Int),fs[i]? = some (some (Value.int n t))/\x=n::r)->Q fs s)->wpAny M A (vs.mapM firstOfTuple') Q E s
 | _,_,Q,.nil,h=>by rw[List.mapM_nil];exact wpAny_pure (h [] rfl λi x e=>by cases e)
 | _,_,Q,.cons (a:=a) (x:=x) hx t,h=>by
  obtain⟨o,b,n,c,j,p,d⟩:=hx;rw[List.mapM_cons];refine wpAny_bind ?_;rw[kas_first_eq];refine wpAny_bind (Looks.here (show Looks M s.heap (typeOf (.ref a)) o.cls from(Looks.ld c).andThen .now) ?_);rw[j,if_neg (by first | decide | simp)];refine wpAny_bind (listItems_at c p (wpAny_pure ?_));refine wpAny_bind (jh (Q:=λq f=>wpAny M A (pure (b[0]? :: q)) Q E f) t λfs hl hf=>wpAny_pure (h _ (by rw[length_cons,length_cons,hl]) λi y hy=>?_));cases i with
  | succ i=>exact hf i y hy
  | zero =>
   cases hy;have g:b[0]? = b.toList[0]?:=by simp
   rw[List.getElem?_cons_zero,g];generalize b.toList=l at d;cases d with
   | nil=>exact .inl ⟨rfl,rfl⟩
   | cons n t _=>exact .inr ⟨n,t,_,rfl,rfl⟩
def kf(gs:List (List Int)):SortKind:=if gs.all (λx=>!x.isEmpty) then tuples' true else if (gs.headD []).isEmpty then oneType' else general'
theorem t7{M:Model}{vs:List Value}{p:List (List Int)}{Q:SortKind->Shared->Prop}(t:Tis s.heap vs p)(S:2<=vs.length)(h:Q (kf p) s):wpAny M A (keyKind' vs.toArray) Q E s:=by
 have R:=t.len;rw[kat_kind_eq,mapM_toArray,map_eq_pure_bind];refine wpAny_bind (wpAny_bind (jh t λl D z=>wpAny_pure ?_))
 by_cases ha:p.all (λx=>!x.isEmpty)=true
 .have H:∀ f∈l,∃(n:Int) (t:Tok),f=some (Value.int n t):=λf q=>by
   obtain⟨i,y⟩:=List.getElem?_of_mem q;have I:i<p.length:=by rw[<- D];exact(List.getElem?_eq_some_iff.mp y).1
   have C:=List.getElem?_eq_getElem I
   rcases z i _ C with⟨c,j⟩ | ⟨n,t,r,c,j⟩
   .have:=all_eq_true.mp ha _ (getElem_mem I)
    rw[j]at this;cases this
   .rw[y]at c
    exact⟨n,t,Option.some.inj c⟩
  rw[kf,if_pos ha]at h
  obtain⟨d,rfl,F⟩:∃ d:List Value,l=d.map some/\∀ v∈d,∃(n:Int) (t:Tok),v=Value.int n t:=by
   clear z D
   induction l with
   | nil=>exact⟨[],rfl,λv hv=>by cases hv⟩
   | cons f l ih =>
    obtain⟨d,e,F⟩:=ih λg C=>H g (mem_cons_of_mem _ C)
    obtain⟨n,t,rfl⟩:=H f (mem_cons_self ..);refine⟨Value.int n t::d,by rw[e];rfl,λv hv=>?_⟩
    rcases mem_cons.mp hv with rfl | hv
    .exact⟨n,t,rfl⟩
    .exact F v hv
  rw[length_map]at D
  obtain⟨w1,wr,rfl⟩:∃ w1 wr,d=w1::wr:=by
   match d,(show 0<d.length by lia) with
   | w1::wr,_=>exact⟨w1,wr,rfl⟩
  have u:(((w1::wr).map some).toArray.all λx=>x.isSome)=true:=by simp
  rw[if_pos u];refine wpAny_bind (wpAny_rule ?_);have q:(((w1::wr).map some).toArray.filterMap id)=(w1::wr).toArray:=by simp
  rw[q,oneTypeOnly'_eq,mapM_toArray,map_eq_pure_bind];refine wpAny_bind (wpAny_bind (wpAny_bind (kas_mapM (r:=Value.type "int") _ (λv hv J B=>?_) (wpAny_pure ?_))))
  .obtain⟨n,t,rfl⟩:=F v hv
   exact(Looks.of_pure rfl).here B
  .have b:((List.map (λ_=>Value.type "int") (w1::wr)).toArray.all λx=>x == Value.type "int")=true:=by
    simp only[all_toArray,all_map,all_eq_true];intro _ _;exact(by decide:(Value.type "int" == Value.type "int")=true)
   have w:(List.map (λ_=>Value.type "int") (w1::wr)).toArray[0]? = some (Value.type "int"):=by simp
   rw[w];simp only[b,if_true];exact wpAny_pure (wpAny_pure h)
 .have G:(l.toArray.all λx=>x.isSome)=false:=by
   rw[all_toArray];cases hb:l.all λx=>x.isSome with
   | false=>rfl
   | true =>
    refine absurd (all_eq_true.mpr λx N=>?_) ha;obtain⟨i,y⟩:=List.getElem?_of_mem N
    rcases z i x y with⟨c,_⟩ | ⟨n,t,r,_,j⟩
    .have:=all_eq_true.mp hb _ (List.mem_of_getElem? c)
     cases this
    .rw[j];rfl
  rw[G];simp only[Bool.false_eq_true,if_false];rw[kf,if_neg ha]at h
  obtain⟨g0,gr,rfl⟩:∃ g0 gr,p=g0::gr:=by
   match p,(show 0<p.length by lia) with
   | g0::gr,_=>exact⟨g0,gr,rfl⟩
  have w:l.toArray[0]? = l[0]?:=by simp
  rw[w]
  rcases z 0 g0 rfl with⟨c,j⟩ | ⟨n,P,r,c,j⟩
  .rw[c]
   simp only[Option.bind_some,id_eq,Option.isSome_none,Bool.false_eq_true,if_false];rw[show((g0::gr).headD []).isEmpty=true by rw[j];rfl,if_pos rfl]at h;rw[oneTypeOnly'_eq,mapM_toArray,map_eq_pure_bind]
   obtain⟨v1,vr,rfl⟩:∃ v1 vr,vs=v1::vr:=by
    match vs,(show 0<vs.length by lia) with
    | v1::vr,_=>exact⟨v1,vr,rfl⟩
   refine wpAny_bind (wpAny_bind (wpAny_bind (kas_mapM (r:=Value.type "tuple") _ (λv hv J B=>?_) (wpAny_pure ?_))))
   .obtain⟨a,x,rfl,o,K,n,O,L,_⟩:=t.mem v hv
    refine Looks.here (show Looks M s.heap (typeOf (.ref a)) o.cls from(Looks.ld O).andThen .now) ?_;rw[L];exact B
   .have b:((List.map (λ_=>Value.type "tuple") (v1::vr)).toArray.all λx=>x == Value.type "tuple")=true:=by
     simp only[all_toArray,all_map,all_eq_true];intro _ _;exact(by decide:(Value.type "tuple" == Value.type "tuple")=true)
    have w:(List.map (λ_=>Value.type "tuple") (v1::vr)).toArray[0]? = some (Value.type "tuple"):=by simp
    rw[w];simp only[b,if_true];exact wpAny_pure (wpAny_pure h)
  .rw[c]
   simp only[Option.bind_some,id_eq,Option.isSome_some,if_true];rw[show((g0::gr).headD []).isEmpty=false by rw[j];rfl]at h;exact wpAny_pure h
theorem yt{x y:List Int}{a b:Addr}{g:List (List Int)}{C:Bool->Shared->Prop}(f:A.units<cLine)(d:Ti s.heap x a)(c:Ti s.heap y b)(h:C (aI x y) s):wpAny (model prog w) A (keyLt' (kf g) (.ref a) (.ref b)) C E s:=by
 unfold kf
 split
 .exact xV d c h
 .split
  .exact we f d c h
  .exact wH f d c h
end
section
variable {X:Cx}
def Row(H:Hp)(a:Addr)(x:List Int):Prop:=H a=some (.tup (x.map V.int))
theorem nQ:∀{x:List Int}{us:List Value},Vals (x.map V.int) us->IntsAre us x
 | [],us,r=>by cases r;exact .nil
 | n::x,us,r=>by
  cases r with
  | cons r1 r =>
   obtain⟨t,rfl⟩:=r1;exact .cons n t (nQ r)
theorem oU{P:Program}{w:World}{H:Hp}{h:Heap}(g:HOk P w H h){a:Addr}{x:List Int}(c:Row H a x):Ti h x a:=by
 obtain⟨_,b,j,o,f,d,n,i⟩:=(show ObjOk P w H h a (.tup _) from g a _ c)
 exact⟨o,b.toArray,n,f,d,i,by simpa using nQ j⟩
end
section
variable {prog:Program}{w:World}{A:Around}{E:Value->Shared->Prop}{s:Shared}{d I:Addr}{es:Array DictEntry}{ep i:Nat}
theorem oF{κ:SortKind}{lt:Nat->Nat->Bool}{Q:Value->Shared->Prop}{vs:List Value}(y:A.handled=none)(D:(d == sysModules)=false)(x:DE s.heap d es ep)(a:ju es=vs)(T:WSrt.Wk lt vs.length)(hz:vs.length<64)
  (u:2<=vs.length->∀ g tk,(∀ b o,s.heap.get? b=some o->g.get? b=some o)->∀ Q:SortKind->Shared->Prop,Q κ { s with heap:=g,toks:=tk }->wpAny (model prog w) A.in1.in1 (keyKind' vs.toArray) Q (λ_ _=>False) { s with heap:=g,toks:=tk })
  (z:∀ g tk,(∀ b o,s.heap.get? b=some o->g.get? b=some o)->∀ i j,i<vs.length->j<vs.length->i≠j->∀ C,C (lt i j) { s with heap:=g,toks:=tk }->kas_ask prog w A.in1.in1 κ vs i j C { s with heap:=g,toks:=tk })
  (h:∀(r:Addr) g tk m,(∀ b o,s.heap.get? b=some o->g.get? b=some o)->s.heap.objs.size<=r->g.get? r=some (seqObj "list" (List.toArray ((jz lt vs.length).map λi=>vs.getD i Value.none)) m)->Q (.ref r) { s with heap:=g,toks:=tk }) :
  wpAny (model prog w) A (call (.builtin "sorted") [.ref d]) Q E s:=by
 have H:vs.length=es.size:=by rw[<- a];unfold ju;rw[length_map,Array.length_toList]
 have I:sizeLine=16777216:=sizeLine_eq;refine Calls.call_function_entry kind_sorted plain_sorted entry_sorted (args_sorted1 _) ?_;unfold Builtin.«sorted»;refine wpAny_bind (m:=checkCount "sorted" 1 1 _) (wpAny_pure (wpAny_bind (oo y D x (by lia) λl tk n q=>wpAny_bind (wpAny_newList ?_ (by rw[a];lia)))));rw[a];have f:(l.push (seqObj "list" vs.toArray 0)).get? l.objs.size=some (seqObj "list" vs.toArray 0):=Heap.get?_push_size _ rfl
 have c:∀ b o,s.heap.get? b=some o->(l.push (seqObj "list" vs.toArray 0)).get? b=some o/\b≠l.objs.size:=λb o e=>⟨Heap.get?_push_of_some _ (q b o e),Nat.ne_of_lt (Heap.lt_size (q b o e))⟩
 refine wpAny_bind (wpAny_holding (wpAny_call_entry slot_list_sort ⟨_,f,rfl⟩ entry_list_sort (xn (s:={ s with heap:=l.push (seqObj "list" vs.toArray 0),toks:=tk }) (lt:=lt) (κ:=κ) f T (by lia) hz (λF g p v G=>u F g tk (λb o e=>p b o (c b o e).2 (c b o e).1) v G) (λg p=>z g tk λb o e=>p b o (c b o e).2 (c b o e).1) ⟨_,rfl,?_⟩) (args_list_sort _)));obtain⟨m,B⟩:=sortedHeap_at (out:=List.toArray ((jz lt vs.length).map λi=>vs.getD i Value.none)) f;refine wpAny_pure ⟨_,rfl,h l.objs.size _ tk m (λb o e=>?_) (Nat.le_of_lt n) B⟩;rw[sortedHeap_old (c b o e).2 (Heap.lt_size (c b o e).1)];exact(c b o e).1
end
section
variable {X:Cx}
theorem lQ(x:List Int):(x.map (Sum.inl:Int->Key)).map kV=x.map V.int:=by rw[map_map];rfl
theorem wz{a:List (List Int)}(d:a.Nodup){n:Nat}(b:n=a.length):Tot (λi j=>aI (a.getD i []) (a.getD j [])) n:=by
 subst b;refine⟨λi j _ _ h=>jP _ _ h,λi j k _ _ _ h1 h2=>hX _ _ _ h1 h2,λi j h1 h2 b h=>?_⟩
 have c:a.getD i []≠a.getD j []:=λe=>by
  have g:a.getD i []=a[i]:=by simp[List.getD,h1]
  have f:a.getD j []=a[j]:=by simp[List.getD,h2]
  rw[g,f]at e
  rcases Nat.lt_or_gt_of_ne b with z | z
  .exact(pairwise_iff_getElem.mp d i j h1 h2 z) e
  .exact(pairwise_iff_getElem.mp d j i h2 h1 z) e.symm
 rcases kT _ _ c with z | z
 .have h:aI (a.getD i []) (a.getD j [])=false:=h
  rw[h]at z;cases z
 .exact z
theorem xW{a:List (List Int)}{n:Nat}(U:Tot (λi j=>aI (a.getD i []) (a.getD j [])) n):WSrt.Wk (λi j=>aI (a.getD i []) (a.getD j [])) n :=
 ⟨U.asy,λi j k g f l c b=>by
  cases e:aI (a.getD k []) (a.getD i []) with
  | false=>rfl
  | true =>
   exfalso;have c:aI (a.getD j []) (a.getD i [])=false:=c;have b:aI (a.getD k []) (a.getD j [])=false:=b
   by_cases e1:i=j
   .subst e1;rw[e]at b;cases b
   .have h:=U.tot j i f g (λz=>e1 z.symm) c
    have d:=hX _ _ _ e h
    rw[b]at d;cases d⟩
theorem jY(hc:X.calm=true)(hu:X.A.units+64<cLine):CallR X (.builtin "sorted") (λxs H Q=>∃(p:Addr) (kvs:List (List Key×V)) (gs:List (List Int)),xs=[.ref p]/\H p=some (.dT kvs)/\kvs.length<64/\kvs.map (·.1)=gs.map (λx=>x.map Sum.inl)/\gs.Nodup /\
  ∀ q (o:List Nat) (f:Nat->V),H q=none->o.Perm (List.range gs.length)->(o.Pairwise λi j=>aI (gs.getD j []) (gs.getD i [])=false)->(∀ i,i<gs.length->∃ b,f i=.ref b/\Row H b (gs.getD i []))->Q (.ref q) (upd H q (.lst (o.map f)))):=by
 intro B s σ H xs us Q I r h;obtain⟨p,kvs,gs,rfl,hp,hz,y,Y,q⟩:=h;obtain⟨u,rfl,rx⟩:=dJ r;cases rx;obtain⟨z,nm,xs,A,Z,es,ep,g1,g2,g3,g4,g5,g6⟩:=uf I.hok hp;have lx:kvs.length=xs.length:=Paired.length A;have lg:kvs.length=gs.length:=by have:=congrArg List.length y;rwa [length_map,length_map]at this
 obtain⟨vs,hvs⟩:∃ vs,vs=xs.map λx=>Value.ref x.2.1:=⟨_,rfl⟩
 have ek:ju es=vs:=by unfold ju;rw[g4,map_map,hvs];rfl
 have lv:vs.length=kvs.length:=by rw[hvs,length_map,lx]
 have g:∀ i,i<vs.length->∃ a,vs.getD i Value.none=.ref a/\Row H a (gs.getD i []):=λi c=>by
  obtain⟨kv,hkv⟩:∃ x,kvs[i]? = some x:=⟨_,List.getElem?_eq_getElem (by lia)⟩
  obtain⟨x,hx,hH⟩:=A.at hkv;refine⟨x.2.1,?_,?_⟩
  .rw[hvs,List.getD,List.getElem?_map,hx];rfl
  .have e:=congrArg (λl=>l[i]?) y
   simp only[List.getElem?_map,hkv]at e;have P:i<gs.length:=by lia
   rw[List.getElem?_eq_getElem P]at e;have e:kv.1=gs[i].map Sum.inl:=Option.some.inj e;show H x.2.1=_;rw[hH,e,lQ,show gs.getD i []=gs[i] by simp[List.getD,P]]
 have W:∀{d:Heap}{tk:Nat},(∀ b o,s.heap.get? b=some o->d.get? b=some o)->Inv X B σ H { s with heap:=d,toks:=tk }:=λk=>I.kept k
 have U:=wz Y (n:=vs.length) (by lia);have T:=xW U
 have K:∀{d:Heap},HOk X.prog X.w H d->Tis d vs gs:=λ{d} ok=>by
  have F:∀(vs:List Value) (gs:List (List Int)),vs.length=gs.length->(∀ i,i<vs.length->∃ a,vs.getD i Value.none=.ref a/\Row H a (gs.getD i []))->Tis d vs gs:=by
   intro vs
   induction vs with
   | nil=>intro gs e _;cases gs with | nil=>exact .nil | cons _ _=>cases e
   | cons v vs ih =>
    intro gs e N;cases gs with
    | nil=>cases e
    | cons x gs =>
     obtain⟨a,w,h1⟩:=N 0 (by simp);obtain rfl:v=Value.ref a:=w;exact .cons (oU ok h1) (ih gs (by simpa using e) λi c=>N (i+1) (by simpa using c))
  exact F vs gs (by lia) g
 refine oF (vs:=vs) (κ:=kf gs) (lt:=λi j=>aI (gs.getD i []) (gs.getD j [])) (I.ok.hd hc) nm ⟨Z,g1,g2,g3⟩ ek T (by lia) (λh2 d tk k Q' q'=>?_) (λd tk k i j c hj O C hC=>?_) λrr d tk m k big at'=>?_
 .exact t7 (K (W (tk:=tk) k).hok) h2 q'
 .have J:=W (tk:=tk) k
  obtain⟨a,ea,oa⟩:=g i c;obtain⟨b,eb,E⟩:=g j hj;unfold kas_ask;rw[ea,eb];exact yt (by show X.A.units+1+1<cLine;lia) (oU J.hok oa) (oU J.hok E) hC
 .have O:H rr=none:=I.hok.fresh big
  have D:=kj T;have S:=ww T;generalize jz (λi j=>aI (gs.getD i []) (gs.getD j [])) vs.length=o at D S at';have M:sizeLine=16777216:=sizeLine_eq;have G:∀ i∈o,i<vs.length:=λi c=>mem_range.mp (D.mem_iff.mp c)
  let f:Nat->V:=λi=>match vs.getD i Value.none with | .ref a=>.ref a | _=>.non
  have R:∀ i,i<vs.length->∃ a,f i=.ref a/\vs.getD i Value.none=.ref a/\Row H a (gs.getD i []):=λi c=>by
   obtain⟨a,w,L⟩:=g i c;exact⟨a,by show(match vs.getD i Value.none with | .ref a=>V.ref a | _=>.non)=_;rw[w],w,L⟩
  refine⟨.ref rr,_,I.laid (a:=rr) (o:=.lst (o.map f)) (t':=tk) k big ⟨?_,_,m,kA (vs:=vs) f λi c=>?_,at'⟩,rfl,q rr o f O (by rw[<- lg,<- lv];exact D) S λi c=>?_⟩
  .rw[length_map,D.length_eq,length_range];lia
  .obtain⟨a,w,e2,_⟩:=R i (G i c)
   rw[w,e2];rfl
  .obtain⟨a,w,_,L⟩:=R i (by lia)
   exact⟨a,w,L⟩
end
end L2
namespace L2
open PySem PySem.Spec PyProof.Rows
section
variable {X:Cx}{a b c d:Expr}{ta tb tc td:TE}{pos:Pos}
end
section
variable {X:Cx}{o e:Expr}{es:List Expr}{to:TE}{t:TA}{apos cpos:Pos}
theorem pe_m.extend(f:PE X o to)(g:PA X (e::es) t)(c:attributeBase o "extend" X.env (eval o X.env)=eval o X.env:=by rfl)
  (d:((backTo cpos (starEach (e::es) X.env)).all (λx=>!x.1) && (backToKw cpos (keywordEach [] X.env)).all (λx=>x.1.isSome) && decide ((e::es).length+([]:List Keyword).length+(if ([]:List Keyword).isEmpty then 0 else 1)<30))=true:=by rfl)
  (b:(apos.endLine == cpos.line)=true:=by rfl) (h:starEach (e::es) X.env=(false,eval e X.env)::starEach es X.env:=by rfl) (a:(backTo cpos (starEach es X.env)).any (·.1)=false:=by rfl) :
  PE X (.Call (.Attribute o "extend" apos) (e::es) [] cpos) (tBM X.K "list" qj to t):=yQ F.plainAttrs_list F.slot_list_extend F.type_list_extend sk f g c d b h a
end
end L2
namespace Du
open FrM
def fr(q:Rat):Int×Int:=(q.num,(q.den:Int))
theorem sJ(n:Int){d:Nat}(a:d≠0):lowP n (d:Int)=fr (mkRat n d):=by
 unfold lowP fr;rw[Rat.num_mkRat,Rat.den_mkRat,if_neg a,if_neg a];have e:Int.gcd n (d:Int)=d.gcd n.natAbs:=by rw[Int.gcd,Nat.gcd_comm];rfl
 rw[e];rfl
theorem lF(t:Int){b:Int}(a:0<b):lowP t b=fr ((t:Rat)/(b:Rat)):=by
 obtain⟨d,rfl⟩:=Int.eq_ofNat_of_zero_le (Int.le_of_lt a);rw[sJ t (by omega),<- Rat.divInt_eq_div,<- Rat.divInt_ofNat]
section
variable {B:Nat}{h c:Rat}
end
end Du
namespace Tb
open FrM Du
inductive Tr where
 | leaf (ns:List Int)
 | die (ps:List (Int×Tr))
def tot(ps:List (Int×Tr)):Int:=(ps.map (·.1)).sum
mutual
def lv:Tr->Nat
 | .leaf _=>1
 | .die ps=>lvs ps
def lvs:List (Int×Tr)->Nat
 | []=>0
 | (_,u)::r=>lv u+lvs r
end
mutual
def sz:Tr->Nat
 | .leaf _=>1
 | .die ps=>szs ps+1
def szs:List (Int×Tr)->Nat
 | []=>0
 | (_,u)::r=>sz u+szs r
end
mutual
def Ok:Tr->Prop
 | .leaf ns=>ns.Nodup/\ns.length<=24
 | .die ps=>ps≠[]/\Oks ps
def Oks:List (Int×Tr)->Prop
 | []=>True
 | (m,u)::r=>1<=m/\Ok u/\Oks r
end
abbrev Way:=List Int×(Int×Int)
mutual
def wl:Tr->Int->Int->List Way
 | .leaf ns,t,b=>[(ns,(t,b))]
 | .die ps,t,b=>wls ps t b (tot ps)
def wls:List (Int×Tr)->Int->Int->Int->List Way
 | [],_,_,_=>[]
 | (m,u)::r,t,b,S=>wls r t b S++wl u (t*m) (b*S)
end
abbrev Ent:=Tr×(Int×Int)
def st:List Ent->List Way
 | []=>[]
 | (u,(t,b))::r=>st r++wl u t b
def stL:List Ent->Nat
 | []=>0
 | (u,_)::r=>stL r+lv u
def stS:List Ent->Nat
 | []=>0
 | (u,_)::r=>stS r+sz u
theorem lZ:∀(a b:List Ent),st (a++b)=st b++st a
 | [],b=>by simp[st]
 | (u,(t,c))::a,b=>by rw[cons_append,st,lZ a b,st,append_assoc]
theorem stS_app:∀(a b:List Ent),stS (a++b)=stS a+stS b
 | [],b=>by simp[stS]
 | (u,c)::a,b=>by rw[cons_append,stS,stS_app a b,stS];lia
def kids(ps:List (Int×Tr))(t b S:Int):List Ent:=ps.map λp=>(p.2,(t*p.1,b*S))
theorem qg(t b S:Int):∀ ps:List (Int×Tr),st (kids ps t b S)=wls ps t b S
 | []=>rfl
 | (m,u)::r=>by
  have a:=qg t b S r;unfold kids at *;rw[map_cons,st,a,wls]
theorem stS_kids(t b S:Int):∀ ps:List (Int×Tr),stS (kids ps t b S)=szs ps
 | []=>rfl
 | (m,u)::r=>by
  have a:=stS_kids t b S r;unfold kids at *;rw[map_cons,stS,a,szs];lia
mutual
theorem uh:∀ t:Tr,Ok t->1<=lv t
 | .leaf _,_=>by simp[lv]
 | .die ps,h=>by rw[lv];rw[Ok]at h;exact yh ps h.2 h.1
theorem yh:∀ ps:List (Int×Tr),Oks ps->ps≠[]->1<=lvs ps
 | [],_,h=>absurd rfl h
 | (m,u)::r,h,_=>by rw[Oks]at h;rw[lvs];have:=uh u h.2.1;lia
end
def StOk(s:List Ent):Prop:=∀ e∈s,Ok e.1
theorem qD:∀ s:List Ent,StOk s->s.length<=stL s
 | [],_=>Nat.le_refl _
 | (u,c)::r,h=>by
  have:=qD r λe a=>h e (mem_cons_of_mem _ a)
  have:=uh u (h _ mem_cons_self);rw[stL,length_cons];lia
theorem ql:∀{ps:List (Int×Tr)},Oks ps->∀ p∈ps,1<=p.1/\Ok p.2
 | (m,u)::r,h,p,hp=>by
  rw[Oks]at h
  rcases mem_cons.mp hp with rfl | hp
  .exact⟨h.1,h.2.1⟩
  .exact ql h.2.2 p hp
theorem StOk.kids{ps:List (Int×Tr)}{t b S:Int}(h:Oks ps):StOk (kids ps t b S):=λe a=>by
 obtain⟨p,c,rfl⟩:=mem_map.mp a;exact(ql h p c).2
mutual
theorem wl_len:∀(t:Tr) (a b:Int),(wl t a b).length=lv t
 | .leaf _,_,_=>rfl
 | .die ps,a,b=>by rw[wl,lv];exact qN ps a b _
theorem qN:∀(ps:List (Int×Tr)) (a b S:Int),(wls ps a b S).length=lvs ps
 | [],_,_,_=>rfl
 | (m,u)::r,a,b,S=>by rw[wls,lvs,length_append,qN r,wl_len u];lia
end
structure Wk(t:Tr)(ways:List Way)(s:List Ent):Prop where
 all:ways++st s=wl t 1 1
 ok:StOk s
theorem Wk.start{t:Tr}(h:Ok t):Wk t [] [(t,(1,1))]:=⟨by simp[st],λe a=>by cases mem_singleton.mp a;exact h⟩
theorem Wk.leaf{t:Tr}{c:List Way}{s:List Ent}{d:List Int}{a b:Int}(h:Wk t c (s++[(.leaf d,(a,b))])):Wk t (c++[(d,(a,b))]) s:=by
 refine⟨?_,λe f=>h.ok e (mem_append_left _ f)⟩;have:=h.all;rw[lZ]at this;rw[append_assoc];exact this
theorem Wk.die{t:Tr}{c:List Way}{s:List Ent}{ps:List (Int×Tr)}{a b:Int}(h:Wk t c (s++[(.die ps,(a,b))])):Wk t c (s++kids ps a b (tot ps)):=by
 have o:=h.ok _ (mem_append_right _ mem_cons_self);rw[Ok]at o;refine⟨?_,λe he=>?_⟩
 .rw[lZ,qg]
  have:=h.all;rw[lZ]at this;simpa[st,wl] using this
 .rcases mem_append.mp he with he | he
  .exact h.ok e (mem_append_left _ he)
  .exact StOk.kids o.2 e he
theorem ue:∀ s:List Ent,(st s).length=stL s
 | []=>rfl
 | (u,(a,b))::r=>by rw[st,stL,length_append,ue r,wl_len]
theorem Wk.few{t:Tr}{a:List Way}{s:List Ent}(h:Wk t a s):a.length+s.length<=lv t:=by
 have e:=congrArg List.length h.all;rw[length_append,ue,wl_len]at e;have:=qD s h.ok;lia
theorem Wk.done{t:Tr}{a:List Way}(h:Wk t a []):a=wl t 1 1:=by have:=h.all;simpa[st] using this
abbrev Rws:=List (List Int×Rat)
def dc(W:Rws)(k:List Int):Rat:=((W.filter λw=>decide (w.1=k)).map (·.2)).sum
theorem jO{k:List Int}:dc [] k=0:=rfl
theorem aZ{w:List Int×Rat}{W:Rws}{k:List Int}:dc (w::W) k=(if w.1=k then w.2 else 0)+dc W k:=by
 unfold dc;rw[filter_cons]
 by_cases h:w.1=k
 .rw[if_pos (decide_eq_true h),if_pos h,map_cons,sum_cons]
 .rw[if_neg (by simp[h]),if_neg h];grind
theorem tX{A B:Rws}{k:List Int}(h:A.Perm B):dc A k=dc B k:=by
 induction h with
 | nil=>rfl
 | cons x _ ih=>rw[aZ,aZ,ih]
 | swap x y l=>rw[aZ,aZ,aZ,aZ];grind
 | trans _ _ a b=>rw[a,b]
theorem jJ{W:Rws}{k:List Int}(h:k ∉ W.map (·.1)):dc W k=0:=by
 induction W with
 | nil=>rfl
 | cons w W ih =>
  rw[map_cons,mem_cons,not_or]at h;rw[aZ,if_neg (λe=>h.1 e.symm),ih h.2];grind
def fj(k:List Int)(m:Rat):Rws->Rws
 | []=>[(k,m)]
 | x::r=>if x.1=k then (k,x.2+m)::r else x::fj k m r
def NdR(st:Rws):Prop:=(st.map (·.1)).Nodup
theorem im(k:List Int)(m:Rat):∀ st:Rws,(fj k m st).map (·.1)=if k∈st.map (·.1) then st.map (·.1) else st.map (·.1)++[k]
 | []=>by simp[fj]
 | x::r=>by
  rw[fj]
  by_cases c:x.1=k
  .rw[if_pos c];simp[c]
  .rw[if_neg c,map_cons,im k m r,map_cons]
   have a:¬k=x.1:=λe=>c e.symm
   by_cases d:k∈r.map (·.1)
   .rw[if_pos d,if_pos (mem_cons_of_mem _ d)]
   .rw[if_neg d,if_neg (by simp only[mem_cons,not_or];exact⟨a,d⟩)];rfl
theorem NdR.add{k:List Int}{m:Rat}{d:Rws}(h:NdR d):NdR (fj k m d):=by
 unfold NdR at *;rw[im]
 split
 .exact h
 .rename_i n
  exact nodup_append.mpr ⟨h,by simp,λa f b c e=>n (by rw[mem_singleton]at c;rw[<- c,<- e];exact f)⟩
theorem mY{k a:List Int}{m:Rat}:∀{st:Rws},dc (fj k m st) a=dc st a+if k=a then m else 0
 | []=>by rw[fj,aZ,jO];grind
 | x::r=>by
  rw[fj]
  by_cases c:x.1=k
  .rw[if_pos c,aZ,aZ]
   show(if k=a then x.2+m else 0)+dc r a=_
   rw[c];split <;> grind
  .rw[if_neg c,aZ,aZ,mY];grind
def pF(W:Rws):Rws:=W.foldl (λst w=>fj w.1 w.2 st) []
theorem tR(a:Rws):∀(W:Rws) (k:List Int),dc (W.foldl (λa w=>fj w.1 w.2 a) a) k=dc a k+dc W k:=by
 intro W
 induction W generalizing a with
 | nil=>intro k;rw[List.foldl_nil,jO];grind
 | cons w W ih=>intro k;rw[foldl_cons,ih,mY,aZ];grind
theorem t9(W:Rws)(k:List Int):dc (pF W) k=dc W k:=by
 unfold pF;rw[tR,jO];grind
theorem vB(a:Rws)(h:NdR a):∀ W:Rws,NdR (W.foldl (λa w=>fj w.1 w.2 a) a):=by
 intro W
 induction W generalizing a with
 | nil=>exact h
 | cons w W ih=>exact ih _ h.add
theorem qt(W:Rws):NdR (pF W):=vB [] nodup_nil W
theorem oV(b:Rws):∀(W:Rws) (k:List Int),k∈(W.foldl (λb w=>fj w.1 w.2 b) b).map (·.1)↔k∈b.map (·.1)\/k∈W.map (·.1):=by
 intro W
 induction W generalizing b with
 | nil=>intro k;simp
 | cons w W ih =>
  intro k;rw[foldl_cons,ih,im,map_cons,mem_cons]
  split
  .rename_i h
   constructor
   .rintro(a | a)
    .exact .inl a
    .exact .inr (.inr a)
   .rintro(a | a | a)
    .exact .inl a
    .exact .inl (by rw[a];exact h)
    .exact .inr a
  .rw[mem_append,mem_singleton]
   constructor
   .rintro((a | a) | a)
    .exact .inl a
    .exact .inr (.inl a)
    .exact .inr (.inr a)
   .rintro(a | a | a)
    .exact .inl (.inl a)
    .exact .inl (.inr a)
    .exact .inr a
theorem adds_keys(W:Rws)(k:List Int):k∈(pF W).map (·.1)↔k∈W.map (·.1):=by
 unfold pF;rw[oV];simp
theorem vd{b:Rws}(a:NdR b):∀ x∈b,dc b x.1=x.2:=by
 induction b with
 | nil=>intro x hx;cases hx
 | cons y r ih =>
  intro x hx;unfold NdR at a;rw[map_cons,nodup_cons]at a;rw[aZ]
  rcases mem_cons.mp hx with rfl | hx
  .rw[if_pos rfl,jJ a.1];grind
  .have e:=ih a.2 x hx
   rw[if_neg (λz=>a.1 (by rw[z];exact mem_map.mpr ⟨x,hx,rfl⟩)),e];grind
abbrev Grp:=List (List Int×List (Int×Int))
def pushG(k:List Int)(c:Int×Int):Grp->Grp
 | []=>[(k,[c])]
 | x::r=>if x.1=k then (k,x.2++[c])::r else x::pushG k c r
def grp(W:List Way):Grp:=W.foldl (λg w=>pushG w.1 w.2 g) []
def qv(c:Int×Int):Rat:=(c.1:Rat)/(c.2:Rat)
def sumQ(l:List (Int×Int)):Rat:=(l.map qv).sum
def rat(g:Grp):Rws:=g.map λx=>(x.1,sumQ x.2)
def toR(W:List Way):Rws:=W.map λw=>(w.1,qv w.2)
theorem nL(k:List Int)(c:Int×Int):∀ g:Grp,rat (pushG k c g)=fj k (qv c) (rat g)
 | []=>by
  show [(k,sumQ [c])]=[(k,qv c)];unfold sumQ;simp only[map_cons,map_nil,sum_cons,sum_nil];have:qv c+0=qv c:=by grind
  rw[this]
 | x::r=>by
  rw[pushG]
  by_cases h:x.1=k
  .rw[if_pos h]
   show(k,sumQ (x.2++[c]))::rat r=fj k (qv c) ((x.1,sumQ x.2)::rat r);rw[fj,if_pos h];have:sumQ (x.2++[c])=sumQ x.2+qv c:=by unfold sumQ;rw[map_append,sum_append];simp only[map_cons,map_nil,sum_cons,sum_nil];grind
   rw[this]
  .rw[if_neg h]
   show(x.1,sumQ x.2)::rat (pushG k c r)=fj k (qv c) ((x.1,sumQ x.2)::rat r);rw[fj,if_neg h,nL k c r]
theorem uY(g:Grp):∀ W:List Way,rat (W.foldl (λg w=>pushG w.1 w.2 g) g)=(toR W).foldl (λst w=>fj w.1 w.2 st) (rat g):=by
 intro W
 induction W generalizing g with
 | nil=>rfl
 | cons w W ih =>
  rw[foldl_cons,ih,nL];rfl
theorem rat_grp(W:List Way):rat (grp W)=pF (toR W):=uY [] W
theorem grp_snoc{W:List Way}{i:Nat}{w:Way}(h:W[i]? = some w):grp (W.take (i+1))=pushG w.1 w.2 (grp (W.take i)):=by
 unfold grp;rw[take_add_one,h,List.foldl_append];rfl
mutual
def wf:Tr->Rat->Rws
 | .leaf ns,q=>[(ns,q)]
 | .die ps,q=>wfs ps q (tot ps)
def wfs:List (Int×Tr)->Rat->Int->Rws
 | [],_,_=>[]
 | (m,u)::r,q,S=>wf u (q*((m:Rat)/(S:Rat)))++wfs r q S
end
theorem zw{a b m S:Int}(c:b≠0)(d:S≠0):qv (a*m,b*S)=qv (a,b)*((m:Rat)/(S:Rat)):=by
 unfold qv;have f:(b:Rat)≠0:=by exact_mod_cast c
 have g:(S:Rat)≠0:=by exact_mod_cast d
 simp only[Rat.intCast_mul]
 grind
theorem pW:∀{ps:List (Int×Tr)},Oks ps->(ps.length:Int)<=tot ps
 | [],_=>by simp[tot]
 | (m,u)::r,h=>by
  rw[Oks]at h;have:=pW h.2.2;unfold tot at *;rw[map_cons,sum_cons,length_cons];have:=h.1;show((r.length+1:Nat):Int)<=m+_;lia
mutual
theorem za:∀(t:Tr) (a b:Int),Ok t->0<b->(toR (wl t a b)).Perm (wf t (qv (a,b)))
 | .leaf ns,a,b,_,_=>by rw[wl,wf];exact .refl _
 | .die ps,a,b,h,hb=>by
  rw[Ok]at h;rw[wl,wf];have:=pW h.2;have:0<ps.length:=List.length_pos_iff.mpr h.1;exact uK ps a b (tot ps) h.2 hb (by lia)
theorem uK:∀(ps:List (Int×Tr)) (a b S:Int),Oks ps->0<b->0<S->(toR (wls ps a b S)).Perm (wfs ps (qv (a,b)) S)
 | [],_,_,_,_,_,_=>by rw[wls,wfs];exact .refl _
 | (m,u)::r,a,b,S,h,hb,hS=>by
  rw[Oks]at h;rw[wls,wfs];have e:toR (wls r a b S++wl u (a*m) (b*S))=toR (wls r a b S)++toR (wl u (a*m) (b*S)):=by unfold toR;rw[map_append]
  rw[e,<- zw (by lia) (by lia)];exact(List.perm_append_comm).trans ((za u _ _ h.2.1 (Int.mul_pos hb hS)).append (uK r a b S h.2.2 hb hS))
end
end Tb
namespace Tb
open FrM Du LexM
def so(l:List Int):List Int:=l.mergeSort (λa b=>decide (a<=b))
theorem dL(l:List Int):(so l).Perm l:=List.mergeSort_perm l _
theorem pA(l:List Int):(so l).Pairwise (·<=·):=by
 have h:=List.pairwise_mergeSort (le:=λ(a b:Int)=>decide (a<=b)) (by intro a b c h1 h2;simp at *;lia) (by intro a b;simp;lia) l;exact h.imp λh=>by simpa using h
theorem qu:∀{a b:List Int},a.Perm b->a.Pairwise (·<=·)->b.Pairwise (·<=·)->a=b
 | [],b,p,_,_=>(List.nil_perm.mp p).symm ▸ rfl
 | x::a,[],p,_,_=>absurd p.length_eq (by simp)
 | x::a,y::b,p,h1,h2=>by
  rw[pairwise_cons]at h1 h2
  have e:x=y:=by
   have c:x∈y::b:=p.mem_iff.mp mem_cons_self;have d:y∈x::a:=p.mem_iff.mpr mem_cons_self
   rcases mem_cons.mp c with z | z
   .exact z
   .rcases mem_cons.mp d with z' | z'
    .exact z'.symm
    .have:=h2.1 x z
     have:=h1.1 y z';lia
  subst e;rw[qu (List.perm_cons x |>.mp p) h1.2 h2.2]
theorem so_uniq{a l:List Int}(h:a.Perm l)(s:a.Pairwise (·<=·)):a=so l:=qu (h.trans (dL l).symm) s (pA l)
def kW(W:List Way):List Way:=W.map λw=>(so w.1,w.2)
def kR(W:Rws):Rws:=W.map λw=>(so w.1,w.2)
theorem AL(W:List Way):toR (kW W)=kR (toR W):=by unfold toR kW kR;rw[map_map,map_map];rfl
def kt(t:Tr):Rws:=kR (wf t 1)
theorem kS{t:Tr}(h:Ok t):(toR (kW (wl t 1 1))).Perm (kt t):=by
 rw[AL];have:=za t 1 1 h (by decide);have e:qv (1,1)=1:=by unfold qv;grind
 rw[e]at this;exact this.map _
structure IsTab(W R:Rws):Prop where
 pm:R.Perm (pF W)
 up:(R.map (·.1)).Pairwise λa b=>aI a b=true
theorem qm:∀{a b:List (List Int)},(a.Pairwise λx y=>aI x y=true)->(b.Pairwise λx y=>aI x y=true)->(∀ x,x∈a↔x∈b)->a=b
 | [],[],_,_,_=>rfl
 | [],y::b,_,_,h=>absurd ((h y).mpr mem_cons_self) (by simp)
 | x::a,[],_,_,h=>absurd ((h x).mp mem_cons_self) (by simp)
 | x::a,y::b,h1,h2,h=>by
  rw[pairwise_cons]at h1 h2
  have e:x=y:=by
   rcases mem_cons.mp ((h x).mp mem_cons_self) with z | z
   .exact z
   .rcases mem_cons.mp ((h y).mpr mem_cons_self) with z' | z'
    .exact z'.symm
    .have d:=jP _ _ (h2.1 x z)
     rw[h1.1 y z']at d;cases d
  subst e
  have:a=b:=qm h1.2 h2.2 λz=>by
   have c:=h z;rw[mem_cons,mem_cons]at c
   constructor
   .intro m
    rcases c.mp (.inr m) with e | e
    .have:=h1.1 z m;rw[e,ly]at this;cases this
    .exact e
   .intro m
    rcases c.mpr (.inr m) with e | e
    .have:=h2.1 z m;rw[e,ly]at this;cases this
    .exact e
  rw[this]
theorem IsTab.keys{W R:Rws}(h:IsTab W R)(k:List Int):k∈R.map (·.1)↔k∈W.map (·.1):=by
 rw[<- adds_keys W k];exact(h.pm.map _).mem_iff
theorem IsTab.val{W R:Rws}(h:IsTab W R){x:List Int×Rat}(a:x∈R):x.2=dc W x.1:=by
 rw[<- t9,vd (qt W) x (h.pm.mem_iff.mp a)]
theorem IsTab.eqv{W R:Rws}(h:IsTab W R):R=(R.map (·.1)).map λk=>(k,dc W k):=by
 rw[map_map]
 have:∀ x∈R,x=((λk=>(k,dc W k)) ∘ λx=>x.1) x:=λx hx=>by
  show x=(x.1,dc W x.1);rw[<- h.val hx]
 conv=>lhs;rw[<- map_id R]
 exact map_congr_left this
theorem tab_of{g:Rws}{o:List Nat}(v:NdR g)(l:o.Perm (List.range g.length))(C:o.Pairwise λi j=>aI ((g.map (·.1)).getD j []) ((g.map (·.1)).getD i [])=false) :
  (o.map λi=>g.getD i ([],0)).Perm g/\((o.map λi=>g.getD i ([],0)).map (·.1)).Pairwise λa b=>aI a b=true:=by
 constructor
 .have e:(List.range g.length).map (λi=>g.getD i ([],0))=g:=by
   apply List.ext_getElem
   .simp
   .intro i p A
    rw[getElem_map,List.getElem_range,List.getD,List.getElem?_eq_getElem A];rfl
  have:=l.map λi=>g.getD i ([],0)
  rw[e]at this;exact this
 .have w:o.Nodup:=l.nodup_iff.mpr nodup_range
  rw[map_map,pairwise_map];have d:=C.and w;refine List.Pairwise.imp_of_mem (λ{i j} u r h=>?_) d;have f:i<g.length:=mem_range.mp (l.mem_iff.mp u);have n:j<g.length:=mem_range.mp (l.mem_iff.mp r);have B:(g.map (·.1)).getD i []=(g.getD i ([],0)).1:=by simp[List.getD,f]
  have s:(g.map (·.1)).getD j []=(g.getD j ([],0)).1:=by simp[List.getD,n]
  rw[B,s]at h
  have x:(g.getD i ([],0)).1≠(g.getD j ([],0)).1:=λe=>by
   have q:(g.map (·.1))[i]'(by simpa using f)=(g.map (·.1))[j]'(by simpa using n):=by
    simp[List.getD,f,n]at e;simpa using e
   have c:∀ i j (f:i<(g.map (·.1)).length) (n:j<(g.map (·.1)).length),i<j->(g.map (·.1))[i]≠(g.map (·.1))[j]:=pairwise_iff_getElem.mp v
   rcases Nat.lt_trichotomy i j with y | y | y
   .exact c i j _ _ y q
   .exact h.2 y
   .exact c j i _ _ y q.symm
  rcases kT _ _ x with z | z
  .exact z
  .have p:=h.1
   rw[z]at p;cases p
abbrev sm(W:Rws):Rat:=(W.map (·.2)).sum
def pm(p:List Int->Bool)(W:Rws):Rat:=(W.map λx=>if p x.1=true then x.2 else 0).sum
theorem qA{W:Rws}{k:List Int}:dc W k=pm (λy=>decide (y=k)) W:=by
 induction W with
 | nil=>rfl
 | cons w W ih =>
  rw[aZ,ih];have e:pm (λy=>decide (y=k)) (w::W)=(if decide (w.1=k)=true then w.2 else 0)+pm (λy=>decide (y=k)) W:=by unfold pm;rw[map_cons,sum_cons]
  rw[e]
  by_cases h:w.1=k
  .rw[if_pos h,if_pos (decide_eq_true h)]
  .rw[if_neg h,if_neg (by simp[h])]
mutual
def dn:Tr->Nat
 | .leaf _=>1
 | .die ps=>(tot ps).toNat*dns ps
def dns:List (Int×Tr)->Nat
 | []=>1
 | (_,u)::r=>dn u*dns r
end
structure Ch(D:Int)(c:Int×Int):Prop where
 t0:0<=c.1
 le:c.1<=c.2
 b0:0<c.2
 dv:c.2 ∣ D
theorem lcm_step{r n D:Int}(j:0<r)(f:0<n)(u:r ∣ D)(v:n ∣ D):0<r/(Int.gcd r n:Int)*n/\r ∣ r/(Int.gcd r n:Int)*n/\n ∣ r/(Int.gcd r n:Int)*n/\r/(Int.gcd r n:Int)*n ∣ D:=by
 have y:0<Int.gcd r n:=Int.gcd_pos_of_ne_zero_right _ (by lia);have x:(0:Int)<(Int.gcd r n:Int):=by lia
 obtain⟨c,d⟩:=Int.gcd_dvd_left (a:=r) (b:=n);obtain⟨e,w⟩:=Int.gcd_dvd_right (a:=r) (b:=n)
 have i:r/(Int.gcd r n:Int)=c:=by
  have:=Int.mul_ediv_cancel_left c (show(Int.gcd r n:Int)≠0 by lia);rw[<- d]at this;exact this
 have s:0<c:=by
  rcases Int.lt_or_le 0 c with h | h
  .exact h
  .have:=Int.mul_nonpos_of_nonneg_of_nonpos (Int.le_of_lt x) h;lia
 rw[i];refine⟨Int.mul_pos s f,⟨e,?_⟩,⟨c,Int.mul_comm _ _⟩,?_⟩
 .rw[d]
  conv=>lhs;rw[w]
  generalize (Int.gcd r n:Int)=g;rw[<- Int.mul_assoc,Int.mul_comm c g]
 .have l:(Int.lcm r n:Int) ∣ D:=by
   have:=Nat.lcm_dvd (Int.natAbs_dvd_natAbs.mpr u) (Int.natAbs_dvd_natAbs.mpr v);exact Int.natAbs_dvd_natAbs.mp (by rw[Int.natAbs_natCast];exact this)
  have q:(Int.lcm r n:Int)=c*n:=by
   have:=Int.gcd_mul_lcm r n
   have p:(Int.gcd r n:Int)*(Int.lcm r n:Int)=r*n:=by
    have h:((Int.gcd r n*Int.lcm r n:Nat):Int)=((r*n).natAbs:Int):=by rw[this,Int.natAbs_mul]
    rw[Int.natCast_mul]at h;have:=Int.mul_pos j f;lia
   have o:(Int.gcd r n:Int)*(Int.lcm r n:Int)=(Int.gcd r n:Int)*(c*n):=by
    rw[p,<- Int.mul_assoc,<- d]
   exact Int.eq_of_mul_eq_mul_left (by lia) o
  rw[<- q];exact l
theorem xr{L t b:Int}(f:0<L)(d:0<b)(h:b ∣ L):((t*(L/b):Int):Rat)=qv (t,b)*(L:Rat):=by
 obtain⟨c,rfl⟩:=h;rw[Int.mul_ediv_cancel_left c (by lia)];have a:(b:Rat)≠0:=by have:b≠0:=(by lia);exact_mod_cast this
 unfold qv
 push_cast
 grind
theorem top_sum{L:Int}(a:0<L):∀{fs:List (Int×Int)},(∀ f∈fs,0<f.2/\f.2 ∣ L)->(((fs.map λf=>f.1*(L/f.2)).sum:Int):Rat)=sumQ fs*(L:Rat)
 | [],_=>by show((0:Int):Rat)=0*_;grind
 | f::fs,h=>by
  have d:=xr (t:=f.1) a (h f mem_cons_self).1 (h f mem_cons_self).2;have c:=top_sum a λx b=>h x (mem_cons_of_mem _ b)
  rw[map_cons,sum_cons,Rat.intCast_add,d,c];have e:sumQ (f::fs)=qv (f.1,f.2)+sumQ fs:=by unfold sumQ;rw[map_cons,sum_cons]
  rw[e]
  grind
theorem low_tops{L T:Int}{q:Rat}(a:0<L)(e:(T:Rat)=q*(L:Rat)):lowP T L=fr q:=by
 rw[lF T a,e];have b:(L:Rat)≠0:=by have:L≠0:=(by lia);exact_mod_cast this
 congr 1
 grind
def Lm2:Nat:=2 ^ 2720
theorem bt_of{D:Nat}{i:Int}(a:0<D)(c:D<=Lm2)(b:0<=i)(h:i<=(D:Int)):Bt 2721 i:=by
 unfold Bt;have e:(2:Nat) ^ 2721=Lm2*2:=by unfold Lm2;exact Nat.pow_succ 2 2720
 rw[e];have:0<Lm2:=by unfold Lm2;exact Nat.pow_pos (by decide)
 lia
theorem ch_bt{D:Nat}{c:Int×Int}(a:0<D)(b:D<=Lm2)(h:Ch (D:Int) c):Bt 2721 c.1/\Bt 2721 c.2:=by
 have:=Int.le_of_dvd (by lia) h.dv;have:=h.le;have:=h.b0;exact⟨bt_of a b h.t0 (by lia),bt_of a b (by lia) (by lia)⟩
def fb:Nat->Nat
 | 0=>0
 | d+1=>32+4*fb d
mutual
def Dp:Nat->Tr->Prop
 | _,.leaf ns=>ns.Nodup/\ns.length<=6
 | 0,.die _=>False
 | d+1,.die ps=>1<=ps.length/\ps.length<=4/\Dps d ps
def Dps:Nat->List (Int×Tr)->Prop
 | _,[]=>True
 | d,(m,u)::r=>1<=m/\m<=1000000000/\Dp d u/\Dps d r
end
theorem nY{k:List Int}{c:Int×Int}:∀ g:Grp,(pushG k c g).length<=g.length+1
 | []=>by rw[pushG];simp
 | y::r=>by
  rw[pushG]
  split
  .simp
  .rw[length_cons,length_cons];have:=nY (k:=k) (c:=c) r;lia
def Gk(W:List Way)(n:Nat)(g:Grp):Prop:=g.length<=n/\∀ x∈g,x.2.length<=n/\∀ c∈x.2,∃ w∈W,w.2=c
theorem Gk.push{W:List Way}{n:Nat}{g:Grp}(h:Gk W n g){w:Way}(b:w∈W):Gk W (n+1) (pushG w.1 w.2 g):=by
 refine⟨Nat.le_trans (nY g) (by have:=h.1;lia),λx hx=>?_⟩
 have f:∀ g:Grp,(∀ x∈g,x.2.length<=n/\∀ c∈x.2,∃ w∈W,w.2=c)->∀ x∈pushG w.1 w.2 g,x.2.length<=n+1/\∀ c∈x.2,∃ w∈W,w.2=c:=by
  intro g
  induction g with
  | nil=>intro _ x hx;rw[pushG]at hx;rw[mem_singleton.mp hx];exact⟨by simp,λc hc=>⟨w,b,(mem_singleton.mp hc).symm⟩⟩
  | cons y r ih =>
   intro h x hx;rw[pushG]at hx;have a:=h y mem_cons_self
   split at hx
   .rcases mem_cons.mp hx with rfl | hx
    .refine⟨by rw[length_append];have:=a.1;simp;lia,λc hc=>?_⟩
     rcases mem_append.mp hc with hc | hc
     .exact a.2 c hc
     .exact⟨w,b,(mem_singleton.mp hc).symm⟩
    .have:=h x (mem_cons_of_mem _ hx);exact⟨by lia,this.2⟩
   .rcases mem_cons.mp hx with rfl | hx
    .exact⟨by have:=a.1;lia,a.2⟩
    .exact ih (λz d=>h z (mem_cons_of_mem _ d)) x hx
 exact f g h.2 x hx
theorem grp_gk(W:List Way):∀ i,i<=W.length->Gk W i (grp (W.take i))
 | 0,_=>⟨Nat.le_refl _,λx a=>by cases a⟩
 | i+1,h=>by
  obtain⟨w,hw⟩:∃ w,W[i]? = some w:=⟨_,List.getElem?_eq_getElem (by lia)⟩
  rw[grp_snoc hw];exact(grp_gk W i (by lia)).push (List.mem_of_getElem? hw)
theorem rat_keys(g:Grp):(rat g).map (·.1)=g.map (·.1):=by unfold rat;rw[map_map];rfl
theorem grp_nd(W:List Way):NdR (rat (grp W)):=by rw[rat_grp];exact qt _
theorem kW_len(t:Tr):(kW (wl t 1 1)).length=lv t:=by unfold kW;rw[length_map,wl_len]
theorem kW_get{W:List Way}{i:Nat}{w:Way}(h:W[i]? = some w):(kW W)[i]? = some (so w.1,w.2):=by unfold kW;rw[List.getElem?_map,h];rfl
theorem zQ(A B:Rws):kR (A++B)=kR A++kR B:=by unfold kR;rw[map_append]
mutual
def bnd:Tr->(List Int->Tr)->Tr
 | .leaf ns,g=>g (so ns)
 | .die ps,g=>.die (xX ps g)
def xX:List (Int×Tr)->(List Int->Tr)->List (Int×Tr)
 | [],_=>[]
 | (m,u)::r,g=>(m,bnd u g)::xX r g
end
mutual
def Dq:Nat->Tr->Prop
 | _,.leaf ns=>ns.Nodup/\ns.length<=12
 | 0,.die _=>False
 | d+1,.die ps=>1<=ps.length/\ps.length<=4/\Dqs d ps
def Dqs:Nat->List (Int×Tr)->Prop
 | _,[]=>True
 | d,(m,u)::r=>1<=m/\m<=1000000000/\Dq d u/\Dqs d r
end
mutual
def Lb:Tr->Prop
 | .leaf ns=>ns.length<=12
 | .die ps=>Lbs ps
def Lbs:List (Int×Tr)->Prop
 | []=>True
 | (_,u)::r=>Lb u/\Lbs r
end
mutual
def Par(o:Int):Tr->Prop
 | .leaf ns=>(∀ x∈ns,x % 2=o)/\ns.length<=6/\ns.Nodup
 | .die ps=>Cf o ps
def Cf(o:Int):List (Int×Tr)->Prop
 | []=>True
 | (_,u)::r=>Par o u/\Cf o r
end
mutual
def Lq:Tr->Prop
 | .leaf ns=>ns.length<=6
 | .die ps=>Lqs ps
def Lqs:List (Int×Tr)->Prop
 | []=>True
 | (_,u)::r=>Lq u/\Lqs r
end
def gone(s:Int)(ns:List Int):Tr:=if ns.length % 2=1 then .leaf (so ns++[99]) else .die [(1,.leaf []),(s,.leaf [97]),(2,.leaf (so ns))]
theorem yV{a:List Int}(h:a.Nodup):(so a).Nodup:=(dL a).nodup_iff.mpr h
mutual
theorem ms:∀(t:Tr) (c q:Rat),wf t (c*q)=(wf t q).map λx=>(x.1,c*x.2)
 | .leaf ns,c,q=>by rw[wf,wf];rfl
 | .die ps,c,q=>by rw[wf,wf];exact kD ps c q _
theorem kD:∀(ps:List (Int×Tr)) (c q:Rat) (S:Int),wfs ps (c*q) S=(wfs ps q S).map λx=>(x.1,c*x.2)
 | [],c,q,S=>by rw[wfs,wfs];rfl
 | (m,u)::r,c,q,S=>by
  rw[wfs,wfs,map_append,<- ms u,<- kD r];have e:c*q*((m:Rat)/(S:Rat))=c*(q*((m:Rat)/(S:Rat))):=by grind
  rw[e]
end
theorem Ao{W R R':Rws}(h:IsTab W R)(g:(R'.map (·.1)).Pairwise λa b=>aI a b=true)(d:∀ k,k∈R'.map (·.1)↔k∈W.map (·.1))(f:∀ x∈R',x.2=dc W x.1):R'=R:=by
 have e:R'.map (·.1)=R.map (·.1):=qm g h.up λk=>by rw[d,h.keys]
 have c:R'=(R'.map (·.1)).map λk=>(k,dc W k):=by
  rw[map_map]
  have:∀ x∈R',x=((λk=>(k,dc W k)) ∘ λx=>x.1) x:=λx hx=>by
   show x=(x.1,dc W x.1);rw[<- f x hx]
  conv=>lhs;rw[<- map_id R']
  exact map_congr_left this
 rw[c,h.eqv,e]
end Tb
namespace Tu
end Tu
namespace Tb
open FrM Du LexM Tu
def fl(qs:List (Int×List Int)):Tr:=.die (qs.map λz=>(z.1,.leaf z.2))
mutual
def Dk:Nat->Tr->Prop
 | _,.leaf ns=>ns.Nodup/\ns.length<=24
 | 0,.die _=>False
 | d+1,.die ps=>1<=ps.length/\ps.length<=1000/\Dks d ps
def Dks:Nat->List (Int×Tr)->Prop
 | _,[]=>True
 | d,(m,u)::r=>1<=m/\m<=1000000000/\Dk d u/\Dks d r
end
theorem dk_part{d:Nat}{ps:List (Int×Tr)}(h:Dks d ps):∀{p:Int×Tr},p∈ps->1<=p.1/\p.1<=1000000000/\Dk d p.2:=by
 induction ps with
 | nil=>intro p hp;cases hp
 | cons x r ih =>
  intro p hp;obtain⟨m,u⟩:=x;rw[Dks]at h
  rcases mem_cons.mp hp with rfl | hp
  .exact⟨h.1,h.2.1,h.2.2.1⟩
  .exact ih h.2.2.2 hp
theorem q8(p:List Int->Bool)(x:List Int×Rat)(W:Rws):pm p (x::W)=(if p x.1=true then x.2 else 0)+pm p W:=by unfold pm;rw[map_cons,sum_cons]
theorem n8{t:Tr}{W R R':Rws}(h:Ok t)(e:kt t=W)(c:IsTab (toR (kW (wl t 1 1))) R)(g:(R'.map (·.1)).Pairwise λa b=>aI a b=true)(d:∀ k,k∈R'.map (·.1)↔k∈W.map (·.1))(f:∀ x∈R',x.2=dc W x.1):R'=R:=by
 have p:=e ▸ kS h;exact Ao c g (λk=>(d k).trans (p.map _).mem_iff.symm) λx hx=>by rw[f x hx,tX p]
end Tb
namespace Tb
open FrM Du LexM
def stm:Nat->List Int->Nat->Tr
 | 0,held,_=>.leaf held
 | s+1,held,n=>.die ((List.range held.length).map (λpl=>(1,stm s (held.set pl (n:Int)) (n+1)))++[((n:Int)+1 - (held.length:Int),stm s held (n+1))])
def stP(s:Nat)(held:List Int)(n:Nat):List (Int×Tr):=(List.range held.length).map (λpl=>((1:Int),stm s (held.set pl (n:Int)) (n+1)))++[((n:Int)+1 - (held.length:Int),stm s held (n+1))]
theorem eG(s:Nat)(held:List Int)(n:Nat):stm (s+1) held n=.die (stP s held n):=rfl
theorem rJ(s:Nat)(held:List Int)(n:Nat):tot (stP s held n)=(n:Int)+1:=by
 unfold tot stP;rw[map_append,sum_append,map_map];have:((λx:Int×Tr=>x.1) ∘ λpl=>((1:Int),stm s (held.set pl (n:Int)) (n+1)))=λ_=>(1:Int):=rfl
 rw[this,List.map_const',length_range,List.sum_replicate_int];simp;lia
structure Hd(held:List Int)(n:Nat):Prop where
 nd:held.Nodup
 lt:∀ x∈held,0<=x/\x<(n:Int)
 len:held.length<=n
theorem nH{l:List Int}{i:Nat}{x y:Int}(h:y∈l.set i x):y∈l\/y=x:=List.mem_or_eq_of_mem_set h
theorem Hd.stay{held:List Int}{n:Nat}(h:Hd held n):Hd held (n+1):=⟨h.nd,λx a=>by have:=h.lt x a;push_cast;lia,by have:=h.len;lia⟩
theorem Hd.put{held:List Int}{n:Nat}(h:Hd held n)(pl:Nat):Hd (held.set pl (n:Int)) (n+1):=by
 refine⟨?_,λx d=>?_,by rw[length_set];have:=h.len;lia⟩
 .rw[List.nodup_iff_pairwise_ne,pairwise_iff_getElem]
  intro i j c b a;rw[getElem_set,getElem_set];rw[length_set]at c b;have f:=pairwise_iff_getElem.mp h.nd i j c b a
  split
  .split
   .lia
   .intro e
    have:=(h.lt _ (getElem_mem b)).2;rw[<- e]at this;lia
  .split
   .intro e
    have:=(h.lt _ (getElem_mem c)).2;rw[e]at this;lia
   .exact f
 .rcases nH d with h1 | h1
  .have:=h.lt x h1;push_cast;lia
  .rw[h1];push_cast;lia
theorem gJ{s:Nat}{held:List Int}{n:Nat}{p:Int×Tr}(h:p∈stP s held n):(∃ pl,pl<held.length/\p=(1,stm s (held.set pl (n:Int)) (n+1)))\/p=((n:Int)+1 - (held.length:Int),stm s held (n+1)):=by
 rcases mem_append.mp h with h | h
 .obtain⟨pl,a,rfl⟩:=mem_map.mp h
  exact .inl ⟨pl,mem_range.mp a,rfl⟩
 .exact .inr (mem_singleton.mp h)
theorem mr:∀{ps:List (Int×Tr)},(∀ p∈ps,1<=p.1/\Ok p.2)->Oks ps
 | [],_=>by rw[Oks];trivial
 | (m,u)::r,h=>by
  have:=h _ mem_cons_self;rw[Oks];exact⟨this.1,this.2,mr λp a=>h p (mem_cons_of_mem _ a)⟩
theorem lK:∀(s:Nat){held:List Int}{n:Nat},Hd held n->held.length<=24->Ok (stm s held n)
 | 0,held,n,h,hl=>by rw[stm,Ok];exact⟨h.nd,hl⟩
 | s+1,held,n,h,hl=>by
  rw[eG,Ok];refine⟨by unfold stP;simp,mr λp b=>?_⟩;have:=h.len
  rcases gJ b with⟨c,a,rfl⟩ | rfl
  .exact⟨Int.le_refl 1,lK s (h.put c) (by rw[length_set];exact hl)⟩
  .exact⟨by show 1<=_+1 - _;lia,lK s h.stay hl⟩
def Ex(p:List Int->Bool)(t:Tr):Rat:=pm p (kt t)
theorem AG(p:List Int->Bool)(A B:Rws):pm p (A++B)=pm p A+pm p B:=by unfold pm;rw[map_append,sum_append]
theorem n9(p:List Int->Bool)(c:Rat):∀ W:Rws,pm p (kR (W.map λx=>(x.1,c*x.2)))=c*pm p (kR W)
 | []=>by show(0:Rat)=c*0;grind
 | x::W=>by
  have a:kR ((x::W).map λx=>(x.1,c*x.2))=(so x.1,c*x.2)::kR (W.map λx=>(x.1,c*x.2)):=rfl;have b:kR (x::W)=(so x.1,x.2)::kR W:=rfl;rw[a,b,q8,q8,n9 p c W];show(if p (so x.1)=true then c*x.2 else 0)+_=c*((if p (so x.1)=true then x.2 else 0)+_)
  split <;> grind
theorem Cg(p:List Int->Bool)(t:Tr)(q:Rat):pm p (kR (wf t q))=q*Ex p t:=by
 have e:wf t q=wf t (q*1):=by rw[Rat.mul_one]
 rw[e,ms,n9];rfl
def nr(p:List Int->Bool)(S:Int)(ps:List (Int×Tr)):Rat:=(ps.map λx=>(x.1:Rat)/(S:Rat)*Ex p x.2).sum
theorem oq(p:List Int->Bool)(S:Int):∀ ps:List (Int×Tr),pm p (kR (wfs ps 1 S))=nr p S ps
 | []=>by rw[wfs];rfl
 | (m,u)::r=>by
  rw[wfs,zQ,AG,Cg,oq p S r];unfold nr;rw[map_cons,sum_cons,Rat.one_mul]
theorem rG(p:List Int->Bool)(a:List Int):Ex p (.leaf a)=if p (so a)=true then 1 else 0:=by
 unfold Ex kt;rw[wf];show(if p (so a)=true then (1:Rat) else 0)+0=_
 grind
theorem Ar(p:List Int->Bool)(s:Nat)(held:List Int)(n:Nat):Ex p (stm (s+1) held n)=(((List.range held.length).map λpl=>Ex p (stm s (held.set pl (n:Int)) (n+1))).sum+(((n:Int)+1 - (held.length:Int):Int):Rat)*Ex p (stm s held (n+1)))/(((n:Int)+1:Int):Rat):=by
 have e:Ex p (stm (s+1) held n)=nr p ((n:Int)+1) (stP s held n):=by
  unfold Ex kt;rw[eG,wf,rJ,oq]
 rw[e];unfold nr stP;rw[map_append,sum_append,map_map]
 have a:∀ l:List Nat,(l.map ((λx:Int×Tr=>(x.1:Rat)/(((n:Int)+1:Int):Rat)*Ex p x.2) ∘ λpl=>((1:Int),stm s (held.set pl (n:Int)) (n+1)))).sum=(l.map λpl=>Ex p (stm s (held.set pl (n:Int)) (n+1))).sum/(((n:Int)+1:Int):Rat):=λl=>by
  induction l with
  | nil=>show(0:Rat)=0/_;grind
  | cons x l ih =>
   rw[map_cons,sum_cons,ih,map_cons,sum_cons];show((1:Int):Rat)/_*_+_=_
   grind
 rw[a];show _+((((n:Int)+1 - (held.length:Int):Int):Rat)/_*_+0)=_
 grind
theorem jS{F:Nat->Rat}{φ:Int->Rat}:∀{held:List Int},(∀ pl x,held[pl]? = some x->F pl=φ x)->((List.range held.length).map F).sum=(held.map φ).sum:=by
 intro held h
 congr 1
 apply List.ext_getElem
 .simp
 .intro i b a
  rw[getElem_map,List.getElem_range,getElem_map];exact h i _ (List.getElem?_eq_getElem (by simpa using a))
theorem pe(c:Rat)(f:Int->Bool):∀ held:List Int,(held.map λx=>if f x=true then 0 else c).sum=(((held.filter λx=>!f x).length:Nat):Rat)*c
 | []=>by show(0:Rat)=((0:Nat):Rat)*c;grind
 | x::r=>by
  rw[map_cons,sum_cons,pe c f r,filter_cons]
  by_cases h:f x=true
  .rw[if_pos h,if_neg (by simp[h])];grind
  .rw[if_neg h,if_pos (by simpa using h),length_cons]
   push_cast
   grind
theorem rj{held:List Int}{pl:Nat}{x y z:Int}(g:held.Nodup)(h:held[pl]? = some x)(f:y≠z):y∈held.set pl z↔y∈held/\y≠x:=by
 obtain⟨l,d⟩:=List.getElem?_eq_some_iff.mp h
 constructor
 .intro c
  obtain⟨i,a,e⟩:=mem_iff_getElem.mp c;rw[getElem_set]at e;rw[length_set]at a
  split at e
  .exact absurd e.symm f
  .rename_i b
   refine⟨e ▸ getElem_mem a,λw=>b ?_⟩;have j:held[i]=held[pl]:=by rw[e,w,d]
   exact((List.getElem_inj g).mp j).symm
 .rintro⟨c,b⟩
  obtain⟨i,a,e⟩:=mem_iff_getElem.mp c;refine mem_iff_getElem.mpr ⟨i,by rw[length_set];exact a,?_⟩;rw[getElem_set,if_neg,e];intro w;subst w;exact b (by rw[<- e,d])
theorem ui{held:List Int}{pl:Nat}{z:Int}(h:pl<held.length):z∈held.set pl z:=mem_iff_getElem.mpr ⟨pl,by rw[length_set];exact h,by rw[getElem_set,if_pos rfl]⟩
def fac:Nat->Nat
 | 0=>1
 | n+1=>(n+1)*fac n
theorem fN:∀ n,0<fac n
 | 0=>by decide
 | n+1=>by rw[fac];exact Nat.mul_pos (by lia) (fN n)
def fq(n:Nat):Rat:=((fac n:Nat):Rat)
theorem fc(n:Nat):fq n≠0:=by
 unfold fq;have:=fN n;have:fac n≠0:=by lia
 exact_mod_cast this
theorem i9(n:Nat):fq (n+1)=(((n+1:Nat)):Rat)*fq n:=by
 unfold fq;rw[fac]
 push_cast
 rfl
def Qs(s m d r:Nat):Rat:=fq (m+d)*fq r*fq (d+s)/(fq (m+d+s)*fq (d+r))
theorem zX(m d:Nat):Qs 0 m d 0=1:=by
 unfold Qs;have b:=fc (m+d);have a:=fc d;have e:fq 0=1:=rfl;rw[e,Nat.add_zero,Nat.add_zero]
 grind
theorem Bw(s m d r:Nat):Qs (s+1) m d (r+1)=(((r+1:Nat)):Rat)/(((m+d+1:Nat)):Rat)*Qs s m (d+1) r:=by
 unfold Qs;have b:m+(d+1)=m+d+1:=by lia
 have a:d+1+s=d+(s+1):=by lia
 have c:m+d+1+s=m+d+(s+1):=by lia
 have f:d+1+r=d+(r+1):=by lia
 rw[b,a,c,f,i9 (m+d),i9 r];have h:=fc (m+d+(s+1));have i:=fc (d+(r+1));have g:(((m+d+1:Nat)):Rat)≠0:=by have:m+d+1≠0:=(by lia);exact_mod_cast this
 grind
theorem zm(s m d r:Nat):Qs (s+1) m d r=(((d+1+r:Nat)):Rat)/(((m+d+1:Nat)):Rat)*Qs s m (d+1) r:=by
 unfold Qs;have b:m+(d+1)=m+d+1:=by lia
 have a:d+1+s=d+(s+1):=by lia
 have c:m+d+1+s=m+d+(s+1):=by lia
 have f:d+1+r=d+r+1:=by lia
 rw[b,a,c,f,i9 (m+d),i9 (d+r)];have h:=fc (m+d+(s+1));have i:=fc (d+r);have g:(((m+d+1:Nat)):Rat)≠0:=by have:m+d+1≠0:=(by lia);exact_mod_cast this
 have j:(((d+r+1:Nat)):Rat)≠0:=by have:d+r+1≠0:=(by lia);exact_mod_cast this
 grind
structure Sb(S:List Int)(m N:Nat):Prop where
 up:S.Pairwise (· < ·)
 lt:∀ x∈S,0<=x/\x<(N:Int)
 len:S.length=m
theorem Sb.nd{S:List Int}{m N:Nat}(h:Sb S m N):S.Nodup:=h.up.imp λ{a b} w e=>by rw[e]at w;lia
theorem o9:∀{l m:List Int},l.Nodup->(∀ x∈l,x∈m)->l.length<=m.length
 | [],_,_,_=>Nat.zero_le _
 | x::l,m,nd,h=>by
  obtain⟨d,f⟩:=nodup_cons.mp nd;have b:=h x mem_cons_self
  have:=o9 (m:=m.erase x) f λy a=>by
   have c:y≠x:=λe=>d (by rw[<- e];exact a)
   exact(List.mem_erase_of_ne c).mpr (h y (mem_cons_of_mem _ a))
  rw[List.length_erase_of_mem b]at this;have:=length_pos_of_mem b;rw[length_cons];lia
theorem fO{l m:List Int}(b:l.Nodup)(a:m.Nodup)(h:∀ x,x∈l↔x∈m):l.Perm m:=(List.perm_ext_iff_of_nodup b a).mpr h
def ia(S:List Int)(n:Nat):Nat:=(S.filter λx=>decide ((n:Int)<=x)).length
def pX(S:List Int)(n:Nat):List Int:=S.filter λx=>decide (x<(n:Int))
theorem oz(S:List Int)(n:Nat):(pX S n).length+ia S n=S.length:=by
 unfold pX ia
 induction S with
 | nil=>rfl
 | cons x r ih =>
  rw[filter_cons,filter_cons]
  by_cases c:x<(n:Int)
  .rw[if_pos (decide_eq_true c),if_neg (by simp only[decide_eq_true_eq];lia),length_cons,length_cons];lia
  .rw[if_neg (by simpa using c),if_pos (decide_eq_true (by lia)),length_cons,length_cons];lia
theorem xD{S:List Int}{n:Nat}(d:S.Nodup)(h:(n:Int)∈S):ia S n=ia S (n+1)+1:=by
 unfold ia
 have e:(S.filter λx=>decide ((n:Int)<=x)).Perm ((n:Int)::S.filter λx=>decide (((n+1:Nat):Int)<=x)):=by
  refine fO (d.filter _) (nodup_cons.mpr ⟨λw=>?_,d.filter _⟩) λx=>?_
  .have:=(mem_filter.mp w).2
   simp only[decide_eq_true_eq]at this
   push_cast at this
   lia
  .rw[mem_cons,mem_filter,mem_filter,decide_eq_true_eq,decide_eq_true_eq]
   constructor
   .rintro⟨a,b⟩
    by_cases c:x=(n:Int)
    .exact .inl c
    .exact .inr ⟨a,by push_cast;lia⟩
   .rintro(rfl | ⟨a,b⟩)
    .exact⟨h,by lia⟩
    .exact⟨a,by push_cast at b;lia⟩
 rw[e.length_eq,length_cons]
theorem v6{S:List Int}{n:Nat}(h:(n:Int) ∉ S):ia S n=ia S (n+1):=by
 unfold ia
 congr 1
 refine List.filter_congr λx a=>?_
 have:x≠(n:Int):=λe=>h (e ▸ a)
 rw[decide_eq_decide]
 push_cast
 lia
theorem uH{S:List Int}{m N:Nat}(h:Sb S m N):ia S N=0:=by
 unfold ia;rw[List.length_eq_zero_iff,List.filter_eq_nil_iff];intro x a;have:=(h.lt x a).2;simp only[decide_eq_true_eq];lia
theorem wG{S held:List Int}{m N n:Nat}(f:Sb S m N)(d:Hd held n)(h:held.length=m)(c:∀ x∈S,x<(n:Int)->x∈held):(held.filter λx=>!decide (x∈S)).length=ia S n:=by
 have g:(held.filter λx=>decide (x∈S)).Perm (pX S n):=by
  refine fO (d.nd.filter _) (f.nd.filter _) λx=>?_
  unfold pX;rw[mem_filter,mem_filter,decide_eq_true_eq,decide_eq_true_eq];exact⟨λ⟨a,b⟩=>⟨b,(d.lt x a).2⟩,λ⟨a,b⟩=>⟨c x a b,a⟩⟩
 have i:=oz S n
 have j:(held.filter λx=>decide (x∈S)).length+(held.filter λx=>!decide (x∈S)).length=held.length:=by
  induction held with
  | nil=>rfl
  | cons x r ih =>
   clear g ih c d h
   induction (x::r) with
   | nil=>rfl
   | cons y q ih =>
    rw[filter_cons,filter_cons]
    by_cases w:y∈S
    .rw[if_pos (decide_eq_true w),if_neg (by simp[w]),length_cons,length_cons];lia
    .rw[if_neg (by simpa using w),if_pos (by simp[w]),length_cons,length_cons];lia
 have:=f.len;have:=g.length_eq;lia
theorem oy{S:List Int}{m:Nat}:∀(s:Nat){held:List Int}{d:Nat},Hd held (m+d)->held.length=m->Sb S m (m+d+s)->Ex (λk=>decide (k=S)) (stm s held (m+d))=if ∀ x∈S,x<((m+d:Nat):Int)->x∈held then Qs s m d (ia S (m+d)) else 0
 | 0,held,d,hd,hl,i=>by
  have i:Sb S m (m+d):=i;rw[stm,rG,uH i,zX]
  have e:so held=S↔∀ x∈S,x<((m+d:Nat):Int)->x∈held:=by
   constructor
   .intro e x f _
    rw[<- e]at f;exact(dL held).mem_iff.mp f
   .intro h
    have B:∀ x∈S,x∈held:=λx f=>h x f (i.lt x f).2
    have p:S.Perm held:=fO i.nd hd.nd λx=>⟨B x,λf=>Classical.byContradiction λC=>by
     have:=o9 (m:=held.erase x) i.nd λy l=>by
      have N:y≠x:=λe=>C (by rw[<- e];exact l)
      exact(List.mem_erase_of_ne N).mpr (B y l)
     rw[List.length_erase_of_mem f,i.len,hl]at this;have:=length_pos_of_mem f
     lia⟩
    exact(so_uniq p (i.up.imp λ{a b} w=>by lia)).symm
  by_cases c:so held=S
  .rw[if_pos (decide_eq_true c),if_pos (e.mp c)]
  .rw[if_neg (by simpa using c),if_neg (λw=>c (e.mpr w))]
 | s+1,held,d,hd,hl,i=>by
  have A:Sb S m (m+(d+1)+s):=by rw[show m+(d+1)+s=m+d+(s+1) by lia];exact i
  have r:m+d+1=m+(d+1):=by lia
  have q:((((m+d:Nat):Int)+1:Int):Rat)≠0:=by have:((m+d:Nat):Int)+1≠0:=(by lia);exact_mod_cast this
  rw[Ar];have n:=oy s (held:=held) (d:=d+1) (by rw[<- r];exact hd.stay) hl A;have v:∀ g,Ex (λk=>decide (k=S)) (stm s (held.set g ((m+d:Nat):Int)) (m+(d+1)))=_:=λg=>oy s (held:=held.set g ((m+d:Nat):Int)) (d:=d+1) (by rw[<- r];exact hd.put g) (by rw[length_set];exact hl) A
  rw[r,n]
  by_cases c:∀ x∈S,x<((m+d:Nat):Int)->x∈held
  .rw[if_pos c]
   have E:=jS (held:=held) (F:=λg=>Ex (λk=>decide (k=S)) (stm s (held.set g ((m+d:Nat):Int)) (m+(d+1)))) (φ:=λx=>if decide (x∈S)=true then 0 else Qs s m (d+1) (ia S (m+(d+1)))) λg x f=>by
    show Ex _ _=_;rw[v g];have J:=(List.getElem?_eq_some_iff.mp f).1;have L:x∈held:=List.mem_of_getElem? f
    have o:(∀ y∈S,y<((m+(d+1):Nat):Int)->y∈held.set g ((m+d:Nat):Int))↔x ∉ S:=by
     constructor
     .intro w H
      have D:=(hd.lt x L).2;have:=w x H (by push_cast at D ⊢;lia);exact((rj hd.nd f (by lia)).mp this).2 rfl
     .intro w y l I
      by_cases z:y=((m+d:Nat):Int)
      .rw[z];exact ui J
      .exact(rj hd.nd f z).mpr ⟨c y l (by push_cast at I z ⊢;lia),λe=>w (e ▸ l)⟩
    by_cases w:x∈S
    .rw[if_neg (λu=>o.mp u w),if_pos (decide_eq_true w)]
    .rw[if_pos (o.mpr w),if_neg (by simpa using w)]
   rw[E,pe _ λx=>decide (x∈S),wG i hd hl c]
   by_cases z:((m+d:Nat):Int)∈S
   .have j:¬∀ x∈S,x<((m+(d+1):Nat):Int)->x∈held:=λw=>by
     have:=(hd.lt _ (w _ z (by push_cast;lia))).2;lia
    rw[if_neg j,xD i.nd z,r,Bw]
    push_cast at q ⊢
    grind
   .have G:∀ x∈S,x<((m+(d+1):Nat):Int)->x∈held:=λx f w=>c x f (by
     have:x≠((m+d:Nat):Int):=λe=>z (e ▸ f)
     push_cast at w this ⊢
     lia)
    rw[if_pos G,v6 z,r,zm,hl]
    push_cast at q ⊢
    grind
  .rw[if_neg c]
   obtain⟨x,f,hxn,hxh⟩:∃ x,x∈S/\x<((m+d:Nat):Int)/\x ∉ held:=by
    apply Classical.byContradiction;intro C;exact c λx f w=>Classical.byContradiction λu=>C ⟨x,f,w,u⟩
   have M:¬∀ x∈S,x<((m+(d+1):Nat):Int)->x∈held:=λw=>hxh (w x f (by push_cast at hxn ⊢;lia))
   have E:=jS (held:=held) (F:=λg=>Ex (λk=>decide (k=S)) (stm s (held.set g ((m+d:Nat):Int)) (m+(d+1)))) (φ:=λx=>if decide (x=x)=true then 0 else (1:Rat)) λg y l=>by
    show Ex _ _=_;rw[v g,if_neg,if_pos (by simp)];intro w
    rcases nH (w x f (by push_cast at hxn ⊢;lia)) with u | u
    .exact hxh u
    .rw[u]at hxn;lia
   rw[E,pe _ λx=>decide (x=x)];have K:(held.filter λx=>!decide (x=x))=[]:=List.filter_eq_nil_iff.mpr λx _=>by simp
   rw[K,if_neg M];show(((0:Nat):Rat)*1+_*0)/_=0
   grind
def ch:Nat->Nat->Nat
 | _,0=>1
 | 0,_+1=>0
 | n+1,k+1=>ch n k+ch n (k+1)
theorem ch_zero(n:Nat):ch n 0=1:=by cases n <;> rfl
theorem mj:∀ n k:Nat,ch n (n+k+1)=0
 | 0,k=>by rw[Nat.zero_add];rfl
 | n+1,k=>by
  have e:n+1+k+1=(n+k+1)+1:=by lia
  rw[e,ch,mj n k,show n+k+1+1=n+(k+1)+1 by lia,mj n (k+1)]
theorem eP:∀ k s:Nat,ch (k+s) k*(fac k*fac s)=fac (k+s)
 | 0,s=>by rw[ch_zero,Nat.zero_add];show 1*(1*fac s)=fac s;lia
 | k+1,0=>by
  have e:ch (k+1) (k+1)=ch k k+ch k (k+1):=rfl;have b:=mj k 0;rw[Nat.add_zero]at b;have a:=eP k 0;rw[Nat.add_zero]at a ⊢;have c:fac 0=1:=rfl;rw[c,Nat.mul_one]at a;rw[e,b,Nat.add_zero,c,Nat.mul_one,show fac (k+1)=(k+1)*fac k from rfl,Nat.mul_left_comm,a]
 | k+1,s+1=>by
  have e:k+1+(s+1)=(k+(s+1))+1:=by lia
  have a:=eP k (s+1);have d:=eP (k+1) s;rw[e,ch,show fac (k+(s+1)+1)=(k+(s+1)+1)*fac (k+(s+1)) from rfl,Nat.add_mul];have g:k+1+s=k+(s+1):=by lia
  rw[g]at d
  have f:ch (k+(s+1)) k*(fac (k+1)*fac (s+1))=(k+1)*fac (k+(s+1)):=by
   rw[<- a,fac];rw[Nat.mul_assoc,Nat.mul_left_comm]
  have h:ch (k+(s+1)) (k+1)*(fac (k+1)*fac (s+1))=(s+1)*fac (k+(s+1)):=by
   rw[<- d,show fac (s+1)=(s+1)*fac s from rfl];rw[Nat.mul_left_comm (fac (k+1)),Nat.mul_left_comm]
  rw[f,h,<- Nat.add_mul,show k+1+(s+1)=k+(s+1)+1 by lia]
theorem hJ(k s:Nat):0<ch (k+s) k:=by
 have h:=eP k s;have:=fN (k+s)
 rcases Nat.eq_zero_or_pos (ch (k+s) k) with z | z
 .rw[z,Nat.zero_mul]at h;lia
 .exact z
theorem ch_step(k s:Nat):ch (k+1+s) k*(s+1)=ch (k+1+s) (k+1)*(k+1):=by
 have a:=eP k (s+1);have b:=eP (k+1) s;have e:k+(s+1)=k+1+s:=by lia
 rw[e]at a;have p:0<fac k*fac s:=Nat.mul_pos (fN k) (fN s);refine Nat.eq_of_mul_eq_mul_right p ?_
 have d:ch (k+1+s) k*(s+1)*(fac k*fac s)=fac (k+1+s):=by
  rw[<- a,show fac (s+1)=(s+1)*fac s from rfl,Nat.mul_assoc,Nat.mul_left_comm (fac k)]
 have c:ch (k+1+s) (k+1)*(k+1)*(fac k*fac s)=fac (k+1+s):=by
  rw[<- b,show fac (k+1)=(k+1)*fac k from rfl,Nat.mul_assoc,Nat.mul_assoc]
 rw[d,c]
theorem ch_le(n:Nat):∀ k,ch n k<=2 ^ n:=by
 induction n with
 | zero =>
  intro k;cases k with
  | zero=>decide
  | succ k=>exact Nat.zero_le _
 | succ n ih =>
  intro k;cases k with
  | zero=>rw[ch_zero];exact Nat.one_le_two_pow
  | succ k=>rw[ch,Nat.pow_succ];have:=ih k;have:=ih (k+1);lia
theorem Bh(s m r:Nat):Qs s m 0 r=1/((ch (m+s) m:Nat):Rat):=by
 unfold Qs;have h:=eP m s
 have c:((ch (m+s) m:Nat):Rat)*(fq m*fq s)=fq (m+s):=by
  unfold fq;rw[<- h]
  push_cast
  rfl
 have p:((ch (m+s) m:Nat):Rat)≠0:=by have:=hJ m s;have:ch (m+s) m≠0:=(by lia);exact_mod_cast this
 have b:=fc (m+s);have a:=fc r;rw[Nat.add_zero,Nat.zero_add,Nat.zero_add]
 grind
def SL(many few:Nat):Nat->List (List Int)
 | 0=>[[]]
 | k+1=>((SL many few k).filter λx=>decide (x.length<few)).map (· ++ [(k:Int)])++(SL many few k).filter λx=>decide (few<=x.length+(many - k - 1))
structure Su(x:List Int)(many few k:Nat):Prop where
 up:x.Pairwise (· < ·)
 lt:∀ y∈x,0<=y/\y<(k:Int)
 le:x.length<=few
 en:few<=x.length+(many - k)
theorem uw{f i:Nat}:∀{k:Nat},k<=f->i<=f->∀ x,x∈SL f i k↔Su x f i k
 | 0,_,hf,x=>by
  rw[SL,mem_singleton]
  constructor
  .rintro rfl;exact⟨.nil,λy g=>(nomatch g),Nat.zero_le _,by show i<=0+(f - 0);lia⟩
  .intro h
   cases x with
   | nil=>rfl
   | cons y r=>have:=h.lt y mem_cons_self;lia
 | k+1,hk,hf,x=>by
  have q:=λy=>uw (k:=k) (by lia) hf y
  rw[SL,mem_append,mem_map,mem_filter,decide_eq_true_eq,q]
  constructor
  .rintro(⟨y,g,rfl⟩ | ⟨h,B⟩)
   .rw[mem_filter,decide_eq_true_eq,q]at g
    obtain⟨⟨a,b,c,d⟩,e⟩:=g;refine⟨List.pairwise_append.mpr ⟨a,by simp,λu l v z=>?_⟩,λu l=>?_,?_,?_⟩
    .rw[mem_singleton.mp z];exact(b u l).2
    .rcases mem_append.mp l with h | h
     .have:=b u h;push_cast;lia
     .rw[mem_singleton.mp h];push_cast;lia
    .rw[length_append,length_singleton];lia
    .rw[length_append,length_singleton];lia
   .exact⟨h.up,λu l=>by have:=h.lt u l;push_cast;lia,h.le,by lia⟩
  .intro h
   by_cases c:(k:Int)∈x
   .left
    have o:x≠[]:=List.ne_nil_of_mem c;have e:=List.dropLast_concat_getLast o;have p:=h.up;rw[<- e,List.pairwise_append]at p
    have j:x.getLast o=(k:Int):=by
     have s:=(h.lt _ (List.getLast_mem o)).2;rw[<- e]at c
     rcases mem_append.mp c with w | w
     .have:=p.2.2 _ w _ mem_cons_self
      push_cast at s;lia
     .exact(mem_singleton.mp w).symm
    have A:x.length=x.dropLast.length+1:=by rw[List.length_dropLast];have:=length_pos_of_mem (List.getLast_mem o);lia
    refine⟨x.dropLast,?_,by rw[j]at e;exact e⟩;rw[mem_filter,decide_eq_true_eq,q];refine⟨⟨p.1,λy g=>?_,by have:=h.le;lia,by have:=h.en;lia⟩,by have:=h.le;lia⟩;have a:=p.2.2 y g _ mem_cons_self;rw[j]at a;exact⟨(h.lt y (List.dropLast_subset _ g)).1,a⟩
   .right
    refine⟨⟨h.up,λy g=>?_,h.le,by have:=h.en;lia⟩,by have:=h.en;lia⟩;have:=h.lt y g;have n:y≠(k:Int):=λw=>c (w ▸ g)
    push_cast at this
    lia
def Pn:Nat->Nat->Nat
 | _,0=>1
 | n,s+1=>(n+1)*Pn (n+1) s
theorem pd:∀(s n:Nat),0<Pn n s
 | 0,_=>Nat.zero_lt_one
 | s+1,n=>Nat.mul_pos (Nat.succ_pos n) (pd s (n+1))
theorem yR:∀(s n:Nat),n+s<=24->Pn n s<=2 ^ (5*s)
 | 0,_,_=>Nat.le_refl 1
 | s+1,n,h=>by
  have a:=yR s (n+1) (by lia);rw[Pn,show 5*(s+1)=5+5*s by lia,Nat.pow_add];exact Nat.mul_le_mul (by show n+1<=32;lia) a
theorem Cj{s n:Nat}(h:n+s<=24):Pn n s<=Lm2:=by
 unfold Lm2;exact Nat.le_trans (yR s n h) (Nat.pow_le_pow_right (by decide) (by lia))
theorem iS{w:Way}:∀{ps:List (Int×Tr)}{a b S:Int},w∈wls ps a b S->∃ p∈ps,w∈wl p.2 (a*p.1) (b*S)
 | [],a,b,S,h=>by rw[wls]at h;cases h
 | (m,u)::r,a,b,S,h=>by
  rw[wls]at h
  rcases mem_append.mp h with h | h
  .obtain⟨p,d,c⟩:=iS h
   exact⟨p,mem_cons_of_mem _ d,c⟩
  .exact⟨_,mem_cons_self,h⟩
theorem mO:∀(s:Nat){held:List Int}{n:Nat}{a b:Int},held.length<=n->0<=a->∀ w∈wl (stm s held n) a b,w.2.2=b*(Pn n s:Nat)/\0<=w.2.1/\w.2.1<=a*(Pn n s:Nat)
 | 0,held,n,a,b,hl,h0,w,d=>by
  rw[stm,wl]at d;rw[mem_singleton.mp d];show b=b*1/\0<=a/\a<=a*1;lia
 | s+1,held,n,a,b,hl,h0,w,d=>by
  rw[eG,wl,rJ]at d;obtain⟨p,q,d⟩:=iS d
  have f:∀{c:Int}{h:List Int},0<=c->c<=(n:Int)+1->h.length<=n+1->w∈wl (stm s h (n+1)) (a*c) (b*((n:Int)+1))->w.2.2=b*(Pn n (s+1):Nat)/\0<=w.2.1/\w.2.1<=a*(Pn n (s+1):Nat):=λ{c h} u j i g=>by
   obtain⟨v,o,r⟩:=mO s i (Int.mul_nonneg h0 u) w g;have l:((Pn n (s+1):Nat):Int)=((n:Int)+1)*(Pn (n+1) s:Nat):=by rw[Pn];push_cast;rfl
   rw[l];refine⟨by rw[v,Int.mul_assoc],o,Int.le_trans r ?_⟩;rw[Int.mul_assoc];exact Int.mul_le_mul_of_nonneg_left (Int.mul_le_mul_of_nonneg_right j (by lia)) h0
  rcases gJ q with⟨x,_,rfl⟩ | rfl
  .exact f (c:=1) (by decide) (by lia) (by rw[length_set];lia) d
  .exact f (by lia) (by lia) (by lia) d
theorem zY{s:Nat}{held:List Int}{n:Nat}(f:held.length<=n):∀ w∈wl (stm s held n) 1 1,Ch ((Pn n s:Nat):Int) w.2:=λw c=>by
 obtain⟨a,d,b⟩:=mO s f (by decide) w c;rw[Int.one_mul]at a b;have:=pd s n;exact⟨d,by rw[a];exact b,by rw[a];lia,by rw[a];exact Int.dvd_refl _⟩
theorem ri(s:Nat):∀{ps:List (Int×Tr)}{c:Nat},(∀ p∈ps,lv p.2=c)->lvs ps=ps.length*c
 | [],c,_=>by rw[lvs];simp
 | (m,u)::r,c,h=>by
  rw[lvs,ri s λp a=>h p (mem_cons_of_mem _ a),h _ mem_cons_self,length_cons,Nat.add_mul];lia
theorem stP_len(s:Nat)(held:List Int)(n:Nat):(stP s held n).length=held.length+1:=by unfold stP;simp
theorem oE:∀(s:Nat) (held:List Int) (n:Nat),lv (stm s held n)=(held.length+1) ^ s
 | 0,held,n=>by rw[stm,lv];rfl
 | s+1,held,n=>by
  rw[eG,lv,ri s (c:=(held.length+1) ^ s) λp a=>?_,stP_len,Nat.pow_succ,Nat.mul_comm]
  rcases gJ a with⟨b,_,rfl⟩ | rfl
  .show lv (stm s _ _)=_
   rw[oE s,length_set]
  .exact oE s _ _
theorem lT{d:Nat}:∀{ps:List (Int×Tr)},(∀ p∈ps,1<=p.1/\p.1<=1000000000/\Dk d p.2)->Dks d ps
 | [],_=>by rw[Dks];trivial
 | (m,u)::r,h=>by
  have:=h _ mem_cons_self;rw[Dks];exact⟨this.1,this.2.1,this.2.2,lT λp a=>h p (mem_cons_of_mem _ a)⟩
theorem pI:∀(s:Nat){held:List Int}{n:Nat},Hd held n->held.length<=24->n+s<=24->Dk s (stm s held n)
 | 0,held,n,h,hl,_=>by rw[stm,Dk];exact⟨h.nd,hl⟩
 | s+1,held,n,h,hl,hn=>by
  rw[eG,Dk,stP_len];refine⟨by lia,by lia,lT λp a=>?_⟩;have:=h.len
  rcases gJ a with⟨b,_,rfl⟩ | rfl
  .exact⟨Int.le_refl 1,by show(1:Int)<=_;decide,pI s (h.put b) (by rw[length_set];exact hl) (by lia)⟩
  .exact⟨by show 1<=_+1 - _;lia,by show _+1 - _<=(1000000000:Int);lia,pI s h.stay hl (by lia)⟩
theorem iT{w:List Int×Rat}:∀{ps:List (Int×Tr)}{q:Rat}{S:Int},w∈wfs ps q S->∃ p∈ps,∃ q',w∈wf p.2 q'
 | [],q,S,h=>by rw[wfs]at h;cases h
 | (m,u)::r,q,S,h=>by
  rw[wfs]at h
  rcases mem_append.mp h with h | h
  .exact⟨_,mem_cons_self,_,h⟩
  .obtain⟨p,b,q',a⟩:=iT h
   exact⟨p,mem_cons_of_mem _ b,q',a⟩
theorem oA:∀(s:Nat){held:List Int}{n:Nat}{q:Rat},Hd held n->∀ w∈wf (stm s held n) q,Hd w.1 (n+s)/\w.1.length=held.length
 | 0,held,n,q,h,w,a=>by
  rw[stm,wf]at a;rw[mem_singleton.mp a];exact⟨h,rfl⟩
 | s+1,held,n,q,h,w,a=>by
  rw[eG,wf]at a;obtain⟨p,b,d,a⟩:=iT a
  rcases gJ b with⟨c,_,rfl⟩ | rfl
  .have:=oA s (h.put c) w a
   rw[length_set]at this;exact⟨by rw[show n+(s+1)=n+1+s by lia];exact this.1,this.2⟩
  .have:=oA s h.stay w a
   exact⟨by rw[show n+(s+1)=n+1+s by lia];exact this.1,this.2⟩
theorem yO{l:List Int}(c:l.Nodup)(d:l.Pairwise (·<=·)):l.Pairwise (· < ·):=(d.and c).imp λ{a b} ⟨x,y⟩=>by lia
theorem m9{s:Nat}{held:List Int}{n:Nat}(h:Hd held n){k:List Int}(a:k∈(kt (stm s held n)).map (·.1)):Sb k held.length (n+s):=by
 unfold kt kR at a;rw[map_map]at a;obtain⟨w,c,rfl⟩:=mem_map.mp a;obtain⟨b,f⟩:=oA s h w c;refine⟨yO (yV b.nd) (pA w.1),λx d=>b.lt x ((dL w.1).mem_iff.mp d),?_⟩;show(so w.1).length=_;rw[(dL w.1).length_eq,f]
def rng(m:Nat):List Int:=(List.range m).map λ(k:Nat)=>(k:Int)
theorem rng_hd(m:Nat):Hd (rng m) m:=⟨pairwise_map.mpr (nodup_range.imp λ{a b} n e=>n (by lia)),λx hx=>by obtain⟨k,hk,rfl⟩:=mem_map.mp hx;have:=mem_range.mp hk;show 0<=(k:Int)/\(k:Int)<_;lia,by unfold rng;simp⟩
theorem rng_len(m:Nat):(rng m).length=m:=by unfold rng;simp
theorem mem_rng{m:Nat}{x:Int}:x∈rng m↔0<=x/\x<(m:Int):=by
 unfold rng;rw[mem_map]
 constructor
 .rintro⟨k,c,rfl⟩;have:=mem_range.mp c;lia
 .rintro⟨a,b⟩;exact⟨x.toNat,mem_range.mpr (by lia),by lia⟩
def tS(m s:Nat):Tr:=stm s (rng m) m
theorem qS{m s:Nat}{S:List Int}(h:Sb S m (m+s)):dc (kt (tS m s)) S=1/((ch (m+s) m:Nat):Rat):=by
 have e:=oy (S:=S) (m:=m) s (held:=rng m) (d:=0) (rng_hd m) (rng_len m) h;rw[qA];show Ex _ (stm s (rng m) m)=_;rw[Nat.add_zero]at e;rw[e,if_pos (λx a w=>mem_rng.mpr ⟨(h.lt x a).1,w⟩),Bh]
theorem Az{m s:Nat}{R R':Rws}(d:m<=24)(i:IsTab (toR (kW (wl (tS m s) 1 1))) R)(l:(R'.map (·.1)).Pairwise λa b=>aI a b=true)(f:∀ k,k∈R'.map (·.1)↔Sb k m (m+s))(j:∀ x∈R',x.2=1/((ch (m+s) m:Nat):Rat)):R'=R:=by
 refine n8 (lK s (rng_hd m) (by rw[rng_len];exact d)) rfl i l (λk=>?_) λx hx=>?_
 .rw[f k]
  constructor
  .intro c
   apply Classical.byContradiction;intro g;have z:=jJ g;rw[show stm s (rng m) m=tS m s from rfl,qS c]at z;have p:((ch (m+s) m:Nat):Rat)≠0:=by have:=hJ m s;have:ch (m+s) m≠0:=(by lia);exact_mod_cast this
   have:(1:Rat)/((ch (m+s) m:Nat):Rat)*((ch (m+s) m:Nat):Rat)=1:=by grind
   rw[z]at this;have:(0:Rat)=1:=by grind
   exact absurd this (by decide)
  .intro h
   have:=m9 (rng_hd m) h;rwa [rng_len]at this
 .have c:=(f x.1).mp (mem_map.mpr ⟨x,hx,rfl⟩)
  rw[j x hx];exact(qS c).symm
def cM(ps:List Int)(go:Int->Tr):Tr:=if ps.length=1 then go (ps.headD 0) else .die (ps.map λx=>(1,go x))
def wo(ps:List Int)(x:Int):List Int:=ps.filter λy=>!decide (y=x)
def pN:Nat->Nat->List Int->Nat->List Int->List Int->Tr
 | 0,_,_,_,_,tk=>.leaf tk
 | w+1,c1,P1,c2,P2,tk =>
  if c2=0 then cM P1 λx=>pN w (c1 - 1) (wo P1 x) c2 P2 (tk++[x])
  else if c1=0 then cM P2 λx=>pN w c1 P1 (c2 - 1) (wo P2 x) (tk++[x])
  else .die [((c1:Int),cM P1 λx=>pN w (c1 - 1) (wo P1 x) c2 P2 (tk++[x])),((c2:Int),cM P2 λx=>pN w c1 P1 (c2 - 1) (wo P2 x) (tk++[x]))]
def pF1(w c1:Nat)(P1:List Int)(c2:Nat)(P2 tk:List Int):Tr:=cM P1 λx=>pN w (c1 - 1) (wo P1 x) c2 P2 (tk++[x])
def pF2(w c1:Nat)(P1:List Int)(c2:Nat)(P2 tk:List Int):Tr:=cM P2 λx=>pN w c1 P1 (c2 - 1) (wo P2 x) (tk++[x])
theorem pN_zero(c1:Nat)(a:List Int)(c2:Nat)(b tk:List Int):pN 0 c1 a c2 b tk=.leaf tk:=by rw[pN]
theorem pN_succ(w c1:Nat)(a:List Int)(c2:Nat)(b tk:List Int):pN (w+1) c1 a c2 b tk=if c2=0 then pF1 w c1 a c2 b tk else if c1=0 then pF2 w c1 a c2 b tk else .die [((c1:Int),pF1 w c1 a c2 b tk),((c2:Int),pF2 w c1 a c2 b tk)]:=by rw[pN];rfl
theorem vv(p:List Int->Bool)(ps:List (Int×Tr)):Ex p (.die ps)=nr p (tot ps) ps:=by
 unfold Ex kt;rw[wf,oq]
theorem og(p:List Int->Bool)(S:Int)(go:Int->Tr):∀ ps:List Int,nr p S (ps.map λx=>((1:Int),go x))=(ps.map λx=>Ex p (go x)).sum/(S:Rat)
 | []=>by show(0:Rat)=0/_;grind
 | x::ps=>by
  have a:=og p S go ps;unfold nr at a ⊢;rw[map_cons,map_cons,sum_cons,a,map_cons,sum_cons];show((1:Int):Rat)/_*_+_=_
  grind
theorem qV(go:Int->Tr)(ps:List Int):tot (ps.map λx=>((1:Int),go x))=(ps.length:Int):=by
 unfold tot;rw[map_map,show((λx:Int×Tr=>x.1) ∘ λx=>((1:Int),go x))=λ_=>(1:Int) from rfl,List.map_const',List.sum_replicate_int];simp
theorem uP(p:List Int->Bool)(go:Int->Tr)(ps:List Int):Ex p (cM ps go)=(ps.map λx=>Ex p (go x)).sum/((ps.length:Nat):Rat):=by
 unfold cM
 split
 .rename_i h
  obtain⟨x,rfl⟩:=List.length_eq_one_iff.mp h;show Ex p (go x)=(Ex p (go x)+0)/((1:Nat):Rat);have:((1:Nat):Rat)=1:=rfl;rw[this]
  grind
 .rw[vv,qV,og]
  rfl
theorem BT(p:List Int->Bool){w c1:Nat}{a:List Int}{c2:Nat}{b tk:List Int}(h:0<c1+c2):Ex p (pN (w+1) c1 a c2 b tk)=(((c1:Nat):Rat)*Ex p (pF1 w c1 a c2 b tk)+((c2:Nat):Rat)*Ex p (pF2 w c1 a c2 b tk))/((c1+c2:Nat):Rat):=by
 have n:((c1+c2:Nat):Rat)≠0:=by have:c1+c2≠0:=(by lia);exact_mod_cast this
 rw[pN_succ]
 split
 .rename_i e
  subst e;have z:((0:Nat):Rat)=0:=rfl;rw[Nat.add_zero]at n ⊢;rw[z]
  grind
 .split
  .rename_i e
   subst e;have z:((0:Nat):Rat)=0:=rfl;rw[Nat.zero_add]at n ⊢;rw[z]
   grind
  .rw[vv]
   unfold nr
   have t:tot [((c1:Int),pF1 w c1 a c2 b tk),((c2:Int),pF2 w c1 a c2 b tk)]=((c1+c2:Nat):Int):=by
    unfold tot;simp
   rw[t,map_cons,map_cons,map_nil,sum_cons,sum_cons,sum_nil];show((c1:Nat):Rat)/((c1+c2:Nat):Rat)*_+(((c2:Nat):Rat)/((c1+c2:Nat):Rat)*_+0)=_
   grind
def ff:Nat->Nat->Rat
 | _,0=>1
 | n,k+1=>((n:Nat):Rat)*ff (n - 1) k
def gS(c1 s1 c2 s2 a b:Nat):Rat:=ff c1 a*ff c2 b*ff (a+b) (a+b)/(ff s1 a*ff s2 b*ff (c1+c2) (a+b))
theorem jp:∀(k n:Nat),k<=n->ff n k≠0
 | 0,n,_=>by rw[ff];decide
 | k+1,n,h=>by
  rw[ff];have:=jp k (n - 1) (by lia);have z:((n:Nat):Rat)≠0:=by have:n≠0:=(by lia);exact_mod_cast this
  intro e
  rcases Rat.mul_eq_zero.mp e with e | e
  .exact z e
  .exact this e
theorem Ay{c1 d c2 f a b:Nat}(w:a<=d)(g:b<=f)(u:a+b<=c1+c2)(r:1<=a)(o:1<=c1) :
  ((c1:Nat):Rat)*(((a:Nat):Rat)*gS (c1 - 1) (d - 1) c2 f (a - 1) b/((d:Nat):Rat))/((c1+c2:Nat):Rat)*((a+b:Nat):Rat)=((a:Nat):Rat)*gS c1 d c2 f a b:=by
 obtain⟨k,rfl⟩:∃ k,a=k+1:=⟨a - 1,by lia⟩
 obtain⟨c,rfl⟩:∃ c,c1=c+1:=⟨c1 - 1,by lia⟩
 obtain⟨s,rfl⟩:∃ s,d=s+1:=⟨d - 1,by lia⟩
 unfold gS;rw[Nat.add_sub_cancel,Nat.add_sub_cancel,Nat.add_sub_cancel];have j:ff (c+1) (k+1)=((c+1:Nat):Rat)*ff c k:=by rw[ff,Nat.add_sub_cancel]
 have h:ff (s+1) (k+1)=((s+1:Nat):Rat)*ff s k:=by rw[ff,Nat.add_sub_cancel]
 have i:ff (c+1+c2) (k+1+b)=((c+1+c2:Nat):Rat)*ff (c+c2) (k+b):=by rw[show k+1+b=(k+b)+1 by lia,ff,show c+1+c2 - 1=c+c2 by lia]
 have l:ff (k+1+b) (k+1+b)=((k+1+b:Nat):Rat)*ff (k+b) (k+b):=by rw[show k+1+b=(k+b)+1 by lia,ff,Nat.add_sub_cancel]
 rw[j,h,i,l];have p:=jp k s (by lia);have x:=jp b f g;have q:=jp (k+b) (c+c2) (by lia);have v:((s+1:Nat):Rat)≠0:=by have:s+1≠0:=(by lia);exact_mod_cast this
 have n:((c+1+c2:Nat):Rat)≠0:=by have:c+1+c2≠0:=(by lia);exact_mod_cast this
 generalize ((s+1:Nat):Rat)=x1 at *;generalize ((c+1+c2:Nat):Rat)=x2 at *;generalize ((k+1+b:Nat):Rat)=x3 at *;generalize ((c+1:Nat):Rat)=x4 at *;generalize ((k+1:Nat):Rat)=x5 at *;generalize ff s k=y1 at *;generalize ff f b=y2 at *;generalize ff (c+c2) (k+b)=y3 at *;generalize ff c k=y4 at *;generalize ff c2 b=y5 at *;generalize ff (k+b) (k+b)=y6 at *
 grind
theorem p8(c1 c c2 d a b:Nat):gS c1 c c2 d a b=gS c2 d c1 c b a:=by
 unfold gS;rw[Nat.add_comm b a,Nat.add_comm c2 c1,Rat.mul_comm (ff c2 b) (ff c1 a),Rat.mul_comm (ff d b) (ff c a)]
theorem y8{c1 c c2 d a b:Nat}(h:a<=c)(f:b<=d)(g:a+b<=c1+c2) :
  ((c1:Nat):Rat)*(((a:Nat):Rat)*gS (c1 - 1) (c - 1) c2 d (a - 1) b/((c:Nat):Rat))/((c1+c2:Nat):Rat)*((a+b:Nat):Rat)=((a:Nat):Rat)*gS c1 c c2 d a b:=by
 by_cases ha:a=0
 .subst ha
  have z:((0:Nat):Rat)=0:=rfl;rw[z]
  grind
 .by_cases hc:c1=0
  .subst hc
   obtain⟨k,rfl⟩:∃ k,a=k+1:=⟨a - 1,by lia⟩
   have z:((0:Nat):Rat)=0:=rfl
   have e:gS 0 c c2 d (k+1) b=0:=by
    unfold gS;rw[show ff 0 (k+1)=0 by rw[ff,z,Rat.zero_mul]]
    grind
   rw[e,z]
   grind
  .exact Ay h f g (by lia) (by lia)
def cn(S P:List Int):Nat:=(P.filter λx=>decide (x∈S)).length
theorem iJ(S P:List Int):cn S P<=P.length:=length_filter_le _ _
theorem lC{P:List Int}{x:Int}(a:P.Nodup)(h:x∈P):P.Perm (x::wo P x):=by
 have e:wo P x=P.erase x:=by
  unfold wo;rw[a.erase_eq_filter];refine List.filter_congr λy _=>?_
  by_cases c:y=x <;> simp[c]
 rw[e];exact List.perm_cons_erase h
theorem xu{S P Q:List Int}(h:P.Perm Q):cn S P=cn S Q:=(h.filter _).length_eq
theorem xt{S P:List Int}{x:Int}(h:x∈S):cn S (x::P)=cn S P+1:=by
 unfold cn;rw[filter_cons,if_pos (decide_eq_true h),length_cons]
theorem yC{S P:List Int}{x:Int}(a:P.Nodup)(h:x∈P)(b:x∈S):cn S (wo P x)=cn S P - 1:=by
 have:=xu (S:=S) (lC a h);rw[xt b]at this;lia
theorem d6{P:List Int}{x:Int}(a:P.Nodup)(h:x∈P):(wo P x).length=P.length - 1:=by
 have:=(lC a h).length_eq;rw[length_cons]at this;lia
theorem pH(S:List Int)(v:Rat):∀ P:List Int,(P.map λx=>if x∈S then v else 0).sum=((cn S P:Nat):Rat)*v
 | []=>by show(0:Rat)=((0:Nat):Rat)*v;have z:((0:Nat):Rat)=0:=rfl;rw[z];grind
 | x::P=>by
  rw[map_cons,sum_cons,pH S v P];unfold cn;rw[filter_cons]
  by_cases c:x∈S
  .rw[if_pos c,if_pos (decide_eq_true c),length_cons]
   push_cast
   grind
  .rw[if_neg c,if_neg (by simpa using c)]
   grind
def Cnd(S tk P1 P2:List Int):Prop:=(∀ x∈tk,x∈S)/\∀ x∈S,x∈tk\/x∈P1\/x∈P2
theorem gy{S tk b c:List Int}(g:S.Nodup)(f:(tk++(b++c)).Nodup)(h:Cnd S tk b c):S.length=tk.length+(cn S b+cn S c):=by
 have p:S.Perm ((tk++(b++c)).filter λx=>decide (x∈S)):=by
  refine fO g (f.filter _) λx=>?_
  rw[mem_filter,mem_append,mem_append,decide_eq_true_eq];exact⟨λa=>⟨h.2 x a,a⟩,λa=>a.2⟩
 have e:=p.length_eq;rw[filter_append,filter_append,length_append,length_append]at e;have d:(tk.filter λx=>decide (x∈S))=tk:=List.filter_eq_self.mpr λx a=>decide_eq_true (h.1 x a)
 rw[d]at e;exact e
theorem iZ{S tk d i:List Int}{x:Int}(j:x∈d):Cnd S (tk++[x]) (wo d x) i↔x∈S/\Cnd S tk d i:=by
 unfold Cnd wo
 constructor
 .rintro⟨b,g⟩
  have f:=b x (mem_append_right _ (mem_singleton.mpr rfl));refine⟨f,λy a=>b y (mem_append_left _ a),λy a=>?_⟩
  rcases g y a with h | h | h
  .rcases mem_append.mp h with h | h
   .exact .inl h
   .rw[mem_singleton.mp h];exact .inr (.inl j)
  .exact .inr (.inl (mem_filter.mp h).1)
  .exact .inr (.inr h)
 .rintro⟨f,b,g⟩
  refine⟨λy a=>?_,λy a=>?_⟩
  .rcases mem_append.mp a with h | h
   .exact b y h
   .rw[mem_singleton.mp h];exact f
  .by_cases c:y=x
   .rw[c];exact .inl (mem_append_right _ (mem_singleton.mpr rfl))
   .rcases g y a with h | h | h
    .exact .inl (mem_append_left _ h)
    .exact .inr (.inl (mem_filter.mpr ⟨h,by simp[c]⟩))
    .exact .inr (.inr h)
theorem nJ{S tk a b:List Int}:Cnd S tk a b↔Cnd S tk b a:=⟨λh=>⟨h.1,λx hx=>(h.2 x hx).imp id Or.symm⟩,λh=>⟨h.1,λx hx=>(h.2 x hx).imp id Or.symm⟩⟩
theorem md{S tk b a:List Int}{x:Int}(c:x∈a):Cnd S (tk++[x]) b (wo a x)↔x∈S/\Cnd S tk b a:=by
 rw[nJ,iZ c,nJ]
theorem lX{tk a b:List Int}{x:Int}(c:(tk++(a++b)).Nodup)(f:x∈a):(tk++[x]++(wo a x++b)).Nodup:=by
 have d:a.Nodup:=(nodup_append.mp (nodup_append.mp c).2.1).1;refine(List.Perm.nodup_iff ?_).mp c;rw[append_assoc];exact(((lC d f).append_right b).append_left tk)
theorem i5{tk a b:List Int}(c:(tk++(a++b)).Nodup):(tk++(b++a)).Nodup:=(List.Perm.nodup_iff (List.perm_append_comm.append_left tk)).mp c
open Classical in
theorem mf{S:List Int}(f:S.Pairwise (· < ·)):∀(w:Nat){c1 c2:Nat}{P1 P2 tk:List Int},(tk++(P1++P2)).Nodup->S.length=tk.length+w->w<=c1+c2 ->
  Ex (λk=>decide (k=S)) (pN w c1 P1 c2 P2 tk)=if Cnd S tk P1 P2 then gS c1 P1.length c2 P2.length (cn S P1) (cn S P2) else 0
 | 0,c1,c2,P1,P2,tk,nd,hl,hw=>by
  have i:S.Nodup:=f.imp λ{a b} h e=>by rw[e]at h;lia
  rw[pN_zero,rG];have s:tk.Nodup:=(nodup_append.mp nd).1
  have e:so tk=S↔Cnd S tk P1 P2:=by
   constructor
   .intro e
    rw[<- e];exact⟨λx d=>(dL tk).mem_iff.mpr d,λx d=>.inl ((dL tk).mem_iff.mp d)⟩
   .intro h
    have j:=gy i nd h
    have p:tk.Perm S:=by
     refine fO s i λx=>⟨h.1 x,λd=>?_⟩
     rcases h.2 x d with w | w | w
     .exact w
     .have:0<cn S P1:=length_pos_of_mem (mem_filter.mpr ⟨w,decide_eq_true d⟩)
      lia
     .have:0<cn S P2:=length_pos_of_mem (mem_filter.mpr ⟨w,decide_eq_true d⟩)
      lia
    exact(so_uniq p.symm (f.imp λ{a b} w=>by lia)).symm
  by_cases c:Cnd S tk P1 P2
  .have j:=gy i nd c
   rw[if_pos (decide_eq_true (e.mpr c)),if_pos c,show cn S P1=0 by lia,show cn S P2=0 by lia];unfold gS;rw[ff,ff,ff,ff,ff,ff]
   grind
  .rw[if_neg (λz=>c (e.mp (of_decide_eq_true z))),if_neg c]
 | w+1,c1,c2,P1,P2,tk,nd,hl,hw=>by
  have i:S.Nodup:=f.imp λ{a b} h e=>by rw[e]at h;lia
  have l:P1.Nodup:=(nodup_append.mp (nodup_append.mp nd).2.1).1;have r:P2.Nodup:=(nodup_append.mp (nodup_append.mp nd).2.1).2.1;rw[BT _ (by lia)]
  have q:((c1:Nat):Rat)*Ex (λk=>decide (k=S)) (pF1 w c1 P1 c2 P2 tk)=((c1:Nat):Rat)*(((cn S P1:Nat):Rat)*(if Cnd S tk P1 P2 then gS (c1 - 1) (P1.length - 1) c2 P2.length (cn S P1 - 1) (cn S P2) else 0)/((P1.length:Nat):Rat)):=by
   by_cases z:c1=0
   .subst z
    have z:((0:Nat):Rat)=0:=rfl;rw[z,Rat.zero_mul,Rat.zero_mul]
   .unfold pF1
    rw[uP]
    have:(P1.map λx=>Ex (λk=>decide (k=S)) (pN w (c1 - 1) (wo P1 x) c2 P2 (tk++[x])))=P1.map λx=>if x∈S then (if Cnd S tk P1 P2 then gS (c1 - 1) (P1.length - 1) c2 P2.length (cn S P1 - 1) (cn S P2) else 0) else 0:=by
     refine map_congr_left λx d=>?_
     rw[mf f w (lX nd d) (by rw[length_append];show _=tk.length+1+w;lia) (by lia)]
     by_cases xs:x∈S
     .rw[if_pos xs,d6 l d,yC l d xs]
      by_cases c:Cnd S tk P1 P2
      .rw[if_pos c,if_pos ((iZ d).mpr ⟨xs,c⟩)]
      .rw[if_neg c,if_neg (λz=>c ((iZ d).mp z).2)]
     .rw[if_neg xs,if_neg (λz=>xs ((iZ d).mp z).1)]
    rw[this,pH]
  have o:((c2:Nat):Rat)*Ex (λk=>decide (k=S)) (pF2 w c1 P1 c2 P2 tk)=((c2:Nat):Rat)*(((cn S P2:Nat):Rat)*(if Cnd S tk P1 P2 then gS (c2 - 1) (P2.length - 1) c1 P1.length (cn S P2 - 1) (cn S P1) else 0)/((P2.length:Nat):Rat)):=by
   by_cases z:c2=0
   .subst z
    have z:((0:Nat):Rat)=0:=rfl;rw[z,Rat.zero_mul,Rat.zero_mul]
   .unfold pF2
    rw[uP]
    have:(P2.map λx=>Ex (λk=>decide (k=S)) (pN w c1 P1 (c2 - 1) (wo P2 x) (tk++[x])))=P2.map λx=>if x∈S then (if Cnd S tk P1 P2 then gS (c2 - 1) (P2.length - 1) c1 P1.length (cn S P2 - 1) (cn S P1) else 0) else 0:=by
     refine map_congr_left λx d=>?_
     rw[mf f w (i5 (lX (i5 nd) d)) (by rw[length_append];show _=tk.length+1+w;lia) (by lia)]
     by_cases xs:x∈S
     .rw[if_pos xs,d6 r d,yC r d xs,p8]
      by_cases c:Cnd S tk P1 P2
      .rw[if_pos c,if_pos ((md d).mpr ⟨xs,c⟩)]
      .rw[if_neg c,if_neg (λz=>c ((md d).mp z).2)]
     .rw[if_neg xs,if_neg (λz=>xs ((md d).mp z).1)]
    rw[this,pH]
  rw[q,o]
  by_cases c:Cnd S tk P1 P2
  .have j:=gy i nd c
   rw[if_pos c,if_pos c,if_pos c];have C:=y8 (c1:=c1) (c2:=c2) (iJ S P1) (iJ S P2) (by lia);have u:=y8 (c1:=c2) (c2:=c1) (iJ S P2) (iJ S P1) (by lia);rw[<- p8 c1 P1.length c2 P2.length,Nat.add_comm (cn S P2) (cn S P1),Nat.add_comm c2 c1]at u;have y:cn S P1+cn S P2=w+1:=by lia
   have v:((cn S P1+cn S P2:Nat):Rat)≠0:=by have:cn S P1+cn S P2≠0:=(by lia);exact_mod_cast this
   have B:((cn S P1+cn S P2:Nat):Rat)=((cn S P1:Nat):Rat)+((cn S P2:Nat):Rat):=by push_cast;rfl
   generalize gS (c1 - 1) (P1.length - 1) c2 P2.length (cn S P1 - 1) (cn S P2)=u1 at *;generalize gS (c2 - 1) (P2.length - 1) c1 P1.length (cn S P2 - 1) (cn S P1)=u2 at *;generalize gS c1 P1.length c2 P2.length (cn S P1) (cn S P2)=g at *;generalize ((c1:Nat):Rat)*(((cn S P1:Nat):Rat)*u1/((P1.length:Nat):Rat))=X1 at *;generalize ((c2:Nat):Rat)*(((cn S P2:Nat):Rat)*u2/((P2.length:Nat):Rat))=X2 at *;generalize ((cn S P1+cn S P2:Nat):Rat)=n at *;generalize ((cn S P1:Nat):Rat)=n1' at *;generalize ((cn S P2:Nat):Rat)=n2' at *;have A:((c1+c2:Nat):Rat)≠0:=by have:c1+c2≠0:=(by lia);exact_mod_cast this
   generalize ((c1+c2:Nat):Rat)=N at *;clear q o
   grind
  .rw[if_neg c,if_neg c,if_neg c]
   grind
theorem yM:∀ k s:Nat,ff (k+s) k*fq s=fq (k+s)
 | 0,s=>by rw[ff,Nat.zero_add,Rat.one_mul]
 | k+1,s=>by
  have a:=yM k s;rw[ff,show k+1+s - 1=k+s by lia,Rat.mul_assoc,a,show k+1+s=(k+s)+1 by lia];unfold fq;rw[fac]
  push_cast
  rfl
theorem wp:∀ n k:Nat,ff n (n+k+1)=0
 | 0,k=>by rw[ff];have z:((0:Nat):Rat)=0:=rfl;rw[z,Rat.zero_mul]
 | n+1,k=>by rw[show n+1+k+1=(n+k+1)+1 by lia,ff,Nat.add_sub_cancel,wp n k,Rat.mul_zero]
theorem jN(n k:Nat):ff n k=((ch n k:Nat):Rat)*fq k:=by
 by_cases h:k<=n
 .obtain⟨s,rfl⟩:∃ s,n=k+s:=⟨n - k,by lia⟩
  have c:=yM k s
  have b:((ch (k+s) k:Nat):Rat)*(fq k*fq s)=fq (k+s):=by
   unfold fq;rw[<- eP k s]
   push_cast
   rfl
  have a:=fc s
  grind
 .obtain⟨j,rfl⟩:∃ j,k=n+j+1:=⟨k - n - 1,by lia⟩
  rw[wp,mj];have z:((0:Nat):Rat)=0:=rfl;rw[z,Rat.zero_mul]
theorem yu(n:Nat):ch n n=1:=by
 have h:=eP n 0;rw[Nat.add_zero]at h;have e:fac 0=1:=rfl;rw[e,Nat.mul_one]at h;have p:=fN n;exact Nat.eq_of_mul_eq_mul_right p (by rw[h,Nat.one_mul])
theorem AX{c1 c c2 d a b:Nat}(j:a<=c)(i:b<=d)(l:a+b<=c1+c2):gS c1 c c2 d a b=((ch c1 a*ch c2 b:Nat):Rat)/((ch c a*ch d b*ch (c1+c2) (a+b):Nat):Rat):=by
 unfold gS;have f:=jp a c j;have h:=jp b d i;have g:=jp (a+b) (c1+c2) l;rw[jN c1,jN c2,jN (a+b),yu,jN c a,jN d b,jN (c1+c2)];rw[jN]at f h g;have q:=fc a;have n:=fc b;have u:=fc (a+b);have o:((1:Nat):Rat)=1:=rfl;rw[o]
 push_cast
 generalize ((ch c1 a:Nat):Rat)=x1 at *;generalize ((ch c2 b:Nat):Rat)=x2 at *;generalize ((ch c a:Nat):Rat)=x3 at *;generalize ((ch d b:Nat):Rat)=x4 at *;generalize ((ch (c1+c2) (a+b):Nat):Rat)=x5 at *;generalize fq a=y1 at *;generalize fq b=y2 at *;generalize fq (a+b)=y3 at *;have r:x3≠0:=λe=>f (by rw[e,Rat.zero_mul])
 have p:x4≠0:=λe=>h (by rw[e,Rat.zero_mul])
 have s:x5≠0:=λe=>g (by rw[e,Rat.zero_mul])
 clear f h g
 grind
def Iv(w c s:Nat):Prop:=s=c\/w<=s
structure Pv(w c1:Nat)(P1:List Int)(c2:Nat)(P2 tk:List Int):Prop where
 nd:(tk++(P1++P2)).Nodup
 i1:Iv w c1 P1.length
 i2:Iv w c2 P2.length
 all:w<=c1+c2
 few:tk.length+w<=24
theorem Pv.n1{w c1:Nat}{a:List Int}{c2:Nat}{b tk:List Int}(h:Pv w c1 a c2 b tk):a.Nodup:=(nodup_append.mp (nodup_append.mp h.nd).2.1).1
theorem Pv.n2{w c1:Nat}{b:List Int}{c2:Nat}{a tk:List Int}(h:Pv w c1 b c2 a tk):a.Nodup:=(nodup_append.mp (nodup_append.mp h.nd).2.1).2.1
theorem Pv.one{w c1:Nat}{a:List Int}{c2:Nat}{c tk:List Int}(h:Pv (w+1) c1 a c2 c tk)(d:0<c1){x:Int}(b:x∈a):Pv w (c1 - 1) (wo a x) c2 c (tk++[x]):=by
 have f:=d6 h.n1 b;have g:=length_pos_of_mem b;have:=h.all;have:=h.few;refine⟨lX h.nd b,?_,?_,by lia,by rw[length_append];show tk.length+1+w<=24;lia⟩
 .rcases h.i1 with e | e
  .exact .inl (by lia)
  .exact .inr (by lia)
 .rcases h.i2 with e | e
  .exact .inl e
  .exact .inr (by lia)
theorem Pv.two{w c1:Nat}{c:List Int}{c2:Nat}{b tk:List Int}(h:Pv (w+1) c1 c c2 b tk)(d:0<c2){x:Int}(a:x∈b):Pv w c1 c (c2 - 1) (wo b x) (tk++[x]):=by
 have f:=d6 h.n2 a;have g:=length_pos_of_mem a;have:=h.all;have:=h.few;refine⟨i5 (lX (i5 h.nd) a),?_,?_,by lia,by rw[length_append];show tk.length+1+w<=24;lia⟩
 .rcases h.i1 with e | e
  .exact .inl e
  .exact .inr (by lia)
 .rcases h.i2 with e | e
  .exact .inl (by lia)
  .exact .inr (by lia)
theorem Pv.ne1{w c1:Nat}{a:List Int}{c2:Nat}{b tk:List Int}(h:Pv (w+1) c1 a c2 b tk)(c:0<c1):0<a.length:=by
 rcases h.i1 with e | e <;> lia
theorem Pv.ne2{w c1:Nat}{b:List Int}{c2:Nat}{a tk:List Int}(h:Pv (w+1) c1 b c2 a tk)(c:0<c2):0<a.length:=by
 rcases h.i2 with e | e <;> lia
theorem fu{w c1:Nat}{a:List Int}{c2:Nat}{b tk:List Int}(h:Pv (w+1) c1 a c2 b tk){M:Tr->Prop}(d:0<c1->c2=0->M (pF1 w c1 a c2 b tk))(c:c1=0->0<c2->M (pF2 w c1 a c2 b tk))(f:0<c1->0<c2->M (.die [((c1:Int),pF1 w c1 a c2 b tk),((c2:Int),pF2 w c1 a c2 b tk)])):M (pN (w+1) c1 a c2 b tk):=by
 have:=h.all;rw[pN_succ]
 split
 .exact d (by lia) (by assumption)
 .split
  .exact c (by assumption) (by lia)
  .exact f (by lia) (by lia)
theorem eL{P:List Int}{go:Int->Tr}{M:Tr->Prop}(a:∀ x∈P,P.length=1->M (go x))(b:P.length≠1->M (.die (P.map λx=>((1:Int),go x)))):M (cM P go):=by
 unfold cM
 split
 .rename_i h
  obtain⟨x,rfl⟩:=List.length_eq_one_iff.mp h;exact a x (mem_singleton.mpr rfl) h
 .exact b (by assumption)
theorem uo{P:List Int}{go:Int->Tr}(b:0<P.length)(h:∀ x∈P,Ok (go x)):Ok (cM P go):=by
 refine eL (M:=Ok) (λx a _=>h x a) λ_=>?_
 rw[Ok];refine⟨λe=>by have:=congrArg List.length e;rw[length_map]at this;rw[this]at b;exact absurd b (by decide),mr λp hp=>?_⟩;obtain⟨x,a,rfl⟩:=mem_map.mp hp;exact⟨Int.le_refl 1,h x a⟩
theorem qi:∀(w:Nat){c1 c2:Nat}{P1 P2 tk:List Int},Pv w c1 P1 c2 P2 tk->Ok (pN w c1 P1 c2 P2 tk)
 | 0,c1,c2,P1,P2,tk,h=>by rw[pN_zero,Ok];exact⟨(nodup_append.mp h.nd).1,by have:=h.few;lia⟩
 | w+1,c1,c2,P1,P2,tk,h=>by
  have f:0<c1->Ok (pF1 w c1 P1 c2 P2 tk):=λc=>uo (h.ne1 c) λx hx=>qi w (h.one c hx)
  have d:0<c2->Ok (pF2 w c1 P1 c2 P2 tk):=λc=>uo (h.ne2 c) λx hx=>qi w (h.two c hx)
  refine fu h (M:=Ok) (λa _=>f a) (λ_ b=>d b) λa b=>?_
  rw[Ok];refine⟨by simp,mr λp hp=>?_⟩
  rcases mem_cons.mp hp with rfl | hp
  .exact⟨by show(1:Int)<=(c1:Int);lia,f a⟩
  .rw[mem_singleton.mp hp]
   exact⟨by show(1:Int)<=(c2:Int);lia,d b⟩
mutual
theorem qI:∀(d:Nat) (t:Tr),Dk d t->Dk (d+1) t
 | _,.leaf _,h=>by rw[Dk]at h ⊢;exact h
 | 0,.die _,h=>by rw[Dk]at h;exact h.elim
 | d+1,.die ps,h=>by rw[Dk]at h ⊢;exact⟨h.1,h.2.1,wq d ps h.2.2⟩
theorem wq:∀(d:Nat) (ps:List (Int×Tr)),Dks d ps->Dks (d+1) ps
 | _,[],_=>by rw[Dks];trivial
 | d,(m,u)::r,h=>by rw[Dks]at h ⊢;exact⟨h.1,h.2.1,qI d u h.2.2.1,wq d r h.2.2.2⟩
end
theorem v5{P:List Int}{go:Int->Tr}{d:Nat}(c:0<P.length)(b:P.length<=1000)(h:∀ x∈P,Dk d (go x)):Dk (d+1) (cM P go):=by
 refine eL (M:=Dk (d+1)) (λx a _=>qI d _ (h x a)) λ_=>?_
 rw[Dk,length_map];refine⟨c,b,lT λp f=>?_⟩;obtain⟨x,a,rfl⟩:=mem_map.mp f;exact⟨Int.le_refl 1,by show(1:Int)<=_;decide,h x a⟩
theorem wn:∀(w:Nat){c1 c2:Nat}{P1 P2 tk:List Int},Pv w c1 P1 c2 P2 tk->P1.length<=24->P2.length<=24->c1<=300->c2<=300->Dk (2*w) (pN w c1 P1 c2 P2 tk)
 | 0,c1,c2,P1,P2,tk,h,_,_,_,_=>by rw[pN_zero,Dk];exact⟨(nodup_append.mp h.nd).1,by have:=h.few;lia⟩
 | w+1,c1,c2,P1,P2,tk,h,l1,l2,b1,b2=>by
  have f:0<c1->Dk (2*w+1) (pF1 w c1 P1 c2 P2 tk):=λc=>v5 (h.ne1 c) (by lia) λx hx=>wn w (h.one c hx) (by rw[d6 h.n1 hx];lia) l2 (by lia) b2
  have d:0<c2->Dk (2*w+1) (pF2 w c1 P1 c2 P2 tk):=λc=>v5 (h.ne2 c) (by lia) λx hx=>wn w (h.two c hx) l1 (by rw[d6 h.n2 hx];lia) b1 (by lia)
  rw[show 2*(w+1)=2*w+1+1 by lia];refine fu h (M:=Dk (2*w+1+1)) (λa _=>qI _ _ (f a)) (λ_ b=>qI _ _ (d b)) λa b=>?_
  rw[Dk];refine⟨by simp,by simp,lT λp hp=>?_⟩
  rcases mem_cons.mp hp with rfl | hp
  .exact⟨by show(1:Int)<=(c1:Int);lia,by show(c1:Int)<=1000000000;lia,f a⟩
  .rw[mem_singleton.mp hp]
   exact⟨by show(1:Int)<=(c2:Int);lia,by show(c2:Int)<=1000000000;lia,d b⟩
theorem qX{k:Nat}:∀{ps:List (Int×Tr)},(∀ p∈ps,lv p.2<=k)->lvs ps<=ps.length*k
 | [],_=>by rw[lvs];exact Nat.zero_le _
 | (m,u)::r,h=>by
  have a:=h _ mem_cons_self;have c:=qX (ps:=r) λp b=>h p (mem_cons_of_mem _ b)
  have a:lv u<=k:=a;rw[lvs,length_cons,Nat.add_mul,Nat.one_mul];lia
theorem wa{P:List Int}{go:Int->Tr}{k:Nat}(h:∀ x∈P,lv (go x)<=k):lv (cM P go)<=P.length*k:=by
 refine eL (M:=λt=>lv t<=P.length*k) (λx hx e=>by rw[e,Nat.one_mul];exact h x hx) λ_=>?_
 rw[lv];have:=qX (k:=k) (ps:=P.map λx=>((1:Int),go x)) λp hp=>by obtain⟨x,hx,rfl⟩:=mem_map.mp hp;exact h x hx
 rw[length_map]at this;exact this
theorem vp{K:Nat}:∀(w:Nat){c1 c2:Nat}{P1 P2 tk:List Int},Pv w c1 P1 c2 P2 tk->P1.length+P2.length<=K->lv (pN w c1 P1 c2 P2 tk)<=K ^ w
 | 0,c1,c2,P1,P2,tk,h,_=>by rw[pN_zero,lv];exact Nat.le_refl 1
 | w+1,c1,c2,P1,P2,tk,h,hk=>by
  have f:0<c1->lv (pF1 w c1 P1 c2 P2 tk)<=P1.length*K ^ w:=λc=>wa λx hx=>vp w (h.one c hx) (by rw[d6 h.n1 hx];lia)
  have d:0<c2->lv (pF2 w c1 P1 c2 P2 tk)<=P2.length*K ^ w:=λc=>wa λx hx=>vp w (h.two c hx) (by rw[d6 h.n2 hx];lia)
  have e:(P1.length+P2.length)*K ^ w<=K ^ (w+1):=by
   rw[Nat.pow_succ,Nat.mul_comm (K ^ w) K];exact Nat.mul_le_mul_right _ hk
  rw[Nat.add_mul]at e;refine fu h (M:=λt=>lv t<=K ^ (w+1)) (λa _=>by have:=f a;lia) (λ_ b=>by have:=d b;lia) λa b=>?_
  have:=f a;have:=d b;rw[lv,lvs,lvs,lvs];lia
def Dpo:Nat->Nat->Nat
 | 0,_=>1
 | w+1,N=>N*(6*Dpo w (N - 1))
theorem qY:∀(w N:Nat),w<=N->0<Dpo w N
 | 0,N,_=>Nat.one_pos
 | w+1,N,h=>by
  rw[Dpo];exact Nat.mul_pos (by lia) (Nat.mul_pos (by decide) (qY w (N - 1) (by lia)))
structure Cb(E:Int)(c:Int×Int):Prop where
 t0:0<=c.1
 le:c.1<=c.2
 b0:0<c.2
 dv:c.2 ∣ E
theorem nM{P:List Int}{go:Int->Tr}{a b E:Int}(l:P.length<=3)(j:0<=a)(i:a<=b)(g:0<b)(h:∀ x∈P,∀ b':Int,0<b'->a<=b'->b' ∣ b*6->∀ w∈wl (go x) a b',Cb E w.2):∀ w∈wl (cM P go) a b,Cb E w.2:=by
 refine eL (M:=λt=>∀ w∈wl t a b,Cb E w.2) (λx d _=>h x d b g i ⟨6,rfl⟩) λ_=>?_
 intro w c;rw[wl,qV]at c;obtain⟨p,f,c⟩:=iS c;obtain⟨x,d,rfl⟩:=mem_map.mp f;have f:=length_pos_of_mem d;rw[show a*(1:Int)=a by lia]at c;refine h x d _ (Int.mul_pos g (by lia)) ?_ ?_ w c
 .have:b*1<=b*(P.length:Int):=Int.mul_le_mul_of_nonneg_left (by lia) (by lia)
  lia
 .refine Int.mul_dvd_mul (Int.dvd_refl b) ?_
  have:P.length=1\/P.length=2\/P.length=3:=by lia
  rcases this with e | e | e <;> rw[e] <;> decide
theorem lR:∀(w:Nat){c1 c2:Nat}{P1 P2 tk:List Int},Pv w c1 P1 c2 P2 tk->P1.length<=3->P2.length<=3->∀{a b E:Int},0<=a->a<=b->0<b->b*(Dpo w (c1+c2):Nat) ∣ E->∀ v∈wl (pN w c1 P1 c2 P2 tk) a b,Cb E v.2
 | 0,c1,c2,P1,P2,tk,h,_,_,a,b,E,h0,h1,h2,hE=>by
  intro v g;rw[pN_zero,wl]at g;rw[mem_singleton.mp g];have e:b*((Dpo 0 (c1+c2):Nat):Int)=b:=by rw[Dpo];show b*1=b;lia
  rw[e]at hE;exact⟨h0,h1,h2,hE⟩
 | w+1,c1,c2,P1,P2,tk,h,l1,l2,a,b,E,h0,h1,h2,hE=>by
  have u:=h.all;have D:((Dpo (w+1) (c1+c2):Nat):Int)=((c1+c2:Nat):Int)*(6*((Dpo w (c1+c2 - 1):Nat):Int)):=by rw[Dpo];push_cast;rfl
  rw[D]at hE
  have C:∀{f d:Int},0<c1->0<=f->f<=d->0<d->d ∣ b*((c1+c2:Nat):Int)->∀ v∈wl (pF1 w c1 P1 c2 P2 tk) f d,Cb E v.2:=λ{f d} o j s q n=>nM l1 j s q λx hx b2 r0 r1 r2=>lR w (h.one o hx) (by rw[d6 h.n1 hx];lia) l2 j r1 r0 (by
   rw[show c1 - 1+c2=c1+c2 - 1 by lia];refine Int.dvd_trans ?_ hE;have:b2*((Dpo w (c1+c2 - 1):Nat):Int) ∣ (b*((c1+c2:Nat):Int))*6*((Dpo w (c1+c2 - 1):Nat):Int):=Int.mul_dvd_mul (Int.dvd_trans r2 (Int.mul_dvd_mul n (Int.dvd_refl 6))) (Int.dvd_refl _);rw[show b*(((c1+c2:Nat):Int)*(6*((Dpo w (c1+c2 - 1):Nat):Int)))=(b*((c1+c2:Nat):Int))*6*((Dpo w (c1+c2 - 1):Nat):Int) by rw[Int.mul_assoc,Int.mul_assoc]]
   exact this)
  have B:∀{f d:Int},0<c2->0<=f->f<=d->0<d->d ∣ b*((c1+c2:Nat):Int)->∀ v∈wl (pF2 w c1 P1 c2 P2 tk) f d,Cb E v.2:=λ{f d} o j s q n=>nM l2 j s q λx hx b2 r0 r1 r2=>lR w (h.two o hx) l1 (by rw[d6 h.n2 hx];lia) j r1 r0 (by
   rw[show c1+(c2 - 1)=c1+c2 - 1 by lia];refine Int.dvd_trans ?_ hE;have:b2*((Dpo w (c1+c2 - 1):Nat):Int) ∣ (b*((c1+c2:Nat):Int))*6*((Dpo w (c1+c2 - 1):Nat):Int):=Int.mul_dvd_mul (Int.dvd_trans r2 (Int.mul_dvd_mul n (Int.dvd_refl 6))) (Int.dvd_refl _);rw[show b*(((c1+c2:Nat):Int)*(6*((Dpo w (c1+c2 - 1):Nat):Int)))=(b*((c1+c2:Nat):Int))*6*((Dpo w (c1+c2 - 1):Nat):Int) by rw[Int.mul_assoc,Int.mul_assoc]]
   exact this)
  refine fu h (M:=λt=>∀ v∈wl t a b,Cb E v.2) (λx _=>C x h0 h1 h2 ⟨_,rfl⟩) (λ_ x=>B x h0 h1 h2 ⟨_,rfl⟩) λx y v g=>?_
  have t:tot [((c1:Int),pF1 w c1 P1 c2 P2 tk),((c2:Int),pF2 w c1 P1 c2 P2 tk)]=((c1+c2:Nat):Int):=by unfold tot;simp
  rw[wl,t]at g;obtain⟨p,hp,g⟩:=iS g;have z:(0:Int)<((c1+c2:Nat):Int):=by lia
  have i:∀ c:Int,0<=c->c<=((c1+c2:Nat):Int)->0<=a*c/\a*c<=b*((c1+c2:Nat):Int):=λc A l=>⟨Int.mul_nonneg h0 A,Int.mul_le_mul h1 l A (by lia)⟩
  rcases mem_cons.mp hp with rfl | hp
  .obtain⟨l,r⟩:=i (c1:Int) (by lia) (by lia)
   exact C x l r (Int.mul_pos h2 z) (Int.dvd_refl _) v g
  .rw[mem_singleton.mp hp]at g
   obtain⟨l,r⟩:=i (c2:Int) (by lia) (by lia);exact B y l r (Int.mul_pos h2 z) (Int.dvd_refl _) v g
theorem B1{w c1 c2:Nat}{c d tk:List Int}(h:Pv w c1 c c2 d tk)(g:c.length<=3)(f:d.length<=3):∀ v∈wl (pN w c1 c c2 d tk) 1 1,Ch ((Dpo w (c1+c2):Nat):Int) v.2:=λv i=>by
 have:=lR w h g f (a:=1) (b:=1) (E:=((Dpo w (c1+c2):Nat):Int)) (by decide) (by decide) (by decide) (by rw[Int.one_mul];exact Int.dvd_refl _) v i;exact⟨this.t0,this.le,this.b0,this.dv⟩
theorem wA{P:List Int}{go:Int->Tr}{q:Rat}{v:List Int×Rat}(h:v∈wf (cM P go) q):∃ x∈P,∃ q',v∈wf (go x) q':=by
 refine eL (P:=P) (go:=go) (M:=λt=>v∈wf t q->∃ x∈P,∃ q',v∈wf (go x) q') (λx a _ h=>⟨x,a,q,h⟩) (λ_ h=>?_) h;rw[wf]at h;obtain⟨p,c,q',b⟩:=iT h;obtain⟨x,a,rfl⟩:=mem_map.mp c;exact⟨x,a,q',b⟩
theorem wE:∀(w:Nat){c1 c2:Nat}{P1 P2 tk:List Int}{q:Rat},Pv w c1 P1 c2 P2 tk->∀ v∈wf (pN w c1 P1 c2 P2 tk) q,v.1.Nodup/\v.1.length=tk.length+w/\∀ x∈v.1,x∈tk\/x∈P1\/x∈P2
 | 0,c1,c2,P1,P2,tk,q,h,v,c=>by
  rw[pN_zero,wf]at c;rw[mem_singleton.mp c];exact⟨(nodup_append.mp h.nd).1,rfl,λx f=>.inl f⟩
 | w+1,c1,c2,P1,P2,tk,q,h,v,c=>by
  have r:0<c1->∀ d,v∈wf (pF1 w c1 P1 c2 P2 tk) d->v.1.Nodup/\v.1.length=tk.length+(w+1)/\∀ x∈v.1,x∈tk\/x∈P1\/x∈P2:=λi d c=>by
   obtain⟨x,f,s,c⟩:=wA c;obtain⟨n,j,l⟩:=wE w (h.one i f) v c;refine⟨n,by rw[j,length_append];show tk.length+1+w=_;lia,λy g=>?_⟩
   rcases l y g with z | z | z
   .rcases mem_append.mp z with z | z
    .exact .inl z
    .rw[mem_singleton.mp z];exact .inr (.inl f)
   .exact .inr (.inl (mem_filter.mp z).1)
   .exact .inr (.inr z)
  have o:0<c2->∀ d,v∈wf (pF2 w c1 P1 c2 P2 tk) d->v.1.Nodup/\v.1.length=tk.length+(w+1)/\∀ x∈v.1,x∈tk\/x∈P1\/x∈P2:=λi d c=>by
   obtain⟨x,f,s,c⟩:=wA c;obtain⟨n,j,l⟩:=wE w (h.two i f) v c;refine⟨n,by rw[j,length_append];show tk.length+1+w=_;lia,λy g=>?_⟩
   rcases l y g with z | z | z
   .rcases mem_append.mp z with z | z
    .exact .inl z
    .rw[mem_singleton.mp z];exact .inr (.inr f)
   .exact .inr (.inl z)
   .exact .inr (.inr (mem_filter.mp z).1)
  refine fu h (M:=λt=>v∈wf t q->v.1.Nodup/\v.1.length=tk.length+(w+1)/\∀ x∈v.1,x∈tk\/x∈P1\/x∈P2) (λa _ h=>r a q h) (λ_ b h=>o b q h) (λa b c=>?_) c;rw[wf]at c;obtain⟨p,hp,d,c⟩:=iT c
  rcases mem_cons.mp hp with rfl | hp
  .exact r a d c
  .rw[mem_singleton.mp hp]at c
   exact o b d c
def rnf(s n:Nat):List Int:=(List.range n).map λ(k:Nat)=>(s:Int)+(k:Int)
theorem mem_rnf{s n:Nat}{x:Int}:x∈rnf s n↔(s:Int)<=x/\x<(s:Int)+(n:Int):=by
 unfold rnf;rw[mem_map]
 constructor
 .rintro⟨k,c,rfl⟩;have:=mem_range.mp c;lia
 .rintro⟨a,b⟩;exact⟨(x - s).toNat,mem_range.mpr (by lia),by lia⟩
theorem rnf_len(s n:Nat):(rnf s n).length=n:=by unfold rnf;simp
theorem zA(s n:Nat):(rnf s n).Nodup:=pairwise_map.mpr (nodup_range.imp λ{a b} h e=>h (by lia))
theorem Ac(s n:Nat):(rng s++rnf s n).Nodup:=by
 rw[nodup_append];refine⟨(rng_hd s).nd,zA s n,λa d b c e=>?_⟩;have:=mem_rng.mp d;have:=mem_rnf.mp c;lia
def pS(w c1 s1 c2 s2:Nat):Tr:=pN w c1 (rng s1) c2 (rnf s1 s2) []
structure Pq(w c1 s1 c2 s2:Nat):Prop where
 i1:Iv w c1 s1
 i2:Iv w c2 s2
 all:w<=c1+c2
 few:w<=24
 l1:s1<=c1
 l2:s2<=c2
theorem Pq.pv{w c1 a c2 b:Nat}(h:Pq w c1 a c2 b):Pv w c1 (rng a) c2 (rnf a b) [] :=
 ⟨by rw[List.nil_append];exact Ac a b,by rw[rng_len];exact h.i1,by rw[rnf_len];exact h.i2,h.all,by show 0+w<=24;have:=h.few;lia⟩
theorem wC{S:List Int}{s:Nat}{N:Nat}{w:Nat}(h:Sb S w N):cn S (rng s)=(S.filter λx=>decide (x<(s:Int))).length:=by
 refine(fO ((rng_hd s).nd.filter _) (h.nd.filter _) λx=>?_).length_eq;rw[mem_filter,mem_filter,mem_rng,decide_eq_true_eq,decide_eq_true_eq];exact⟨λ⟨a,b⟩=>⟨b,a.2⟩,λ⟨a,b⟩=>⟨⟨(h.lt x a).1,b⟩,a⟩⟩
theorem kY{S:List Int}{w a d:Nat}(h:Sb S w (a+d)):Cnd S [] (rng a) (rnf a d):=by
 refine⟨(λx b=>by cases b),λx b=>?_⟩;have:=h.lt x b
 by_cases c:x<(a:Int)
 .exact .inr (.inl (mem_rng.mpr ⟨this.1,c⟩))
 .exact .inr (.inr (mem_rnf.mpr ⟨by lia,by have:=this.2;push_cast at this;lia⟩))
def shr(w c1 s1 c2 s2:Nat)(S:List Int):Rat:=((ch c1 (S.filter λx=>decide (x<(s1:Int))).length*ch c2 (w - (S.filter λx=>decide (x<(s1:Int))).length):Nat):Rat)/((ch s1 (S.filter λx=>decide (x<(s1:Int))).length*ch s2 (w - (S.filter λx=>decide (x<(s1:Int))).length)*ch (c1+c2) w:Nat):Rat)
theorem qe{w c1 a c2 b:Nat}(h:Pq w c1 a c2 b){S:List Int}(c:Sb S w (a+b)):dc (kt (pS w c1 a c2 b)) S=shr w c1 a c2 b S/\shr w c1 a c2 b S≠0:=by
 have e:=mf c.up w (c1:=c1) (c2:=c2) h.pv.nd (by show _=0+w;rw[c.len];lia) h.all;have d:=gy c.nd h.pv.nd (kY c);rw[c.len]at d;have d:w=0+(cn S (rng a)+cn S (rnf a b)):=d;have i:=iJ S (rng a);have j:=iJ S (rnf a b);rw[rng_len]at i;rw[rnf_len]at j;have u:=wC (s:=a) c;have l:cn S (rnf a b)=w - (S.filter λx=>decide (x<(a:Int))).length:=by lia
 have g:=h.all;have o:(S.filter λx=>decide (x<(a:Int))).length+(w - (S.filter λx=>decide (x<(a:Int))).length)=w:=by lia
 have f:Ex (λk=>decide (k=S)) (pN w c1 (rng a) c2 (rnf a b) [])=shr w c1 a c2 b S:=by
  rw[e];have:=kY c;rw[if_pos this,rng_len,rnf_len,AX i j (by lia),u,l];unfold shr;rw[o]
 refine⟨?_,?_⟩
 .rw[qA]
  exact f
 .have p:∀ n k:Nat,k<=n->((ch n k:Nat):Rat)≠0:=λn k v=>by
   have:=hJ k (n - k);rw[show k+(n - k)=n by lia]at this
   have:ch n k≠0:=(by lia)
   exact_mod_cast this
  have:=h.l1;have:=h.l2;have r:=p c1 (S.filter λx=>decide (x<(a:Int))).length (by lia);have q:=p c2 (w - (S.filter λx=>decide (x<(a:Int))).length) (by lia);have B:=p a (S.filter λx=>decide (x<(a:Int))).length (by lia);have y:=p b (w - (S.filter λx=>decide (x<(a:Int))).length) (by lia);have A:=p (c1+c2) w (by lia);unfold shr
  push_cast
  generalize ((ch c1 (S.filter λx=>decide (x<(a:Int))).length:Nat):Rat)=x1 at *;generalize ((ch c2 (w - (S.filter λx=>decide (x<(a:Int))).length):Nat):Rat)=x2 at *;generalize ((ch a (S.filter λx=>decide (x<(a:Int))).length:Nat):Rat)=x3 at *;generalize ((ch b (w - (S.filter λx=>decide (x<(a:Int))).length):Nat):Rat)=x4 at *;generalize ((ch (c1+c2) w:Nat):Rat)=x5 at *;clear e f d;intro z;have:x1*x2=0:=by grind
  rcases Rat.mul_eq_zero.mp this with e | e
  .exact r e
  .exact q e
theorem qU{w c1 b c2 c:Nat}(h:Pq w c1 b c2 c){k:List Int}(a:k∈(kt (pS w c1 b c2 c)).map (·.1)):Sb k w (b+c):=by
 unfold kt kR at a;rw[map_map]at a;obtain⟨v,i,rfl⟩:=mem_map.mp a;obtain⟨d,j,f⟩:=wE w h.pv v i;refine⟨yO (yV d) (pA v.1),λx g=>?_,?_⟩
 .rcases f x ((dL v.1).mem_iff.mp g) with z | z | z
  .cases z
  .have:=mem_rng.mp z;push_cast;lia
  .have:=mem_rnf.mp z;push_cast;lia
 .show(so v.1).length=_
  rw[(dL v.1).length_eq,j];show 0+w=w;lia
theorem AE{w c1 c c2 d:Nat}(h:Pq w c1 c c2 d){R R':Rws}(l:IsTab (toR (kW (wl (pS w c1 c c2 d) 1 1))) R)(o:(R'.map (·.1)).Pairwise λa b=>aI a b=true)(g:∀ k,k∈R'.map (·.1)↔Sb k w (c+d))(n:∀ x∈R',x.2=shr w c1 c c2 d x.1):R'=R:=by
 refine n8 (qi w h.pv) rfl l o (λk=>?_) λx hx=>?_
 .rw[g k]
  constructor
  .intro f
   apply Classical.byContradiction;intro p;have z:=jJ p;obtain⟨j,i⟩:=qe h f;exact i (by rw[<- j];exact z)
  .exact qU h
 .have f:=(g x.1).mp (mem_map.mpr ⟨x,hx,rfl⟩)
  rw[n x hx];exact(qe h f).1.symm
theorem qc:∀{l m:List (List Int)},l.Nodup->(∀ x∈l,x∈m)->l.length<=m.length
 | [],m,_,_=>Nat.zero_le _
 | x::l,m,nd,h=>by
  rw[nodup_cons]at nd;have a:=h x mem_cons_self;have:=qc (m:=m.erase x) nd.2 λy b=>(List.mem_erase_of_ne (λe=>nd.1 (by rw[<- e];exact b))).mpr (h y (mem_cons_of_mem _ b))
  rw[List.length_erase_of_mem a]at this;have:=length_pos_of_mem a;rw[length_cons];lia
theorem Br{w N:Nat}(h:w<=N){k:List Int}:Sb k w N↔k∈SL N w N:=by
 rw[uw (Nat.le_refl N) h]
 constructor
 .intro z;exact⟨z.up,z.lt,by rw[z.len];exact Nat.le_refl _,by rw[z.len];lia⟩
 .intro z;exact⟨z.up,z.lt,by have:=z.le;have:=z.en;lia⟩
theorem BJ{w N:Nat}{k:List Int}(h:Sb k w N):w<=N:=by
 have:=o9 (m:=rng N) h.nd λx a=>mem_rng.mpr (h.lt x a)
 rw[rng_len,h.len]at this;exact this
theorem Bj:∀ N,N<=6->∀ w,w<=3->(SL N w N).length<64:=by decide +kernel
theorem uR{w N:Nat}(f:N<=6)(a:w<=3){L:List (List Int)}(d:L.Nodup)(h:∀ k∈L,Sb k w N):L.length<64:=by
 cases L with
 | nil=>decide
 | cons x L =>
  have c:=BJ (h x mem_cons_self);exact Nat.lt_of_le_of_lt (qc d λk b=>(Br c).mp (h k b)) (Bj N f w a)
theorem ch_pos'{n k:Nat}(h:k<=n):0<ch n k:=by
 have:=hJ k (n - k);rwa [show k+(n - k)=n by lia]at this
theorem Aa:∀ w,w<=3->∀ N,N<=61->Dpo w N<=2 ^ 60:=by decide +kernel
structure PsAll(m c1 c2:Nat):Prop where
 dk:Dk (2*min m (c1+c2)) (pS (min m (c1+c2)) c1 (min m c1) c2 (min m c2))
 ok:Ok (pS (min m (c1+c2)) c1 (min m c1) c2 (min m c2))
 few:∀ L:List (List Int),L.Nodup->(∀ k∈L,k∈(toR (kW (wl (pS (min m (c1+c2)) c1 (min m c1) c2 (min m c2)) 1 1))).map (·.1))->L.length<64
 pos:0<Dpo (min m (c1+c2)) (c1+c2)
 lm:Dpo (min m (c1+c2)) (c1+c2)<=Lm2
 ch:∀ w∈wl (pS (min m (c1+c2)) c1 (min m c1) c2 (min m c2)) 1 1,Ch ((Dpo (min m (c1+c2)) (c1+c2):Nat):Int) w.2
 lv:lv (pS (min m (c1+c2)) c1 (min m c1) c2 (min m c2))<=4096
theorem pS_all{m c1 c2:Nat}(i:m<=3)(f:c1<=30)(g:c2<=30)(a:Pq (min m (c1+c2)) c1 (min m c1) c2 (min m c2)):PsAll m c1 c2:=by
 have b:=qi _ a.pv;refine⟨wn _ a.pv (by rw[rng_len];lia) (by rw[rnf_len];lia) (by lia) (by lia),b,λL d c=>?_,qY _ _ (by lia),?_,B1 a.pv (by rw[rng_len];lia) (by rw[rnf_len];lia),?_⟩
 .refine uR (N:=min m c1+min m c2) (w:=min m (c1+c2)) (by lia) (by lia) d λk h=>qU a ?_
  have:=c k h;exact((kS b).map _).mem_iff.mp this
 .refine Nat.le_trans (Aa _ (by lia) _ (by lia)) ?_
  unfold Lm2;exact Nat.pow_le_pow_right (by decide) (by decide)
 .refine Nat.le_trans (vp (K:=6) _ a.pv (by rw[rng_len,rnf_len];lia)) ?_
  exact Nat.le_trans (Nat.pow_le_pow_right (by decide) (show _<=3 by lia)) (by decide)
end Tb
namespace L2
open PySem PySem.Spec PyProof.Rows
section
variable {prog:Program}{w:World}{KT:Type} [DecidableEq KT] (knd:KeyKind prog w KT)
def IsPK(h:Heap)(k:List KT×Int)(a:Addr):Prop:=∃ o n b t,h.get? a=some o/\o.cls=.type "tuple" /\ o.data=.seq #[.ref b,.int k.2 t] n/\IsTupleKey knd h k.1 b
variable {knd}
theorem IsPK.ty{s:Shared}{k:List KT×Int}{a:Addr}(x:IsPK knd s.heap k a):s.TypeIs (.ref a) "tuple" := let ⟨o,_,_,_,ho,hc,_⟩:=x;⟨o,ho,hc⟩
theorem IsPK.inj{h:Heap}{a:Addr}{x y:List KT×Int}(w:IsPK knd h x a)(l:IsPK knd h y a):x=y:=by
 obtain⟨o,n,b,t,z,_,s,p⟩:=w;obtain⟨C,D,v,u,f,_,d,g⟩:=l;obtain rfl:o=C:=Option.some.inj (z.symm.trans f);rw[s]at d;injection d with h1 _
 have B:[Value.ref b,Value.int x.2 t]=[Value.ref v,Value.int y.2 u]:=congrArg Array.toList h1;injection B with e1 c
 injection c with c _
 injection e1 with e1
 injection c with c _
 subst e1;have i:=p.inj g;obtain⟨q,r⟩:=x;obtain⟨j,A⟩:=y;have i:q=j:=i;have c:r=A:=c;rw[i,c]
theorem IsPK.keeps{h h':Heap}{k:List KT×Int}{a d:Addr}{o:Obj}{es ep}(x:IsPK knd h k a)(i:h.get? d=some o)(l:o.data=.dict es ep)(p:Heap.SameBut d h h'):IsPK knd h' k a:=by
 obtain⟨j,n,b,t,f,q,c,r⟩:=x
 have g:a≠d:=λe=>by
  subst e;obtain rfl:j=o:=Option.some.inj (f.symm.trans i);rw[l]at c;cases c
 exact⟨j,n,b,t,(p.2 a g).trans f,q,c,r.keeps i l p⟩
def oG(knd:KeyKind prog w KT)(k:List KT×Int):Int:=reduceHash (Builtin.Tuple.tupleHashOf [tupleKeyHash knd k.1,(intKind prog w).hash k.2])
variable {A:Around}{E:Value->Shared->Prop}{s:Shared}
theorem wY{k:List KT×Int}{a:Addr}{Q:Int->Shared->Prop}(q:A.units+8<cLine)(i:IsPK knd s.heap k a)(h:Q (oG knd k) { s with toks:=s.toks+(k.1.length+3) }) :
  wpAny (model prog w) A (pyHash (.ref a)) Q E s:=by
 have g:=i.ty;obtain⟨o,n,b,t,j,_,p,l⟩:=i;unfold pyHash;first | unfold pyHashByItsType | skip
 first | refine wpAny_bind (wpAny_cRoomFor_or (.inr (by lia)) ?_) | skip
 refine wpAny_bind (wpAny_specialOf g F.slot_tuple_hash.lookup ?_);show wpAny _ _ (if (some (Value.builtin "tuple.__hash__") == some Value.none)=true then _ else _) Q E s;rw[if_neg (by rw[beq_builtin_none];exact Bool.false_ne_true)];refine wpAny_bind (wpAny_specialOf g F.slot_tuple_hash.lookup ?_);show wpAny _ _ (callSpecialIfBoundUnlessNone? (.ref a) "__hash__" _ >>= _) Q E s;refine wpAny_bind (wpAny_callSpecialIfBoundUnlessNone?_slot g F.slot_tuple_hash (wpAny_call_entry F.slot_tuple_hash g F.entry_tuple_hash ?_ (F.args_tuple_hash_1 _)));show wpAny _ _ (Builtin.Tuple.tupleItemsOf (.ref a) >>= _) _ _ s;refine wpAny_bind (wpAny_tupleItemsOf j p ?_);refine wpAny_bind ?_;rw[<- Array.forIn_toList];refine wpAny_forIn_list _ (λc (f:Array Int) d=>(c=[Value.ref b,.int k.2 t]/\f = #[]/\d=s)\/(c=[Value.int k.2 t]/\f = #[tupleKeyHash knd k.1]/\d={ s with toks:=s.toks+(k.1.length+1) })\/(c=[]/\f = #[tupleKeyHash knd k.1,(intKind prog w).hash k.2]/\d={ s with toks:=s.toks+(k.1.length+1)+1 })) _ ?_ ?_ _ _ (.inl ⟨rfl,rfl,rfl⟩)
 .rintro x c f d (⟨e,rfl,rfl⟩ | ⟨e,rfl,rfl⟩ | ⟨e,_⟩)
  .injection e with e1 e2
   subst e1 e2;refine wpAny_bind (wpAny_pyHash_tuple (A:=A.in1) (by show A.units+1<cLine;lia) l ?_);exact wpAny_pure (.inr (.inl ⟨rfl,rfl,rfl⟩))
  .injection e with e1 e2
   subst e1 e2;refine wpAny_bind ((intKind prog w).pyHash (k:=k.2) (by simp[intKind,Value.isInt]) ?_);exact wpAny_pure (.inr (.inr ⟨rfl,rfl,rfl⟩))
  .cases e
 .rintro f d (⟨e,_⟩ | ⟨e,_⟩ | ⟨_,rfl,rfl⟩)
  .cases e
  .cases e
  .show wpAny _ _ (retInt (Builtin.Tuple.tupleHashOf [tupleKeyHash knd k.1,(intKind prog w).hash k.2])) _ _ _;refine wpAny_ret_mkInt ?_
   generalize hT':Builtin.Tuple.tupleHashOf [tupleKeyHash knd k.1,(intKind prog w).hash k.2]=T at h ⊢;unfold oG at h;rw[hT']at h;unfold reduceHash at h;show wpAny _ _ (if (decide (-(2:Int) ^ 63<=T) && decide (T<2 ^ 63))=true then _ else _) Q E _
   by_cases hr:(decide (-(2:Int) ^ 63<=T) && decide (T<2 ^ 63))=true
   .rw[if_pos hr]at h ⊢;exact wpAny_pure (by simpa[Nat.add_assoc] using h)
   .rw[if_neg hr]at h ⊢;exact wpAny_bind (wpAny_rule (wpAny_pure (by simpa[Nat.add_assoc] using h)))
theorem oK{x y:List KT×Int}{a b:Addr}{P:Fin->Shared->Prop}(W:A.units+1<cLine)(L:IsPK knd s.heap x a)(H:IsPK knd s.heap y b)(h:P (.done (.ret (.bool (decide (x=y))))) s) :
  wpAny (model prog w) A (Builtin.«tuple.__eq__» ⟨[.ref a,.ref b],[]⟩) P E s:=by
 have q:=H.ty;obtain⟨T,S,M,J,p,_,D,C⟩:=L;obtain⟨N,O,K,I,l,_,B,G⟩:=H;obtain⟨f,g⟩:=x;obtain⟨d,i⟩:=y;show wpAny _ _ (isInstance (.ref b) (.type "tuple") >>= _) _ _ s;refine wpAny_bind (wpAny_isInstance q isSubtype_tuple_tuple ?_);simp only[Bool.not_true,Bool.false_eq_true,if_false];refine wpAny_bind (wpAny_tupleItemsOf p D ?_);refine wpAny_bind (wpAny_tupleItemsOf l B ?_);refine wpAny_bind ?_;refine wpAny_forIn_list _ (λc r n=>r.1=none/\n=s/\((c=[(Value.ref M,Value.ref K),(.int g J,.int i I)])\/(c=[(Value.int g J,Value.int i I)]/\f=d)\/(c=[]/\f=d/\g=i))) _ ?_ ?_ _ _ ⟨rfl,rfl,.inl rfl⟩
 .rintro⟨u,v⟩ c r n ⟨o,rfl,e | ⟨e,F⟩ | ⟨e,_⟩⟩
  .injection e with e0 j
   injection e0 with e3 e4
   subst e3 e4 j;refine wpAny_bind (wpAny_eqBool_tuple (by lia) C G ?_)
   by_cases hk:f=d
   .rw[decide_eq_true (show f=d from hk)]
    simp only[Bool.not_true,Bool.false_eq_true,if_false];exact wpAny_pure ⟨rfl,rfl,.inr (.inl ⟨by first | rfl | trivial,hk⟩)⟩
   .rw[decide_eq_false (show ¬f=d from hk)]
    simp only[Bool.not_false,if_true];rw[decide_eq_false (λz=>hk (congrArg Prod.fst z))]at h;exact wpAny_bind (wpAny_pure (wpAny_pure (wpAny_pure h)))
  .injection e with e0 j
   injection e0 with e3 e4
   subst e3 e4 j;refine wpAny_bind ((intKind prog w).eqBool (a:=g) (b:=i) (by simp[intKind,Value.isInt]) (by simp[intKind,Value.isInt]) ?_)
   by_cases hk:g=i
   .rw[decide_eq_true hk]
    simp only[Bool.not_true,Bool.false_eq_true,if_false];exact wpAny_pure ⟨rfl,rfl,.inr (.inr ⟨by first | rfl | trivial,F,hk⟩)⟩
   .rw[decide_eq_false hk]
    simp only[Bool.not_false,if_true];rw[decide_eq_false (λz=>hk (congrArg Prod.snd z))]at h;exact wpAny_bind (wpAny_pure (wpAny_pure (wpAny_pure h)))
  .cases e
 .rintro⟨R,Q⟩ n ⟨o,rfl,e | ⟨e,_⟩ | ⟨_,F,j⟩⟩
  .cases e
  .cases e
  .simp only at o
   subst o;refine wpAny_pure ?_;rw[decide_eq_true (show((f,g):List KT×Int)=(d,i) by rw[F,j])]at h;exact h
theorem pk_eq{x y:List KT×Int}{a b:Addr}{Q:Bool->Shared->Prop}(f:A.units+8<cLine)(c:IsPK knd s.heap x a)(d:IsPK knd s.heap y b)(h:Q (decide (x=y)) s):wpAny (model prog w) A (eqBool (.ref a) (.ref b)) Q E s:=by
 unfold eqBool;try with_reducible refine wpAny_holding ?_;show wpAny _ _ (if (Value.ref a == Value.ref b)=true then _ else _) Q E s;by_cases hab:(Value.ref a == Value.ref b)=true
 .rw[if_pos hab]
  have e:a=b:=by have:=eq_of_beq hab;injection this
  subst e;obtain rfl:=c.inj d;exact wpAny_bind (wpAny_rule (wpAny_pure (by simpa using h)))
 .rw[if_neg hab]
  exact wpAny_bind (wpAny_richCompare_same_room (op:=.Eq) c.ty d.ty F.slot_tuple_eq (wpAny_call_entry F.slot_tuple_eq c.ty F.entry_tuple_eq (oK (by first | (show A.units+1+1<cLine;lia) | lia) c d ⟨_,rfl,(λe=>nomatch e),wpAny_truthy_bool h⟩) (F.args_tuple_eq_2 _ _)) (by lia))
theorem t8(m:Nat){ks:List KT}{a:Addr}{Q:Bool->Shared->Prop}(j:IsTupleKey knd s.heap ks a)(h:Q true s):wpAny (model prog w) A (eqIsQuiet (m+1) (.ref a)) Q E s:=by
 have l:=j.typeIs;obtain⟨o,c,n,q,_,x,p⟩:=j;unfold eqIsQuiet;refine wpAny_bind (wpAny_specialOf l F.slot_tuple_eq.lookup ?_);show wpAny _ _ (isInstance (.ref a) (.type "tuple") >>= _) _ _ s;refine wpAny_bind (wpAny_isInstance l isSubtype_tuple_tuple ?_);simp only[Bool.not_true,Bool.false_eq_true,if_false];refine wpAny_bind (wpAny_seqItems q x ?_);refine wpAny_bind ?_;show wpAny _ _ (forIn c _ _) _ _ s;rw[<- Array.forIn_toList];refine wpAny_forIn_list _ (λb r g=>r.1=none/\g=s/\∀ v∈b,carriedByValue v=true) _ ?_ ?_ _ _ ⟨rfl,rfl,p.byValue⟩
 .rintro v b r g ⟨f,rfl,d⟩
  rw[eqIsQuiet_byValue _ (d v mem_cons_self)];refine wpAny_bind (wpAny_pure ?_);simp only[Bool.not_true,Bool.false_eq_true,if_false];exact wpAny_pure ⟨rfl,rfl,λu i=>d u (mem_cons_of_mem _ i)⟩
 .rintro⟨z,y⟩ g ⟨f,rfl,_⟩
  simp only at f;subst f;exact wpAny_pure h
theorem vy{k:List KT×Int}{a:Addr}{Q:Bool->Shared->Prop}(g:IsPK knd s.heap k a)(h:Q true s):wpAny (model prog w) A (eqIsQuiet 8 (.ref a)) Q E s:=by
 have i:=g.ty;obtain⟨o,n,b,t,l,_,p,j⟩:=g;unfold eqIsQuiet;refine wpAny_bind (wpAny_specialOf i F.slot_tuple_eq.lookup ?_);show wpAny _ _ (isInstance (.ref a) (.type "tuple") >>= _) _ _ s;refine wpAny_bind (wpAny_isInstance i isSubtype_tuple_tuple ?_);simp only[Bool.not_true,Bool.false_eq_true,if_false];refine wpAny_bind (wpAny_seqItems l p ?_);refine wpAny_bind ?_;show wpAny _ _ (forIn #[Value.ref b,Value.int k.2 t] _ _) _ _ s;rw[<- Array.forIn_toList];refine wpAny_forIn_list _ (λc r f=>r.1=none/\f=s/\((c=[Value.ref b,.int k.2 t])\/c=[Value.int k.2 t]\/c=[])) _ ?_ ?_ _ _ ⟨rfl,rfl,.inl rfl⟩
 .rintro v c r f ⟨d,rfl,e | e | e⟩
  .injection e with e1 e2
   subst e1 e2;refine wpAny_bind (t8 6 j ?_);simp only[Bool.not_true,Bool.false_eq_true,if_false];exact wpAny_pure ⟨rfl,rfl,.inr (.inl (by first | rfl | trivial))⟩
  .injection e with e1 e2
   subst e1 e2;rw[eqIsQuiet_byValue _ (v:=.int k.2 t) rfl];refine wpAny_bind (wpAny_pure ?_);simp only[Bool.not_true,Bool.false_eq_true,if_false];exact wpAny_pure ⟨rfl,rfl,.inr (.inr (by first | rfl | trivial))⟩
  .cases e
 .rintro⟨u,q⟩ f ⟨d,rfl,_⟩
  simp only at d;subst d;exact wpAny_pure h
end
def ez{prog:Program}{w:World}{KT:Type}[DecidableEq KT](knd:KeyKind prog w KT):HeapKind prog w (List KT×Int) where
 is:=IsPK knd
 hash:=oG knd
 draws:=λk=>k.1.length+3
 room:=λA=>A.units+8<cLine
 inj:=λhx hy=>hx.inj hy
 keeps:=λx ho hd hs=>x.keeps ho hd hs
 pyHash:=λhu hk h=>wY hu hk h
 eqBool:=λhu hx hy h=>pk_eq hu hx hy h
 quiet:=λhk h=>vy hk h
abbrev PKy:=List Key×Int
abbrev bK:=PKy×Addr×V
def PDx(P:Program)(w:World)(a:Addr)(kvs:List bK):Heap->Prop:=λh=>(a == sysModules)=false/\kvs.length<=sizeLine/\∃ xs:List (PKy×Addr×Value),Paired (λ(p:bK) (q:PKy×Addr×Value)=>p.1=q.1/\p.2.1=q.2.1/\RelV p.2.2 q.2.2) kvs xs/\∃ o es ep,h.get? a=some o/\o.ExactDict/\o.data=.dict es ep/\es.toList=xs.map (entryOfKey (ez (aO P w)))/\(xs.map (·.1)).Nodup
theorem yH{P:Program}{w:World}{H:Hp}{h:Heap}{a:Addr}{b:List bK}(x:PDx P w a b h):ObjOk P w H h a (.ext (PDx P w a b)):=by
 obtain⟨y,z,v,r,o,u,A,p,D⟩:=id x;refine⟨x,⟨o,p⟩,λC B q k=>?_⟩;obtain⟨l,s,g,j,n,d,i,f,c⟩:=q;exact⟨l,s,g,j,n,d,i,k _ f,c⟩
def KyAt(H:Hp)(k:PKy)(b:Addr):Prop:=∃ c,H b=some (.tup [.ref c,.int k.2])/\H c=some (.tup (k.1.map kV))
theorem KyAt.tk{H a:Hp}{k:PKy}{b:Addr}(s:∀ b xs,H b=some (.tup xs)->a b=some (.tup xs))(h:KyAt H k b):KyAt a k b:=let ⟨c,h1,h2⟩:=h;⟨c,s _ _ h1,s _ _ h2⟩
theorem qM{P:Program}{w:World}{H:Hp}{h:Heap}{k:PKy}{b:Addr}(a:HOk P w H h)(e:KyAt H k b):IsPK (aO P w) h k b:=by
 obtain⟨c,g,f⟩:=e
 obtain⟨_,i,r,o,j,l,n,d⟩:=(show ObjOk P w H h b (.tup [.ref c,.int k.2]) from a b _ g)
 cases r with
 | cons r1 r =>
  cases r with
  | cons r2 r =>
   cases r;cases r1;obtain⟨t,rfl⟩:=r2;exact⟨o,n,c,t,j,l,d,gU a f⟩
def atV(kvs:List bK)(k:PKy):Option V:=(kvs.find? λp=>decide (p.1=k)).map (·.2.2)
def fg(kvs:List bK)(k:PKy)(b:Addr)(v:V):List bK:=if (atV kvs k).isSome then kvs.map (λp=>if p.1=k then (p.1,p.2.1,v) else p) else kvs++[(k,b,v)]
abbrev PRel:List bK->List (PKy×Addr×Value)->Prop:=Paired λ(p:bK) (q:PKy×Addr×Value)=>p.1=q.1/\p.2.1=q.2.1/\RelV p.2.2 q.2.2
theorem PRel.val{a:List bK}{xs:List (PKy×Addr×Value)}(r:PRel a xs)(k:PKy):RelO (atV a k) ((atKey xs k).map (·.2)):=by
 unfold atV atKey
 induction r with
 | nil=>exact True.intro
 | @cons p q ps qs h t ih =>
  rw[List.find?_cons,List.find?_cons,<- h.1]
  by_cases c:p.1=k
  .rw[decide_eq_true c];exact h.2.2
  .rw[decide_eq_false c];exact ih
theorem PRel.put{a:List bK}{xs:List (PKy×Addr×Value)}(r:PRel a xs)(k:PKy)(b:Addr){v:V}{u:Value}(f:RelV v u):PRel (fg a k b v) (storedH xs k b u):=by
 have d:(atV a k).isSome=(atKey xs k).isSome:=by
  have:=(r.val k).isSome_eq
  rw[this];cases atKey xs k <;> rfl
 unfold fg storedH;rw[d]
 split
 .clear d
  rename_i c;clear c
  induction r with
  | nil=>exact .nil
  | @cons p q ps qs h t ih =>
   refine .cons ?_ ih;unfold putAt;dsimp only
   by_cases c:p.1=k
   .rw[if_pos c,if_pos (by rw[<- h.1];exact c)];exact⟨h.1,h.2.1,f⟩
   .rw[if_neg c,if_neg (by rw[<- h.1];exact c)];exact h
 .clear d
  rename_i c;clear c
  induction r with
  | nil=>exact .cons ⟨rfl,rfl,f⟩ .nil
  | cons h t ih=>exact .cons h ih
theorem wv(a:List bK)(k:PKy)(b:Addr)(v:V):(fg a k b v).length<=a.length+1:=by
 unfold fg
 split
 .rw[length_map];lia
 .rw[length_append];exact Nat.le_refl _
theorem rF{P:Program}{w:World}{H:Hp}{h:Heap}{a:Addr}{b:List bK}(f:HOk P w H h)(e:H a=some (.ext (PDx P w a b)))(c:∀ p∈b,KyAt H p.1 p.2.1):b.length<=sizeLine/\(a == sysModules)=false/\∃ xs,PRel b xs/\h.DictOfH (ez (aO P w)) a xs:=by
 obtain⟨⟨y,z,xs,r,o,j,n,g,u,l,i,d⟩,-⟩:=f a _ e;refine⟨z,y,xs,r,o,j,n,g,u,l,i,?_,d⟩;clear i d z e g
 induction r with
 | nil=>intro x hx;cases hx
 | @cons p q ps qs hq t ih =>
  intro x hx
  rcases mem_cons.mp hx with rfl | hx
  .rw[<- hq.1,<- hq.2.1];exact qM f (c p mem_cons_self)
  .exact ih (λp s=>c p (mem_cons_of_mem _ s)) x hx
section
variable {X:Cx}{pins:List (Addr×Obj)}{σ:St}{H:Hp}{s:Shared}{a b:Addr}{kvs:List bK}{k:PKy}{u r:Value}{v z:V}{A:Around}{E:Value->Shared->Prop}
theorem pk(a:A.units+16<cLine):(ez (aO X.prog X.w)).room A.in1:=by show A.units+1+8<cLine;lia
theorem tK{Q:Value->Shared->Prop}(r:A.units+16<cLine)(I:Inv X pins σ H s)(e:H a=some (.ext (PDx X.prog X.w a kvs)))(i:∀ p∈kvs,KyAt H p.1 p.2.1)(n:KyAt H k b)(l:atV kvs k=some v)(h:∀ w' s',Inv X pins σ H s'->RelV v w'->Q w' s') :
  wpAny (model X.prog X.w) A (getItem (.ref a) (.ref b)) Q E s:=by
 obtain⟨z,w,j,c,u⟩:=rF I.hok e i;obtain⟨w',g,d⟩:=RelO.some_of (v:=v) (o:=(atKey j k).map (·.2)) (by rw[<- l];exact c.val k);obtain⟨p,q,f⟩:=Option.map_eq_some_iff.mp g;refine wpAny_getItem_heap (pk r) (qM I.hok n) u q ?_;rw[f];exact h w' _ (I.tok _) d
theorem rR{Q:Unit->Shared->Prop}(y:A.units+16<cLine)(I:Inv X pins σ H s)(e:H a=some (.ext (PDx X.prog X.w a kvs)))(D:∀ p∈kvs,KyAt H p.1 p.2.1)(n:KyAt H k b)(K:kvs.length<sizeLine)(u:RelV v r)(h:∀ s',Inv X pins σ (upd H a (.ext (PDx X.prog X.w a (fg kvs k b v)))) s'->Q () s') :
  wpAny (model X.prog X.w) A (setItem (.ref a) (.ref b) r) Q E s:=by
 obtain⟨z,o,j,c,C⟩:=rF I.hok e D;have G:j.length<=sizeLine:=by rw[<- Paired.length c];exact z
 have f:(fg kvs k b v).length<=sizeLine:=by have:=wv kvs k b v;lia
 refine wpAny_setItem_heap (hsz:=G) (pk y) (qM I.hok n) C λL d B=>h _ ?_
 obtain⟨q,i,w,g,x,F,J,_,l⟩:=d;exact jf I (by rw[e];exact True.intro) B ⟨q,g⟩ (yH ⟨o,f,_,c.put k b u,q,i,w,g,x,F,J,l⟩)
theorem Ak{Q:Value->Shared->Prop}(n:A.units+16<cLine)(I:Inv X pins σ H s)(e:H a=some (.ext (PDx X.prog X.w a kvs)))(f:∀ p∈kvs,KyAt H p.1 p.2.1)(i:KyAt H k b)(l:RelV z r)(h:∀ w' s',Inv X pins σ H s'->RelV ((atV kvs k).getD z) w'->Q w' s') :
  wpAny (model X.prog X.w) A (call (.builtin "dict.get") [.ref a,.ref b,r]) Q E s:=by
 obtain⟨z,j,g,c,d⟩:=rF I.hok e f;refine call_meetsIn PySem.F.slot_dict_get d.typeIs PySem.F.entry_dict_get (PySem.F.args_dict_get_3 _ _ _) (meetsH_dict_get_default (ez (aO X.prog X.w)) a b j r) ⟨pk n,k,g,qM I.hok i,d,h _ _ (I.tok _) ?_⟩;exact(c.val k).getD l
end
theorem vQ{P:Program}{w:World}{H:Hp}(h:Heap)(a:sysModules<h.objs.size):ObjOk P w H (h.push { cls:=.type "dict",data:=.dict #[] }) h.objs.size (.ext (PDx P w h.objs.size [])) :=
 yH ⟨beq_eq_false_iff_ne.mpr (Ne.symm (Nat.ne_of_lt a)),Nat.zero_le _,[],.nil,_,#[],0,Heap.get?_push_size _ rfl,⟨rfl,rfl,rfl⟩,rfl,rfl,nodup_nil⟩
def yG(P:Program)(w:World):TE:=λ_ H Q=>∀ p,H p=none->Q (.ref p) (upd H p (.ext (PDx P w p [])))
structure PAt(P:Program)(w:World)(H:Hp)(a:Addr)(kvs:List bK):Prop where
 at_:H a=some (.ext (PDx P w a kvs))
 keys:∀ p∈kvs,KyAt H p.1 p.2.1
inductive rPGet(P:Program)(w:World)(x y:V)(H:Hp)(Q:VK):Prop
 | mk(a b:Addr)(kvs:List bK)(k:PKy)(v:V)(h0:x=.ref a)(h1:y=.ref b)(h2:PAt P w H a kvs)(h3:KyAt H k b)(h4:atV kvs k=some v)(h5:Q v H):rPGet P w x y H Q
def yN(P:Program)(w:World)(td ty:TE):TE:=λσ H Q=>td σ H λx H1=>ty σ H1 λy H2=>rPGet P w x y H2 Q
inductive rPPut(P:Program)(w:World)(x y v:V)(H:Hp)(Q:Hp->Prop):Prop
 | mk(a b:Addr)(kvs:List bK)(k:PKy)(h0:x=.ref a)(h1:y=.ref b)(h2:PAt P w H a kvs)(h3:KyAt H k b)(h4:kvs.length<sizeLine)(h5:Q (upd H a (.ext (PDx P w a (fg kvs k b v))))):rPPut P w x y v H Q
def yX(P:Program)(w:World)(td ty tv:TE):TS:=λD σ H=>tv σ H λv H1=>td σ H1 λx H2=>ty σ H2 λy H3=>rPPut P w x y v H3 (D.nx σ)
inductive rPGet2(P:Program)(w:World)(a:Addr)(y z:V)(H:Hp)(Q:VK):Prop
 | mk(b:Addr)(kvs:List bK)(k:PKy)(h1:y=.ref b)(h2:PAt P w H a kvs)(h3:KyAt H k b)(h5:Q ((atV kvs k).getD z) H):rPGet2 P w a y z H Q
def wg(P:Program)(w:World)(td ty tx:TE):TE:=λσ H Q=>td σ H λx H1=>∃ a,x=.ref a/\(∃ kvs,PAt P w H1 a kvs)/\ty σ H1 λy H2=>tx σ H2 λz H3=>rPGet2 P w a y z H3 Q
section
variable {X:Cx}{o i e f value:Expr}{pos pos' apos cpos:Pos}{td ty tv tx:TE}
theorem yg:PE X (.Dict [] [] pos) (yG X.prog X.w):=λb s c H Q I h =>
 wpAny_Dict_empty ⟨.ref s.heap.objs.size,_,I.laid (a:=s.heap.objs.size) (o:=.ext (PDx X.prog X.w s.heap.objs.size [])) (t':=s.toks) (λ_ _ q=>Heap.get?_push_of_some _ q) (Nat.le_refl _) (vQ s.heap I.big),rfl,h _ (I.hok.fresh (Nat.le_refl _))⟩
theorem PAt.dct{c:List (Addr×Obj)}{σ:St}{H:Hp}{s:Shared}{a:Addr}{d:List bK}(I:Inv X c σ H s)(g:PAt X.prog X.w H a d):s.TypeIs (.ref a) "dict" /\ (∀ b,Value.ref a=.ref b->∃ ob,s.heap.get? b=some ob/\ob.dict=none)/\(a == sysModules)=false:=by
 obtain⟨_,h,l,_,f⟩:=rF I.hok g.at_ g.keys;refine⟨f.typeIs,λb q=>?_,h⟩;cases q;obtain⟨ob,_,_,i,j,_⟩:=f;exact⟨ob,i,j.2.1⟩
theorem xB(A:X.A.units+16<cLine)(q:PE X o td)(n:PE X i ty)(E:wR i):PE X (.Subscript o i pos) (yN X.prog X.w td ty):=by
 intro c s f H Q I h;refine qx PySem.F.slot_dict_getitem.lookup E (thn (q c s f H _ I h) λu w ⟨x,j,B,C,F⟩=>thn (n c w f j _ B F) λiv s2 ⟨y,H2,I2,ry,g⟩=>?_);obtain⟨a,b,z,k,v,rfl,rfl,g,r,l,p⟩:=g;obtain rfl:u=Value.ref a:=C;obtain rfl:iv=Value.ref b:=ry;exact⟨(g.dct I2).1,tK A I2 g.at_ g.keys r l λG J D d=>⟨v,H2,D,d,p⟩⟩
theorem xJ(A:X.A.units+16<cLine)(n:PE X o td)(l:PE X i ty)(C:PE X value tv)(G:swapsWith value (some (.Subscript o i pos')) pos.line X.env=pure false):PS X (.Assign [.Subscript o i pos'] value pos) (yX X.prog X.w td ty tv):=by
 intro c s d H D I h;refine wpAny_Assign_Subscript (thn (C c s d H _ I h) λr w ⟨v,f,F,B,J⟩=>thn (n c w d f _ F J) λu s2 ⟨x,H2,I2,rx,q2⟩=>thn (l c s2 d H2 _ I2 q2) λiv s3 ⟨y,H3,I3,ry,g⟩=>?_) G;obtain⟨a,b,z,k,rfl,rfl,g,q,p,j⟩:=g;obtain rfl:u=Value.ref a:=rx;obtain rfl:iv=Value.ref b:=ry
 exact rR A I3 g.at_ g.keys q p B λK E=>⟨d,_,E,j⟩
theorem vD(J:X.A.units+16<cLine)(E:PE X o td)(K:PE X e ty)(N:PE X f tx)(m:M2 X o "get" apos e f cpos):PE X (.Call (.Attribute o "get" apos) [e,f] [] cpos) (wg X.prog X.w td ty tx):=by
 intro c s d H Q I h;refine wpAny_Call_method m.base m.few m.line PySem.F.plainAttrs_dict PySem.F.slot_dict_get PySem.F.type_dict_get (thn (E c s d H _ I h) λu P ⟨x,p,j,D,a,G,⟨l,S⟩,v⟩=>?_);subst G;obtain rfl:u=Value.ref a:=D;obtain⟨A,B,_⟩:=S.dct j;refine⟨A,B,?_⟩;rw[m.trees];refine Calls.callWith_builtin rfl (Calls.evalArgs_plain (Calls.spliced_cons (thn (K c P d p _ j v) λn r ⟨y,M,q,w,C⟩=>Calls.spliced_cons (thn (N c r d M _ q C) λfv s3 ⟨z,H3,I3,rz,g⟩=>Calls.spliced_nil ?_))));obtain⟨b,F,k,rfl,g,O,L⟩:=g;obtain rfl:n=Value.ref b:=w
 exact Ak J I3 g.at_ g.keys O rz λT W R i=>⟨_,H3,R,i,L⟩
end
theorem xo{A:Around}{k:Nat}(a:Room k A):A.units+16<cLine:=Nat.lt_of_le_of_lt (Nat.add_le_add_left (by decide:16<=64) _) a.units
end L2
namespace L2
open PySem PySem.Spec PyProof.Rows PySem.W
section
variable {X:Cx}{pins:List (Addr×Obj)}{σ:St}{H:Hp}{s:Shared}{a:Addr}{φ:Heap->Prop}{o:Obj}
theorem Inv.freezeE(I:Inv X pins σ H s)(h:Rd H a (.ext φ))(w:s.heap.get? a=some o):Inv X pins σ (upd H a (.frz o (.ext φ))) s:=by
 have l:=h.ok I.hok
 have J:∃ u,H a=some u:=by rcases h with e | ⟨_,e⟩ <;> exact⟨_,e⟩
 have j:∀{b},H b=none->b≠a:=λ{b} e z=>by subst z;obtain⟨u,q⟩:=J;rw[e]at q;cases q
 have r:∀{b d},H b=some (.tup d)->b≠a:=λ{b d} e z=>by subst z;rcases h with q | ⟨_,q⟩ <;> (rw[e]at q;cases q)
 have B:∀{b y},H b=some (.own y)->b≠a:=λ{b y} e z=>by subst z;rcases h with q | ⟨_,q⟩ <;> (rw[e]at q;cases q)
 have D:∀{b i},H b=some (.tbl i)->b≠a:=λ{b i} e z=>by subst z;rcases h with q | ⟨_,q⟩ <;> (rw[e]at q;cases q)
 have E:∀ b u v,H b=some (.frz u v)->(upd H a (.frz o (.ext φ))) b=some (.frz u v):=λb u v e=>by
  by_cases c:b=a
  .subst c
   rcases h with q | ⟨K,q⟩
   .rw[e]at q;cases q
   .rw[e]at q
    cases q
    obtain⟨g,_⟩:=(show ObjOk X.prog X.w H s.heap b (.frz u (.ext φ)) from I.hok b _ e)
    rw[w]at g;cases g;exact ad
  .rw[af c];exact e
 refine⟨I.ok,I.os,I.bare,⟨I.base.keep,I.base.slot,λb u e n C=>?_,I.base.there,λb d e=>?_,λb u v e=>E b u v (I.base.frzs b u v e),λb i e=>?_⟩,I.loc,I.cell,?_,λx c e=>?_,λp hp=>?_,λb u e=>?_,I.len⟩
 .have:=I.base.free b u e n C;rw[af (j this)];exact this
 .have:=I.base.tups b d e;rw[af (r this)];exact this
 .obtain⟨f,z⟩:=I.base.tbls b i e;exact⟨f,by rw[af (D z)];exact z⟩
 .rw[af (j I.free)];exact I.free
 .rw[af (j (I.freeC x c e))];exact I.freeC x c e
 .obtain⟨F,A,G⟩:=I.pin p hp;exact⟨F,by rw[af (j A)];exact A,G⟩
 .by_cases hb:b=a
  .subst hb
   rw[ad]at e;cases e;exact⟨w,l.stay (λ_ _ _ q=>q) (λc q=>by rw[af (B q)];exact q) λc d q=>by rw[af (r q)];exact q⟩
  .rw[af hb]at e
   exact(I.hok b u e).stay (λ_ _ _ q=>q) (λc q=>by rw[af (B q)];exact q) λc d q=>by rw[af (r q)];exact q
end
def Itp(P:Program)(w:World)(d:Addr)(o:Obj)(kvs:List bK):It :=
 ⟨λi H=>H d=some (.frz o (.ext (PDx P w d kvs)))/\i<kvs.length,λi H x H'=>∃ p kv,H p=none/\kvs[i]? = some kv/\x=.ref p/\H'=upd H p (.tup [.ref kv.2.1,kv.2.2]),λi H=>H d=some (.frz o (.ext (PDx P w d kvs)))/\kvs.length<=i⟩
theorem PRel.at{a:List bK}{xs:List (PKy×Addr×Value)}:∀{i:Nat}{kv:bK},PRel a xs->a[i]? = some kv->∃ x,xs[i]? = some x/\kv.2.1=x.2.1/\RelV kv.2.2 x.2.2:=by
 intro i kv r h
 induction r generalizing i with
 | nil=>cases h
 | cons r t ih =>
  cases i with
  | zero=>cases h;exact⟨_,rfl,r.2⟩
  | succ i=>exact ih h
theorem pB{P:Program}{w:World}{H:Hp}{h:Heap}{d:Addr}{o:Obj}{a:List bK}(g:HOk P w H h)(e:H d=some (.frz o (.ext (PDx P w d a)))):∃ xs es ep,PRel a xs/\h.get? d=some o/\o.ExactDict/\o.data=.dict es ep/\es.toList=xs.map (entryOfKey (ez (aO P w))):=by
 obtain⟨b,⟨_,_,xs,r,l,es,ep,c,i,f,j,_⟩,_⟩:=g d _ e;rw[b]at c;cases c;exact⟨xs,es,ep,r,b,i,f,j⟩
theorem vH{P:Program}{w:World}{K:Frag}{el:List Expr}{kk:Nat}{N:Pos}{d c:Addr}{o:Obj}{l:List bK}{es:Array DictEntry}{ep:Nat}(g:o.data=.dict es ep)(hsz:es.size=l.length):Turn P w K (.Tuple el kk N) (Itp P w d o l) [c] c (λi h=>∃ k0 v0,IsItemIter h c d i es.size ep k0 v0) where
 mem:=mem_cons_self ..
 obj:=λi h a b j=>by
  rw[mem_singleton.mp j];obtain⟨k0,v0,e⟩:=a;exact⟨_,e,λv z=>by cases z⟩
 keep:=λi h h' a kp=>by
  obtain⟨k0,v0,e⟩:=a;exact⟨k0,v0,kp c (mem_cons_self ..) _ e⟩
 item:=by
  intro X B M L Y i f s T H E I u a F;subst B M L;obtain⟨D,R⟩:=F;obtain⟨k0,v0,a⟩:=a;obtain⟨xs,A,C,p,O,Q,n,S⟩:=pB I.hok D;have y:=g.symm.trans n;cases y
  obtain⟨kv,hkv⟩:∃ kv,l[i]? = some kv:=⟨_,List.getElem?_eq_getElem R⟩
  obtain⟨x,hx,hH,rv⟩:=p.at hkv;have he:es[i]? = some (entryOfKey (ez (aO X.prog X.w)) x):=by rw[<- Array.getElem?_toList,S,List.getElem?_map,hx];rfl
  refine qO a ⟨o,O,Q,n⟩ he λh1 e1 e2 e3 e4=>?_
  refine⟨_,rfl,wpAny_letOwnedTupleGo_items e1 λh2 e5 Z=>?_⟩;have r:s.heap.objs.size≠c:=λq=>absurd (Heap.lt_size a) (by rw[<- q];exact Nat.lt_irrefl _)
  have hn:H s.heap.objs.size=none:=I.hok.fresh (Nat.le_refl _);have G:h2.get? s.heap.objs.size=some { cls:=.type "tuple",data:=.seq #[.ref x.2.1,x.2.2] }:=(Z.2 _ r).trans e2
  have J:Inv X f T (upd H s.heap.objs.size (.tup [.ref kv.2.1,kv.2.2])) { s with heap:=h2,toks:=s.toks }:=by
   refine I.turnedNew (ch:=[c]) (λb o j q=>?_) u (Nat.le_refl _) ⟨by rw[sizeLine_eq];show 2<=16777216;decide,[.ref x.2.1,x.2.2],.cons (by rw[hH];rfl) (.cons rv .nil),_,G,rfl,0,rfl⟩;have W:b≠c:=λz=>j (by simp[z])
   exact(Z.2 b W).trans (e4 b o W q)
  refine⟨.ref s.heap.objs.size,_,J,rfl,⟨s.heap.objs.size,kv,hn,hkv,rfl,rfl⟩,⟨_,_,e5⟩,λb j=>?_⟩;rw[mem_singleton.mp j,af r.symm];exact(u c (mem_cons_self ..)).1
 done:=by
  intro X B M L Y i f s T H E I u a F;subst B M L;obtain⟨D,R⟩:=F;obtain⟨k0,v0,a⟩:=a;obtain⟨xs,A,C,p,O,Q,n,S⟩:=pB I.hok D;have y:=g.symm.trans n;cases y
  exact uB (I.ok.hd Y) a ⟨o,O,Q,n⟩ (by lia) λh1 eb=>⟨rfl,I.turnedN (ch:=[c]) (t':=s.toks) (λb o j q=>eb b o (λz=>j (by simp[z])) q) u⟩
 self:=λ_ _ _ _ _ a h=>by
  obtain⟨k0,v0,e⟩:=a;exact rK e h
def lM(P:Program)(w:World):V->List V->Hp->VK->Prop:=λx vs H Q=>∃(d:Addr) (kvs:List bK),x=.ref d/\vs=[]/\Rd H d (.ext (PDx P w d kvs))/\∀ v,H v=none->Q (.ref v) (upd H v (.ext (IV v d)))
section
variable {X:Cx}{o e:Expr}{es:List Expr}{to:TE}{t:TA}{apos cpos:Pos}
theorem rL:MtR X "dict.items" (lM X.prog X.w):=by
 intro f s E H x D v F Q I C B h;obtain⟨d,c,rfl,rfl,e,q⟩:=h;cases C;cases B
 obtain⟨⟨y,z,G,r,o,n,p,j,l,A,K,J⟩,_⟩:=(show ObjOk X.prog X.w H s.heap d (.ext (PDx X.prog X.w d c)) from e.ok I.hok)
 have x:DE s.heap d n p:=⟨o,j,l,A⟩
 refine call_meetsIn PySem.F.slot_dict_items x.ty PySem.F.entry_dict_items (PySem.F.args_dict_items_1 _) (qQ y) ⟨x,?_⟩;refine⟨.ref s.heap.objs.size,_,I.laid (t':=s.toks) (a:=s.heap.objs.size) (o:=.ext (IV s.heap.objs.size d)) (λb u e=>Heap.get?_push_of_some _ e) (Nat.le_refl _) ?_,rfl,q _ (I.hok.fresh (Nat.le_refl _))⟩;have g:(s.heap.push { cls:=.type "dict_items",data:=.fields #[.ref d] }).get? s.heap.objs.size=some { cls:=.type "dict_items",data:=.fields #[.ref d] }:=Heap.get?_push_size _ rfl;exact⟨⟨_,g,rfl,rfl⟩,⟨_,g⟩,λj l ⟨i,w,r⟩ k=>⟨i,k i w,r⟩⟩
theorem pe_m.itemsP(u:PE X o to)(f:attributeBase o "items" X.env (eval o X.env)=eval o X.env:=by rfl)(c:(apos.endLine == cpos.line)=true:=by rfl):PE X (.Call (.Attribute o "items" apos) [] [] cpos) (λσ H Q=>to σ H λx H1=>lM X.prog X.w x [] H1 Q):=by
 intro b s σ H Q I h;refine wpAny_Call_method0_late f c (thn (u b s σ H _ I h) λv i ⟨x,H1,l,n,p⟩=>?_);obtain⟨d,j,rfl,y,w,q⟩:=id p
 obtain⟨ob,e1,g⟩:∃ ob,i.heap.get? d=some ob/\ob.ExactDict:=by
  obtain⟨⟨_,_,_,_,o,_,_,e,g,_⟩,_⟩:=(show ObjOk X.prog X.w H1 i.heap d (.ext (PDx X.prog X.w d j)) from w.ok l.hok)
  exact⟨o,e,g⟩
 cases(show v=Value.ref d from n);exact⟨"dict","dict.items",F.plainAttrs_dict,F.slot_dict_items,F.type_dict_items,⟨ob,e1,g.1⟩,λa r=>by cases r;exact⟨ob,e1,g.2.1⟩,Calls.callWith_builtin rfl (PySem.evalArgs_none (rL b i σ H1 _ [] _ [] Q l n .nil p))⟩
theorem sv{B:List Expr}{E:Nat}{f:Pos}{r:TE}(D:PE X e r):PI X (.Tuple B E f) e (λσ H R=>r σ H λx H1=>∃ v d kvs,x=.ref v/\H1 v=some (.ext (IV v d))/\Rd H1 d (.ext (PDx X.prog X.w d kvs))/\∀ o,R (Itp X.prog X.w d o kvs) (upd H1 d (.frz o (.ext (PDx X.prog X.w d kvs))))):=by
 intro c s σ H R I h;refine thn (D c s σ H _ I h) λu a ⟨x,H1,i,z,v,d,kvs,C,F,n,q⟩=>?_
 subst C;obtain rfl:u=Value.ref v:=z;obtain⟨o,ho⟩:∃ o,a.heap.get? d=some o:=(show ObjOk X.prog X.w H1 a.heap d (.ext (PDx X.prog X.w d kvs)) from n.ok i.hok).2.1;have w:a.heap.IsItemsView v d:=(show ObjOk X.prog X.w H1 a.heap v (.ext (IV v d)) from i.hok v _ F).1;have g:=i.freezeE n ho;obtain⟨K,A,L,l,G,J,p,y⟩:=pB g.hok ad;have j:A.size=kvs.length:=by rw[<- Array.length_toList,y,length_map,Paired.length l]
 refine p6 w ⟨o,G,J,p⟩ ?_;refine⟨a.heap.objs.size,[a.heap.objs.size],_,_,_,rfl,g.kept (t':=a.toks) λb o e=>Heap.get?_push_of_some _ e,vH p j,⟨_,_,Heap.get?_push_size _ rfl⟩,λb hb=>?_,q o⟩;have e:b=a.heap.objs.size:=mem_singleton.mp hb;subst e;exact g.fpOk (Nat.le_refl _) (g.hok.fresh (Nat.le_refl _))
end
theorem nO{P:Program}{w:World}{D:Addr}{f:St}{g:TG}{j:TT}{l:TE}{Q:Hp->List V->Prop}{H:Hp}{d:Addr}{o:Obj}{c:List bK}(Pv:Nat->List V->Hp->Prop)(s:Pv 0 [] H)(u:∀ i ys H,Pv i ys H->H d=some (.frz o (.ext (PDx P w d c))))(v:∀ i ys H,Pv i ys H->H D=some (.lst ys))
  (A:∀(i:Nat) kv ys H p P',c[i]? = some kv->Pv i ys H->H p=none->(∀ a b,Pv (i+1) a b->P' a b)->mE D f g j l (.ref p) ys (upd H p (.tup [.ref kv.2.1,kv.2.2])) P') (z:∀ ys H,Pv c.length ys H->Q H ys):∃ W,(∃ m,W 0 m [] H)/\iA (Itp P w d o c) D f g j l Q W:=by
 refine⟨λi m ys H=>m=c.length - i/\i<=c.length/\Pv i ys H,⟨_,rfl,Nat.zero_le _,s⟩,?_⟩;rintro i m ys H ⟨rfl,C,p⟩;refine⟨v i ys H p,?_⟩;have q:=u i ys H p
 by_cases hlt:i<c.length
 .refine .inr ⟨⟨q,hlt⟩,λx B y=>?_⟩
  obtain⟨b,kv,n,h,rfl,rfl⟩:=y
  exact A i kv ys H b (λa b=>∃ m',m'<c.length - i/\m'=c.length - (i+1)/\i+1<=c.length/\Pv (i+1) a b) h p n λa b r=>⟨_,by lia,rfl,hlt,r⟩
 .have e:i=c.length:=by lia
  subst e;exact .inl ⟨⟨q,Nat.le_refl _⟩,z ys H p⟩
end L2
namespace L2
open PySem PySem.Spec PyProof.Rows
theorem kC:∀{ss:List Str}{us:List Value},Vals (ss.map V.str) us->StrsAre us ss
 | [],_,.nil=>.nil
 | n::ss,_,.cons r t=>by
  obtain⟨a,rfl⟩:=r;exact .cons _ _ (kC t)
theorem fX:∀{us:List Value}{ss:List Str},StrsAre us ss->Vals (ss.map V.str) us
 | _,_,.nil=>.nil
 | _,_,.cons n t h=>.cons ⟨_,rfl⟩ (fX h)
theorem jj{X:Cx}:CallR X (.builtin "sorted") (λxs H Q=>∃(p:Addr) (ss:List Str),xs=[.ref p]/\SqL X.K H p (ss.map V.str)/\ss.length<64/\∀ q (ss':List Str),ss'.Perm ss->sortedS ss'=true->H q=none->Q (.ref q) (upd H q (.lst (ss'.map V.str)))):=by
 intro l s D H xs E Q I r h;obtain⟨p,ss,rfl,v,F,q⟩:=h;obtain⟨u,rfl,y⟩:=dJ r;cases y;obtain⟨c,i,B,G⟩:=I.list v;have n:=kC i;have g:c.length=ss.length:=by have:=i.length;rw[length_map]at this;exact this.symm
 refine sorted_strs B.isList n (by lia) λd ss' C j x=>?_
 obtain⟨e,A⟩:=sortedAll_at s.heap c d;have w:H (s.heap.objs.size+1)=none:=I.hok.fresh (Nat.le_succ _);have f:sizeLine=16777216:=sizeLine_eq;refine⟨.ref (s.heap.objs.size+1),_,I.laid (a:=s.heap.objs.size+1) (o:=.lst (ss'.map V.str)) (t':=s.toks) (λb u z=>sortedAll_old z) (Nat.le_succ _) ⟨?_,d.toList,e,fX C,?_⟩,rfl,q _ ss' j x w⟩
 .rw[length_map,j.length_eq];lia
 .rw[A,Array.toArray_toList]
end L2
namespace My
open PySem L2 FrM
def top(i:Nat):Stmt:=PySem.Challenge.pw_fewspeak_k69_whole_poured_in_any_order.main.body.getD i (.Pass ⟨0,0,0,0⟩)
abbrev aB:Stmt:=cf (top 3) 0
abbrev aA:Stmt:=top 7
abbrev aH:Stmt:=top 8
abbrev dA:Stmt:=top 9
abbrev d7:Stmt:=top 10
abbrev du:Stmt:=top 11
abbrev dF:Stmt:=top 12
abbrev b8:Stmt:=top 16
abbrev bh:Stmt:=top 17
abbrev cv:Stmt:=top 18
abbrev aK:Stmt:=cf (top 22) 0
abbrev aQ:Stmt:=cf (top 22) 1
abbrev bx:Stmt:=cf (top 22) 2
abbrev bc:Stmt:=cf (top 22) 3
abbrev be:Stmt:=cf (top 22) 4
abbrev aS:Stmt:=cf (top 23) 0
abbrev aW:Stmt:=cf (top 23) 1
abbrev bX:Stmt:=cf (top 23) 2
abbrev bC:Stmt:=cf (top 23) 3
abbrev bz:Stmt:=cf (top 23) 4
abbrev cF:Stmt:=top 25
abbrev dB:Stmt:=top 26
abbrev aP:Stmt:=cf (top 31) 0
abbrev cq:Stmt:=cf (top 31) 1
abbrev aG:Stmt:=cf (top 31) 2
abbrev bY:Stmt:=cf (top 31) 3
abbrev bf:Stmt:=cf (top 31) 4
abbrev bA:Stmt:=top 32
abbrev b9:Stmt:=top 33
abbrev aV:Stmt:=top 34
abbrev aR:Stmt:=top 35
abbrev bi:Stmt:=top 36
abbrev cN:Stmt:=top 37
abbrev aY:Stmt:=top 38
abbrev bF:Stmt:=top 39
abbrev aX:Stmt:=top 40
abbrev cz:Stmt:=top 41
abbrev cO:Stmt:=top 42
abbrev cV:Stmt:=top 43
abbrev d8:Stmt:=top 44
abbrev bw:Stmt:=top 46
abbrev dl:Stmt:=top 47
abbrev bv:Stmt:=top 48
abbrev b7:Stmt:=top 49
abbrev cD:Stmt:=top 50
abbrev cb:Stmt:=top 51
abbrev bV:Stmt:=top 52
abbrev bU:Stmt:=top 53
abbrev cw:Stmt:=top 54
abbrev bZ:Stmt:=top 55
abbrev gE:Stmt:=top 56
theorem fS{N P:List Str}{f:Scope}(a:f.kind=.function)(b:f.isCoroutine=false)(c:f.isGenerator=false)(d:N.take P.length=P)(h:N.Nodup/\(∀ x∈P,f.names.lookup x = some .local \/ f.names.lookup x = some .cell)/\∀ y∈f.names,y.2≠.free):FnScope N P f:=⟨a,b,c,h.1,d,h.2.1,h.2.2⟩
theorem fW:FnScope ["self","place"] ["self","place"] (ac aB):=fS rfl rfl rfl rfl (by decide +kernel)
theorem sc_k:FnScope ["one","other"] ["one","other"] (ac aA):=fS rfl rfl rfl rfl (by decide +kernel)
theorem sc_q:FnScope ["numbers","found","number"] ["numbers"] (ac aH):=fS rfl rfl rfl rfl (by decide +kernel)
theorem sc_I:FnScope ["top","bottom","divisor"] ["top","bottom"] (ac dA):=fS rfl rfl rfl rfl (by decide +kernel)
theorem xI:FnScope ["one","other"] ["one","other"] (ac d7):=fS rfl rfl rfl rfl (by decide +kernel)
theorem uL:FnScope ["one","other"] ["one","other"] (ac du):=fS rfl rfl rfl rfl (by decide +kernel)
theorem sc_ac:FnScope ["fractions","bottom"] ["fractions"] (ac dF):=fS rfl rfl rfl rfl (by decide +kernel)
theorem mI:FnScope ["thing","low","high"] ["thing","low","high"] (ac b8):=fS rfl rfl rfl rfl (by decide +kernel)
theorem j8:FnScope ["text","signs","most"] ["text","signs","most"] (ac bh):=fS rfl rfl rfl rfl (by decide +kernel)
theorem oM:FnScope ["thing"] ["thing"] (ac cv):=fS rfl rfl rfl rfl (by decide +kernel)
theorem g8:FnScope ["self","kept"] ["self","kept"] (ac aK):=fS rfl rfl rfl rfl (by decide +kernel)
theorem iR:FnScope ["self"] ["self"] (ac aQ):=fS rfl rfl rfl rfl (by decide +kernel)
theorem lG:FnScope ["self"] ["self"] (ac bx):=fS rfl rfl rfl rfl (by decide +kernel)
theorem j0:FnScope ["self"] ["self"] (ac bc):=fS rfl rfl rfl rfl (by decide +kernel)
theorem jW:FnScope ["self"] ["self"] (ac be):=fS rfl rfl rfl rfl (by decide +kernel)
theorem iP:FnScope ["self","parts"] ["self","parts"] (ac aS):=fS rfl rfl rfl rfl (by decide +kernel)
theorem jE:FnScope ["self"] ["self"] (ac aW):=fS rfl rfl rfl rfl (by decide +kernel)
theorem mZ:FnScope ["self"] ["self"] (ac bX):=fS rfl rfl rfl rfl (by decide +kernel)
theorem mq:FnScope ["self"] ["self"] (ac bC):=fS rfl rfl rfl rfl (by decide +kernel)
theorem lU:FnScope ["self"] ["self"] (ac bz):=fS rfl rfl rfl rfl (by decide +kernel)
theorem sc_Q:FnScope ["node","ways","ahead","here","top","bottom","sides"] ["node"] (ac cF):=fS rfl rfl rfl rfl (by decide +kernel)
theorem sc_X:FnScope ["node","found","kept","chance"] ["node"] (ac dB):=fS rfl rfl rfl rfl (by decide +kernel)
theorem iN:FnScope ["self","most"] ["self","most"] (ac aP):=fS rfl rfl rfl rfl (by decide +kernel)
theorem nu:FnScope ["self","thing","throw"] ["self","thing","throw"] (ac cq):=fS rfl rfl rfl rfl (by decide +kernel)
theorem gK:FnScope ["self"] ["self"] (ac aG):=fS rfl rfl rfl rfl (by decide +kernel)
theorem mS:FnScope ["self"] ["self"] (ac bY):=fS rfl rfl rfl rfl (by decide +kernel)
theorem j4:FnScope ["self"] ["self"] (ac bf):=fS rfl rfl rfl rfl (by decide +kernel)
theorem lO:FnScope ["held","most","thing","throw"] ["held","most","thing","throw"] (ac bA):=fS rfl rfl rfl rfl (by decide +kernel)
theorem nB:FnScope ["many","most"] ["many","most"] (ac b9):=fS rfl rfl rfl rfl (by decide +kernel)
theorem sc_t:FnScope ["held","number","many","most","parts"] ["held","number","many"] (ac aV):=fS rfl rfl rfl rfl (by decide +kernel)
abbrev eK:Expr:=(sy (tQ aR 0))
def bb:LamD:=kL ((("stream_make" : Str) ++ ".<locals>.") ++ "<lambda>") eK
theorem jn:FnScope ["held","number","many"] ["held","number","many"] (ac aR):=fS rfl rfl rfl rfl (by decide +kernel)
theorem j1:FnScope ["one","other"] ["one","other"] (ac bi):=fS rfl rfl rfl rfl (by decide +kernel)
theorem sc_W:FnScope ["one","other","firsts","seconds","wanted"] ["one","other"] (ac cN):=fS rfl rfl rfl rfl (by decide +kernel)
abbrev fB:Expr:=(Bs (Bu (wP (sy (tQ aY 3)) 0) 0) 1)
def bG:LamD:=kL ((("pour_node" : Str) ++ ".<locals>.") ++ "<lambda>") fB
abbrev fH:Expr:=(Bs (Bu (wP (sy (tQ aY 3)) 0) 1) 1)
def bE:LamD:=kL ((("pour_node" : Str) ++ ".<locals>.") ++ "<lambda>") fH
theorem mi:FnScope ["wanted","one","other","taken"] ["wanted","one","other","taken"] (ac aY):=fS rfl rfl rfl rfl (by decide +kernel)
abbrev fY:Expr:=(wP (sy (tQ bF 0)) 1)
def cC:LamD:=kL ((("from_one" : Str) ++ ".<locals>.") ++ "<lambda>") fY
theorem sc_i:FnScope ["wanted","one","other","taken"] ["wanted","one","other","taken"] (ac bF):=fS rfl rfl rfl rfl (by decide +kernel)
abbrev eY:Expr:=(wP (sy (tQ aX 0)) 1)
def bM:LamD:=kL ((("from_other" : Str) ++ ".<locals>.") ++ "<lambda>") eY
theorem sc_b:FnScope ["wanted","one","other","taken"] ["wanted","one","other","taken"] (ac aX):=fS rfl rfl rfl rfl (by decide +kernel)
theorem oQ:FnScope ["pot","place"] ["pot","place"] (ac cz):=fS rfl rfl rfl rfl (by decide +kernel)
theorem uc:FnScope ["places","go"] ["places","go"] (ac cO):=fS rfl rfl rfl rfl (by decide +kernel)
abbrev jK:Expr:=(sy (tQ cV 0))
def ld_going_1:LamD:=kL ((("going" : Str) ++ ".<locals>.") ++ "<lambda>") jK
theorem vP:FnScope ["go","place"] ["go","place"] (ac cV):=fS rfl rfl rfl rfl (by decide +kernel)
theorem sc_ae:FnScope ["one","other","kept","things","pot"] ["one","other","kept"] (ac d8):=fS rfl rfl rfl rfl (by decide +kernel)
theorem lH:FnScope ["_law_script","_law_k"] ["_law_script","_law_k"] (ac bw):=fS rfl rfl rfl rfl (by decide +kernel)
theorem sc_aa:FnScope ["_law_cell","_law_k","_law_number"] ["_law_cell","_law_k"] (ac dl):=fS rfl rfl rfl rfl (by decide +kernel)
theorem sc_w:FnScope ["_law_cell","_law_digits","_law_bases","_law_numbers_here","_law_k","_law_base"] ["_law_cell","_law_digits","_law_bases"] (ac bv):=fS rfl rfl rfl rfl (by decide +kernel)
theorem sc_O:FnScope ["_law_many","_law_few","_law_found","_law_k"] ["_law_many","_law_few"] (ac b7):=fS rfl rfl rfl rfl (by decide +kernel)
theorem oC:FnScope ["_law_names"] ["_law_names"] (ac cD):=fS rfl rfl rfl rfl (by decide +kernel)
theorem sc_G:FnScope ["_law_most","_law_names","_law_pots","_law_kept","_law_much","_law_pot","_law_k"] ["_law_most","_law_names"] (ac cb):=fS rfl rfl rfl rfl (by decide +kernel)
theorem sc_s:FnScope ["_law_ones","_law_others","_law_found","_law_one","_law_much","_law_other","_law_more","_law_kept","_law_part"] ["_law_ones","_law_others"] (ac bV):=fS rfl rfl rfl rfl (by decide +kernel)
theorem sc_K:FnScope ["_law_pots","_law_shares","_law_ones","_law_pot","_law_much","_law_key"] ["_law_pots"] (ac bU):=fS rfl rfl rfl rfl (by decide +kernel)
theorem sc_N:FnScope ["_law_pots","_law_names","_law_most","_law_few","_law_shares","_law_pot","_law_much","_law_key"] ["_law_pots","_law_names","_law_most"] (ac cw):=fS rfl rfl rfl rfl (by decide +kernel)
theorem sc_L:FnScope ["_law_rows","_law_way","_law_order","_law_one","_law_other","_law_third"] ["_law_rows","_law_way"] (ac bZ):=fS rfl rfl rfl rfl (by decide +kernel)
theorem sc_af:FnScope ["_law_script","_law_digits","_law_most","_law_first","_law_second","_law_third","_law_names","_law_groups","_law_rows","_law_cell","_law_way"] ["_law_script"] (ac gE):=fS rfl rfl rfl rfl (by decide +kernel)
def iq(K:Frag)(D C:Addr):Option Bool:=mroIn K D (.ref C)
set_option genInjectivity false in
set_option genSizeOf false in
structure Ad where
 f_k:Addr
 d_k:FuncData
 f_q:Addr
 d_q:FuncData
 f_I:Addr
 d_I:FuncData
 f_ad:Addr
 d_ad:FuncData
 f_ab:Addr
 d_ab:FuncData
 f_ac:Addr
 d_ac:FuncData
 f_x:Addr
 d_x:FuncData
 f_M:Addr
 d_M:FuncData
 f_Y:Addr
 d_Y:FuncData
 f_Q:Addr
 d_Q:FuncData
 f_X:Addr
 d_X:FuncData
 f_C:Addr
 d_C:FuncData
 f_V:Addr
 d_V:FuncData
 f_t:Addr
 d_t:FuncData
 f_d:Addr
 d_d:FuncData
 f_y:Addr
 d_y:FuncData
 f_W:Addr
 d_W:FuncData
 f_c:Addr
 d_c:FuncData
 f_i:Addr
 d_i:FuncData
 f_b:Addr
 d_b:FuncData
 f_S:Addr
 d_S:FuncData
 f_U:Addr
 d_U:FuncData
 f_z:Addr
 d_z:FuncData
 f_ae:Addr
 d_ae:FuncData
 f_J:Addr
 d_J:FuncData
 f_aa:Addr
 d_aa:FuncData
 f_w:Addr
 d_w:FuncData
 f_O:Addr
 d_O:FuncData
 f_T:Addr
 d_T:FuncData
 f_G:Addr
 d_G:FuncData
 f_s:Addr
 d_s:FuncData
 f_K:Addr
 d_K:FuncData
 f_N:Addr
 d_N:FuncData
 f_L:Addr
 d_L:FuncData
 f_af:Addr
 d_af:FuncData
 c_R:Addr
 c_a:Addr
 i_a:Addr
 e_a:FuncData
 c_r:Addr
 c_p:Addr
 c_Z:Addr
 c_g:Addr
 i_g:Addr
 e_g:FuncData
 c_n:Addr
 i_n:Addr
 e_n:FuncData
 c_h:Addr
 i_h:Addr
 e_h:FuncData
 x_H:Addr
 y_H:FuncData
 v_Pot_come:Value
 x_o:Addr
 y_o:FuncData
 x_j:Addr
 y_j:FuncData
 x_u:Addr
 y_u:FuncData
 x_v:Addr
 y_v:FuncData
 x_D:Addr
 y_D:FuncData
 x_P:Addr
 y_P:FuncData
 x_A:Addr
 y_A:FuncData
 x_E:Addr
 y_E:FuncData
 x_B:Addr
 y_B:FuncData
 x_F:Addr
 y_F:FuncData
 x_l:Addr
 y_l:FuncData
 lc_b:Addr
 lp_b:Addr
 lc_z:Addr
 lp_z:Addr
 lc_i:Addr
 lp_i:Addr
 lc_c:Addr
 lp_c:Addr
 lc_d:Addr
 lp_d:Addr
abbrev d3:List (Pos×Str):=[(sZ eY,((("from_other" : Str) ++ ".<locals>.") ++ "<lambda>"))]
theorem jZ:(d3).Pairwise λx y=>¬(x.1.line=y.1.line/\x.1.col=y.1.col):=by decide +kernel
abbrev jL:List (Pos×Str):=[(sZ jK,((("going" : Str) ++ ".<locals>.") ++ "<lambda>"))]
theorem vV:(jL).Pairwise λx y=>¬(x.1.line=y.1.line/\x.1.col=y.1.col):=by decide +kernel
abbrev fK:List (Pos×Str):=[(sZ fY,((("from_one" : Str) ++ ".<locals>.") ++ "<lambda>"))]
theorem ng:(fK).Pairwise λx y=>¬(x.1.line=y.1.line/\x.1.col=y.1.col):=by decide +kernel
abbrev eT:List (Pos×Str):=[(sZ fB,((("pour_node" : Str) ++ ".<locals>.") ++ "<lambda>")),(sZ fH,((("pour_node" : Str) ++ ".<locals>.") ++ "<lambda>"))]
theorem gA:(eT).Pairwise λx y=>¬(x.1.line=y.1.line/\x.1.col=y.1.col):=by decide +kernel
abbrev dP:List (Pos×Str):=[(sZ eK,((("stream_make" : Str) ++ ".<locals>.") ++ "<lambda>"))]
theorem jy:(dP).Pairwise λx y=>¬(x.1.line=y.1.line/\x.1.col=y.1.col):=by decide +kernel
def tabs(a:Ad):mH:=[(a.lp_b,d3),(a.lp_z,jL),(a.lp_i,fK),(a.lp_c,eT),(a.lp_d,dP)]
theorem j5(a:Ad):(a.lp_b,d3)∈tabs a:=(.head _)
theorem wj(a:Ad):(a.lp_z,jL)∈tabs a:=(.tail _ (.head _))
theorem mL(a:Ad):(a.lp_i,fK)∈tabs a:=(.tail _ (.tail _ (.head _)))
theorem gv(a:Ad):(a.lp_c,eT)∈tabs a:=(.tail _ (.tail _ (.tail _ (.head _))))
theorem jr(a:Ad):(a.lp_d,dP)∈tabs a:=(.tail _ (.tail _ (.tail _ (.tail _ (.head _)))))
structure Txt(K:Frag)(mg:Str->Option Value)(a:Ad):Prop where
 lcd_b:a.d_b.code=.ref a.lc_b
 lch_b:codeHdIn K a.lc_b a.lp_b=true
 lcd_z:a.d_z.code=.ref a.lc_z
 lch_z:codeHdIn K a.lc_z a.lp_z=true
 lcd_i:a.d_i.code=.ref a.lc_i
 lch_i:codeHdIn K a.lc_i a.lp_i=true
 lcd_c:a.d_c.code=.ref a.lc_c
 lch_c:codeHdIn K a.lc_c a.lp_c=true
 lcd_d:a.d_d.code=.ref a.lc_d
 lch_d:codeHdIn K a.lc_d a.lp_d=true
 tnd:((tabs a).map (·.1)).Nodup
 F_k:Fun K "greatest_divisor" "greatest_divisor" aA a.f_k a.d_k
 B_k:Binds K a.d_k ["one","other"] []
 m_k:mg "greatest_divisor" = some (.ref a.f_k)
 F_q:Fun K "least_multiple" "least_multiple" aH a.f_q a.d_q
 B_q:Binds K a.d_q ["numbers"] []
 m_q:mg "least_multiple" = some (.ref a.f_q)
 F_I:Fun K "share" "share" dA a.f_I a.d_I
 B_I:Binds K a.d_I ["top","bottom"] []
 m_I:mg "share" = some (.ref a.f_I)
 F_ad:Fun K "plus" "plus" d7 a.f_ad a.d_ad
 B_ad:Binds K a.d_ad ["one","other"] []
 m_ad:mg "plus" = some (.ref a.f_ad)
 F_ab:Fun K "times" "times" du a.f_ab a.d_ab
 B_ab:Binds K a.d_ab ["one","other"] []
 m_ab:mg "times" = some (.ref a.f_ab)
 F_ac:Fun K "total" "total" dF a.f_ac a.d_ac
 B_ac:Binds K a.d_ac ["fractions"] []
 m_ac:mg "total" = some (.ref a.f_ac)
 F_x:Fun K "is_whole" "is_whole" b8 a.f_x a.d_x
 B_x:Binds K a.d_x ["thing","low","high"] []
 m_x:mg "is_whole" = some (.ref a.f_x)
 F_M:Fun K "is_made_of" "is_made_of" bh a.f_M a.d_M
 B_M:Binds K a.d_M ["text","signs","most"] []
 m_M:mg "is_made_of" = some (.ref a.f_M)
 F_Y:Fun K "is_name" "is_name" cv a.f_Y a.d_Y
 B_Y:Binds K a.d_Y ["thing"] []
 m_Y:mg "is_name" = some (.ref a.f_Y)
 F_Q:Fun K "ways_of" "ways_of" cF a.f_Q a.d_Q
 B_Q:Binds K a.d_Q ["node"] []
 m_Q:mg "ways_of" = some (.ref a.f_Q)
 F_X:Fun K "table" "table" dB a.f_X a.d_X
 B_X:Binds K a.d_X ["node"] []
 m_X:mg "table" = some (.ref a.f_X)
 F_C:Fun K "held_with" "held_with" bA a.f_C a.d_C
 B_C:Binds K a.d_C ["held","most","thing","throw"] []
 m_C:mg "held_with" = some (.ref a.f_C)
 F_V:Fun K "streamed" "streamed" b9 a.f_V a.d_V
 B_V:Binds K a.d_V ["many","most"] []
 m_V:mg "streamed" = some (.ref a.f_V)
 F_t:Fun K "stream_node" "stream_node" aV a.f_t a.d_t
 B_t:Binds K a.d_t ["held","number","many"] []
 m_t:mg "stream_node" = some (.ref a.f_t)
 F_d:Fun K "stream_make" "stream_make" aR a.f_d a.d_d
 B_d:Binds K a.d_d ["held","number","many"] []
 m_d:mg "stream_make" = some (.ref a.f_d)
 F_y:Fun K "need_alike" "need_alike" bi a.f_y a.d_y
 B_y:Binds K a.d_y ["one","other"] []
 m_y:mg "need_alike" = some (.ref a.f_y)
 F_W:Fun K "poured" "poured" cN a.f_W a.d_W
 B_W:Binds K a.d_W ["one","other"] []
 m_W:mg "poured" = some (.ref a.f_W)
 F_c:Fun K "pour_node" "pour_node" aY a.f_c a.d_c
 B_c:Binds K a.d_c ["wanted","one","other","taken"] []
 m_c:mg "pour_node" = some (.ref a.f_c)
 F_i:Fun K "from_one" "from_one" bF a.f_i a.d_i
 B_i:Binds K a.d_i ["wanted","one","other","taken"] []
 m_i:mg "from_one" = some (.ref a.f_i)
 F_b:Fun K "from_other" "from_other" aX a.f_b a.d_b
 B_b:Binds K a.d_b ["wanted","one","other","taken"] []
 m_b:mg "from_other" = some (.ref a.f_b)
 F_S:Fun K "without" "without" cz a.f_S a.d_S
 B_S:Binds K a.d_S ["pot","place"] []
 m_S:mg "without" = some (.ref a.f_S)
 F_U:Fun K "any_of" "any_of" cO a.f_U a.d_U
 B_U:Binds K a.d_U ["places","go"] []
 m_U:mg "any_of" = some (.ref a.f_U)
 F_z:Fun K "going" "going" cV a.f_z a.d_z
 B_z:Binds K a.d_z ["go","place"] []
 m_z:mg "going" = some (.ref a.f_z)
 F_ae:Fun K "into" "into" d8 a.f_ae a.d_ae
 B_ae:Binds K a.d_ae ["one","other","kept"] []
 m_ae:mg "into" = some (.ref a.f_ae)
 F_J:Fun K "_law_cell_at" "_law_cell_at" bw a.f_J a.d_J
 B_J:Binds K a.d_J ["_law_script","_law_k"] []
 m_J:mg "_law_cell_at" = some (.ref a.f_J)
 F_aa:Fun K "_law_mix" "_law_mix" dl a.f_aa a.d_aa
 B_aa:Binds K a.d_aa ["_law_cell","_law_k"] []
 m_aa:mg "_law_mix" = some (.ref a.f_aa)
 F_w:Fun K "_law_numbers" "_law_numbers" bv a.f_w a.d_w
 B_w:Binds K a.d_w ["_law_cell","_law_digits","_law_bases"] []
 m_w:mg "_law_numbers" = some (.ref a.f_w)
 F_O:Fun K "_law_choose" "_law_choose" b7 a.f_O a.d_O
 B_O:Binds K a.d_O ["_law_many","_law_few"] []
 m_O:mg "_law_choose" = some (.ref a.f_O)
 F_T:Fun K "_law_signs" "_law_signs" cD a.f_T a.d_T
 B_T:Binds K a.d_T ["_law_names"] []
 m_T:mg "_law_signs" = some (.ref a.f_T)
 F_G:Fun K "_law_stream" "_law_stream" cb a.f_G a.d_G
 B_G:Binds K a.d_G ["_law_most","_law_names"] []
 m_G:mg "_law_stream" = some (.ref a.f_G)
 F_s:Fun K "_law_poured" "_law_poured" bV a.f_s a.d_s
 B_s:Binds K a.d_s ["_law_ones","_law_others"] []
 m_s:mg "_law_poured" = some (.ref a.f_s)
 F_K:Fun K "_law_merged" "_law_merged" bU a.f_K a.d_K
 B_K:Binds K a.d_K ["_law_pots"] []
 m_K:mg "_law_merged" = some (.ref a.f_K)
 F_N:Fun K "_law_alike" "_law_alike" cw a.f_N a.d_N
 B_N:Binds K a.d_N ["_law_pots","_law_names","_law_most"] []
 m_N:mg "_law_alike" = some (.ref a.f_N)
 F_L:Fun K "_law_joined" "_law_joined" bZ a.f_L a.d_L
 B_L:Binds K a.d_L ["_law_rows","_law_way"] []
 m_L:mg "_law_joined" = some (.ref a.f_L)
 F_af:Fun K "law" "law" gE a.f_af a.d_af
 m_af:mg "law" = some (.ref a.f_af)
 g_LETTERS:∃ u,mg "LETTERS" = some u/\RelV (.str "abcdefghijklmnopqrstuvwxyz") u
 g_MOST_LETTERS:∃ u,mg "MOST_LETTERS" = some u/\RelV (.int 8) u
 g_MOST_WAYS:∃ u,mg "MOST_WAYS" = some u/\RelV (.int 4096) u
 g_MOST_KEPT:∃ u,mg "MOST_KEPT" = some u/\RelV (.int 24) u
 g_MOST_STREAMED:∃ u,mg "MOST_STREAMED" = some u/\RelV (.int 24) u
 g_MOST_COME:∃ u,mg "MOST_COME" = some u/\RelV (.int 300) u
 mc_a:mg "NoThrow" = some (.ref a.c_a)
 kc_NoThrow:keepIn K (.ref a.c_a)=true
 xc_a:XCls K a.c_a
 xh_a:XHd K a.c_a
 xi_NoThrow:xIn K a.c_a (some (.ref a.i_a))=true
 fn_NoThrow:isFn K (.ref a.i_a)=true
 Fi_a:Fun K "__init__" "NoThrow.__init__" aB a.i_a a.e_a
 Bi_a:Binds K a.e_a ["self","place"] []
 sx_NoThrow_place:∃ cd,XSet K a.c_a "place" cd
 mc_r:mg "TooMany" = some (.ref a.c_r)
 kc_TooMany:keepIn K (.ref a.c_r)=true
 xc_r:XCls K a.c_r
 xh_r:XHd K a.c_r
 xi_TooMany:xIn K a.c_r none=true
 mc_p:mg "NoThing" = some (.ref a.c_p)
 kc_NoThing:keepIn K (.ref a.c_p)=true
 xc_p:XCls K a.c_p
 xh_p:XHd K a.c_p
 xi_NoThing:xIn K a.c_p none=true
 mc_g:mg "Told" = some (.ref a.c_g)
 cl_g:Cls K a.c_g
 mk_g:Mk K a.c_g a.i_g
 Fi_g:Fun K "__init__" "Told.__init__" aK a.i_g a.e_g
 Bi_g:Binds K a.e_g ["self","kept"] []
 na_Told_rising:NoAttr K a.c_g "rising"
 mt_u:Meth K a.c_g "is_told" a.x_u
 mt_D:Meth K a.c_g "kept" a.x_D
 mt_A:Meth K a.c_g "sides" a.x_A
 mt_B:Meth K a.c_g "parts" a.x_B
 mc_n:mg "Die" = some (.ref a.c_n)
 cl_n:Cls K a.c_n
 mk_n:Mk K a.c_n a.i_n
 Fi_n:Fun K "__init__" "Die.__init__" aS a.i_n a.e_n
 Bi_n:Binds K a.e_n ["self","parts"] []
 na_Die_makes:NoAttr K a.c_n "makes"
 mt_v:Meth K a.c_n "is_told" a.x_v
 mt_P:Meth K a.c_n "kept" a.x_P
 mt_E:Meth K a.c_n "sides" a.x_E
 mt_F:Meth K a.c_n "parts" a.x_F
 mc_h:mg "Pot" = some (.ref a.c_h)
 cl_h:Cls K a.c_h
 mk_h:Mk K a.c_h a.i_h
 Fi_h:Fun K "__init__" "Pot.__init__" aP a.i_h a.e_h
 Bi_h:Binds K a.e_h ["self","most"] []
 na_Pot_most:NoAttr K a.c_h "most"
 na_Pot_seen:NoAttr K a.c_h "seen"
 na_Pot_held:NoAttr K a.c_h "held"
 mt_H:Meth K a.c_h "come" a.x_H
 mt_o:Meth K a.c_h "next_sides" a.x_o
 mt_j:Meth K a.c_h "things" a.x_j
 mt_l:Meth K a.c_h "came" a.x_l
 F_H:FunD K "come" "Pot.come" cq a.x_H a.y_H
 Bd_Pot_come:Binds K a.y_H ["self","thing","throw"] [a.v_Pot_come]
 Rv_Pot_come:RelV (.int 0) a.v_Pot_come
 B_H:Binds K a.y_H ["self","thing","throw"] []
 F_o:Fun K "next_sides" "Pot.next_sides" aG a.x_o a.y_o
 B_o:Binds K a.y_o ["self"] []
 F_j:Fun K "things" "Pot.things" bf a.x_j a.y_j
 B_j:Binds K a.y_j ["self"] []
 F_u:Fun K "is_told" "Told.is_told" aQ a.x_u a.y_u
 B_u:Binds K a.y_u ["self"] []
 F_v:Fun K "is_told" "Die.is_told" aW a.x_v a.y_v
 B_v:Binds K a.y_v ["self"] []
 F_D:Fun K "kept" "Told.kept" bx a.x_D a.y_D
 B_D:Binds K a.y_D ["self"] []
 F_P:Fun K "kept" "Die.kept" bX a.x_P a.y_P
 B_P:Binds K a.y_P ["self"] []
 F_A:Fun K "sides" "Told.sides" bc a.x_A a.y_A
 B_A:Binds K a.y_A ["self"] []
 F_E:Fun K "sides" "Die.sides" bC a.x_E a.y_E
 B_E:Binds K a.y_E ["self"] []
 F_B:Fun K "parts" "Told.parts" be a.x_B a.y_B
 B_B:Binds K a.y_B ["self"] []
 F_F:Fun K "parts" "Die.parts" bz a.x_F a.y_F
 B_F:Binds K a.y_F ["self"] []
 F_l:Fun K "came" "Pot.came" bY a.x_l a.y_l
 B_l:Binds K a.y_l ["self"] []
 z_abs:mg "abs" = none
 z_all:mg "all" = none
 z_bool:mg "bool" = none
 z_enumerate:mg "enumerate" = none
 z_int:mg "int" = none
 z_isinstance:mg "isinstance" = none
 z_len:mg "len" = none
 z_list:mg "list" = none
 z_min:mg "min" = none
 z_range:mg "range" = none
 z_sorted:mg "sorted" = none
 z_str:mg "str" = none
 z_sum:mg "sum" = none
 z_tuple:mg "tuple" = none
 bl:∀(s:Shared) (u:Value),BindsTo s a.d_af ⟨[u],[]⟩ [("_law_script",u)]
def qB(ns:List Int)(k:Int):Int:=if k<(ns.length:Int) then ns.getD k.toNat 0 else 0
inductive spCell(K:Frag)(vs:List V)(H:Hp)(Q:VK)(_E:XK):Prop
 | mk(p:Addr)(ns:List Int)(k:Int)(h0:vs=[.ref p,.int k])(h1:SqL K H p (ns.map V.int))(h2:ns.length<=63)(h3:0<=k)(h4:k<=1000)(h5:Q (.int (qB ns k)) H):spCell K vs H Q _E
inductive spMix(vs:List V)(H:Hp)(Q:VK)(_E:XK):Prop
 | mk(c k:Int)(h0:vs=[.int c,.int k])(h1:0<=k)(h2:k<=1000)(h3:∀ r:Int,0<=r->Q (.int r) H):spMix vs H Q _E
inductive spLaw(K:Frag)(ts:List Addr)(vs:List V)(H:Hp)(Q:VK)(_E:XK):Prop
 | mk(p:Addr)(ns:List Int)(h0:vs=[.ref p])(h1:SqL K H p (ns.map V.int))(h2:ns.length<=63)(h3:(∀ P∈ts,H P=some (.tbl #[])))(h4:∀ H',Q (.bl true) H'):spLaw K ts vs H Q _E
theorem law_start{K:Frag}{c:List Addr}{H:Hp}{a:Addr}{b:List Int}(f:b.length<=63)(g:∀ P∈c,H P=some (.tbl #[]))(d:SqL K H a (b.map V.int)):spLaw K c [.ref a] H (λv _=>v=.bl true) λ_ _ _=>False:=⟨a,b,rfl,d,f,g,λ_=>rfl⟩
abbrev Below:List Int->List Int->Prop:=PySem.Paired (λb v=>0<=v/\v<b)
theorem Below.snoc{b v:Int}(r:0<=v/\v<b):∀{bs ns:List Int},Below bs ns->Below (bs++[b]) (ns++[v])
 | _,_,.nil=>.cons r .nil
 | _,_,.cons q t=>.cons q (Below.snoc r t)
inductive spNumbers(K:Frag)(vs:List V)(H:Hp)(Q:VK)(_E:XK):Prop
 | mk(c:Int)(d:Bool)(p:Addr)(bs:List Int)(h0:vs=[.int c,.bl d,.ref p])(h1:H p=some (.lst (bs.map V.int)))(h2:bs.length<=100)(h3:(∀ b∈bs,1<=b/\b<=1000000))(h4:∀ H' l ns,Same H H'->H l=none->H' l=some (.lst (ns.map V.int))->Below bs ns->Q (.ref l) H'):spNumbers K vs H Q _E
theorem cR(x y:V):[x,y].length<=sizeLine:=by show 2<=sizeLine;decide
def ny(t:Str):Bool:=decide (1<=t.cps.size/\t.cps.size<=8) && t.cps.toList.all λc=>decide (97<=c/\c<=122)
inductive spMade(vs:List V)(H:Hp)(Q:VK)(_E:XK):Prop
 | mk(t:Str)(h0:vs=[.str t,.str "abcdefghijklmnopqrstuvwxyz",.int 8])(h1:t.length<=sizeLine)(h2:∀ H',Same H H'->Q (.bl (ny t)) H'):spMade vs H Q _E
inductive Kd | i (n:Int) | s (t:Str) | o
inductive Thg(H:Hp):V->Kd->Prop
 | int (i:Int):Thg H (.int i) (.i i)
 | str (t:Str) (h:t.length<=100) (h2:∀ c∈t.cps.toList,c<128):Thg H (.str t) (.s t)
 | bl (b:Bool):Thg H (.bl b) .o
 | non:Thg H .non .o
 | lst (p:Addr) (xs:List V) (e:H p=some (.lst xs)):Thg H (.ref p) .o
 | tup (p:Addr) (xs:List V) (e:H p=some (.tup xs)):Thg H (.ref p) .o
 | dK (p:Addr) (e:H p=some (.dK [])):Thg H (.ref p) .o
theorem Thg.same{H a:Hp}{x:V}{o:Kd}(s:Same H a)(h:Thg H x o):Thg a x o:=by
 cases h with
 | int i=>exact .int i
 | str t h h2=>exact .str t h h2
 | bl b=>exact .bl b
 | non=>exact .non
 | lst p xs e=>exact .lst p xs (s _ _ e)
 | tup p xs e=>exact .tup p xs (s _ _ e)
 | dK p e=>exact .dK p (s _ _ e)
def inK(lo hi:Int):Kd->Bool
 | .i n=>decide (lo<=n/\n<=hi)
 | _=>false
def nmK:Kd->Bool
 | .s t=>ny t
 | _=>false
inductive spWhole(vs:List V)(H:Hp)(Q:VK)(_E:XK):Prop
 | mk(x:V)(lo hi:Int)(k:Kd)(h0:vs=[x,.int lo,.int hi])(h1:Thg H x k)(h2:Q (.bl (inK lo hi k)) H):spWhole vs H Q _E
inductive spName(vs:List V)(H:Hp)(Q:VK)(_E:XK):Prop
 | mk(x:V)(k:Kd)(h0:vs=[x])(h1:Thg H x k)(h2:∀ H',Same H H'->Q (.bl (nmK k)) H'):spName vs H Q _E
structure PotAt(a:Ad)(H:Hp)(x h:Addr)(m n:Int)(ts:List Str):Prop where
 at_:∃ dx,H x=some (.ins a.c_h dx [("most",.int m),("seen",.int n),("held",.ref h)])
 held:H h=some (.lst (ts.map V.str))
theorem PotAt.same{a:Ad}{H b:Hp}{x h:Addr}{m n:Int}{c:List Str}(s:Same H b)(p:PotAt a H x h m n c):PotAt a b x h m n c:=⟨let ⟨dx,e⟩:=p.at_;⟨dx,s _ _ e⟩,s _ _ p.held⟩
def SB(x:Addr)(H H':Hp):Prop:=∀ b o,b≠x->H b=some o->H' b=some o
def Okp(m n:Int)(ts:List Str):Prop:=1<=m/\m<=24/\0<=n/\n<=300/\(ts.length:Int)=(if n<m then n else m)
def sides(m n:Int):Int:=if n<m then 1 else n+1
def j3{α:Type}(m:Int)(xs:List α)(t:α)(th:Int):List α:=if (xs.length:Int)<m then xs++[t] else if th<m then xs.set th.toNat t else xs
def nxt(m:Int)(ts:List Str)(t:Str)(th:Int):List Str:=j3 m ts t th
theorem rf{a c:Type}(f:a->c)(m:Int)(xs:List a)(t:a)(b:Int):j3 m (xs.map f) (f t) b=(j3 m xs t b).map f:=by
 unfold j3;rw[length_map]
 split
 .rw[map_append];rfl
 .split
  .rw[List.map_set]
  .rfl
inductive spHeld(vs:List V)(H:Hp)(Q:VK)(_E:XK):Prop
 | mk(h:Addr)(m th:Int)(t:V)(xs:List V)(h0:vs=[.ref h,.int m,t,.int th])(h1:H h=some (.lst xs))(h2:xs.length<=24)(h3:m<=24)(h4:0<=th)(h5:((xs.length:Int)<m\/(xs.length:Int)=m))(h6:∀ H' h',Same H H'->H' h'=some (.lst (j3 m xs t th))->(h'=h\/H h'=none)->Q (.ref h') H'):spHeld vs H Q _E
inductive spSides(a:Ad)(vs:List V)(H:Hp)(Q:VK)(_E:XK):Prop
 | mk(x h:Addr)(m n:Int)(ts:List Str)(h0:vs=[.ref x])(h1:PotAt a H x h m n ts)(h2:Q (.int (sides m n)) H):spSides a vs H Q _E
inductive spThings(a:Ad)(vs:List V)(H:Hp)(Q:VK)(_E:XK):Prop
 | mk(x h:Addr)(m n:Int)(ts:List Str)(h0:vs=[.ref x])(h1:PotAt a H x h m n ts)(h2:∀ H' r,Same H H'->H r=none->H' r=some (.lst (ts.map V.str))->Q (.ref r) H'):spThings a vs H Q _E
inductive spCame(a:Ad)(vs:List V)(H:Hp)(Q:VK)(_E:XK):Prop
 | mk(x h:Addr)(m n:Int)(ts:List Str)(h0:vs=[.ref x])(h1:PotAt a H x h m n ts)(h2:Q (.int n) H):spCame a vs H Q _E
inductive spI1(c:Addr)(f1:Str)(vs:List V)(H:Hp)(Q:VK)(_E:XK):Prop
 | mk(x:Addr)(m:Int)(h0:vs=[.ref x,.int m])(h1:H x=some (.ext (XD0 x c)))(h2:∀ dx,H dx=none->dx≠x->Q .non (upd (upd H dx (.ext (XDct dx [(f1,.int m)]))) x (.ext (XD1 x c dx)))):spI1 c f1 vs H Q _E
theorem CB{c:Addr}{a:Str}:∀ vs H Q E,spI1 c a vs H Q E->vs.length<=100:=by
 rintro _ _ _ _ ⟨_,_,rfl,_⟩;exact(by decide:2<=100)
section
variable {P:Program}{w:World}{K:Frag}{mg:Str->Option Value}{base:Heap}{a:Ad}
theorem yq(T:Txt K mg a):FnOk P w K mg base CX0 1 a.f_J a.d_J ["_law_script","_law_k"] (spCell K):=by
 refine T.F_J.ok lH (λg H Q E h=>?_) (λcdv A outer s H g Q E hr h=>?_)
 .obtain⟨p,b,k,rfl,_⟩:=h;rfl
 .obtain⟨p,b,k,rfl,f,n,l,o,q⟩:=h
  refine⟨_,(ai (cg (cm rS (vr 1) (az aL rfl T.z_len ce (aa (vr 0) ae)) (bp _)) (aj (ax (ci bj (vr 0) (vr 1) (λ_ _=>rfl)))) aT) (aj (ax am))),nF ?_⟩;intro j;refine⟨b.map V.int,.inl f,?_⟩;rw[length_map];unfold qB at q;refine CN (λc=>?_) (λc=>?_)
  .have d:k<(b.length:Int):=of_decide_eq_true c
   rw[if_pos d]at q;refine .inl ⟨p,_,k,.int (b.getD k.toNat 0),rfl,rfl,f,?_,q⟩;have e:((k.toNat:Nat):Int)=k:=by omega
   rw[<- e];refine gC ?_;have i:k.toNat<b.length:=by omega
   rw[e];simp[List.getElem?_map,List.getD,i]
  .have d:¬k<(b.length:Int):=λz=>c (decide_eq_true z)
   rw[if_neg d]at q;exact q
theorem zp(T:Txt K mg a):FnOk P w K mg base CX0 1 a.f_aa a.d_aa ["_law_cell","_law_k"] spMix:=by
 refine T.F_aa.ok sc_aa (λb H Q E h=>?_) (λcdv A outer s H b Q E hr h=>?_)
 .obtain⟨c,k,rfl,_⟩:=h;rfl
 .obtain⟨c,k,rfl,g,j,q⟩:=h
  refine⟨_,(ai (aM (i:=2) sc_aa.nd rfl (Or.inl rfl) (aw gm (aw cU (aw cu (aw cu (aw gm (vr 0) am) (aw cU am (vr 1))) am) am) am)) (ai (aM (i:=2) sc_aa.nd rfl (Or.inl rfl) (aw gm (aw cU (vr 2) (vr 2)) am)) (aj (ax (aw gm (aw cU (vr 2) (aw cu (vr 2) am)) am))))),gg ?_⟩;intro d f;exact⟨cp,clB,crB,cp,clB (by omega) (by omega),cp,clB (by omega) (by omega),cp,q _ (by omega)⟩
theorem oJ(T:Txt K mg a):FnOk P w K mg base CX0 2 a.f_w a.d_w ["_law_cell","_law_digits","_law_bases"] (spNumbers K):=by
 have y:FnOk P w K mg base CX0 1 _ _ _ spMix:=zp T;refine T.F_w.ok sc_w (λvs H Q E h=>?_) (λcdv A outer s H vs Q E hr h=>?_)
 .obtain⟨c,d,p,j,rfl,_⟩:=h;rfl
 .obtain⟨c,d,n,j,rfl,J,al,M,q⟩:=h
  refine⟨_,(ai (aM (i:=3) sc_w.nd rfl (Or.inl rfl) (bW ae)) (ai (da PassesOwn.never rfl (ym rfl T.z_enumerate (aa (vr 2) ae)) (dU rfl (au (ar (i:=4) sc_w.nd rfl (Or.inl rfl)) (au (ar (i:=5) sc_w.nd rfl (Or.inl rfl)) bR))) (aj (cg (iL (vr 1)) (ai (cX (pe_m.append (vr 3) (aa (aw gm (vr 0) (vr 5)) ae))) (aj (aM (i:=0) sc_w.nd rfl (Or.inl rfl) (aw eN (vr 0) (vr 5))))) (aj (cX (pe_m.append (vr 3) (aa (aw gm (ap y hr rfl T.m_aa T.F_aa.kp T.B_aa .nil aq (aa (vr 0) (aa (aw cu am (vr 4)) ae))) (vr 5)) ae))))))) (aj (ax (vr 3))))),gg ?_⟩;intro ab an;have sl:sizeLine=16777216:=sizeLine_eq;refine⟨Nat.zero_le _,λp G=>?_⟩;have X:n≠p:=ay J G
  let Pw1:PvS:=λi I l=>i<=j.length/\∃(o:Int) (f:List Int) (u B:Option V),Same H l/\l p=some (.lst (f.map V.int))/\Below (j.take i) f/\I=[some (.int o),some (.bl d),some (.ref n),some (.ref p),u,B]
  refine⟨n,_,rfl,by rw[af X];exact J,wx (a:=n) (xs:=j.map V.int) Pw1 ⟨Nat.zero_le _,c,[],none,none,Same.new G,ad,by rw[take_zero];exact .nil,rfl⟩ (λi I l h=>by obtain⟨_,_,_,_,_,F,_⟩:=h;exact F _ _ J) ?_ ?_⟩
  .rintro i x I l O R ⟨hi,o,f,u,B,F,S,C,rfl⟩ N
   have D:i<j.length:=by have:=(List.getElem?_eq_some_iff.mp R).1;rw[length_map]at this;exact this
   obtain⟨b,hbi⟩:∃ b,j[i]? = some b:=⟨_,List.getElem?_eq_getElem D⟩
   have ex:x=.int b:=by rw[List.getElem?_map,hbi]at R;cases R;rfl
   subst ex;obtain⟨b0,b1⟩:=M b (List.mem_of_getElem? hbi);have et:j.take (i+1)=j.take i++[b]:=by rw[take_add_one,hbi];rfl
   have nl:f.length=i:=by rw[<- Paired.length C,length_take];omega
   have Y:(f.map V.int).length<sizeLine:=by rw[length_map];omega
   have L:Same l (upd l O (.tup [.int (i:Nat),.int b])):=Same.new N;have g:=L _ _ S;have Z:∀ v:Int,(f.map V.int)++[V.int v]=(f++[v]).map V.int:=λv=>by rw[map_append];rfl
   refine⟨O,_,rfl,SqT.of ad,rfl,_,_,rfl,_,_,rfl,rfl,?_⟩;generalize upd l O (.tup [.int (i:Nat),.int b])=H2 at L g
   obtain⟨ns0,hns0⟩:∃ ns0,ns0=f.map V.int:=⟨_,rfl⟩
   have z:∀(W v:Int),0<=v->v<b->i+1<=j.length/\∃(o:Int) (f:List Int) (u B:Option V),Same H (upd H2 p (.lst (ns0++[V.int v])))/\(upd H2 p (.lst (ns0++[V.int v]))) p=some (.lst (f.map V.int))/\Below (j.take (i+1)) f/\[some (V.int W),some (.bl d),some (.ref n),some (.ref p),some (.int (i:Nat)),some (.int b)]=[some (.int o),some (.bl d),some (.ref n),some (.ref p),u,B]:=λW v v0 v1 =>
    ⟨D,W,f++[v],_,_,(F.trans L).put G,by rw[<- Z,<- hns0];exact ad,by rw[et];exact C.snoc ⟨v0,v1⟩,rfl⟩
   cases d with
   | true =>
    refine⟨.inl ⟨rfl,_,SqL.of g⟩,⟨cp (by omega),⟨p,_,_,rfl,rfl,g,Y,⟨cdB (by omega) (show Bt 30 b by unfold Bt;omega),?_⟩⟩⟩⟩;rw[<- hns0];exact z _ _ (Int.emod_nonneg _ (by omega)) (Int.emod_lt_of_pos _ (by omega))
   | false =>
    refine⟨.inl ⟨rfl,_,SqL.of g⟩,⟨o,_,rfl,by omega,by omega,λr r0=>⟨cp (by omega),⟨p,_,_,rfl,rfl,g,Y,?_⟩⟩⟩⟩;rw[<- hns0];exact z _ _ (Int.emod_nonneg _ (by omega)) (Int.emod_lt_of_pos _ (by omega))
  .rintro I l ⟨_,o,f,u,B,F,S,C,rfl⟩
   rw[length_map,take_of_length_le (Nat.le_refl _)]at C;exact q _ p f F G S C
theorem wW(T:Txt K mg a):FnOk P w K mg base CX0 1 a.f_M a.d_M ["text","signs","most"] spMade:=by
 refine T.F_M.ok j8 (λo H Q E h=>?_) (λcdv A outer s H o Q E hr h=>?_)
 .obtain⟨t,rfl,_⟩:=h;rfl
 .obtain⟨t,rfl,u,q⟩:=h
  refine⟨_,(aj (ax (rk (rE xN xN am (az aL rfl T.z_len ce (aa (vr 0) ae)) (vr 2)) (pM (az (rO rfl) rfl T.z_all AB (aa (cJ rfl (N:=["sign","signs"]) (ix:=[none,some 1]) ⟨rfl,rfl,rfl,rfl,⟨rfl,rfl,rfl,trivial⟩⟩ (bI (vr 0)) ⟨λC s H j=>ar (i:=0) (show List.Nodup (["sign","signs"]:List Str) by decide +kernel) rfl (Or.inl rfl),λC s H j=>cH,λC s H j=>(rm A9 (vr 0) (vr 1) (by with_unfolding_all rfl))⟩) ae)))))),?_⟩
  have l:∀ b,Same H b->¬(1<=t.cps.size/\t.cps.size<=8)->Q (.bl false) b:=λb e c=>by
   have:=q b e;unfold ny at this;rw[decide_eq_false c]at this;exact this
  refine⟨u,?_⟩;refine ifC (λf=>?_) (λf=>(l H (Same.refl H) λz=>f (by show(1:Int)<=((t.cps.size:Nat):Int);omega)));refine ifC (λg=>?_) (λg=>l H (Same.refl H) λz=>g (by show((t.cps.size:Nat):Int)<=8;omega))
  have c:1<=t.cps.size/\t.cps.size<=8:=⟨by have:(1:Int)<=((t.cps.size:Nat):Int):=f;omega,by have:((t.cps.size:Nat):Int)<=8:=g;omega⟩
  intro D p;refine ut (λi d b=>b=upd H D (.lst d)/\d=(t.cps.toList.take i).map λc=>V.bl (decide (97<=c/\c<=122))) ⟨rfl,rfl⟩ (λi d b ⟨e,_⟩=>by rw[e];exact ad) ?_ ?_
  .rintro i c d b P r ⟨rfl,rfl⟩ x
   refine⟨⟨rfl,trivial⟩,?_⟩;have v:t.cps.toList[i]? = some c:=by simpa using r
   refine⟨ad,?_,x _ _ ⟨xS,?_⟩⟩
   .rw[length_map,length_take]
    have:sizeLine=16777216:=sizeLine_eq;have:t.cps.toList.length=t.cps.size:=by simp
    omega
   .rw[take_add_one,v,map_append]
    show _=_++[V.bl (decide (97<=c/\c<=122))]
    congr 2
    show V.bl (!(Builtin.Str.occurrences _ _ 0 _ 1).isEmpty)=_;rw[PySem.StrLaws.found_one]
    congr 1
    rw[Bool.eq_iff_iff,decide_eq_true_eq,decide_eq_true_eq];exact j7 c
  .rintro d b ⟨rfl,rfl⟩
   refine⟨D,_,t.cps.toList.map λc=>decide (97<=c/\c<=122),rfl,SqL.of ad,?_,?_⟩
   .rw[map_map,take_of_length_le (by simp)]
    rfl
   .have n:(t.cps.toList.map λc=>decide (97<=c/\c<=122)).all id=ny t:=by
     unfold ny;rw[decide_eq_true c,Bool.true_and,all_map];rfl
    rw[n];exact q _ (Same.new p)
theorem jk(T:Txt K mg a):FnOk P w K mg base CX0 1 a.f_x a.d_x ["thing","low","high"] spWhole:=by
 refine T.F_x.ok mI (λd H Q E h=>?_) (λcdv A outer s H d Q E hr h=>?_)
 .obtain⟨x,c,f,o,rfl,_⟩:=h;rfl
 .obtain⟨x,c,f,o,rfl,g,q⟩:=h
  refine⟨_,(aj (ax (rk (az jx rfl T.z_isinstance d5 (aa (vr 0) (aa (kZ (v:=.ty "int") rfl T.z_int zT rfl) ae))) (rk (BF (az jx rfl T.z_isinstance d5 (aa (vr 0) (aa (kZ (v:=.ty "bool") rfl T.z_bool yi rfl) ae)))) (pM (rE xN xN (vr 1) (vr 0) (vr 2))))))),?_⟩;cases g with
  | int i =>
   refine⟨_,_,_,true,rfl,rfl,.int i,rfl,?_⟩;refine⟨_,_,_,false,rfl,rfl,.int i,rfl,?_⟩;exact Ai (Q:=λv=>Q v H) q
  | bl b=>exact⟨_,_,_,true,rfl,rfl,.bl b,rfl,⟨_,_,_,true,rfl,rfl,.bl b,rfl,q⟩⟩
  | non=>exact⟨_,_,_,false,rfl,rfl,.non,rfl,q⟩
  | str t h h2=>exact⟨_,_,_,false,rfl,rfl,.str t,rfl,q⟩
  | lst p xs e=>exact⟨_,_,_,false,rfl,rfl,.lst e,rfl,q⟩
  | tup p xs e=>exact⟨_,_,_,false,rfl,rfl,.tup e,rfl,q⟩
  | dK p e=>exact⟨_,_,_,false,rfl,rfl,.dK e,rfl,q⟩
theorem xf(T:Txt K mg a):FnOk P w K mg base CX0 2 a.f_Y a.d_Y ["thing"] spName:=by
 have c:FnOk P w K mg base CX0 1 _ _ _ spMade:=wW T;refine T.F_Y.ok oM (λd H Q E h=>?_) (λcdv A outer s H d Q E hr h=>?_)
 .obtain⟨x,k,rfl,_⟩:=h;rfl
 .obtain⟨x,k,rfl,f,q⟩:=h
  refine⟨_,(aj (ax (rk (az jx rfl T.z_isinstance d5 (aa (vr 0) (aa (kZ (v:=.ty "str") rfl T.z_str Ax rfl) ae))) (pM (ap c hr rfl T.m_M T.F_M.kp T.B_M .nil aq (aa (vr 0) (aa (iB rfl T.g_LETTERS) (aa (iB rfl T.g_MOST_LETTERS) ae)))))))),?_⟩;have g:sizeLine=16777216:=sizeLine_eq;cases f with
  | int i=>exact⟨_,_,_,false,rfl,rfl,.int i,rfl,q _ (Same.refl H)⟩
  | bl b=>exact⟨_,_,_,false,rfl,rfl,.bl b,rfl,q _ (Same.refl H)⟩
  | non=>exact⟨_,_,_,false,rfl,rfl,.non,rfl,q _ (Same.refl H)⟩
  | str t h h2=>exact⟨_,_,_,true,rfl,rfl,.str t,rfl,⟨t,rfl,by omega,q⟩⟩
  | lst p xs e=>exact⟨_,_,_,false,rfl,rfl,.lst e,rfl,q _ (Same.refl H)⟩
  | tup p xs e=>exact⟨_,_,_,false,rfl,rfl,.tup e,rfl,q _ (Same.refl H)⟩
  | dK p e=>exact⟨_,_,_,false,rfl,rfl,.dK e,rfl,q _ (Same.refl H)⟩
theorem m6(T:Txt K mg a):FnOk P w K mg base CX0 1 a.x_o a.y_o ["self"] (spSides a):=by
 refine T.F_o.ok gK (λf H Q E h=>?_) (λcdv A outer s H f Q E hr h=>?_)
 .obtain⟨x,h,m,n,g,rfl,_⟩:=h;rfl
 .obtain⟨x,h,m,n,g,rfl,⟨⟨d,b⟩,i⟩,q⟩:=h
  refine⟨_,(aj (ax (uN (cm rS (cL (vr 0) rfl) (cL (vr 0) rfl) (bp _)) am (aw cu (cL (vr 0) rfl) am)))),?_⟩;refine⟨x,_,d,_,_,rfl,b,T.cl_h,T.na_Pot_seen,rfl,?_⟩;refine⟨x,_,d,_,_,rfl,b,T.cl_h,T.na_Pot_most,rfl,?_⟩;unfold sides at q;refine ifC (λc=>?_) (λc=>?_)
  .rw[if_pos c]at q;exact q
  .rw[if_neg c]at q
   exact⟨x,_,d,_,_,rfl,b,T.cl_h,T.na_Pot_seen,rfl,q⟩
theorem eI(T:Txt K mg a):FnOk P w K mg base CX0 1 a.x_j a.y_j ["self"] (spThings a):=by
 refine T.F_j.ok j4 (λc H Q E h=>?_) (λcdv A outer s H c Q E b h=>?_)
 .obtain⟨x,h,m,n,i,rfl,_⟩:=h;rfl
 .obtain⟨x,h,m,n,i,rfl,⟨⟨g,d⟩,f⟩,q⟩:=h
  refine⟨_,(aj (ax (cK gI rfl T.z_list gN (aa (cL (vr 0) rfl) ae)))),?_⟩;refine⟨x,_,g,_,_,rfl,d,T.cl_h,T.na_Pot_held,rfl,?_⟩;exact⟨h,_,rfl,.inl (SqL.of f),λr b=>q _ r (Same.new b) b ad⟩
theorem ja(T:Txt K mg a):FnOk P w K mg base CX0 1 a.x_l a.y_l ["self"] (spCame a):=by
 refine T.F_l.ok mS (λb H Q E h=>?_) (λcdv A outer s H b Q E hr h=>?_)
 .obtain⟨x,h,m,n,f,rfl,_⟩:=h;rfl
 .obtain⟨x,h,m,n,f,rfl,⟨⟨d,c⟩,g⟩,q⟩:=h
  refine⟨_,(aj (ax (cL (vr 0) rfl))),?_⟩;exact⟨x,_,d,_,_,rfl,c,T.cl_h,T.na_Pot_seen,rfl,q⟩
theorem pP(T:Txt K mg a):FnOk P w K mg base CX0 1 a.i_a a.e_a ["self","place"] (spI1 a.c_a "place"):=by
 refine T.Fi_a.ok fW (λd H Q E h=>?_) (λcdv A outer s H d Q E hr h=>?_)
 .obtain⟨x,m,rfl,_⟩:=h;rfl
 .obtain⟨x,m,rfl,f,q⟩:=h
  obtain⟨b,i⟩:=T.sx_NoThrow_place;refine⟨_,(aj (xK (vr 0) (vr 1) rfl)),?_⟩;exact⟨x,a.c_a,b,rfl,i,.inl ⟨f,λg j c=>q g j c⟩⟩
theorem pZ(T:Txt K mg a):FnOk P w K mg base CX0 1 a.f_C a.d_C ["held","most","thing","throw"] spHeld:=by
 refine T.F_C.ok lO (λC H Q E h=>?_) (λcdv A outer s H C Q E hr h=>?_)
 .obtain⟨h,m,n,t,b,rfl,_⟩:=h;rfl
 .obtain⟨h,m,n,t,b,rfl,j,R,J,Z,N,q⟩:=h
  refine⟨_,(ai (cg (cm rS (az aL rfl T.z_len ce (aa (vr 0) ae)) (vr 1) (bp _)) (aj (ax (aw fo (vr 0) (bW (aa (vr 2) ae))))) aT) (ai (cg (cm rS (vr 3) (vr 1) (bp _)) (aj (ax (aw fo (aw fo (dQ eS (vr 0) jc (dq (vr 3))) (bW (aa (vr 2) ae))) (dQ eS (vr 0) (dq (aw cu (vr 3) am)) jc)))) aT) (aj (ax (vr 0))))),gg ?_⟩;intro I X;have Y:sizeLine=16777216:=sizeLine_eq;unfold j3 at q;refine⟨_,.inl (SqL.of j),?_⟩;refine ifC (λc=>?_) (λc=>?_)
  .rw[if_pos c]at q
   refine⟨(by decide:1<=sizeLine),λr g=>?_⟩;have l:=Same.new (o:=.lst [t]) g;refine⟨h,r,_,_,rfl,rfl,l _ _ j,ad,by show _+1<=_;omega,λy d=>?_⟩;refine q _ y (l.trans (Same.new d)) ?_ (.inr (l.free d));rw[ad]
  .rw[if_neg c]at q
   refine ifC (λp=>?_) (λp=>?_)
   .rw[if_pos p]at q
    have M:n.toNat<b.length:=by have z1:n<m:=p;have z2:¬((b.length:Int)<m):=c;omega
    obtain⟨k,rfl⟩:∃ k:Nat,n=(k:Int):=⟨n.toNat,by omega⟩
    have O:k<b.length:=by omega
    refine⟨_,rfl,h,_,rfl,SqL.of j,λr g=>?_⟩;have L:d9 b none (some (k:Int))=b.take k:=sX _ k (by omega);rw[L];have l:=Same.new (o:=.lst (b.take k)) g;refine⟨(by decide:1<=sizeLine),λy d=>?_⟩;have z:=Same.new (o:=.lst [t]) d;refine⟨r,y,_,_,rfl,rfl,z _ _ ad,ad,by rw[length_take];show _+1<=_;omega,λF v=>?_⟩;have G:=Same.new (o:=.lst (b.take k++[t])) v;have f:=(l.trans z).trans G;refine⟨_,rfl,h,_,rfl,SqL.of (f _ _ j),λB x=>?_⟩;have D:d9 b (some ((k:Int)+1)) none=b.drop (k+1):=tL b (k+1);rw[D];have u:=Same.new (o:=.lst (b.drop (k+1))) x;refine⟨F,B,_,_,rfl,rfl,u _ _ ad,ad,by rw[length_append,length_take,List.length_drop];show _+1+_<=_;omega,λS i=>?_⟩;refine q _ S ((f.trans u).trans (Same.new i)) ?_ (.inr ((f.trans u).free i));have W:b.set k t=b.take k++[t]++b.drop (k+1):=by rw[List.set_eq_take_append_cons_drop,if_pos O,append_assoc];rfl
    rw[ad,show((k:Int)).toNat=k from rfl,W]
   .rw[if_neg p]at q
    exact q _ h (Same.refl H) j (.inl rfl)
end
def xU(a:Ad)(H:Hp)(E:XK):Prop:=∀ H',Same H H'->E (.ref a.c_p) none H'
def BV(a:Ad)(H:Hp)(E:XK):Prop:=∀ H',Same H H'->E (.ref a.c_r) none H'
def CM(a:Ad)(H:Hp)(E:XK):Prop:=∀ H' dx,Same H H'->H' dx=some (.ext (XDct dx [("place",.int 0)]))->E (.ref a.c_a) (some dx) H'
def txK:Kd->Str
 | .s t=>t
 | _ => ""
def inI:Kd->Int
 | .i n=>n
 | _=>0
def v7(a:Ad):Sp:=λvs H Q E=>∃(x h:Addr) (m n:Int) (ts:List Str) (v u:V) (k j:Kd),vs=[.ref x,v,u]/\PotAt a H x h m n ts/\Okp m n ts/\Thg H v k/\Thg H u j/\(nmK k=false->xU a H E)/\(nmK k=true->n=300->BV a H E)/\(nmK k=true->n<300->inK 0 (sides m n - 1) j=false->CM a H E)/\(nmK k=true->n<300->inK 0 (sides m n - 1) j=true->∀ H' h',SB x H H'->PotAt a H' x h' m (n+1) (nxt m ts (txK k) (inI j))->(h'=h\/H h'=none)->Q .non H')
def uk(a:Ad):Sp:=λvs H Q _=>∃(x dx:Addr) (m:Int),vs=[.ref x,.int m]/\H x=some (.ins a.c_h dx [])/\1<=m/\m<=24/\∀ H' h,(∀ b o,b≠x->H b=some o->H' b=some o)->H h=none->PotAt a H' x h m 0 []->Q .non H'
section
variable {P:Program}{w:World}{K:Frag}{mg:Str->Option Value}{base:Heap}{a:Ad}
theorem yZ{a:Ad}{H:Hp}{E:XK}{c:Addr}{f:Hp}(s:Same f H)(q:∀ H',Same f H'->E (.ref c) none H'):∀ x,H x=none->E (.ref c) none (untr (upd H x (.ext (XD0 x c))) x):=λx g=>q _ λb o e=>by
 have d:b≠x:=λz=>by have:=s _ _ e;rw[z,g]at this;cases this
 rw[bq d,af d];exact s _ _ e
theorem xQ(T:Txt K mg a):FnOk P w K mg base (CXG P w) 4 a.x_H a.y_H ["self","thing","throw"] (v7 a):=by
 have I:FnOk P w K mg base CX0 3 _ _ _ _:=(xf T).mono (by decide);have L:FnOk P w K mg base CX0 3 _ _ _ _:=(jk T).mono (by decide);have N:FnOk P w K mg base CX0 3 _ _ _ _:=(pZ T).mono (by decide);have S:FnOk P w K mg base CX0 3 _ _ _ _:=(m6 T).mono (by decide);have O:FnOk P w K mg base CX0 2 _ _ _ _:=(pP T).mono (by decide);refine T.F_H.okG nu (λvs H Q E h=>?_) (λcdv A outer s H vs Q E hr h=>?_)
 .obtain⟨x,h,m,n,R,v,u,k,j,rfl,_⟩:=h;rfl
 .obtain⟨x,h,m,n,R,v,u,k,j,rfl,hp,ok,tv,tu,q1,q2,q3,q4⟩:=h
  refine⟨_,(ai (cg (iu (iL (ap I hr rfl T.m_Y T.F_Y.kp T.B_Y .nil aq (aa (vr 1) ae)))) (aj (dj T.xc_p T.xh_p (fU T.xi_NoThing T.kc_NoThing rfl T.mc_p))) aT) (ai (cg (cm AS (cL (vr 0) rfl) (iB rfl T.g_MOST_COME) (bp _)) (aj (dj T.xc_r T.xh_r (fU T.xi_TooMany T.kc_TooMany rfl T.mc_r))) aT) (ai (cg (iu (iL (ap L hr rfl T.m_x T.F_x.kp T.B_x .nil aq (aa (vr 2) (aa am (aa (aw gq (aD (vr 0) T.cl_h T.mt_o S hr T.B_o .nil aq) am) ae)))))) (aj (dj T.xc_a T.xh_a (AD T.xi_NoThrow T.kc_NoThrow T.fn_NoThrow O hr rfl T.mc_a T.Bi_a (aa am ae) CB))) aT) (ai (fE (vr 0) (ap N hr rfl T.m_C T.F_C.kp T.B_C .nil aq (aa (cL (vr 0) rfl) (aa (cL (vr 0) rfl) (aa (vr 1) (aa (vr 2) ae))))) rfl) (aj (rP (vr 0) am Am)))))),wd ?_⟩;intro an ab al as;refine⟨v,k,rfl,tv,λH1 d=>?_⟩;have D:=hp.same d;obtain⟨⟨q,f⟩,M⟩:=id D;obtain⟨o1,o2,o3,o4,Y⟩:=id ok;cases e1:nmK k with
  | false =>
   intro y p;refine⟨y,none,_,rfl,ad,λh z=>z,d.free p,q1 e1 _ λb o e=>?_⟩;have l:b≠y:=λz=>by have:=d _ _ e;rw[z,p]at this;cases this
   rw[bq l,af l];exact d _ _ e
  | true =>
   refine⟨x,_,q,_,_,rfl,f,T.cl_h,T.na_Pot_seen,rfl,?_⟩;refine ifC (λc=>?_) (λc=>?_)
   .have F:n=300:=by have z:n >= 300:=c;lia
    intro y p;refine⟨y,none,_,rfl,ad,λh z=>z,d.free p,q2 e1 F _ λb o e=>?_⟩;have l:b≠y:=λz=>by have:=d _ _ e;rw[z,p]at this;cases this
    rw[bq l,af l];exact d _ _ e
   .have F:n<300:=by have z:¬n >= 300:=c;lia
    refine⟨x,q,_,rfl,f,rfl,⟨x,h,m,n,R,rfl,D,?_⟩⟩;refine⟨u,0,_,j,rfl,tu.same d,?_⟩;cases e2:inK 0 (sides m n - 1) j with
    | false =>
     intro y p;refine⟨y,0,rfl,ad,λG hd r=>⟨rfl,y,some G,_,rfl,ad,λh z=>z,d.free p,?_⟩⟩;have J:H1 G=none:=by rw[af r]at hd;exact hd
     refine q3 e1 F e2 _ G (λb o e=>?_) ?_
     .have C:=d _ _ e
      have l:b≠y:=λz=>by rw[z,p]at C;cases C
      have b2:b≠G:=λz=>by rw[z,J]at C;cases C
      rw[bq l,af l,af b2,af l];exact C
     .rw[bq r,af r]
      exact ad
    | true =>
     obtain⟨i,rfl⟩:∃ i,j=.i i:=by cases j with | i n=>exact⟨n,rfl⟩ | s t=>cases e2 | o=>cases e2
     obtain⟨t,rfl⟩:∃ t,k=.s t:=by cases k with | s t=>exact⟨t,rfl⟩ | i n=>cases e1 | o=>cases e1
     cases tu;cases tv;have hi:0<=i/\i<=sides m n - 1:=of_decide_eq_true e2;refine⟨x,_,q,_,_,rfl,f,T.cl_h,T.na_Pot_held,rfl,?_⟩;refine⟨x,_,q,_,_,rfl,f,T.cl_h,T.na_Pot_most,rfl,?_⟩;refine⟨h,m,i,.str t,R.map V.str,rfl,M,by rw[length_map];split at Y <;> lia,o2,hi.1,by rw[length_map];split at Y <;> lia,λH2 h' X g hf=>?_⟩;rw[rf]at g;have B:=X _ _ f;have Z:h'≠x:=λz=>by rw[z,B]at g;cases g
     refine⟨x,_,q,_,rfl,B,T.cl_h,T.na_Pot_held,by show 3<1000;decide,?_⟩;refine⟨x,_,q,_,_,rfl,ad,T.cl_h,T.na_Pot_seen,rfl,?_⟩;refine⟨_,_,rfl,rfl,⟨q,_,ad,by show 3<1000;decide,?_⟩⟩;refine q4 e1 F e2 _ h' (λb o W e=>?_) ⟨⟨q,ad⟩,?_⟩ ?_
     .rw[af W,af W];exact X _ _ (d _ _ e)
     .rw[af Z,af Z];exact g
     .rcases hf with hf | hf
      .exact .inl hf
      .exact .inr (d.free hf)
theorem vM(T:Txt K mg a):FnOk P w K mg base CX0 3 a.i_h a.e_h ["self","most"] (uk a):=by
 have i:FnOk P w K mg base CX0 2 _ _ _ _:=(jk T).mono (by decide);refine T.Fi_h.ok iN (λn H Q E h=>?_) (λcdv A outer s H n Q E hr h=>?_)
 .obtain⟨x,c,m,rfl,_⟩:=h;rfl
 .obtain⟨x,c,m,rfl,u,v,j,q⟩:=h
  refine⟨_,(ai (cg (iu (iL (ap i hr rfl T.m_x T.F_x.kp T.B_x .nil aq (aa (vr 1) (aa am (aa (iB rfl T.g_MOST_KEPT) ae)))))) (aj uM) aT) (ai (fE (vr 0) (vr 1) rfl) (ai (fE (vr 0) am rfl) (aj (fE (vr 0) (bW ae) rfl))))),pU ?_⟩;intro p y B;refine⟨_,1,24,_,rfl,.int m,?_⟩;have e:inK 1 24 (.i m)=true:=decide_eq_true ⟨v,j⟩;rw[e];refine⟨x,_,c,_,rfl,u,T.cl_h,T.na_Pot_most,by decide,?_⟩;refine⟨x,_,c,_,rfl,ad,T.cl_h,T.na_Pot_seen,by show 1<1000;decide,?_⟩;refine⟨Nat.zero_le _,λh d=>?_⟩;have f:x≠h:=λz=>by rw[<- z,ad]at d;cases d
  refine⟨x,_,c,_,rfl,by rw[af f];exact ad,T.cl_h,T.na_Pot_held,by show 2<1000;decide,?_⟩;have l:H h=none:=by rw[af (Ne.symm f),af (Ne.symm f)]at d;exact d
  refine q _ h (λb o g e=>?_) l ⟨⟨c,ad⟩,by rw[af (Ne.symm f)];exact ad⟩;have r:b≠h:=λz=>by rw[z,l]at e;cases e
  rw[af g,af r,af g,af g];exact e
end
open Tb (Tr)
inductive spNA(a:Ad)(vs:List V)(H:Hp)(Q:VK)(E:XK):Prop
 | mk(x h y h2:Addr)(m n m2 n2:Int)(ts ts2:List Str)(h0:vs=[.ref x,.ref y])(h1:PotAt a H x h m n ts)(h2:PotAt a H y h2 m2 n2 ts2)(h3:(m=m2->Q .non H))(h4:(m≠m2->xU a H E)):spNA a vs H Q E
section
variable {P:Program}{w:World}{K:Frag}{mg:Str->Option Value}{base:Heap}{a:Ad}
theorem oj(T:Txt K mg a):FnOk P w K mg base (CXG P w) 1 a.f_y a.d_y ["one","other"] (spNA a):=by
 refine T.F_y.okG j1 (λl H Q E h=>?_) (λcdv A outer s H l Q E hr h=>?_)
 .obtain⟨x,h,y,C,m,n,b,o,B,f,rfl,_⟩:=h;rfl
 .obtain⟨x,h,y,C,m,n,b,o,B,f,rfl,u,g,D,q⟩:=h
  refine⟨_,(aj (cg (cm tG (cL (vr 0) rfl) (cL (vr 1) rfl) (bp _)) (aj (dj T.xc_p T.xh_p (fU T.xi_NoThing T.kc_NoThing rfl T.mc_p))) aT)),?_⟩;obtain⟨⟨r,p⟩,_⟩:=id u;obtain⟨⟨v,j⟩,_⟩:=id g;refine⟨x,_,r,_,_,rfl,p,T.cl_h,T.na_Pot_most,rfl,?_⟩;refine⟨y,_,v,_,_,rfl,j,T.cl_h,T.na_Pot_most,rfl,?_⟩;refine ifB (λz=>?_) λz=>?_
  .have z:(!decide (m=b))=true:=z
   have d:m≠b:=λe=>by rw[decide_eq_true e]at z;cases z
   exact λi c=>⟨i,none,_,rfl,ad,λh z=>z,c,yZ (a:=a) (Same.refl H) (q d) i c⟩
  .have z:(!decide (m=b))=false:=z
   have d:m=b:=Classical.byContradiction λe=>by rw[decide_eq_false e]at z;cases z
   exact D d
end
open Tb (Tr)
inductive spInto(a:Ad)(K:Frag)(vs:List V)(H:Hp)(Q:VK)(E:XK):Prop
 | mk(x h y h2 lk:Addr)(m n m2 n2:Int)(ts ts2:List Str)(ks:List Int)(h0:vs=[.ref x,.ref y,.ref lk])(h1:PotAt a H x h m n ts)(h2:PotAt a H y h2 m2 n2 ts2)(h3:1<=m)(h4:m<=24)(h5:ts.length<=24)(h6:ts2.length<=24)(h7:SqT K H lk (ks.map V.int))(h8:ks.length<=24)(h9:(∀ k∈ks,0<=k/\k<((ts++ts2).length:Int)))(h10:(m≠m2->xU a H E))(h11:(m=m2->300<n+n2->BV a H E))(h12:(m=m2->n+n2<=300->∀ H' z hz,Same H H'->H z=none->H hz=none->PotAt a H' z hz m (n+n2) (ks.map λk=>(ts++ts2).getD k.toNat "")->Q (.ref z) H')):spInto a K vs H Q E
theorem kN{H:Hp}{x dx:Addr}{C:Addr}(a:H x=none)(c:H dx=none):Same H (upd (upd H dx (.own x)) x (.ins C dx [])):=λb o e=>by
 have d:b≠x:=λz=>by rw[z,a]at e;cases e
 have f:b≠dx:=λz=>by rw[z,c]at e;cases e
 rw[af d,af f];exact e
section
variable {P:Program}{w:World}{K:Frag}{mg:Str->Option Value}{base:Heap}{a:Ad}
theorem xk(T:Txt K mg a):FnOk P w K mg base (CXG P w) 5 a.f_ae a.d_ae ["one","other","kept"] (spInto a K):=by
 have a1:FnOk P w K mg base (CXG P w) 4 _ _ _ (spNA a):=(oj T).mono (by decide);have an:FnOk P w K mg base CX0 3 _ _ _ _:=(vM T).mono (by decide);have u:FnOk P w K mg base CX0 4 _ _ _ _:=(ja T).mono (by decide);have Z:FnOk P w K mg base CX0 4 _ _ _ _:=(eI T).mono (by decide);refine T.F_ae.okG sc_ae (λvs H Q E h=>?_) (λcdv A outer s H vs Q E hr h=>?_)
 .obtain⟨x,h,y,Y,lk,m,n,L,l,g,d,J,rfl,_⟩:=h;rfl
 .obtain⟨x,h,y,Y,lk,m,n,L,l,g,d,J,rfl,M,r,m1,a2,l1,l2,hk,a',as,q1,q2,q3⟩:=h
  have a0:sizeLine=16777216:=sizeLine_eq;refine⟨_,(ai (cX (ap a1 hr rfl T.m_y T.F_y.kp T.B_y .nil vU (aa (vr 0) (aa (vr 1) ae)))) (ai (cg (cm zK (aw cu (aD (vr 0) T.cl_h T.mt_l u hr T.B_l .nil aq) (aD (vr 1) T.cl_h T.mt_l u hr T.B_l .nil aq)) (iB rfl T.g_MOST_COME) (bp _)) (aj (dj T.xc_r T.xh_r (fU T.xi_TooMany T.kc_TooMany rfl T.mc_r))) aT) (ai (aM (i:=3) sc_ae.nd rfl (Or.inr rfl) (aw fo (aD (vr 0) T.cl_h T.mt_j Z hr T.B_j .nil aq) (aD (vr 1) T.cl_h T.mt_j Z hr T.B_j .nil aq))) (ai (aM (i:=4) sc_ae.nd rfl (Or.inl rfl) (eM T.mk_h an hr rfl T.mc_h T.Bi_h .nil aq (aa (cL (vr 0) rfl) ae))) (ai (fE (vr 4) (aw cu (aD (vr 0) T.cl_h T.mt_l u hr T.B_l .nil aq) (aD (vr 1) T.cl_h T.mt_l u hr T.B_l .nil aq)) rfl) (ai (fE (vr 4) (cJ rfl (N:=["place","things"]) (ix:=[none,some 3]) ⟨rfl,rfl,rfl,rfl,⟨rfl,rfl,rfl,trivial⟩⟩ (bI (vr 2)) ⟨λC s H fp=>ar (i:=0) (show List.Nodup (["place","things"]:List Str) by decide +kernel) rfl (Or.inl rfl),λC s H fp=>cH,λC s H fp=>(ci (lD (K:=K) rfl) (vr 1) (vr 0) (λ_ _=>rfl))⟩) rfl) (aj (ax (vr 4))))))))),BX ?_⟩;intro a8 a6 bl bg a9 a7;obtain⟨⟨dx,hx⟩,_⟩:=id M;obtain⟨⟨dy,hy⟩,_⟩:=id r;refine⟨x,h,y,Y,m,n,L,l,g,d,rfl,M,r,λem=>?_,λnm=>q1 nm⟩;refine⟨x,dx,_,rfl,hx,rfl,⟨x,h,m,n,g,rfl,M,⟨y,dy,_,rfl,hy,rfl,⟨y,Y,L,l,d,rfl,r,?_⟩⟩⟩⟩;refine ifC (λc=>?_) λc=>?_
  .have c':300<n+l:=c
   exact λy3 X=>⟨y3,none,_,rfl,ad,λh z=>z,X,yZ (a:=a) (Same.refl H) (q2 em c') y3 X⟩
  have c':n+l<=300:=by have z:¬300<n+l:=c;lia
  refine⟨x,dx,_,rfl,hx,rfl,⟨x,h,m,n,g,rfl,M,λH1 r1 s1 f1 ab=>⟨y,dy,_,rfl,s1 _ _ hy,rfl,⟨y,Y,L,l,d,rfl,r.same s1,λH2 r2 s2 f2 hr2=>⟨r1,r2,_,_,rfl,rfl,s2 _ _ ab,hr2,by rw[length_map,length_map];lia,λr3 fr3=>?_⟩⟩⟩⟩⟩;have s3:=(s1.trans s2).trans (Same.new (o:=.lst (g.map V.str++d.map V.str)) fr3);have F:(upd H2 r3 (.lst (g.map V.str++d.map V.str))) r3=some (.lst ((g++d).map V.str)):=by rw[ad,map_append]
  generalize upd H2 r3 (.lst (g.map V.str++d.map V.str))=H3 at s3 F;refine⟨x,_,dx,_,_,rfl,s3 _ _ hx,T.cl_h,T.na_Pot_most,rfl,λz dz fz a3 nz=>⟨z,dz,m,rfl,ad,m1,a2,λH4 h4 fr4 fh4 pot4=>⟨rfl,?_⟩⟩⟩;have s4:Same H3 H4:=λb o e=>fr4 b o (λw=>by rw[w,fz]at e;cases e) (kN (C:=a.c_h) fz a3 b o e)
  have q:=s3.trans s4;have G:H z=none:=s3.free fz;obtain⟨⟨f,al⟩,a5⟩:=id pot4;refine⟨x,dx,_,rfl,q _ _ hx,rfl,⟨x,h,m,n,g,rfl,M.same q,⟨y,dy,_,rfl,q _ _ hy,rfl,⟨y,Y,L,l,d,rfl,r.same q,?_⟩⟩⟩⟩;refine⟨z,_,f,_,rfl,al,T.cl_h,T.na_Pot_seen,by show 3<1000;decide,?_⟩;have p:Same H (upd H4 z (.ins a.c_h f (d4 "seen" (.int (n+l)) [("most",.int m),("seen",.int 0),("held",.ref h4)]))):=q.put G;have I:(upd H4 z (.ins a.c_h f (d4 "seen" (.int (n+l)) [("most",.int m),("seen",.int 0),("held",.ref h4)]))) z=some (.ins a.c_h f [("most",.int m),("seen",.int (n+l)),("held",.ref h4)]):=ad;have zr:r3≠z:=λe=>by rw[e,fz]at F;cases F
  have R:(upd H4 z (.ins a.c_h f (d4 "seen" (.int (n+l)) [("most",.int m),("seen",.int 0),("held",.ref h4)]))) r3=some (.lst ((g++d).map V.str)):=by rw[af zr];exact s4 _ _ F
  generalize upd H4 z (.ins a.c_h f (d4 "seen" (.int (n+l)) [("most",.int m),("seen",.int 0),("held",.ref h4)]))=H5 at p I R;refine .inr ⟨⟨_,p.sqT hk⟩,λD O=>?_⟩;have zD:z≠D:=λe=>by rw[<- e,I]at O;cases O
  let Pw1:PvL:=λi zs W=>(i<=J.length)/\Same H5 W/\W D=some (.lst zs)/\zs=((J.take i).map λk=>(g++d).getD k.toNat "").map V.str
  refine mC (K:=K) (a:=lk) (xs:=J.map V.int) Pw1 ⟨Nat.zero_le _,Same.new O,ad,rfl⟩ (λi ys W h=>(p.trans h.2.1).sqT hk) (λi ys W h=>h.2.2.1) ?_ ?_
  .rintro i v zs W P' hv ⟨hi,S,B,rfl⟩ hP
   rw[List.getElem?_map]at hv;cases hw:J[i]? with
   | none=>rw[hw]at hv;cases hv
   | some k =>
    rw[hw]at hv;cases hv;have a4:i<J.length:=(List.getElem?_eq_some_iff.mp hw).1;obtain⟨k0,k1⟩:=as k (List.mem_of_getElem? hw)
    obtain⟨j,rfl⟩:∃ j:Nat,k=(j:Int):=⟨k.toNat,by lia⟩
    have jl:j<(g++d).length:=by lia
    have gj:(g++d)[j]? = some ((g++d).getD j ""):=by rw[List.getD,List.getElem?_eq_getElem jl];rfl
    refine⟨⟨rfl,trivial⟩,.inl ⟨r3,_,_,_,rfl,rfl,SqL.of (S _ _ R),gC (by rw[List.getElem?_map,gj];rfl),B,by rw[length_map,length_map,length_take];lia,hP _ _ ⟨a4,S.put O,ad,?_⟩⟩⟩;rw[take_add_one,hw];simp
  .rintro zs H6 ⟨_,S,B,rfl⟩
   rw[length_map,take_length]at B;refine⟨z,_,f,_,rfl,S _ _ I,T.cl_h,T.na_Pot_held,by show 3<1000;decide,?_⟩;exact q3 em c' _ z D ((p.trans S).put G) G (p.free O) ⟨⟨f,ad⟩,by rw[af (Ne.symm zD)];exact B⟩
end
open Tb (Tr)
inductive spWo(vs:List V)(H:Hp)(Q:VK)(_E:XK):Prop
 | mk(p l:Addr)(c:Int)(ps:List Int)(x:Int)(h0:vs=[.ref p,.int x])(h1:H p=some (.tup [.int c,.ref l]))(h2:H l=some (.lst (ps.map V.int)))(h3:ps.length<=24)(h4:∀ H' q l',Same H H'->H q=none->H l'=none->H' q=some (.tup [.int (c - 1),.ref l'])->H' l'=some (.lst ((Tb.wo ps x).map V.int))->Q (.ref q) H'):spWo vs H Q _E
theorem qR{ps:List Int}{x y:Int}{i:Nat}(h:ps[i]? = some y):Tb.wo (ps.take (i+1)) x=Tb.wo (ps.take i) x++if y=x then [] else [y]:=by
 unfold Tb.wo;rw[take_add_one,h,filter_append]
 by_cases c:y=x <;> simp[c]
section
variable {P:Program}{w:World}{K:Frag}{mg:Str->Option Value}{base:Heap}{a:Ad}
theorem jA(T:Txt K mg a):FnOk P w K mg base CX0 1 a.f_S a.d_S ["pot","place"] spWo:=by
 refine T.F_S.ok oQ (λL H Q E h=>?_) (λcdv A outer s H L Q E hr h=>?_)
 .obtain⟨p,l,c,g,x,rfl,_⟩:=h;rfl
 .obtain⟨p,l,c,g,x,rfl,G,I,O,q⟩:=h
  have f:sizeLine=16777216:=sizeLine_eq;refine⟨_,(aj (ax (bT (aa (aw gq (ci bj (vr 0) am (λ_ _=>rfl)) am) (aa (cJ rfl (N:=["left","place"]) (ix:=[none,some 1]) ⟨rfl,rfl,rfl,rfl,⟨rfl,rfl,rfl,trivial⟩⟩ (bI (ci bj (vr 0) am (λ_ _=>rfl))) ⟨λC s H fp=>ar (i:=0) (show List.Nodup (["left","place"]:List Str) by decide +kernel) rfl (Or.inl rfl),λC s H fp=>qK (cm tG (vr 0) (vr 1) (bp _)),λC s H fp=>(vr 0)⟩) ae))))),?_⟩;refine .inr (.inl ⟨p,_,_,_,rfl,rfl,SqT.of G,aJ 0 rfl rfl,?_⟩);refine .inr (.inl ⟨p,_,_,_,rfl,rfl,SqT.of G,aJ 1 rfl rfl,.inl ⟨⟨_,SqL.of I⟩,λD B=>?_⟩⟩)
  let Pw1:PvL:=λi u o=>(i<=g.length)/\Same H o/\o D=some (.lst u)/\u=(Tb.wo (g.take i) x).map V.int
  refine cE (K:=K) (a:=l) (xs:=g.map V.int) Pw1 ⟨Nat.zero_le _,Same.new B,ad,rfl⟩ (λi R o h=>SqL.of (h.2.1 _ _ I)) (λi R o h=>h.2.2.1) ?_ ?_
  .rintro i y u o W j ⟨X,r,b,rfl⟩ J
   rw[List.getElem?_map]at j;cases hw:g[i]? with
   | none=>rw[hw]at j;cases j
   | some v =>
    rw[hw]at j;cases j;have n:i<g.length:=(List.getElem?_eq_some_iff.mp hw).1;have Y:(Tb.wo (g.take i) x).length<=24:=Nat.le_trans (length_filter_le _ _) (by rw[length_take];lia);refine⟨⟨rfl,trivial⟩,ifB (λz=>?_) λz=>?_⟩
    .have z:(!decide (v=x))=true:=z
     have F:v≠x:=λe=>by rw[decide_eq_true e]at z;cases z
     refine⟨b,by rw[length_map];lia,J _ _ ⟨n,r.put B,ad,?_⟩⟩;rw[qR hw,if_neg F,map_append];rfl
    .have z:(!decide (v=x))=false:=z
     have F:v=x:=Classical.byContradiction λe=>by rw[decide_eq_false e]at z;cases z
     refine J _ _ ⟨n,r,b,?_⟩;rw[qR hw,if_pos F,append_nil]
  .rintro u S ⟨_,r,b,rfl⟩
   rw[length_map,take_length]at b;refine⟨by rw[f];exact show(2:Nat)<=_ by decide,λM d=>?_⟩;exact q _ M D (r.trans (Same.new d)) (r.free d) B ad (Same.new d _ _ b)
end
open Tb (Tr pN cM wo Pv stm stP Hd)
theorem ak{d f:Type}{r c:d->f->Prop}(h:∀ a b,r a b->c a b):∀{as:List d}{bs:List f},Paired r as bs->Paired c as bs
 | _,_,.nil=>.nil
 | _,_,.cons x t=>.cons (h _ _ x) (ak h t)
theorem bB{c d:Type}{r:c->d->Prop}{a:c}{b:d}(h:r a b):∀{as:List c}{bs:List d},Paired r as bs->Paired r (as++[a]) (bs++[b])
 | _,_,.nil=>.cons h .nil
 | _,_,.cons x t=>.cons x (bB h t)
theorem cQ{b a:Type}{r:b->a->Prop}:∀{as:List b}{bs:List a}{i:Nat}{y:a},Paired r as bs->bs[i]? = some y->∃ x,as[i]? = some x/\r x y
 | _,_,_,_,.nil,h=>by cases h
 | _,_,0,_,.cons r _,h=>⟨_,rfl,by cases h;exact r⟩
 | _,_,i+1,_,.cons _ t,h=>cQ (i:=i) t h
def Srt(ns kept:List Int):Prop:=ns.Perm kept/\ns.Pairwise (·<=·)
def IsTold(a:Ad)(H:Hp)(v:V)(kept:List Int):Prop:=∃ x dx t ns,v=.ref x/\H x=some (.ins a.c_g dx [("rising",.ref t)])/\H t=some (.tup (ns.map V.int))/\Srt ns kept
def IsLam(H:Hp)(d:LamD)(fv:List Str)(v:V)(vals:List V):Prop:=∃ f c clos,v=.ref f/\H f=some (.ext (gG f d clos c))/\H c=some (.ext (fe c d.qual))/\clos.map (·.1)=fv/\(clos.map (·.2)).Nodup/\CellsAt H clos vals
theorem db{H a:Hp}(s:SameT H a):∀{clos:List (Str×Addr)}{vals:List V},CellsAt H clos vals->CellsAt a clos vals
 | _,_,.nil=>.nil
 | _,_,.cons r t=>.cons (s.at r) (db s t)
theorem IsLam.t{H g:Hp}{d:LamD}{i:List Str}{v:V}{a:List V}(s:SameT H g)(h:IsLam H d i v a):IsLam g d i v a:=by
 obtain⟨f,c,b,p,l,j,q,n,o⟩:=h;exact⟨f,c,b,p,s.at l,s.at j,q,n,db s o⟩
theorem IsTold.t{a:Ad}{H c:Hp}{v:V}{b:List Int}(s:SameT H c)(h:IsTold a H v b):IsTold a c v b:=by
 obtain⟨x,f,t,j,g,i,d,l⟩:=h;exact⟨x,f,t,j,g,s.at i,s.at d,l⟩
inductive spToldI(a:Ad)(vs:List V)(H:Hp)(Q:VK)(_E:XK):Prop
 | mk(x dx l:Addr)(ns:List Int)(h0:vs=[.ref x,.ref l])(h1:H x=some (.ins a.c_g dx []))(h2:(H l=some (.lst (ns.map V.int))\/H l=some (.tup (ns.map V.int))))(h3:ns.length<64)(h4:∀ H' t ns',(∀ b o,b≠x->H b=some o->H' b=some o)->H' x=some (.ins a.c_g dx [("rising",.ref t)])->H' t=some (.tup (ns'.map V.int))->Srt ns' ns->Q .non H'):spToldI a vs H Q _E
inductive spDieI(a:Ad)(vs:List V)(H:Hp)(Q:VK)(_E:XK):Prop
 | mk(x dx l:Addr)(xs:List V)(h0:vs=[.ref x,.ref l])(h1:H x=some (.ins a.c_n dx []))(h2:H l=some (.lst xs))(h3:∀ H' t,H t=none->(∀ b o,b≠x->H b=some o->H' b=some o)->H' x=some (.ins a.c_n dx [("makes",.ref t)])->H' t=some (.lst xs)->Q .non H'):spDieI a vs H Q _E
theorem dI{b c:Type}{r:b->c->Prop}{a:List b}{x:b}{i:Nat}{d:List c}{y:c}(h:Paired r (a.take i) d)(e:a[i]? = some x)(q:r x y):Paired r (a.take (i+1)) (d++[y]):=by
 rw[take_add_one,e];exact bB q h
def Bad(H:Hp)(Bd:List Addr):Prop:=∀ b∈Bd,∃ ys,H b=some (.lst ys)
theorem Bad.t{H a:Hp}{c:List Addr}(s:SameT H a)(h:Bad H c):Bad a c:=λb d=>let ⟨ys,e⟩:=h b d;⟨ys,s.at e⟩
theorem aF{H a:Hp}{es:List Addr}(s:SameT H a):SameT (untrs H es) (untrs a es):=λb o e=>by
 by_cases hb:b∈es
 .rw[eJ hb]at e;cases e
 .rw[ba hb]at e ⊢;exact s b o e
theorem av{H:Hp}{es:List Addr}{b:Addr}{o:HO}(e:untrs H es b=some o):b ∉ es/\H b=some o:=by
 by_cases hb:b∈es
 .rw[eJ hb]at e;cases e
 .rw[ba hb]at e;exact⟨hb,e⟩
theorem cZ{H:Hp}{es:List Addr}:SameT (untrs H es) H:=λb o e=>⟨λ_=>(av e).2,o,(av e).2⟩
theorem bu{H:Hp}{d:List Addr}{b:Addr}{o:HO}(a:Bad H d)(e:H b=some o)(n:∀ ys,o≠.lst ys):untrs H d b=some o:=by
 rw[ba λz=>?_]
 .exact e
 .obtain⟨ys,c⟩:=a b z
  rw[e]at c;exact n ys (Option.some.inj c)
theorem eF{H:Hp}{i:List Addr}(a:Bad H i){d:LamD}{o:List Str}{f:V}{g:List V}(h:IsLam H d o f g):IsLam (untrs H i) d o f g:=by
 obtain⟨q,c,b,u,j,p,l,n,s⟩:=h;refine⟨q,c,b,u,bu a j (λ_ z=>nomatch z),bu a p (λ_ z=>nomatch z),l,n,?_⟩;clear j p l n
 induction s with
 | nil=>exact .nil
 | cons r _ ih=>exact .cons (bu a r (λ_ z=>nomatch z)) ih
theorem kE{a:Ad}{H:Hp}{d:List Addr}(b:Bad H d){u:V}{f:List Int}(h:IsTold a H u f):IsTold a (untrs H d) u f:=by
 obtain⟨x,i,t,c,j,l,g,n⟩:=h;exact⟨x,i,t,c,j,bu b l (λ_ z=>nomatch z),bu b g (λ_ z=>nomatch z),n⟩
theorem dS{H:Hp}{d:List Addr}(c:Bad H d){b:List (Str×Addr)}{a:List V}(h:CellsAt H b a):CellsAt (untrs H d) b a:=by
 induction h with
 | nil=>exact .nil
 | cons r _ ih=>exact .cons (bu c r (λ_ z=>nomatch z)) ih
theorem di(H:Hp)(es a:List Addr):untrs (untrs H es) a=untrs (untrs H a) es:=by
 funext b
 unfold untrs
 split <;> split <;> rfl
theorem fQ(H:Hp):untrs H []=H:=by funext b;exact ba (by simp)
theorem iw{H:Hp}{f:List Addr}{a:List (Str×Addr)}{c:List V}(h:CellsAt H a c)(d:Bad H f):Bad (untrs H (a.map (·.2))) f:=λb g=>let ⟨ys,e⟩:=d b g;⟨ys,bQ h e λv z=>nomatch z⟩
theorem dH{H:Hp}{es:List Addr}{b:Addr}{o:HO}(a:b∈es):SameT (untrs H es) (untrs (upd H b o) es):=λc u e=>by
 obtain⟨n,d⟩:=av e;have:untrs (upd H b o) es c=some u:=by rw[ba n,af (λz=>n (by rw[z];exact a))];exact d
 exact⟨λ_=>this,u,this⟩
theorem ii{H b:Hp}{es:List Addr}{D:Addr}(s:SameT H b)(h:H D=none):SameT (untrs H es) (untrs b (D::es)):=λc u e=>by
 obtain⟨n,a⟩:=av e
 have d:c ∉ D::es:=λz=>by
  rcases mem_cons.mp z with z | z
  .rw[z,h]at a;cases a
  .exact n z
 rw[ba d];exact s c u a
theorem gX{H:Hp}{es:List Addr}{D:Addr}:SameT (untrs H (D::es)) (untrs H es):=λc u e=>by
 obtain⟨n,a⟩:=av e;have:untrs H es c=some u:=by rw[ba (λz=>n (mem_cons_of_mem _ z))];exact a
 exact⟨λ_=>this,u,this⟩
theorem LamOk.mono{P:Program}{w:World}{K:Frag}{mg:Str->Option Value}{a:Heap}{j k:Nat}{d:LamD}{l ps:List Str}{sp:List V->Sp}(L:LamOk P w K mg a j d l ps sp)(h:j<=k):LamOk P w K mg a k d l ps sp:=λA b s H f c i p n g Q E o=>L A b s H f c i p n g Q E (o.mono h)
theorem TabsOk.untrs{b:mH}{H:Hp}{a:List (Str×Addr)}{d:List V}(i:TabsOk b H)(f:CellsAt H a d):TabsOk b (untrs H (a.map (·.2))):=λq g=>by
 obtain⟨n,o,h,j⟩:=i q g;exact⟨n,bQ f o (λv z=>nomatch z),h,λl hl=>(j l hl).imp id λ⟨c,x,y⟩=>⟨c,x,bQ f y λv=>lr⟩⟩
theorem ml{H d c:Hp}{a:List (Str×Addr)}(s:SameT (untrs H (a.map (·.2))) d)(h:Same d c)(f:∀ p∈a,c p.2=H p.2):SameT H c:=λb o e=>by
 by_cases hb:b∈a.map (·.2)
 .obtain⟨p,g,rfl⟩:=mem_map.mp hb
  rw[f p g,e];exact⟨λ_=>rfl,o,rfl⟩
 .exact(s.trans h.t) b o (by rw[ba hb];exact e)
theorem LamOkC.mono{P:Program}{w:World}{K:Frag}{mg:Str->Option Value}{a:Heap}{j k:Nat}{d:LamD}{l ps:List Str}{sp:List (Str×Addr)->List V->Sp}(L:LamOkC P w K mg a j d l ps sp)(h:j<=k):LamOkC P w K mg a k d l ps sp:=λA b s H f c i p n g Q E o=>L A b s H f c i p n g Q E (o.mono h)
abbrev fvP:List Str:=["wanted","taken","other","one"]
abbrev fvG:List Str:=["place","go"]
abbrev fvH:List Str:=["number","many","held"]
structure Pd where
 c1:Nat
 P1:List Int
 c2:Nat
 P2:List Int
 tk:List Int
def Pd.one(x:Pd)(p:Int):Pd:=⟨x.c1 - 1,wo x.P1 p,x.c2,x.P2,x.tk++[p]⟩
def Pd.two(x:Pd)(p:Int):Pd:=⟨x.c1,x.P1,x.c2 - 1,wo x.P2 p,x.tk++[p]⟩
def Pd.tr(x:Pd)(w:Nat):Tr:=pN w x.c1 x.P1 x.c2 x.P2 x.tk
def Pd.f1(x:Pd)(w:Nat):Tr:=cM x.P1 λp=>(x.one p).tr w
def Pd.f2(x:Pd)(w:Nat):Tr:=cM x.P2 λp=>(x.two p).tr w
structure Pd.Ok(x:Pd)(w:Nat):Prop where
 pv:Pv w x.c1 x.P1 x.c2 x.P2 x.tk
 l1:x.P1.length<=24
 l2:x.P2.length<=24
 m1:x.c1<=300
 m2:x.c2<=300
theorem yz(ps:List Int)(p:Int):(wo ps p).length<=ps.length:=length_filter_le _ _
theorem Pd.Ok.one{x:Pd}{w:Nat}(h:x.Ok (w+1))(b:0<x.c1){p:Int}(a:p∈x.P1):(x.one p).Ok w:=⟨h.pv.one b a,Nat.le_trans (yz _ _) h.l1,h.l2,Nat.le_trans (Nat.sub_le _ _) h.m1,h.m2⟩
theorem Pd.Ok.two{x:Pd}{w:Nat}(h:x.Ok (w+1))(b:0<x.c2){p:Int}(a:p∈x.P2):(x.two p).Ok w:=⟨h.pv.two b a,h.l1,Nat.le_trans (yz _ _) h.l2,h.m1,Nat.le_trans (Nat.sub_le _ _) h.m2⟩
def mz(w c1 c2:Nat):Nat:=if w=0 then 0 else (if c1=0 then 0 else 1)+if c2=0 then 0 else 1
theorem gu(w c1 c2:Nat):mz w c1 c2<=2:=by
 unfold mz
 split
 .lia
 .split <;> split <;> lia
theorem zO{w c1 c2 s j:Nat}(i:Tb.Iv (w+1) c1 s)(a:0<c1)(h:mz (w+1) c1 c2<=j+1)(e:s=1):mz w (c1 - 1) c2<=j:=by
 unfold mz at *;have i:s=c1\/w+1<=s:=i;rw[if_neg (by lia),if_neg (show ¬c1=0 by lia)]at h
 by_cases z:w=0
 .rw[if_pos z];lia
 .rw[if_neg z,if_pos (show c1 - 1=0 by lia)];lia
theorem ud{w c1 c2 s j:Nat}(i:Tb.Iv (w+1) c2 s)(a:0<c2)(h:mz (w+1) c1 c2<=j+1)(e:s=1):mz w c1 (c2 - 1)<=j:=by
 unfold mz at *;have i:s=c2\/w+1<=s:=i;rw[if_neg (by lia),if_neg (show ¬c2=0 by lia)]at h
 by_cases z:w=0
 .rw[if_pos z];lia
 .rw[if_neg z,if_pos (show c2 - 1=0 by lia)];lia
theorem qr{w c1 c2:Nat}(h:mz (w+1) c1 c2<=0):c1=0/\c2=0:=by
 unfold mz at h;rw[if_neg (by lia)]at h
 constructor
 .by_cases z:c1=0
  .exact z
  .rw[if_neg z]at h;lia
 .by_cases z:c2=0
  .exact z
  .rw[if_neg z]at h;lia
def PtT(H:Hp)(v:V)(c:Nat)(ps:List Int):Prop:=∃ p l,v=.ref p/\H p=some (.tup [.int (c:Nat),.ref l])/\H l=some (.lst (ps.map V.int))
theorem PtT.t{H a:Hp}{v:V}{c:Nat}{ps:List Int}(s:SameT H a)(h:PtT H v c ps):PtT a v c ps:=let ⟨p,l,e,h1,h2⟩:=h;⟨p,l,e,s.at h1,s.at h2⟩
def LsT(H:Hp)(v:V)(ps:List Int):Prop:=∃ l,v=.ref l/\H l=some (.lst (ps.map V.int))
theorem LsT.t{H a:Hp}{v:V}{ps:List Int}(s:SameT H a)(h:LsT H v ps):LsT a v ps:=let ⟨l,e,h1⟩:=h;⟨l,e,s.at h1⟩
structure Pw(H:Hp)(v1 v2 vt:V)(w:Nat)(x:Pd):Prop where
 h1:PtT H v1 x.c1 x.P1
 h2:PtT H v2 x.c2 x.P2
 ht:LsT H vt x.tk
 ok:x.Ok w
theorem Pw.t{H a:Hp}{c d b:V}{w:Nat}{x:Pd}(s:SameT H a)(h:Pw H c d b w x):Pw a c d b w x:=⟨h.h1.t s,h.h2.t s,h.ht.t s,h.ok⟩
theorem Pw.un{H:Hp}{a:List (Str×Addr)}{c:List V}(b:CellsAt H a c){g d f:V}{w:Nat}{x:Pd}(h:Pw H g d f w x):Pw (untrs H (a.map (·.2))) g d f w x:=by
 obtain⟨⟨o,B,r,s,p⟩,⟨u,j,l,q,i⟩,⟨C,y,n⟩,A⟩:=h;exact⟨⟨o,B,r,bQ b s (λv z=>nomatch z),bQ b p λv z=>nomatch z⟩,⟨u,j,l,bQ b q (λv z=>nomatch z),bQ b i λv z=>nomatch z⟩,⟨C,y,bQ b n λv z=>nomatch z⟩,A⟩
def IsGo(j:Nat)(H:Hp)(go:V)(g:Int->Tr)(ps:List Int):Prop:=∃ v1 v2 vt w x,Pw H v1 v2 vt (w+1) x/\((IsLam H cC fvP go [.int ((w+1:Nat):Int),vt,v2,v1]/\0<x.c1/\ps=x.P1/\g=(λp=>(x.one p).tr w)/\(ps.length=1->mz w (x.c1 - 1) x.c2<=j))\/(IsLam H bM fvP go [.int ((w+1:Nat):Int),vt,v2,v1]/\0<x.c2/\ps=x.P2/\g=(λp=>(x.two p).tr w)/\(ps.length=1->mz w x.c1 (x.c2 - 1)<=j)))
theorem IsGo.t{j:Nat}{H a:Hp}{go:V}{g:Int->Tr}{ps:List Int}(s:SameT H a)(h:IsGo j H go g ps):IsGo j a go g ps:=by
 obtain⟨c,d,f,w,x,b,h⟩:=h;exact⟨c,d,f,w,x,b.t s,h.imp (λh=>⟨h.1.t s,h.2⟩) λh=>⟨h.1.t s,h.2⟩⟩
theorem IsGo.up{j:Nat}{H:Hp}{go:V}{g:Int->Tr}{ps:List Int}(h:IsGo j H go g ps):IsGo 2 H go g ps:=by
 obtain⟨c,d,b,w,x,a,h⟩:=h;exact⟨c,d,b,w,x,a,h.imp (λh=>⟨h.1,h.2.1,h.2.2.1,h.2.2.2.1,λ_=>gu _ _ _⟩) λh=>⟨h.1,h.2.1,h.2.2.1,h.2.2.2.1,λ_=>gu _ _ _⟩⟩
theorem IsGo.few{j:Nat}{H:Hp}{go:V}{g:Int->Tr}{ps:List Int}(h:IsGo j H go g ps):1<=ps.length/\ps.length<=24:=by
 obtain⟨c,d,f,w,x,a,⟨_,b,rfl,_⟩ | ⟨_,b,rfl,_⟩⟩:=h
 .exact⟨a.ok.pv.ne1 b,a.ok.l1⟩
 .exact⟨a.ok.pv.ne2 b,a.ok.l2⟩
def IsMk(H:Hp)(f:V)(t:Tr):Prop:=(∃ v1 v2 vt w x,Pw H v1 v2 vt (w+1) x/\((IsLam H bG fvP f [.int ((w+1:Nat):Int),vt,v2,v1]/\0<x.c1/\t=x.f1 w)\/(IsLam H bE fvP f [.int ((w+1:Nat):Int),vt,v2,v1]/\0<x.c2/\t=x.f2 w))) \/
 (∃ f' c clos go p g ps,f=.ref f'/\H f'=some (.ext (gG f' ld_going_1 clos c))/\H c=some (.ext (fe c ld_going_1.qual))/\clos.map (·.1)=fvG/\(clos.map (·.2)).Nodup/\CellsAt H clos [.int p,go]/\IsGo 2 (untrs H (clos.map (·.2))) go g ps/\p∈ps/\t=g p) \/
 ∃(l:Addr) (held:List Int) (n many s:Nat),IsLam H bb fvH f [.int (n:Nat),.int (many:Nat),.ref l]/\H l=some (.lst (held.map V.int))/\t=stm s held (n+1)/\n+1+s=many/\many<=24/\Hd held (n+1)
theorem IsMk.t{H q:Hp}{f:V}{t:Tr}(s:SameT H q)(h:IsMk H f t):IsMk q f t:=by
 rcases h with⟨A,u,y,w,x,D,h⟩ | ⟨C,c,b,z,p,g,F,i,j,o,G,v,B,E,r⟩ | ⟨l,a,n,d,k,i,j,o⟩
 .exact .inl ⟨A,u,y,w,x,D.t s,h.imp (λh=>⟨h.1.t s,h.2⟩) λh=>⟨h.1.t s,h.2⟩⟩
 .exact .inr (.inl ⟨C,c,b,z,p,g,F,i,s.at j,s.at o,G,v,db s B,E.t (aF s),r⟩)
 .exact .inr (.inr ⟨l,a,n,d,k,i.t s,s.at j,o⟩)
def NdR(H:Hp)(pt:Int×Tr)(y:V):Prop:=∃ q f,y=.ref q/\H q=some (.tup [.int pt.1,f])/\1<=pt.1/\IsMk H f pt.2
theorem NdR.t{H b:Hp}(s:SameT H b)(a:Int×Tr)(y:V)(h:NdR H a y):NdR b a y:=by
 obtain⟨q,f,d,g,c,i⟩:=h;exact⟨q,f,d,s.at g,c,i.t s⟩
def IsNd(a:Ad)(H:Hp)(v:V):Tr->Prop
 | .leaf ns=>IsTold a H v ns
 | .die ps=>∃ x dx l ys,v=.ref x/\H x=some (.ins a.c_n dx [("makes",.ref l)])/\H l=some (.lst ys)/\Paired (NdR H) ps ys/\1<=ps.length/\ps.length<=5000
theorem IsNd.t{a:Ad}{H b:Hp}{v:V}(s:SameT H b):∀{t:Tr},IsNd a H v t->IsNd a b v t
 | .leaf _,h=>IsTold.t s h
 | .die _,h=>by
  obtain⟨x,f,l,d,i,j,c,n,g⟩:=h;exact⟨x,f,l,d,i,s.at j,s.at c,ak (NdR.t s) n,g⟩
def Res(a:Ad)(H:Hp)(Bd:List Addr)(t:Tr)(Q:VK):Prop:=∀ H' u,SameT H H'->TabsOk (tabs a) H'->IsNd a (untrs H' Bd) u t->Q u H'
inductive spPN(j:Nat)(a:Ad)(vs:List V)(H:Hp)(Q:VK)(_E:XK):Prop
 | mk(v1 v2 vt:V)(w:Nat)(x:Pd)(Bd:List Addr)(h0:vs=[.int (w:Nat),v1,v2,vt])(h1:Bad H Bd)(h2:Pw (untrs H Bd) v1 v2 vt w x)(h3:mz w x.c1 x.c2<=j)(h4:TabsOk (tabs a) H)(h5:Res a H Bd (x.tr w) Q):spPN j a vs H Q _E
inductive spF1(j:Nat)(a:Ad)(vs:List V)(H:Hp)(Q:VK)(_E:XK):Prop
 | mk(v1 v2 vt:V)(w:Nat)(x:Pd)(Bd:List Addr)(h0:vs=[.int ((w+1:Nat):Int),v1,v2,vt])(h1:Bad H Bd)(h2:Pw (untrs H Bd) v1 v2 vt (w+1) x)(h3:0<x.c1)(h4:mz (w+1) x.c1 x.c2<=j)(h5:TabsOk (tabs a) H)(h6:Res a H Bd (x.f1 w) Q):spF1 j a vs H Q _E
inductive spF2(j:Nat)(a:Ad)(vs:List V)(H:Hp)(Q:VK)(_E:XK):Prop
 | mk(v1 v2 vt:V)(w:Nat)(x:Pd)(Bd:List Addr)(h0:vs=[.int ((w+1:Nat):Int),v1,v2,vt])(h1:Bad H Bd)(h2:Pw (untrs H Bd) v1 v2 vt (w+1) x)(h3:0<x.c2)(h4:mz (w+1) x.c1 x.c2<=j)(h5:TabsOk (tabs a) H)(h6:Res a H Bd (x.f2 w) Q):spF2 j a vs H Q _E
inductive spAny(j:Nat)(a:Ad)(vs:List V)(H:Hp)(Q:VK)(_E:XK):Prop
 | mk(l:Addr)(go:V)(g:Int->Tr)(ps:List Int)(Bd:List Addr)(h0:vs=[.ref l,go])(h1:Bad H Bd)(h2:untrs H Bd l=some (.lst (ps.map V.int)))(h3:IsGo j (untrs H Bd) go g ps)(h4:TabsOk (tabs a) H)(h5:Res a H Bd (cM ps g) Q):spAny j a vs H Q _E
def zS(j:Nat)(a:Ad):List V->Sp:=λvals vs H Q _=>∃(v1 v2 vt:V) (w:Nat) (x:Pd) (p:Int) (Bd:List Addr),vals=[.int ((w+1:Nat):Int),vt,v2,v1]/\vs=[.int p]/\Bad H Bd/\Pw (untrs H Bd) v1 v2 vt (w+1) x/\0<x.c1/\p∈x.P1/\mz w (x.c1 - 1) x.c2<=j/\TabsOk (tabs a) H/\Res a H Bd ((x.one p).tr w) Q
def ze(j:Nat)(a:Ad):List V->Sp:=λvals vs H Q _=>∃(v1 v2 vt:V) (w:Nat) (x:Pd) (p:Int) (Bd:List Addr),vals=[.int ((w+1:Nat):Int),vt,v2,v1]/\vs=[.int p]/\Bad H Bd/\Pw (untrs H Bd) v1 v2 vt (w+1) x/\0<x.c2/\p∈x.P2/\mz w x.c1 (x.c2 - 1)<=j/\TabsOk (tabs a) H/\Res a H Bd ((x.two p).tr w) Q
inductive spGoing(a:Ad)(vs:List V)(H:Hp)(Q:VK)(_E:XK):Prop
 | mk(go:V)(p:Int)(g:Int->Tr)(ps:List Int)(Bd:List Addr)(h0:vs=[go,.int p])(h1:Bad H Bd)(h2:IsGo 2 (untrs H Bd) go g ps)(h3:p∈ps)(h4:TabsOk (tabs a) H)(h5:∀ H' f,SameT H H'->TabsOk (tabs a) H'->IsMk (untrs H' Bd) f (g p)->Q f H'):spGoing a vs H Q _E
def zg(a:Ad):List V->Sp:=λvals vs H Q _=>∃(v1 v2 vt:V) (w:Nat) (x:Pd) (Bd:List Addr),vals=[.int ((w+1:Nat):Int),vt,v2,v1]/\vs=[]/\Bad H Bd/\Pw (untrs H Bd) v1 v2 vt (w+1) x/\0<x.c1/\TabsOk (tabs a) H/\Res a H Bd (x.f1 w) Q
def zE(a:Ad):List V->Sp:=λvals vs H Q _=>∃(v1 v2 vt:V) (w:Nat) (x:Pd) (Bd:List Addr),vals=[.int ((w+1:Nat):Int),vt,v2,v1]/\vs=[]/\Bad H Bd/\Pw (untrs H Bd) v1 v2 vt (w+1) x/\0<x.c2/\TabsOk (tabs a) H/\Res a H Bd (x.f2 w) Q
def zk(a:Ad):List (Str×Addr)->List V->Sp:=λcl vals vs H Q _=>∃(go:V) (p:Int) (g:Int->Tr) (ps:List Int) (Bd:List Addr),vals=[.int p,go]/\vs=[]/\Bad H Bd/\IsGo 2 (untrs (untrs H Bd) (cl.map (·.2))) go g ps/\p∈ps/\TabsOk (tabs a) H/\Res a H Bd (g p) Q
theorem lsO:LamScope cC fvP ["place"]:=⟨rfl,rfl,rfl,by decide +kernel,by decide +kernel,by decide +kernel,by decide +kernel,by decide +kernel⟩
theorem lsT:LamScope bM fvP ["place"]:=⟨rfl,rfl,rfl,by decide +kernel,by decide +kernel,by decide +kernel,by decide +kernel,by decide +kernel⟩
theorem lsP:LamScope bG fvP []:=⟨rfl,rfl,rfl,by decide +kernel,by decide +kernel,by decide +kernel,by decide +kernel,by decide +kernel⟩
theorem lsQ:LamScope bE fvP []:=⟨rfl,rfl,rfl,by decide +kernel,by decide +kernel,by decide +kernel,by decide +kernel,by decide +kernel⟩
theorem lsG:LamScope ld_going_1 fvG []:=⟨rfl,rfl,rfl,by decide +kernel,by decide +kernel,by decide +kernel,by decide +kernel,by decide +kernel⟩
theorem dw{H:Hp}{d:List Addr}{b:Addr}{o:HO}(a:Bad H d)(f:H b=none){c:Hp}(h:c b=some o):untrs c d b=some o:=by
 rw[ba λz=>?_]
 .exact h
 .obtain⟨g,e⟩:=a b z
  rw[f]at e;cases e
theorem nd4(n:Nat):[n+1,n+1+1+1+1,n+1+1+1,n+1+1].Nodup:=by simp[nodup_cons];lia
section
variable {P:Program}{w:World}{K:Frag}{mg:Str->Option Value}{base:Heap}{a:Ad}
theorem qC(T:Txt K mg a):FnOk P w K mg base CX0 1 a.i_g a.e_g ["self","kept"] (spToldI a):=by
 refine T.Fi_g.ok g8 (λu H Q E h=>?_) (λcdv A outer s H u Q E hr h=>?_)
 .obtain⟨x,i,l,r,rfl,_⟩:=h;rfl
 .obtain⟨x,i,l,r,rfl,g,y,D,q⟩:=h
  refine⟨_,(aj (fE (vr 0) (cK gp rfl T.z_tuple nW (aa (az jV rfl T.z_sorted ip (aa (vr 1) ae)) ae)) rfl)),?_⟩;refine⟨l,r,rfl,y.imp SqL.of SqT.of,D,λp c B G v=>?_⟩;have j:=Same.new (o:=.lst (c.map V.int)) v;refine⟨p,_,rfl,.inl ⟨SqL.of ad,λt f=>?_⟩⟩;have F:=Same.new (o:=.tup (c.map V.int)) f;have d:=j.trans F;have C:t≠x:=λz=>by rw[z,j _ _ g]at f;cases f
  refine⟨x,a.c_g,i,[],rfl,d _ _ g,T.cl_g,T.na_Told_rising,(by decide),?_⟩;exact q _ t c (λb o n e=>by rw[af n];exact d _ _ e) ad (by rw[af C];exact ad) ⟨B,G⟩
theorem pG(T:Txt K mg a):FnOk P w K mg base CX0 1 a.i_n a.e_n ["self","parts"] (spDieI a):=by
 refine T.Fi_n.ok iP (λj H Q E h=>?_) (λcdv A outer s H j Q E hr h=>?_)
 .obtain⟨x,g,l,d,rfl,_⟩:=h;rfl
 .obtain⟨x,g,l,d,rfl,f,p,q⟩:=h
  refine⟨_,(aj (fE (vr 0) (cK gI rfl T.z_list gN (aa (vr 1) ae)) rfl)),?_⟩;refine⟨l,d,rfl,.inl (SqL.of p),λt c=>?_⟩;have i:=Same.new (o:=.lst d) c;have r:t≠x:=λz=>by rw[z,f]at c;cases c
  refine⟨x,a.c_n,g,[],rfl,i _ _ f,T.cl_n,T.na_Die_makes,(by decide),?_⟩;exact q _ t c (λb o n e=>by rw[af n];exact i _ _ e) ad (by rw[af r];exact ad)
theorem made{a d:Hp}{x dx:Addr}{h g:HO}(c:a x=none)(f:a dx=none)(k:∀ b o,b≠x->(upd (upd a dx h) x g) b=some o->d b=some o):Same a d:=λb o e=>by
 refine k b o (ay e c) ?_;rw[af (ay e c),af (ay e f)];exact e
end
open Tb (Tr pN cM wo Pv)
section
variable {P:Program}{w:World}{K:Frag}{mg:Str->Option Value}{base:Heap}{a:Ad}
theorem iU(T:Txt K mg a){j k:Nat}(hk:1<=k)(ab:FnOk P w K mg base CX0 k a.f_c a.d_c ["wanted","one","other","taken"] (spPN j a)):LamOk P w K mg base (k+1) cC fvP ["place"] (zS j a):=by
 have O:FnOk P w K mg base CX0 k _ _ _ spWo:=(jA T).mono hk;refine jF lsO (λpm an g c us hl=>match us,hl with | [_],_=>rfl) (λvals vs H Q E h=>?_) (λA outer s H f c g vals vs Q E hr hfv ca h=>?_)
 .obtain⟨v1,v2,vt,w,x,p,Bd,rfl,rfl,_⟩:=h;rfl
 .obtain⟨v1,v2,vt,n,x,p,Bd,rfl,rfl,D,hw,hc,hp,hj,hT,q⟩:=h
  have r:sizeLine=16777216:=sizeLine_eq;refine⟨_,(ap ab hr rfl T.m_c T.F_c.kp T.B_c .nil aq (aa (aw gq (vr 1) am) (aa (ap O hr rfl T.m_S T.F_S.kp T.B_S .nil aq (aa (vr 4) (aa (vr 0) ae))) (aa (vr 3) (aa (aw fo (vr 2) (bW (aa (vr 0) ae))) ae))))),?_⟩;have i:=hw.un (dS D ca);rw[di]at i;have b:=iw ca D;have C:=TabsOk.untrs hT ca;generalize hU:untrs H (g.map (·.2))=U at i b C;obtain⟨⟨p1,l1,rfl,a1,b1⟩,h2,⟨lt,rfl,a3⟩,Y⟩:=i;have W:=Y.one hc hp;have tl:x.tk.length<=24:=by have:=Y.pv.few;lia
  refine⟨p1,l1,_,x.P1,p,rfl,(av a1).2,(av b1).2,Y.l1,λU1 q1 G s1 X R M S=>?_⟩;have al:=b.t s1.t;refine⟨by rw[r];exact show(1:Nat)<=_ by decide,λL N=>?_⟩;have I:=Same.new (o:=.lst [.int p]) N;have v:=ad (H:=U1) (a:=L) (o:=.lst [.int p]);generalize upd U1 L (.lst [.int p])=U2 at I v;have l:=s1.trans I;refine⟨lt,L,_,_,rfl,rfl,l _ _ (av a3).2,v,by rw[length_map];show _+1<=_;lia,λB F=>?_⟩;have J:=Same.new (o:=.lst (x.tk.map V.int++[.int p])) F;have y:(upd U2 B (.lst (x.tk.map V.int++[.int p]))) B=some (.lst ((x.tk++[p]).map V.int)):=by rw[ad,map_append];rfl
  generalize upd U2 B (.lst (x.tk.map V.int++[.int p]))=U3 at J y;have d:=l.trans J;have z:=b.t d.t;refine⟨.ref q1,v2,.ref B,n,x.one p,Bd,by show [V.int (((n+1:Nat):Int) - 1),_,_,_]=_;rw[show(((n+1:Nat):Int) - 1)=(n:Int) by lia],z,⟨⟨q1,G,rfl,?_,?_⟩,h2.t (aF d.t),⟨B,rfl,dw (b.t l.t) F y⟩,W⟩,hj,C.same d,λH' u t' Z hN=>λH3 s3' hc3=>?_⟩
  .show _=some (HO.tup [.int ((x.c1 - 1:Nat):Int),.ref G])
   rw[dw b X ((I.trans J) _ _ M),show((x.c1 - 1:Nat):Int)=(x.c1:Int) - 1 by lia]
  .exact dw b R ((I.trans J) _ _ S)
  .rw[<- hU]at d
   exact q _ _ (ml (d.t.trans t') s3' hc3) (Z.same s3') (hN.t (aF s3'.t))
theorem i3(T:Txt K mg a){j k:Nat}(hk:1<=k)(ab:FnOk P w K mg base CX0 k a.f_c a.d_c ["wanted","one","other","taken"] (spPN j a)):LamOk P w K mg base (k+1) bM fvP ["place"] (ze j a):=by
 have O:FnOk P w K mg base CX0 k _ _ _ spWo:=(jA T).mono hk;refine jF lsT (λpm an g c us hl=>match us,hl with | [_],_=>rfl) (λvals vs H Q E h=>?_) (λA outer s H f c g vals vs Q E hr hfv ca h=>?_)
 .obtain⟨v1,v2,vt,w,x,p,Bd,rfl,rfl,_⟩:=h;rfl
 .obtain⟨v1,v2,vt,n,x,p,Bd,rfl,rfl,D,hw,hc,hp,hj,hT,q⟩:=h
  have r:sizeLine=16777216:=sizeLine_eq;refine⟨_,(ap ab hr rfl T.m_c T.F_c.kp T.B_c .nil aq (aa (aw gq (vr 1) am) (aa (vr 4) (aa (ap O hr rfl T.m_S T.F_S.kp T.B_S .nil aq (aa (vr 3) (aa (vr 0) ae))) (aa (aw fo (vr 2) (bW (aa (vr 0) ae))) ae))))),?_⟩;have i:=hw.un (dS D ca);rw[di]at i;have b:=iw ca D;have C:=TabsOk.untrs hT ca;generalize hU:untrs H (g.map (·.2))=U at i b C;obtain⟨h2,⟨p1,l1,rfl,a1,b1⟩,⟨lt,rfl,a3⟩,Y⟩:=i;have W:=Y.two hc hp;have tl:x.tk.length<=24:=by have:=Y.pv.few;lia
  refine⟨p1,l1,_,x.P2,p,rfl,(av a1).2,(av b1).2,Y.l2,λU1 q1 G s1 X R M S=>?_⟩;have al:=b.t s1.t;refine⟨by rw[r];exact show(1:Nat)<=_ by decide,λL N=>?_⟩;have I:=Same.new (o:=.lst [.int p]) N;have v:=ad (H:=U1) (a:=L) (o:=.lst [.int p]);generalize upd U1 L (.lst [.int p])=U2 at I v;have l:=s1.trans I;refine⟨lt,L,_,_,rfl,rfl,l _ _ (av a3).2,v,by rw[length_map];show _+1<=_;lia,λB F=>?_⟩;have J:=Same.new (o:=.lst (x.tk.map V.int++[.int p])) F;have y:(upd U2 B (.lst (x.tk.map V.int++[.int p]))) B=some (.lst ((x.tk++[p]).map V.int)):=by rw[ad,map_append];rfl
  generalize upd U2 B (.lst (x.tk.map V.int++[.int p]))=U3 at J y;have d:=l.trans J;have z:=b.t d.t;refine⟨v1,.ref q1,.ref B,n,x.two p,Bd,by show [V.int (((n+1:Nat):Int) - 1),_,_,_]=_;rw[show(((n+1:Nat):Int) - 1)=(n:Int) by lia],z,⟨h2.t (aF d.t),⟨q1,G,rfl,?_,?_⟩,⟨B,rfl,dw (b.t l.t) F y⟩,W⟩,hj,C.same d,λH' u t' Z hN=>λH3 s3' hc3=>?_⟩
  .show _=some (HO.tup [.int ((x.c2 - 1:Nat):Int),.ref G])
   rw[dw b X ((I.trans J) _ _ M),show((x.c2 - 1:Nat):Int)=(x.c2:Int) - 1 by lia]
  .exact dw b R ((I.trans J) _ _ S)
  .rw[<- hU]at d
   exact q _ _ (ml (d.t.trans t') s3' hc3) (Z.same s3') (hN.t (aF s3'.t))
theorem vE(T:Txt K mg a)(X:Bm mg base):FnOk P w K mg base CX0 1 a.f_z a.d_z ["go","place"] (spGoing a):=by
 refine T.F_z.okF T.lcd_z vP (by decide +kernel) (λO H Q E h=>?_) (λA outer s H O Q E hr h=>?_)
 .obtain⟨D,p,g,F,f,rfl,_⟩:=h;rfl
 .obtain⟨D,p,g,F,f,rfl,v,Y,M,J,q⟩:=h
  refine⟨_,(oP (hV (d:=ld_going_1) rfl T.lch_z X rfl (by with_unfolding_all rfl) rfl (wj a) (.head _) T.tnd vV)),?_⟩;refine⟨J,λG R H2 l u n1 i x=>λH3 s3 hc hf=>?_⟩;have c:=(v.t l).t s3.t;have S:=hc 1 _ _ _ rfl rfl (by with_unfolding_all rfl);have Z:=hc 0 _ _ _ rfl rfl (by with_unfolding_all rfl);have L:=hf "place" _ (by with_unfolding_all rfl);have W:=hf "go" _ (by with_unfolding_all rfl);refine q _ _ (l.trans s3.t) (u.same s3) (.inr (.inl ⟨G,R,_,D,p,g,F,rfl,bu c (s3 _ _ i) (λ_ z=>nomatch z),bu c (s3 _ _ x) (λ_ z=>nomatch z),rfl,by simp,.cons (bu c S λ_ z=>nomatch z) (.cons (bu c Z λ_ z=>nomatch z) .nil),?_,M,rfl⟩));have B:=Y.t (aF l);refine B.t λb o e=>?_
  obtain⟨I,n⟩:=av e;have N:untrs H3 f b=some o:=by rw[ba I];exact s3 _ _ n
  have:∀{j:List Addr},(∀ y∈j,H2 y=none)->untrs (untrs H3 f) j b=some o:=λ{j} r=>by
   rw[ba λz=>?_]
   .exact N
   .rw[r b z]at n;cases n
  refine⟨λ_=>this ?_,o,this ?_⟩ <;>
  .intro y C
   simp only[map_cons,map_nil,mem_cons,not_mem_nil,or_false]at C
   rcases C with rfl | rfl
   .exact L
   .exact W
end
open Tb (Tr pN cM wo Pv)
theorem yj(p:Int)(g:Int->Tr):cM [p] g=g p:=if_pos rfl
theorem vG{ps:List Int}(h:ps.length≠1)(g:Int->Tr):cM ps g=.die (ps.map λx=>((1:Int),g x)):=by unfold cM;rw[if_neg h]
section
variable {P:Program}{w:World}{K:Frag}{mg:Str->Option Value}{base:Heap}{a:Ad}
theorem js(T:Txt K mg a)(hB:Bm mg base){j k:Nat}(hk:1<=k)(W:LamOk P w K mg base (k+1) cC fvP ["place"] (zS j a))(X:LamOk P w K mg base (k+1) bM fvP ["place"] (ze j a)):FnOk P w K mg base CX0 (k+1+1) a.f_U a.d_U ["places","go"] (spAny j a):=by
 have a6:FnOk P w K mg base CX0 k _ _ _ (spDieI a):=(pG T).mono hk;have a3:FnOk P w K mg base CX0 (k+1) _ _ _ (spGoing a):=(vE T hB).mono (by lia);refine T.F_U.ok uc (λvs H Q E h=>?_) (λcdv A outer s H vs Q E hr h=>?_)
 .obtain⟨l,go,g,d,B,rfl,_⟩:=h;rfl
 .obtain⟨l,go,g,d,B,rfl,G,hl,hg,hT,q⟩:=h
  have a9:sizeLine=16777216:=sizeLine_eq;have u:=(av hl).2;obtain⟨bl,bg⟩:=hg.few;refine⟨_,(ai (cg (cm tY (az aL rfl T.z_len ce (aa (vr 0) ae)) am (bp _)) (aj (ax (PE.or (gH (vr 1) W hr (aa (ci bj (vr 0) am (λ_ _=>rfl)) ae)) (gH (vr 1) X hr (aa (ci bj (vr 0) am (λ_ _=>rfl)) ae))))) aT) (aj (ax (eM T.mk_n a6 hr rfl T.mc_n T.Bi_n .nil aq (aa (cJ rfl (N:=["place","go"]) (ix:=[none,some 1]) ⟨rfl,rfl,rfl,rfl,⟨rfl,rfl,rfl,trivial⟩⟩ (bI (vr 0)) ⟨λC s H fp=>ar (i:=0) (show List.Nodup (["place","go"]:List Str) by decide +kernel) rfl (Or.inl rfl),λC s H fp=>cH,λC s H fp=>(bT (aa am (aa (ap a3 hr rfl T.m_z T.F_z.kp T.B_z .nil aq (aa (vr 1) (aa (vr 0) ae))) ae)))⟩) ae))))),nF ?_⟩;intro bm;refine⟨_,.inl (SqL.of u),?_⟩;rw[length_map];refine ifC (λc=>?_) λc=>?_
  .have c:d.length=1:=by have z:((d.length:Nat):Int)=1:=c;lia
   obtain⟨p,rfl⟩:=List.length_eq_one_iff.mp c;rw[yj]at q;obtain⟨v1,v2,vt,n,x,h0,⟨⟨f,c,cl,rfl,k2,k3,k4,k5,k6⟩,v,e1,rfl,hj⟩ | ⟨⟨f,c,cl,rfl,k2,k3,k4,k5,k6⟩,v,e1,rfl,hj⟩⟩:=hg
   .exact .inl ⟨⟨f,_,cl,c,rfl,(av k2).2⟩,.inl ⟨l,_,_,_,rfl,rfl,SqL.of u,aJ 0 rfl rfl,λ_ _ _ _ _ e=>e,f,c,cl,_,rfl,(av k2).2,(av k3).2,k4,k5,db cZ k6,v1,v2,vt,n,x,p,B,rfl,rfl,G,h0,v,by rw[<- e1];exact mem_cons_self,hj rfl,hT,q⟩⟩
   .exact .inr ⟨⟨f,_,cl,c,rfl,(av k2).2⟩,.inl ⟨l,_,_,_,rfl,rfl,SqL.of u,aJ 0 rfl rfl,λ_ _ _ _ _ e=>e,f,c,cl,_,rfl,(av k2).2,(av k3).2,k4,k5,db cZ k6,v1,v2,vt,n,x,p,B,rfl,rfl,G,h0,v,by rw[<- e1];exact mem_cons_self,hj rfl,hT,q⟩⟩
  have c:d.length≠1:=λe=>c (by show((d.length:Nat):Int)=1;lia)
  rw[vG c]at q;refine .inl ⟨⟨_,SqL.of u⟩,λD hD=>?_⟩;have ext:∀{r:Hp},TabsOk (tabs a) r->∀{ys:List V}{an:List V},r D=some (.lst ys)->TabsOk (tabs a) (upd r D (.lst an)):=λa8 ys an e=>a8.put (λd z=>by rw[e]at z;cases z) λφ z=>by rw[e]at z;cases z
  have I:(d.map λx=>((1:Int),g x)).length=d.length:=length_map _
  let Pw1:PvL:=λi M r=>SameT H r/\TabsOk (tabs a) r/\r D=some (.lst M)/\i<=d.length/\Paired (NdR (untrs r (D::B))) ((d.map λx=>((1:Int),g x)).take i) M
  refine cE (K:=K) (a:=l) (xs:=d.map V.int) Pw1
   ⟨(Same.new hD).t,hT.same (Same.new hD),ad,Nat.zero_le _,.nil⟩ (λi ys r h=>SqL.of (h.1.at u)) (λi ys r h=>h.2.2.1) ?_ ?_
  .rintro i y M r P' Z ⟨Y,S,F,hi,v⟩ a'
   rw[List.getElem?_map]at Z
   obtain⟨p,hp,rfl⟩:∃ p,d[i]? = some p/\V.int p=y:=by
    cases e:d[i]? with
    | none=>rw[e]at Z;cases Z
    | some p=>rw[e]at Z;cases Z;exact⟨p,rfl,rfl⟩
   have a2:i<d.length:=(List.getElem?_eq_some_iff.mp hp).1
   have L:Bad r (D::B):=λb hb=>by
    rcases mem_cons.mp hb with rfl | hb
    .exact⟨_,F⟩
    .exact G.t Y b hb
   refine⟨⟨rfl,trivial⟩,?_⟩;refine⟨go,p,g,d,D::B,rfl,L,hg.up.t (ii Y hD),List.mem_of_getElem? hp,S,λH2 f2 t2 a4 a5=>?_⟩;have a0:=t2.at F;refine⟨cR _ _,λq2 a7=>?_⟩;have s3:=Same.new (o:=.tup [.int 1,f2]) a7;have as:=s3 _ _ a0;have zl:M.length<=i:=by rw[<- v.length,length_take];lia
   have ab:Bad H2 (D::B):=L.t t2;have c3:SameT (untrs H2 (D::B)) (untrs (upd (upd H2 q2 (.tup [.int 1,f2])) D (.lst (M++[.ref q2]))) (D::B)):=(aF s3.t).trans (dH mem_cons_self);refine⟨as,by lia,a' _ _ ⟨(Y.trans (t2.trans s3.t)).put hD,ext (a4.same s3) as,ad,a2,dI (ak (NdR.t ((aF t2).trans c3)) v) (x:=((1:Int),g p)) (by rw[List.getElem?_map,hp];rfl) ⟨q2,f2,rfl,?_,Int.le_refl 1,a5.t c3⟩⟩⟩;exact(dH (o:=.lst (M++[.ref q2])) mem_cons_self).at (bu (ab.t s3.t) ad (λ_ z=>nomatch z))
  rintro M H1 ⟨Y,S,F,hi,v⟩;rw[length_map,<- I,take_length]at v;have zl:M.length=d.length:=by rw[<- v.length,I]
  have a1:=ak (NdR.t gX) v;have R:=G.t Y;intro x2 J al O bn;have s9:Same H1 (upd (upd H1 J (.own x2)) x2 (.ins a.c_n J [])):=λb o e=>by rw[af (ay e al),af (ay e O)];exact e
  refine⟨x2,J,D,_,rfl,ad,s9 _ _ F,λH6 l6 fl k g1 g2=>⟨rfl,?_⟩⟩;have s6:=made al O k;refine q _ _ (Y.trans s6.t) (S.same s6) ?_;exact⟨x2,J,l6,_,rfl,bu (R.t s6.t) g1 (λ_ z=>nomatch z),dw R (s9.free fl) g2,ak (NdR.t (aF s6.t)) a1,by rw[I];lia,by rw[I];lia⟩
theorem qZ(T:Txt K mg a)(R:Bm mg base){j k:Nat}(i:FnOk P w K mg base CX0 k a.f_U a.d_U ["places","go"] (spAny j a)):FnOk P w K mg base CX0 (k+1) a.f_i a.d_i ["wanted","one","other","taken"] (spF1 (j+1) a):=by
 refine T.F_i.okL T.lcd_i sc_i (by decide +kernel) (λF H Q E h=>?_) (λA outer s H F Q E hr h=>?_)
 .obtain⟨S,z,B,n,x,y,rfl,_⟩:=h;rfl
 .obtain⟨S,z,B,n,x,y,rfl,o,r,c,N,C,q⟩:=h
  refine⟨_,(qF sc_i.nd (by decide +kernel) i hr rfl T.m_U T.F_U.kp T.B_U .nil (aa (ci bj (vr 1) am (λ_ _=>rfl)) (aa (hV (d:=cC) rfl T.lch_i R rfl (by with_unfolding_all rfl) rfl (mL a) (.head _) T.tnd ng) ae))),?_⟩;obtain⟨M,Y,rfl,X,O⟩:=id r.h1;refine .inr (.inl ⟨M,_,_,_,rfl,rfl,SqT.of (av X).2,aJ 1 rfl rfl,?_⟩);refine⟨C,λv G H2 J l Z g p=>λH3 s3 hc=>?_⟩;have f:=J.trans s3.t;have b:=o.t f;have I:=hc 0 _ _ _ rfl rfl (by with_unfolding_all rfl);have L:=hc 1 _ _ _ rfl rfl (by with_unfolding_all rfl);have W:=hc 2 _ _ _ rfl rfl (by with_unfolding_all rfl);have D:=hc 3 _ _ _ rfl rfl (by with_unfolding_all rfl);refine⟨Y,.ref v,_,x.P1,y,rfl,b,(aF f).at O,⟨_,z,B,n,x,r.t (aF f),.inl ⟨eF b ⟨v,G,_,rfl,s3 _ _ g,s3 _ _ p,rfl,nd4 _,.cons I (.cons D (.cons W (.cons L .nil)))⟩,c,rfl,rfl,λe=>zO r.ok.pv.i1 c N e⟩⟩,l.same s3,λH' u t' hT' hN=>q _ _ (f.trans t') hT' hN⟩
theorem qH(T:Txt K mg a)(S:Bm mg base){j k:Nat}(i:FnOk P w K mg base CX0 k a.f_U a.d_U ["places","go"] (spAny j a)):FnOk P w K mg base CX0 (k+1) a.f_b a.d_b ["wanted","one","other","taken"] (spF2 (j+1) a):=by
 refine T.F_b.okL T.lcd_b sc_b (by decide +kernel) (λF H Q E h=>?_) (λA outer s H F Q E hr h=>?_)
 .obtain⟨B,J,z,n,x,y,rfl,_⟩:=h;rfl
 .obtain⟨B,J,z,n,x,y,rfl,o,r,c,O,C,q⟩:=h
  refine⟨_,(qF sc_b.nd (by decide +kernel) i hr rfl T.m_U T.F_U.kp T.B_U .nil (aa (ci bj (vr 2) am (λ_ _=>rfl)) (aa (hV (d:=bM) rfl T.lch_b S rfl (by with_unfolding_all rfl) rfl (j5 a) (.head _) T.tnd jZ) ae))),?_⟩;obtain⟨N,Y,rfl,X,R⟩:=id r.h2;refine .inr (.inl ⟨N,_,_,_,rfl,rfl,SqT.of (av X).2,aJ 1 rfl rfl,?_⟩);refine⟨C,λv G H2 L l Z g p=>λH3 s3 hc=>?_⟩;have f:=L.trans s3.t;have b:=o.t f;have I:=hc 0 _ _ _ rfl rfl (by with_unfolding_all rfl);have M:=hc 1 _ _ _ rfl rfl (by with_unfolding_all rfl);have W:=hc 2 _ _ _ rfl rfl (by with_unfolding_all rfl);have D:=hc 3 _ _ _ rfl rfl (by with_unfolding_all rfl);refine⟨Y,.ref v,_,x.P2,y,rfl,b,(aF f).at R,⟨B,_,z,n,x,r.t (aF f),.inr ⟨eF b ⟨v,G,_,rfl,s3 _ _ g,s3 _ _ p,rfl,nd4 _,.cons I (.cons D (.cons W (.cons M .nil)))⟩,c,rfl,rfl,λe=>ud r.ok.pv.i2 c O e⟩⟩,l.same s3,λH' u t' hT' hN=>q _ _ (f.trans t') hT' hN⟩
theorem qW(T:Txt K mg a)(hB:Bm mg base){j k:Nat}(hk:1<=k)(bg:FnOk P w K mg base CX0 (k+1) a.f_i a.d_i ["wanted","one","other","taken"] (spF1 j a))(bo:FnOk P w K mg base CX0 (k+1) a.f_b a.d_b ["wanted","one","other","taken"] (spF2 j a)):FnOk P w K mg base CX0 (k+1+1) a.f_c a.d_c ["wanted","one","other","taken"] (spPN j a):=by
 have a9:FnOk P w K mg base CX0 k _ _ _ (spToldI a):=(qC T).mono hk;have a7:FnOk P w K mg base CX0 k _ _ _ (spDieI a):=(pG T).mono hk;refine T.F_c.okL T.lcd_c mi (by decide +kernel) (λvs H Q E h=>?_) (λA outer s H vs Q E hr h=>?_)
 .obtain⟨v1,v2,vt,n,x,L,rfl,_⟩:=h;rfl
 .obtain⟨v1,v2,vt,n,x,L,rfl,g,u,hj,hT,q⟩:=h
  have a':sizeLine=16777216:=sizeLine_eq;refine⟨_,(lP (cg (cm tY (vr 0) am (bp _)) (aj (ax (eM T.mk_g a9 hr rfl T.mc_g T.Bi_g .nil aq (aa (vr 3) ae)))) aT) (lP (cg (cm tY (ci bj (vr 2) am (λ_ _=>rfl)) am (bp _)) (aj (ax (ap bg hr rfl T.m_i T.F_i.kp T.B_i .nil aq (aa (vr 0) (aa (vr 1) (aa (vr 2) (aa (vr 3) ae))))))) aT) (lP (cg (cm tY (ci bj (vr 1) am (λ_ _=>rfl)) am (bp _)) (aj (ax (ap bo hr rfl T.m_b T.F_b.kp T.B_b .nil aq (aa (vr 0) (aa (vr 1) (aa (vr 2) (aa (vr 3) ae))))))) aT) (oP (eM T.mk_n a7 hr rfl T.mc_n T.Bi_n .nil aq (aa (bW (aa (bT (aa (ci bj (vr 1) am (λ_ _=>rfl)) (aa (hV (d:=bG) rfl T.lch_c hB rfl (by with_unfolding_all rfl) rfl (gv a) (.head _) T.tnd gA) ae))) (aa (bT (aa (ci bj (vr 2) am (λ_ _=>rfl)) (aa (hV (d:=bE) rfl T.lch_c hB rfl (by with_unfolding_all rfl) rfl (gv a) (.tail _ (.head _)) T.tnd gA) ae))) ae))) ae)))))),?_⟩;obtain⟨I,l1,rfl,a1,b1⟩:=id u.h1;obtain⟨N,l2,rfl,a2,b2⟩:=id u.h2;obtain⟨S,rfl,a3⟩:=id u.ht;have as:=(av a1).2;have W:=(av a2).2;have b6:=u.ok.pv.few;refine ifC (λc=>?_) λc=>?_
  .have c:n=0:=by have z:((n:Nat):Int)=0:=c;lia
   subst c;intro y r O i b4;have s9:Same H (upd (upd H r (.own y)) y (.ins a.c_g r [])):=λb o e=>by rw[af (ay e O),af (ay e i)];exact e
   refine⟨y,r,S,x.tk,rfl,ad,.inl (s9 _ _ (av a3).2),by lia,λH' t br k g1 g2 g3=>⟨rfl,?_⟩⟩;have sm:=made O i k;refine q _ _ sm.t (hT.same sm) ?_;rw[Pd.tr,Tb.pN_zero];exact kE (g.t sm.t) ⟨y,r,t,br,rfl,g1,g2,g3⟩
  have c:n≠0:=λe=>c (by show((n:Nat):Int)=0;lia)
  obtain⟨m,rfl⟩:∃ m,n=m+1:=⟨n - 1,by lia⟩
  rw[Pd.tr,Tb.pN_succ]at q;have b5:=u.ok.pv.all;refine .inr (.inl ⟨N,_,_,_,rfl,rfl,SqT.of W,aJ 0 rfl rfl,ifC (λv=>?_) λv=>?_⟩)
  .have v:x.c2=0:=by have z:((x.c2:Nat):Int)=0:=v;lia
   rw[if_pos v]at q;exact⟨.ref I,.ref N,.ref S,m,x,L,rfl,g,u,by lia,hj,hT,q⟩
  have v:x.c2≠0:=λe=>v (by show((x.c2:Nat):Int)=0;lia)
  rw[if_neg v]at q;refine .inr (.inl ⟨I,_,_,_,rfl,rfl,SqT.of as,aJ 0 rfl rfl,ifC (λD=>?_) λD=>?_⟩)
  .have D:x.c1=0:=by have z:((x.c1:Nat):Int)=0:=D;lia
   rw[if_pos D]at q;exact⟨.ref I,.ref N,.ref S,m,x,L,rfl,g,u,by lia,hj,hT,q⟩
  have D:x.c1≠0:=λe=>D (by show((x.c1:Nat):Int)=0;lia)
  rw[if_neg D]at q;refine .inr (.inl ⟨I,_,_,_,rfl,rfl,SqT.of as,aJ 0 rfl rfl,?_⟩);refine⟨hT,λF d1 H2 t2 bm n1 b0 a6=>?_⟩;refine⟨cR _ _,λM a4=>?_⟩;have Y:=Same.new (o:=.tup [.int (x.c1:Nat),.ref F]) a4;have ab:=ad (H:=H2) (a:=M) (o:=.tup [.int (x.c1:Nat),.ref F]);generalize upd H2 M (.tup [.int (x.c1:Nat),.ref F])=H3 at Y ab;have t3:=t2.trans Y.t;refine .inr (.inl ⟨N,_,_,_,rfl,rfl,SqT.of (t3.at W),aJ 0 rfl rfl,?_⟩);refine⟨bm.same Y,λJ d2 H4 t4 bS n2 a8 a5=>?_⟩;refine⟨cR _ _,λG bt=>?_⟩;have s5:=Same.new (o:=.tup [.int (x.c2:Nat),.ref J]) bt;have Z:=ad (H:=H4) (a:=G) (o:=.tup [.int (x.c2:Nat),.ref J]);generalize upd H4 G (.tup [.int (x.c2:Nat),.ref J])=H5 at s5 Z;refine⟨cR _ _,λl0 b3=>?_⟩;have s6:=Same.new (o:=.lst [.ref M,.ref G]) b3;have an:=ad (H:=H5) (a:=l0) (o:=.lst [.ref M,.ref G]);generalize upd H5 l0 (.lst [.ref M,.ref G])=H6 at s6 an;intro y r O i b4;have s0:Same H6 (upd (upd H6 r (.own y)) y (.ins a.c_n r [])):=λb o e=>by rw[af (ay e O),af (ay e i)];exact e
  refine⟨y,r,l0,_,rfl,ad,s0 _ _ an,λH7 l fl k g1 g2=>⟨rfl,λH8 s8 hc=>?_⟩⟩;have s7:=made O i k;have bl:=s7.trans s8;have X:=s6.trans bl;have p:=s5.trans X;have R:=t4.trans p.t;have B:=Y.t.trans R;have C:=t2.trans B;have cW:=hc 0 _ _ _ rfl rfl (by with_unfolding_all rfl);have cA:=hc 1 _ _ _ rfl rfl (by with_unfolding_all rfl);have cB:=hc 2 _ _ _ rfl rfl (by with_unfolding_all rfl);have cT:=hc 3 _ _ _ rfl rfl (by with_unfolding_all rfl);have f:=g.t C;have a0:Bad H6 L:=g.t (t2.trans (Y.t.trans (t4.trans (s5.t.trans s6.t))));have al:=u.t (aF C);have L1:IsLam (untrs H8 L) bG fvP (.ref F) [.int ((m+1:Nat):Int),.ref S,.ref N,.ref I]:=eF f ⟨F,d1,_,rfl,B.at b0,B.at a6,rfl,nd4 _,.cons cW (.cons cT (.cons cB (.cons cA .nil)))⟩;have bn:IsLam (untrs H8 L) bE fvP (.ref J) [.int ((m+1:Nat):Int),.ref S,.ref N,.ref I]:=eF f ⟨J,d2,_,rfl,p _ _ a8,p _ _ a5,rfl,nd4 _,.cons cW (.cons cT (.cons cB (.cons cA .nil)))⟩;refine q _ _ C (bS.same p) ⟨y,r,l,_,rfl,bu f (s8 _ _ g1) (λ_ z=>nomatch z),dw a0 (s0.free fl) (s8 _ _ g2),?_,by show 1<=2;decide,by show 2<=5000;decide⟩;exact .cons ⟨M,.ref F,rfl,bu f (R.at ab) (λ_ z=>nomatch z),by show 1<=(x.c1:Int);lia,.inl ⟨_,_,_,m,x,al,.inl ⟨L1,by lia,rfl⟩⟩⟩ (.cons ⟨G,.ref J,rfl,bu f (X _ _ Z) (λ_ z=>nomatch z),by show 1<=(x.c2:Int);lia,.inl ⟨_,_,_,m,x,al,.inr ⟨bn,by lia,rfl⟩⟩⟩ .nil)
theorem nK(T:Txt K mg a)(b:Bm mg base):∀ j,FnOk P w K mg base CX0 (4*j+4) a.f_c a.d_c ["wanted","one","other","taken"] (spPN j a)
 | 0=>qW (k:=2) T b (by decide) ⟨λc H Q E h=>by obtain⟨v1,v2,vt,n,x,Bd,rfl,_⟩:=h;rfl,λ_ _ _ _ _ _ _ _ _ _ _ _ _ h=>by obtain⟨v1,v2,vt,n,x,Bd,rfl,_,_,hc,hj,_⟩:=h;have:=qr hj;lia⟩ ⟨λc H Q E h=>by obtain⟨v1,v2,vt,n,x,Bd,rfl,_⟩:=h;rfl,λ_ _ _ _ _ _ _ _ _ _ _ _ _ h=>by obtain⟨v1,v2,vt,n,x,Bd,rfl,_,_,hc,hj,_⟩:=h;have:=qr hj;lia⟩
 | j+1=>by
  have G:=nK T b j;have A:=js (k:=4*j+4) T b (by lia) (iU T (by lia) G) (i3 T (by lia) G);exact qW (k:=4*j+6) T b (by lia) (qZ T b A) (qH T b A)
end
open Tb (Tr stm stP Hd)
def yW(a:Ad):Sp:=λvs H Q _=>∃ v,∃ n m:Int,vs=[v,.int n,.int m]/\TabsOk (tabs a) H/\∀ H' f,SameT H H'->TabsOk (tabs a) H'->IsLam H' bb fvH f [.int n,.int m,v]->Q f H'
inductive spSN(a:Ad)(vs:List V)(H:Hp)(Q:VK)(_E:XK):Prop
 | mk(l:Addr)(held:List Int)(n many s:Nat)(Bd:List Addr)(h0:vs=[.ref l,.int (n:Nat),.int (many:Nat)])(h1:Bad H Bd)(h2:untrs H Bd l=some (.lst (held.map V.int)))(h3:(n+s=many\/(s=0/\many<=n)))(h4:many<=24)(h5:held.length<=24)(h6:Hd held n)(h7:TabsOk (tabs a) H)(h8:Res a H Bd (stm s held n) Q):spSN a vs H Q _E
theorem lsH:LamScope bb fvH []:=⟨rfl,rfl,rfl,by decide +kernel,by decide +kernel,by decide +kernel,by decide +kernel,by decide +kernel⟩
def uq(a:Ad):List V->Sp:=λvals vs H Q _=>∃(l:Addr) (held:List Int) (n many s:Nat) (Bd:List Addr),vals=[.int (n:Nat),.int (many:Nat),.ref l]/\vs=[]/\Bad H Bd/\untrs H Bd l=some (.lst (held.map V.int))/\n+1+s=many/\many<=24/\Hd held (n+1)/\TabsOk (tabs a) H/\Res a H Bd (stm s held (n+1)) Q
section
variable {P:Program}{w:World}{K:Frag}{mg:Str->Option Value}{base:Heap}{a:Ad}
theorem wt(T:Txt K mg a)(p:Bm mg base):FnOk P w K mg base CX0 1 a.f_d a.d_d ["held","number","many"] (yW a):=by
 refine T.F_d.okL T.lcd_d jn (by decide +kernel) (λj H Q E h=>?_) (λA outer s H j Q E hr h=>?_)
 .obtain⟨v,n,m,rfl,_⟩:=h;rfl
 .obtain⟨v,n,m,rfl,u,q⟩:=h
  refine⟨_,(oP (hV (d:=bb) rfl T.lch_d p rfl (by with_unfolding_all rfl) rfl (jr a) (.head _) T.tnd jy)),?_⟩;refine⟨u,λl o z r g y i f=>?_⟩;exact λx b c=>q _ _ (r.trans b.t) (g.same b) ⟨l,o,_,rfl,b _ _ i,b _ _ f,rfl,by simp;lia,.cons (c 1 _ _ _ rfl rfl (by with_unfolding_all rfl)) (.cons (c 2 _ _ _ rfl rfl (by with_unfolding_all rfl)) (.cons (c 0 _ _ _ rfl rfl (by with_unfolding_all rfl)) .nil))⟩
theorem mU(T:Txt K mg a)(hB:Bm mg base):FnOk P w K mg base CX0 3 a.f_t a.d_t ["held","number","many"] (spSN a):=by
 have bS:FnOk P w K mg base CX0 1 _ _ _ (spToldI a):=qC T;have a':FnOk P w K mg base CX0 1 _ _ _ (spDieI a):=pG T;have as:FnOk P w K mg base CX0 2 _ _ _ _:=(wt T hB).mono (by decide);have bl:FnOk P w K mg base CX0 2 _ _ _ _:=(pZ T).mono (by decide);refine T.F_t.ok sc_t (λvs H Q E h=>?_) (λcdv A outer s H vs Q E hr h=>?_)
 .obtain⟨l,d,n,f,s,u,rfl,_⟩:=h;rfl
 .obtain⟨l,d,n,f,s,u,rfl,W,hl,hs,a2,b1,hd,hT,q⟩:=h
  have b2:sizeLine=16777216:=sizeLine_eq;have Z:=(av hl).2;refine⟨_,(ai (cg (cm AS (vr 1) (vr 2) (bp _)) (aj (ax (eM T.mk_g bS hr rfl T.mc_g T.Bi_g .nil aq (aa (vr 0) ae)))) aT) (ai (aM (i:=3) sc_t.nd rfl (Or.inr rfl) (az aL rfl T.z_len ce (aa (vr 0) ae))) (ai (lf rfl (i:=4) sc_t.nd rfl rfl (by with_unfolding_all rfl) (N:=["place","number","many","held","most"]) (ix:=[none,some 1,some 2,some 0,some 3]) ⟨rfl,rfl,rfl,rfl,⟨rfl,rfl,rfl,⟨rfl,rfl,rfl,⟨rfl,rfl,rfl,⟨rfl,rfl,rfl,trivial⟩⟩⟩⟩⟩ (ee rfl T.z_range (aa (vr 3) ae)) ⟨λC s H fp=>ar (i:=0) (show List.Nodup (["place","number","many","held","most"]:List Str) by decide +kernel) rfl (Or.inl rfl),λC s H fp=>cH,λC s H fp=>(bT (aa am (aa (ap as hr rfl T.m_d T.F_d.kp T.B_d .nil aq (aa (ap bl hr rfl T.m_C T.F_C.kp T.B_C .nil aq (aa (vr 3) (aa (vr 4) (aa (vr 1) (aa (vr 0) ae))))) (aa (vr 1) (aa (vr 2) ae)))) ae)))⟩) (aj (ax (eM T.mk_n a' hr rfl T.mc_n T.Bi_n .nil aq (aa (aw fo (vr 4) (bW (aa (bT (aa (aw gq (aw cu (vr 1) am) (vr 3)) (aa (ap as hr rfl T.m_d T.F_d.kp T.B_d .nil aq (aa (vr 0) (aa (vr 1) (aa (vr 2) ae)))) ae))) ae))) ae))))))),pU ?_⟩;intro cy cx ct;refine ifC (λc=>?_) (λc=>?_)
  .have c:(n:Int) >= (f:Int):=c
   obtain rfl:s=0:=by lia
   intro x dx hx a3 cs;have s9:Same H (upd (upd H dx (.own x)) x (.ins a.c_g dx [])):=λb o e=>by rw[af (ay e hx),af (ay e a3)];exact e
   refine⟨x,dx,l,d,rfl,ad,.inl (s9 _ _ Z),by lia,λp t b' k g1 g2 g3=>⟨rfl,?_⟩⟩;have sm:=made hx a3 k;exact q _ _ sm.t (hT.same sm) (kE (W.t sm.t) ⟨x,dx,t,b',rfl,g1,g2,g3⟩)
  have c:¬(n:Int) >= (f:Int):=c
  obtain⟨s',rfl⟩:∃ s',s=s'+1:=⟨s - 1,by lia⟩
  have e0:n+1+s'=f:=by lia
  refine⟨_,.inl (SqL.of Z),?_⟩;rw[length_map];refine⟨_,rfl,by lia,by lia,λD hD=>?_⟩;have ext:∀{p:Hp},TabsOk (tabs a) p->∀{ys:List V}{a1:List V},p D=some (.lst ys)->TabsOk (tabs a) (upd p D (.lst a1)):=λbm ys a1 e=>bm.put (λps z=>by rw[e]at z;cases z) λφ z=>by rw[e]at z;cases z
  let pts:List (Int×Tr):=(List.range d.length).map λpl=>((1:Int),stm s' (d.set pl (n:Int)) (n+1))
  have a7:pts.length=d.length:=by show(List.map _ _).length=_;rw[length_map,length_range]
  let Pw1:PvL:=λi j p=>SameT H p/\TabsOk (tabs a) p/\p D=some (.lst j)/\i<=d.length/\Paired (NdR (untrs p (D::u))) (pts.take i) j
  refine m7 (lo:=0) (n:=(d.length:Int).toNat) Pw1
   ⟨(Same.new hD).t,hT.same (Same.new hD),ad,Nat.zero_le _,.nil⟩ (λi ys p h=>h.2.2.1) ?_ ?_
  .rintro i j p P' hi ⟨O,Y,F,cA,hc⟩ bn
   have a4:i<d.length:=by lia
   have M:Bad p (D::u):=λb hb=>by
    rcases mem_cons.mp hb with rfl | hb
    .exact⟨_,F⟩
    .exact W.t O b hb
   have ab:=O.at Z;have cc:untrs p (D::u) l=some (.lst (d.map V.int)):=(ii O hD).at hl;refine⟨⟨rfl,rfl,rfl,rfl,trivial⟩,?_⟩;refine⟨l,d.length,_,.int (n:Nat),d.map V.int,rfl,ab,by rw[length_map];exact b1,by lia,by lia,.inr (by rw[length_map]),λH2 h' s2 y hor=>?_⟩
   have b6:j3 (d.length:Int) (d.map V.int) (.int (n:Nat)) (0+(i:Int))=(d.set i (n:Int)).map V.int:=by
    rw[rf V.int];unfold j3;rw[if_neg (by lia),if_pos (by lia),Int.zero_add];rfl
   rw[b6]at y;have a9:=s2 _ _ F
   have b5:untrs H2 (D::u) h'=some (.lst ((d.set i (n:Int)).map V.int)):=by
    rcases hor with rfl | hor
    .have:=(aF s2.t).at cc
     rw[(av this).2]at y;rw[this,y]
    .exact dw M hor y
   refine⟨.ref h',_,_,rfl,Y.same s2,λH3 f3 t3 br ca=>?_⟩;have b0:=t3.at a9;refine⟨cR _ _,λg X=>?_⟩;have J:=Same.new (o:=.tup [.int 1,f3]) X;have B:=J _ _ b0;have zl:j.length<=i:=by rw[<- hc.length,length_take];lia
   have cj:=(s2.t.trans t3).trans J.t;have L:Bad H3 (D::u):=(M.t s2.t).t t3;have c4:SameT (untrs H3 (D::u)) (untrs (upd (upd H3 g (.tup [.int 1,f3])) D (.lst (j++[.ref g]))) (D::u)):=(aF J.t).trans (dH mem_cons_self);have bt:pts[i]? = some ((1:Int),stm s' (d.set i (n:Int)) (n+1)):=by show(List.map _ _)[i]? = _;rw[List.getElem?_map,List.getElem?_range a4];rfl
   refine⟨B,by lia,bn _ _ ⟨(O.trans cj).put hD,ext (br.same J) B,ad,a4,dI (ak (NdR.t (((aF s2.t).trans (aF t3)).trans c4)) hc) bt ⟨g,f3,rfl,?_,Int.le_refl 1,.inr (.inr ⟨h',d.set i (n:Int),n,f,s',(eF L ca).t c4,((aF t3).trans c4).at b5,rfl,e0,a2,hd.put i⟩)⟩⟩⟩;exact(dH (o:=.lst (j++[.ref g])) mem_cons_self).at (bu (L.t J.t) ad (λ_ z=>nomatch z))
  rintro j H1 ⟨O,Y,F,hi,hc⟩;rw[Int.toNat_natCast,<- a7,take_length]at hc;have zl:j.length=d.length:=by rw[<- hc.length,a7]
  have bo:=ak (NdR.t gX) hc;have r:=W.t O;have ab:=(aF O).at hl;refine⟨.ref l,_,_,rfl,Y,λH2 f2 t2 b4 bg=>?_⟩;refine⟨cR _ _,λg X=>?_⟩;have s3:=Same.new (o:=.tup [.int ((n:Int)+1 - (d.length:Int)),f2]) X;refine⟨(by decide:1<=sizeLine),λp3 co=>?_⟩;have J:=Same.new (o:=.lst [.ref g]) co;have al:=J _ _ (ad (H:=H2) (a:=g) (o:=.tup [.int ((n:Int)+1 - (d.length:Int)),f2]));have a8:=ad (H:=upd H2 g (.tup [.int ((n:Int)+1 - (d.length:Int)),f2])) (a:=p3) (o:=.lst [.ref g]);have G:=s3.trans J;generalize upd (upd H2 g (.tup [.int ((n:Int)+1 - (d.length:Int)),f2])) p3 (.lst [.ref g])=H4 at al a8 G;have B:=G _ _ (t2.at F);refine⟨D,p3,j,_,rfl,rfl,B,a8,by show j.length+1<=_;lia,λp5 b3=>?_⟩;have s5:=Same.new (o:=.lst (j++[.ref g])) b3;have I:=ad (H:=H4) (a:=p5) (o:=.lst (j++[.ref g]));generalize upd H4 p5 (.lst (j++[.ref g]))=H5 at s5 I;have a5:=G.t.trans s5.t;intro x2 v a0 R cs;have s9:Same H5 (upd (upd H5 v (.own x2)) x2 (.ins a.c_n v [])):=λb o e=>by rw[af (ay e a0),af (ay e R)];exact e
  refine⟨x2,v,p5,_,rfl,ad,s9 _ _ I,λH6 l6 fl k g1 g2=>⟨rfl,?_⟩⟩;have s6:=made a0 R k;have an:=a5.trans s6.t;have a6:=t2.trans an;have ck:H5 l6=none:=s9.free fl;have S:=r.t a6;have c6:SameT (untrs H2 u) (untrs H6 u):=aF an;have cB:=hd.len;refine q _ _ (O.trans a6) (b4.same ((G.trans s5).trans s6)) ?_;show IsNd a (untrs H6 u) (.ref x2) (.die (stP s' d n));refine⟨x2,v,l6,_,rfl,bu S g1 (λ_ z=>nomatch z),dw ((r.t t2).t a5) ck g2,bB ⟨g,f2,rfl,bu S ((s5.trans s6) _ _ al) (λ_ z=>nomatch z),by show 1<=(n:Int)+1 - (d.length:Int);lia,.inr (.inr ⟨l,d,n,f,s',(eF (r.t t2) bg).t c6,((aF t2).trans c6).at ab,rfl,e0,a2,hd.stay⟩)⟩ (ak (NdR.t ((aF t2).trans c6)) bo),by rw[Tb.stP_len];lia,by rw[Tb.stP_len];lia⟩
theorem zP(T:Txt K mg a)(J:Bm mg base):LamOk P w K mg base 4 bb fvH [] (uq a):=by
 have o:FnOk P w K mg base CX0 3 _ _ _ (spSN a):=mU T J;refine jF lsH (λM G j c I p=>match I,p with | [],_=>rfl) (λvals vs H Q E h=>?_) (λA outer s H f c j vals vs Q E hr hfv ca h=>?_)
 .obtain⟨l,d,n,b,s,x,rfl,rfl,_⟩:=h;rfl
 .obtain⟨l,d,n,b,k,x,rfl,rfl,i,p,B,r,y,C,q⟩:=h
  refine⟨_,(ap o hr rfl T.m_t T.F_t.kp T.B_t .nil aq (aa (vr 2) (aa (aw cu (vr 0) am) (aa (vr 1) ae)))),?_⟩;have g:=bQ (dS i ca) p (λv z=>nomatch z);rw[di]at g;have L:=y.len;refine⟨l,d,n+1,b,k,x,by show [V.ref l,.int ((n:Int)+1),.int (b:Int)]=_;push_cast;rfl,iw ca i,g,.inl B,r,by lia,y,TabsOk.untrs C ca,λN O F u D=>λH3 s3 hc=>?_⟩;exact q _ _ (ml F s3 hc) (u.same s3) (D.t (aF s3.t))
end
open Tb (Tr pN cM wo Pv stm stP Hd)
def spV(u:V):Sp:=λvs H Q _=>∃ v,vs=[v]/\Q u H
def BY(a:Ad):Sp:=λvs H Q _=>∃ x dx t,vs=[.ref x]/\H x=some (.ins a.c_g dx [("rising",.ref t)])/\Q (.ref t) H
def RawR(H:Hp)(pt:Int×V)(y:V):Prop:=∃ q,y=.ref q/\H q=some (.tup [.int pt.1,pt.2])/\1<=pt.1
theorem RawR.t{H b:Hp}(s:SameT H b)(a:Int×V)(y:V)(h:RawR H a y):RawR b a y:=by
 obtain⟨q,d,f,c⟩:=h;exact⟨q,d,s.at f,c⟩
def IsRaw(a:Ad)(H:Hp)(v:V)(rs:List (Int×V)):Prop:=∃ x dx l ys,v=.ref x/\H x=some (.ins a.c_n dx [("makes",.ref l)])/\H l=some (.lst ys)/\Paired (RawR H) rs ys/\1<=rs.length/\rs.length<=5000
theorem IsRaw.t{a:Ad}{H b:Hp}{v:V}{c:List (Int×V)}(s:SameT H b)(h:IsRaw a H v c):IsRaw a b v c:=by
 obtain⟨x,g,l,f,n,o,d,p,i,j⟩:=h;exact⟨x,g,l,f,n,s.at o,s.at d,ak (RawR.t s) p,i,j⟩
def BZ:Sp:=λvs H Q _=>∃ v,vs=[v]/\∀ l,H l=none->Q (.ref l) (upd H l (.lst []))
def Af(rs:List (Int×V)):Int:=(rs.map (·.1)).sum
def B8(a:Ad):Sp:=λvs H Q _=>∃ v rs,vs=[v]/\IsRaw a H v rs/\∀ H',Same H H'->Q (.int (Af rs)) H'
def PrR(H:Hp)(p:Int×Tr)(r:Int×V):Prop:=p.1=r.1/\1<=p.1/\IsMk H r.2 p.2
theorem wU{a:Ad}{H:Hp}{v:V}{b:List Int}(h:IsNd a H v (.leaf b)):IsTold a H v b:=h
theorem vJ{a:Ad}{H:Hp}{v:V}{ps:List (Int×Tr)}(h:IsNd a H v (.die ps)):∃ rs,IsRaw a H v rs/\Paired (PrR H) ps rs:=by
 obtain⟨x,q,l,b,rfl,n,s,z,o,i⟩:=h
 have c:∀{ps:List (Int×Tr)}{b:List V},Paired (NdR H) ps b->∃ rs:List (Int×V),Paired (RawR H) rs b/\Paired (PrR H) ps rs:=by
  intro ps b h
  induction h with
  | nil=>exact⟨[],.nil,.nil⟩
  | @cons pt y ps b r _ ih =>
   obtain⟨rs,p,j⟩:=ih;obtain⟨B,f,C,u,d,w⟩:=r;exact⟨(pt.1,f)::rs,.cons ⟨B,C,u,d⟩ p,.cons ⟨rfl,d,w⟩ j⟩
 obtain⟨rs,A,g⟩:=c z;have:rs.length=ps.length:=g.length.symm;exact⟨rs,⟨x,q,l,b,rfl,n,s,A,by lia,by lia⟩,g⟩
theorem xO{H:Hp}{ps:List (Int×Tr)}{a:List (Int×V)}(h:Paired (PrR H) ps a):Af a=Tb.tot ps:=by
 induction h with
 | nil=>rfl
 | cons r _ ih =>
  unfold Af Tb.tot at *;rw[map_cons,map_cons,sum_cons,sum_cons,ih,r.1]
def rMk(a:Ad)(f:V)(H:Hp)(Q:VK):Prop:=uQ bG fvP (zg a) f [] H Q\/uQ bE fvP (zE a) f [] H Q\/qh ld_going_1 fvG (zk a) f [] H Q\/uQ bb fvH (uq a) f [] H Q
theorem xi{a:Ad}{H:Hp}{d:List Addr}{f:V}{t:Tr}{Q:VK}(h:IsMk (untrs H d) f t)(b:Bad H d)(A:TabsOk (tabs a) H)(q:Res a H d t Q):rMk a f H Q:=by
 rcases h with⟨F,D,E,n,x,G,⟨⟨o,c,i,rfl,j,w,r,v,u⟩,B,rfl⟩ | ⟨⟨o,c,i,rfl,j,w,r,v,u⟩,B,rfl⟩⟩ | ⟨o,c,i,L,p,g,O,rfl,j,w,r,v,u,M,J,rfl⟩ | ⟨l,y,n,z,s,⟨o,c,i,rfl,j,w,r,v,u⟩,N,rfl,I,C,K⟩
 .exact .inl ⟨o,c,i,_,rfl,(av j).2,(av w).2,r,v,db cZ u,F,D,E,n,x,d,rfl,rfl,b,G,B,A,q⟩
 .exact .inr (.inl ⟨o,c,i,_,rfl,(av j).2,(av w).2,r,v,db cZ u,F,D,E,n,x,d,rfl,rfl,b,G,B,A,q⟩)
 .exact .inr (.inr (.inl ⟨o,c,i,_,rfl,(av j).2,(av w).2,r,v,db cZ u,L,p,g,O,d,rfl,rfl,b,M,J,A,q⟩))
 .exact .inr (.inr (.inr ⟨o,c,i,_,rfl,(av j).2,(av w).2,r,v,db cZ u,l,y,n,z,s,d,rfl,rfl,b,N,I,C,K,A,q⟩))
def PartN(a:Ad)(H:Hp)(pt:Int×Tr)(z:V):Prop:=∃ q u,z=.ref q/\H q=some (.tup [.int pt.1,u])/\IsNd a H u pt.2
theorem PartN.t{a:Ad}{H c:Hp}(s:SameT H c)(b:Int×Tr)(z:V)(h:PartN a H b z):PartN a c b z:=by
 obtain⟨q,u,f,g,d⟩:=h;exact⟨q,u,f,s.at g,d.t s⟩
def Bo(a:Ad):Sp:=λvs H Q _=>∃ v ps Bd,vs=[v]/\Bad H Bd/\IsNd a (untrs H Bd) v (.die ps)/\TabsOk (tabs a) H/\∀ H' D zs,SameT H H'->TabsOk (tabs a) H'->H D=none->H' D=some (.lst zs)->Paired (PartN a (untrs H' Bd)) ps zs->Q (.ref D) H'
section
variable {P:Program}{w:World}{K:Frag}{mg:Str->Option Value}{base:Heap}{a:Ad}
theorem B0(T:Txt K mg a)(j:Bm mg base):LamOk P w K mg base 12 bG fvP [] (zg a):=by
 have p:=nK (P:=P) (w:=w) T j 1;have i:FnOk P w K mg base CX0 11 _ _ _ (spF1 2 a):=qZ T j (js (k:=8) T j (by decide) (iU T (by decide) p) (i3 T (by decide) p));refine jF lsP (λL D d c F I=>match F,I with | [],_=>rfl) (λvals vs H Q E h=>?_) (λA outer s H f c d vals vs Q E hr hfv ca h=>?_)
 .obtain⟨y,r,v,n,x,o,rfl,rfl,_⟩:=h;rfl
 .obtain⟨y,r,v,n,x,o,rfl,rfl,b,J,G,z,q⟩:=h
  refine⟨_,(ap i hr rfl T.m_i T.F_i.kp T.B_i .nil aq (aa (vr 0) (aa (vr 3) (aa (vr 2) (aa (vr 1) ae))))),?_⟩;have g:=J.un (dS b ca);rw[di]at g;exact⟨y,r,v,n,x,o,rfl,iw ca b,g,G,gu _ _ _,TabsOk.untrs z ca,λM u C l B=>λH3 s3 hc3=>q _ _ (ml C s3 hc3) (l.same s3) (B.t (aF s3.t))⟩
theorem Bz(T:Txt K mg a)(j:Bm mg base):LamOk P w K mg base 12 bE fvP [] (zE a):=by
 have p:=nK (P:=P) (w:=w) T j 1;have i:FnOk P w K mg base CX0 11 _ _ _ (spF2 2 a):=qH T j (js (k:=8) T j (by decide) (iU T (by decide) p) (i3 T (by decide) p));refine jF lsQ (λL D d c F I=>match F,I with | [],_=>rfl) (λvals vs H Q E h=>?_) (λA outer s H f c d vals vs Q E hr hfv ca h=>?_)
 .obtain⟨y,r,v,n,x,o,rfl,rfl,_⟩:=h;rfl
 .obtain⟨y,r,v,n,x,o,rfl,rfl,b,J,G,z,q⟩:=h
  refine⟨_,(ap i hr rfl T.m_b T.F_b.kp T.B_b .nil aq (aa (vr 0) (aa (vr 3) (aa (vr 2) (aa (vr 1) ae))))),?_⟩;have g:=J.un (dS b ca);rw[di]at g;exact⟨y,r,v,n,x,o,rfl,iw ca b,g,G,gu _ _ _,TabsOk.untrs z ca,λM u C l B=>λH3 s3 hc3=>q _ _ (ml C s3 hc3) (l.same s3) (B.t (aF s3.t))⟩
theorem AZ(T:Txt K mg a)(hB:Bm mg base):LamOkC P w K mg base 14 ld_going_1 fvG [] (zk a):=by
 have X:=nK (P:=P) (w:=w) T hB 2;have l:LamOk P w K mg base 13 cC fvP ["place"] (zS 2 a):=iU T (by decide) X;have i:LamOk P w K mg base 13 bM fvP ["place"] (ze 2 a):=i3 T (by decide) X;refine p9 lsG (λpm ab b c us hl=>match us,hl with | [],_=>rfl) (λo vals vs H Q E h=>?_) (λA outer s H f c b vals vs Q E hr hfv ca h=>?_)
 .obtain⟨go,p,g,ps,B,rfl,rfl,_⟩:=h;rfl
 .obtain⟨go,p,g,ps,B,rfl,rfl,C,G,N,Z,q⟩:=h
  refine⟨_,(PE.or (gH (vr 1) l hr (aa (vr 0) ae)) (gH (vr 1) i hr (aa (vr 0) ae))),?_⟩;rw[di]at G;have d:=iw ca C;have j:=TabsOk.untrs Z ca;have D:Res a (untrs H (b.map (·.2))) B (g p) (λv R=>∀ H3,Same R H3->(∀ p∈b,H3 p.2=H p.2)->Q v H3):=λR u t' hT' hN=>λH3 s3 hc3=>q _ _ (ml t' s3 hc3) (hT'.same s3) (hN.t (aF s3.t))
  generalize untrs H (b.map (·.2))=U at G d j D;obtain⟨W,O,S,n,x,Y,⟨⟨y,z,o,rfl,r,M,I,J,L⟩,F,rfl,rfl,_⟩ | ⟨⟨y,z,o,rfl,r,M,I,J,L⟩,F,rfl,rfl,_⟩⟩:=G
  .exact .inl ⟨⟨y,_,o,z,rfl,(av r).2⟩,λ_ _ _ _ _ e=>e,y,z,o,_,rfl,(av r).2,(av M).2,I,J,db cZ L,W,O,S,n,x,p,B,rfl,rfl,d,Y,F,N,gu _ _ _,j,D⟩
  .exact .inr ⟨⟨y,_,o,z,rfl,(av r).2⟩,λ_ _ _ _ _ e=>e,y,z,o,_,rfl,(av r).2,(av M).2,I,J,db cZ L,W,O,S,n,x,p,B,rfl,rfl,d,Y,F,N,gu _ _ _,j,D⟩
theorem Ck(T:Txt K mg a):FnOk P w K mg base CX0 1 a.x_u a.y_u ["self"] (spV (.bl true)):=by
 refine T.F_u.ok iR (λb H Q E h=>?_) (λcdv A outer s H b Q E hr h=>?_)
 .obtain⟨v,rfl,_⟩:=h;rfl
 .obtain⟨v,rfl,q⟩:=h
  exact⟨_,(aj (ax gw)),q⟩
theorem Bx(T:Txt K mg a):FnOk P w K mg base CX0 1 a.x_A a.y_A ["self"] (spV (.int 0)):=by
 refine T.F_A.ok j0 (λb H Q E h=>?_) (λcdv A outer s H b Q E hr h=>?_)
 .obtain⟨v,rfl,_⟩:=h;rfl
 .obtain⟨v,rfl,q⟩:=h
  exact⟨_,(aj (ax am)),q⟩
theorem Bi(T:Txt K mg a):FnOk P w K mg base CX0 1 a.x_D a.y_D ["self"] (BY a):=by
 refine T.F_D.ok lG (λd H Q E h=>?_) (λcdv A outer s H d Q E hr h=>?_)
 .obtain⟨x,b,t,rfl,_⟩:=h;rfl
 .obtain⟨x,b,t,rfl,c,q⟩:=h
  exact⟨_,(aj (ax (cL (vr 0) rfl))),x,_,b,_,_,rfl,c,T.cl_g,T.na_Told_rising,rfl,q⟩
theorem Cd(T:Txt K mg a):FnOk P w K mg base CX0 1 a.x_v a.y_v ["self"] (spV (.bl false)):=by
 refine T.F_v.ok jE (λb H Q E h=>?_) (λcdv A outer s H b Q E hr h=>?_)
 .obtain⟨v,rfl,_⟩:=h;rfl
 .obtain⟨v,rfl,q⟩:=h
  exact⟨_,(aj (ax gw)),q⟩
theorem BG(T:Txt K mg a):FnOk P w K mg base CX0 1 a.x_P a.y_P ["self"] (spV .non):=by
 refine T.F_P.ok mZ (λb H Q E h=>?_) (λcdv A outer s H b Q E hr h=>?_)
 .obtain⟨v,rfl,_⟩:=h;rfl
 .obtain⟨v,rfl,q⟩:=h
  exact⟨_,(aj (ax zW)),q⟩
theorem Bg(T:Txt K mg a):FnOk P w K mg base CX0 1 a.x_B a.y_B ["self"] BZ:=by
 refine T.F_B.ok jW (λb H Q E h=>?_) (λcdv A outer s H b Q E hr h=>?_)
 .obtain⟨v,rfl,_⟩:=h;rfl
 .obtain⟨v,rfl,q⟩:=h
  exact⟨_,(aj (ax (bW ae))),Nat.zero_le _,λl c=>q l c⟩
theorem AY(T:Txt K mg a):FnOk P w K mg base CX0 1 a.x_E a.y_E ["self"] (B8 a):=by
 refine T.F_E.ok mq (λR H Q E h=>?_) (λcdv A outer s H R Q E hr h=>?_)
 .obtain⟨v,f,rfl,_⟩:=h;rfl
 .obtain⟨v,f,rfl,⟨x,X,l,j,rfl,W,G,J,S,M⟩,q⟩:=h
  have u:sizeLine=16777216:=sizeLine_eq;refine⟨_,(aj (ax (az (kh rfl) rfl T.z_sum vO (aa (cJ rfl (N:=["many","make"]) (ix:=[none,none]) ⟨rfl,rfl,rfl,rfl,trivial⟩ (bI (cL (vr 0) rfl)) ⟨λC s H B=>(gL (K:=K) (n:=2) rfl rfl (au (ar (i:=0) (show List.Nodup (["many","make"]:List Str) by decide +kernel) rfl (Or.inl rfl)) (au (ar (i:=1) (show List.Nodup (["many","make"]:List Str) by decide +kernel) rfl (Or.inl rfl)) bR))),λC s H B=>cH,λC s H B=>(vr 0)⟩) ae)))),?_⟩;refine⟨x,_,X,_,_,rfl,W,T.cl_n,T.na_Die_makes,rfl,.inl ⟨⟨_,SqL.of G⟩,λD F=>?_⟩⟩
  let Pw1:PvL:=λi g c=>Same H c/\c D=some (.lst g)/\i<=f.length/\g=((f.take i).map (·.1)).map V.int
  refine cE (K:=K) (a:=l) (xs:=j) Pw1 ⟨Same.new F,ad,Nat.zero_le _,rfl⟩ (λi j c h=>SqL.of (h.1 _ _ G)) (λi j c h=>h.2.1) ?_ ?_
  .rintro i y g c Y L ⟨o,b,Z,rfl⟩ z
   obtain⟨⟨I,t⟩,d,O,rfl,p,_⟩:=cQ J L;have r:i<f.length:=(List.getElem?_eq_some_iff.mp d).1;refine⟨O,_,rfl,SqT.of (o _ _ p),rfl,_,_,rfl,_,_,rfl,rfl,trivial,b,by rw[length_map,length_map,length_take];lia,z _ _ ⟨o.put F,ad,r,?_⟩⟩;rw[take_add_one,d];simp
  .rintro g c ⟨o,b,_,rfl⟩
   rw[show j.length=f.length from J.length.symm,take_length]at b;exact⟨D,_,rfl,SqL.of b,q _ o⟩
theorem B9(T:Txt K mg a)(hB:Bm mg base):FnOk P w K mg base CX0 16 a.x_F a.y_F ["self"] (Bo a):=by
 have X:LamOk P w K mg base 15 bG fvP [] (zg a):=LamOk.mono (B0 T hB) (by decide);have Y:LamOk P w K mg base 15 bE fvP [] (zE a):=LamOk.mono (Bz T hB) (by decide);have ab:LamOkC P w K mg base 15 ld_going_1 fvG [] (zk a):=LamOkC.mono (AZ T hB) (by decide);have G:LamOk P w K mg base 15 bb fvH [] (uq a):=LamOk.mono (zP T hB) (by decide);refine T.F_F.ok lU (λvs H Q E h=>?_) (λcdv A outer s H vs Q E hr h=>?_)
 .obtain⟨v,L,M,rfl,_⟩:=h;rfl
 .obtain⟨v,L,M,rfl,a4,bl,hT,q⟩:=h
  have a9:sizeLine=16777216:=sizeLine_eq;obtain⟨rs,⟨x,dx,l,I,rfl,hx,hl,p,bn,bm⟩,as⟩:=vJ bl;have rl:rs.length=L.length:=as.length.symm;have a7:I.length=rs.length:=p.length.symm;have hx:=(av hx).2;have hl:=(av hl).2;refine⟨_,(aj (ax (cJ rfl (N:=["many","make"]) (ix:=[none,none]) ⟨rfl,rfl,rfl,rfl,trivial⟩ (bI (cL (vr 0) rfl)) ⟨λC s H fp=>(gL (K:=K) (n:=2) rfl rfl (au (ar (i:=0) (show List.Nodup (["many","make"]:List Str) by decide +kernel) rfl (Or.inl rfl)) (au (ar (i:=1) (show List.Nodup (["many","make"]:List Str) by decide +kernel) rfl (Or.inl rfl)) bR))),λC s H fp=>cH,λC s H fp=>(bT (aa (vr 0) (aa (PE.or (ik (vr 1) X hr) (PE.or (ik (vr 1) Y hr) (PE.or (jG (vr 1) ab hr) (ik (vr 1) G hr)))) ae)))⟩))),?_⟩;refine⟨x,_,dx,_,_,rfl,hx,T.cl_n,T.na_Die_makes,rfl,.inl ⟨⟨_,SqL.of hl⟩,λD S=>?_⟩⟩;have ext:∀{d:Hp},TabsOk (tabs a) d->∀{I:List V}{W:List V},d D=some (.lst I)->TabsOk (tabs a) (upd d D (.lst W)):=λa' I W e=>a'.put (λL z=>by rw[e]at z;cases z) λφ z=>by rw[e]at z;cases z
  let Pw2:PvL:=λi r d=>SameT H d/\TabsOk (tabs a) d/\d D=some (.lst r)/\i<=L.length/\Paired (PartN a (untrs d (D::M))) (L.take i) r
  refine cE (K:=K) (a:=l) (xs:=I) Pw2
   ⟨(Same.new S).t,hT.same (Same.new S),ad,Nat.zero_le _,.nil⟩ (λi I d h=>SqL.of (h.1.at hl)) (λi I d h=>h.2.2.1) ?_ ?_
  .rintro i y r d P' hy ⟨J,F,g,hi,Z⟩ bg
   obtain⟨⟨al,f⟩,a6,q1,rfl,B,m0⟩:=cQ p hy;obtain⟨⟨c,t⟩,R,e9,_,a3⟩:=cQ as a6;have e9:c=al:=e9;subst e9;have B:=(av B).2;have a1:i<L.length:=(List.getElem?_eq_some_iff.mp R).1
   have j:Bad d (D::M):=λb hb=>by
    rcases mem_cons.mp hb with rfl | hb
    .exact⟨_,g⟩
    .exact a4.t J b hb
   refine⟨q1,_,rfl,SqT.of (J.at B),rfl,_,_,rfl,_,_,rfl,rfl,trivial,?_⟩;refine xi (a3.t (ii J S)) j F λH2 u t2 a2 hu=>?_
   have a0:=t2.at g;refine⟨by show 2<=sizeLine;decide,λq2 a8=>?_⟩;have s3:=Same.new (o:=.tup [.int c,u]) a8;have an:=s3 _ _ a0;have yl:r.length<=5000:=by rw[<- Z.length,length_take];lia
   have a5:=(J.trans t2).trans s3.t;have O:=(j.t t2).t s3.t;have c3:SameT (untrs H2 (D::M)) (untrs (upd (upd H2 q2 (.tup [.int c,u])) D (.lst (r++[.ref q2]))) (D::M)):=(aF s3.t).trans (dH mem_cons_self);refine⟨an,by lia,bg _ _ ⟨a5.put S,ext (a2.same s3) an,ad,a1,dI (ak (PartN.t ((aF t2).trans c3)) Z) R ⟨q2,u,rfl,?_,hu.t c3⟩⟩⟩;exact(dH (o:=.lst (r++[.ref q2])) mem_cons_self).at (bu O ad (λ_ z=>nomatch z))
  .rintro r d ⟨J,F,g,hi,Z⟩
   rw[a7,rl,take_length]at Z;exact q d D r J F S g (ak (PartN.t gX) Z)
end
open Tb (Tr Ent Way bnd xX Dk Dks)
theorem BP{H a:Hp}{D:Addr}(s:SameT H a)(h:H D=none):SameT H (untr a D):=λb o e=>by
 rw[bq (ay e h)];exact s b o e
theorem zV{H a:Hp}{D:Addr}(s:SameT H a):SameT (untr H D) (untr a D):=λb o e=>by
 by_cases hb:b=D
 .rw[hb,dO]at e;cases e
 .rw[bq hb]at e ⊢
  exact s b o e
def bd(d:Nat):Nat:=43*(24 - d)+2
def EntR(a:Ad)(H:Hp)(e:Ent)(y:V):Prop:=∃ q v d,y=.ref q/\H q=some (.tup [v,.int e.2.1,.int e.2.2])/\IsNd a H v e.1/\Dk d e.1/\d<=24/\Bt (bd d) e.2.1/\Bt (bd d) e.2.2/\0<e.2.2
theorem EntR.t{a:Ad}{H b:Hp}(s:SameT H b)(e:Ent)(y:V)(h:EntR a H e y):EntR a b e y:=by
 obtain⟨q,v,d,f,g,c,i⟩:=h;exact⟨q,v,d,f,s.at g,c.t s,i⟩
def WayR(H:Hp)(w:Way)(y:V):Prop:=∃ q kt ct ns,y=.ref q/\H q=some (.tup [.ref kt,.ref ct])/\H kt=some (.tup (ns.map V.int))/\Srt ns w.1/\H ct=some (.tup [.int w.2.1,.int w.2.2])/\Bt 1100 w.2.1/\Bt 1100 w.2.2/\0<w.2.2
theorem WayR.t{H a:Hp}(s:SameT H a)(w:Way)(y:V)(h:WayR H w y):WayR a w y:=by
 obtain⟨q,f,d,l,i,j,b,n,c,g⟩:=h;exact⟨q,f,d,l,i,s.at j,s.at b,n,s.at c,g⟩
def RefMT(a:Ad)(H:Hp)(E:XK):Prop:=∀ H',SameT H H'->TabsOk (tabs a) H'->E (.ref a.c_r) none H'
def vR(a:Ad):Sp:=λvs H Q E=>∃ v d t,vs=[v]/\IsNd a H v t/\Dk d t/\d<=24/\Tb.Ok t/\TabsOk (tabs a) H/\(Tb.lv t<=4096->∀ H' l zs,SameT H H'->TabsOk (tabs a) H'->H l=none->H' l=some (.lst zs)->Paired (WayR H') (Tb.wl t 1 1) zs->Q (.ref l) H')/\(4096<Tb.lv t->RefMT a H E)
theorem vN{a:Ad}{H d:Hp}{E:XK}{c:Addr}(t:SameT H d)(j:TabsOk (tabs a) d)(q:∀ H',SameT H H'->TabsOk (tabs a) H'->E (.ref c) none H'):∀ z,d z=none->∃ x dct φ,V.ref z=.ref x/\(upd d z (.ext (XD0 z c))) x=some (.ext φ)/\(∀ h,φ h->XU x c dct h)/\H x=none/\E (.ref c) dct (untr (upd d z (.ext (XD0 z c))) x):=λz f=>by
 have i:Same d (untr (upd d z (.ext (XD0 z c))) z):=λb o e=>by
  have g:b≠z:=λy=>by rw[y,f]at e;cases e
  rw[bq g,af g];exact e
 exact⟨z,none,_,rfl,ad,λh y=>y,t.free f,q _ (t.trans i.t) (j.same i)⟩
def cut2(H:Hp)(l m:Addr):Hp:=untrs H [l,m]
theorem gR{H:Hp}{l m b:Addr}{o:HO}(h:cut2 H l m b=some o):b≠l/\b≠m/\H b=some o:=by
 obtain⟨n,e⟩:=av h;exact⟨λz=>n (by rw[z];simp),λz=>n (by rw[z];simp),e⟩
theorem gD{H:Hp}{l m b:Addr}{o:HO}(a:b≠l)(c:b≠m)(h:H b=some o):cut2 H l m b=some o:=by
 unfold cut2;rw[ba (by simp[a,c])];exact h
theorem SameT.cut2{H a:Hp}{l m:Addr}(s:SameT H a):SameT (cut2 H l m) (My.cut2 a l m):=aF s
theorem pz{H:Hp}{l m:Addr}{o:HO}:SameT (cut2 H l m) (cut2 (upd H l o) l m):=dH (by simp)
theorem zf{H:Hp}{l m:Addr}{o:HO}:SameT (cut2 H l m) (cut2 (upd H m o) l m):=dH (by simp)
theorem nR{H:Hp}{l m:Addr}:SameT (cut2 H l m) H:=cZ
theorem AM{H a:Hp}{l m:Addr}(s:SameT H a)(f:H l=none)(c:H m=none):SameT H (cut2 a l m):=λb o e=>by
 have d:b ∉ [l,m]:=λz=>by
  rcases mem_cons.mp z with z | z
  .rw[z,f]at e;cases e
  .rw[mem_singleton.mp z,c]at e;cases e
 unfold cut2;rw[ba d];exact s b o e
theorem iK{c d:Type}{r:c->d->Prop}:∀{as:List c}{bs:List d},Paired r as bs->bs≠[]->∃ as' a bs' b,as=as'++[a]/\bs=bs'++[b]/\Paired r as' bs'/\r a b
 | _,_,.nil,h=>absurd rfl h
 | _,_,.cons (a:=a) (b:=b) x (.nil),_=>⟨[],_,[],_,rfl,rfl,.nil,x⟩
 | _,_,.cons x (.cons y t),_=>by
  obtain⟨as',a,bs',b,g,f,i,j⟩:=iK (.cons y t) (by simp);exact⟨_::as',a,_::bs',b,by rw[g];rfl,by rw[f];rfl,.cons x i,j⟩
theorem cut_sub{H:Hp}{D:Addr}:SameT (untr H D) H:=λb a e=>by
 by_cases hb:b=D
 .rw[hb,dO]at e;cases e
 .rw[bq hb]at e
  exact SameT.refl b a e
theorem ua{H:Hp}{l m b:Addr}(h:H b=none):cut2 H l m b=none:=by
 cases e:cut2 H l m b with
 | none=>rfl
 | some o=>rw[(gR e).2.2]at h;cases h
theorem vW{H:Hp}{l m D:Addr}{o:HO}:SameT (untr (cut2 H l m) D) (untr (cut2 (upd H D o) l m) D):=λb a e=>by
 by_cases hb:b=D
 .rw[hb,dO]at e;cases e
 .rw[bq hb]at e
  obtain⟨c,d,h⟩:=gR e;have:untr (cut2 (upd H D o) l m) D b=some a:=by rw[bq hb];exact gD c d (by rw[af hb];exact h)
  exact⟨λ_=>this,a,this⟩
theorem kO{a b:Type}{r:a->b->Prop}{d:List a}{ds:List b}(c:Paired r d ds):∀{as:List a}{bs:List b},Paired r as bs->Paired r (as++d) (bs++ds)
 | _,_,.nil=>c
 | _,_,.cons x t=>.cons x (kO c t)
theorem vZ:∀{d:Nat}{ps:List (Int×Tr)},Dks d ps->(ps.length:Int)<=Tb.tot ps/\Tb.tot ps<=(ps.length:Int)*1000000000
 | _,[],_=>by simp[Tb.tot]
 | d,(m,u)::r,h=>by
  rw[Tb.Dks]at h;have f:=vZ h.2.2.2;have c:=h.1;have b:=h.2.1;have a:Tb.tot ((m,u)::r)=m+Tb.tot r:=by unfold Tb.tot;rw[map_cons,sum_cons]
  rw[a,length_cons];have e:((r.length+1:Nat):Int)*1000000000=(r.length:Int)*1000000000+1000000000:=by rw[Int.natCast_add,Int.add_mul];simp
  rw[e];show((r.length+1:Nat):Int)<=m+_/\m+_<=_;lia
section
variable {P:Program}{w:World}{K:Frag}{mg:Str->Option Value}{base:Heap}{a:Ad}
theorem ye(T:Txt K mg a)(hB:Bm mg base):FnOk P w K mg base (CXG P w) 18 a.f_Q a.d_Q ["node"] (vR a):=by
 have ec:FnOk P w K mg base CX0 17 _ _ _ _:=(Ck T).mono (by decide);have eu:FnOk P w K mg base CX0 17 _ _ _ _:=(Cd T).mono (by decide);have dt:FnOk P w K mg base CX0 17 _ _ _ _:=(Bi T).mono (by decide);have dy:FnOk P w K mg base CX0 17 _ _ _ _:=(BG T).mono (by decide);have d0:FnOk P w K mg base CX0 17 _ _ _ _:=(Bx T).mono (by decide);have dz:FnOk P w K mg base CX0 17 _ _ _ _:=(AY T).mono (by decide);have d2:FnOk P w K mg base CX0 17 _ _ _ _:=(Bg T).mono (by decide);have et:FnOk P w K mg base CX0 17 _ _ _ _:=(B9 T hB).mono (by decide);refine T.F_Q.okG sc_Q (λvs H Q E h=>?_) (λcdv A outer s H vs Q E hr h=>?_)
 .obtain⟨v,d,t,rfl,_⟩:=h;rfl
 .obtain⟨v,d,t,rfl,hn,eb,hd,dT,hT,q1,q2⟩:=h
  have ej:sizeLine=16777216:=sizeLine_eq;refine⟨_,(ai (aM (i:=1) sc_Q.nd rfl (Or.inl rfl) (bW ae)) (ai (aM (i:=2) sc_Q.nd rfl (Or.inl rfl) (bW (aa (bT (aa (vr 0) (aa am (aa am ae)))) ae))) (ai (m4 AQ (mR (vr 2) (λ_=>rfl)) (ai (pi (pe_m.pop (vr 2)) (dU rfl (au (ar (i:=3) sc_Q.nd rfl (Or.inl rfl)) (au (ar (i:=4) sc_Q.nd rfl (Or.inr rfl)) (au (ar (i:=5) sc_Q.nd rfl (Or.inr rfl)) bR))))) (ai (cg (iL (PE.or (aD (vr 3) T.cl_g T.mt_u ec hr T.B_u .nil aq) (aD (vr 3) T.cl_n T.mt_v eu hr T.B_v .nil aq))) (aj (cX (pe_m.append (vr 1) (aa (bT (aa (PE.or (aD (vr 3) T.cl_g T.mt_D dt hr T.B_D .nil aq) (aD (vr 3) T.cl_n T.mt_P dy hr T.B_P .nil aq)) (aa (bT (aa (vr 4) (aa (vr 5) ae))) ae))) ae)))) (ai (aM (i:=6) sc_Q.nd rfl (Or.inr rfl) (PE.or (aD (vr 3) T.cl_g T.mt_A d0 hr T.B_A .nil aq) (aD (vr 3) T.cl_n T.mt_E dz hr T.B_E .nil aq))) (aj (cX (pe_m.extend (vr 2) (aa (cJ rfl (N:=["many","after","top","bottom","sides"]) (ix:=[none,none,some 4,some 5,some 6]) ⟨rfl,rfl,rfl,rfl,⟨rfl,rfl,rfl,⟨rfl,rfl,rfl,⟨rfl,rfl,rfl,trivial⟩⟩⟩⟩ (bI (PE.or (aD (vr 3) T.cl_g T.mt_B d2 hr T.B_B .nil aq) (aD (vr 3) T.cl_n T.mt_F et hr T.B_F .nil aq))) ⟨λC s H fp=>(gL (K:=K) (n:=2) rfl rfl (au (ar (i:=0) (show List.Nodup (["many","after","top","bottom","sides"]:List Str) by decide +kernel) rfl (Or.inl rfl)) (au (ar (i:=1) (show List.Nodup (["many","after","top","bottom","sides"]:List Str) by decide +kernel) rfl (Or.inl rfl)) bR))),λC s H fp=>cH,λC s H fp=>(bT (aa (vr 1) (aa (aw cU (vr 2) (vr 0)) (aa (aw cU (vr 3) (vr 4)) ae))))⟩) ae)))))) (aj (cg (cm zK (aw cu (az aL rfl T.z_len ce (aa (vr 1) ae)) (az aL rfl T.z_len ce (aa (vr 2) ae))) (iB rfl T.g_MOST_WAYS) (bp _)) (aj (dj T.xc_r T.xh_r (fU T.xi_TooMany T.kc_TooMany rfl T.mc_r))) aT))))) (aj (ax (vr 1)))))),pU ?_⟩;intro e2 eR eD;refine⟨Nat.zero_le _,λj a8=>?_⟩;have u1:=Same.new (o:=.lst []) a8;refine⟨by show 3<=sizeLine;decide,λq0 b5=>?_⟩;have u2:=Same.new (o:=.tup [v,.int 1,.int 1]) b5;refine⟨by show 1<=sizeLine;decide,λg an=>?_⟩
  have u3:=Same.new (o:=.lst [.ref q0]) an;have cx:=(u1.trans u2).trans u3;have S:=(u2.trans u3) _ _ (ad (H:=H) (a:=j) (o:=.lst []));have cW:=u3 _ _ (ad (H:=upd H j (.lst [])) (a:=q0) (o:=.tup [v,.int 1,.int 1]));have O:=ad (H:=upd (upd H j (.lst [])) q0 (.tup [v,.int 1,.int 1])) (a:=g) (o:=.lst [.ref q0]);have a3:H g=none:=(u1.trans u2).free an;have ef:q0≠g:=λz=>by rw[<- z,ad]at an;cases an
  have dK:q0≠j:=λz=>by rw[z,ad]at b5;cases b5
  have cy:j≠g:=λz=>by rw[<- z,u2 _ _ (ad (H:=H) (a:=j) (o:=.lst []))]at an;cases an
  have dp:Bt (bd d) 1:=(show Bt 2 1 by unfold Bt;decide).mono (by unfold bd;lia)
  let Pw2:PvS:=λc σ W=>∃(s:List Ent) (r:List Way) (ys F:List V) (x3 x4 x5 x6:Option V),c=Tb.stS s/\SameT H W/\TabsOk (tabs a) W/\W g=some (.lst ys)/\W j=some (.lst F)/\Paired (EntR a (cut2 W g j)) s ys/\Paired (WayR (cut2 W g j)) r F/\Tb.Wk t r s/\r.length+s.length<=4096/\σ=[some v,some (.ref j),some (.ref g),x3,x4,x5,x6]
  refine⟨Pw2,
   ⟨_,[(t,(1,1))],[],[.ref q0],[],none,none,none,none,rfl,cx.t,hT.same cx,O,S,.cons ⟨q0,v,d,rfl,gD ef dK cW,hn.t (AM cx.t a3 a8),eb,hd,dp,dp,Int.zero_lt_one⟩ .nil,.nil,Tb.Wk.start dT,(show 0+1<=4096 by decide),rfl⟩,?_⟩
  clear S cW O;rintro c σ W ⟨s,r,ys,F,x3,x4,x5,x6,rfl,t1,dk,a5,c',hE,a',hW,R,rfl⟩;refine⟨_,.inl ⟨_,SqL.of a5,rfl⟩,?_⟩;refine ifB (λhc=>?_) (λhc=>?_)
  .refine⟨_,λ_ _ h=>h,?_⟩
   have ne:ys≠[]:=λz=>by rw[z]at hc;cases hc
   obtain⟨s',e,f,y,rfl,rfl,ca,q,v1,d1,rfl,hq,ev,I,e1,b1,b2,b0⟩:=iK hE ne;obtain⟨u,tp,bt⟩:=e;obtain⟨em,e5,ep⟩:=gR hq;refine⟨.inl ⟨rfl,_,SqL.of a5⟩,⟨g,_,_,rfl,rfl,a5,by simp;rfl,?_⟩⟩;have ed:(f++[V.ref q]).dropLast=f:=List.dropLast_concat;have t2:SameT H (upd W g (.lst (f++[V.ref q]).dropLast)):=t1.put a3;have cs:TabsOk (tabs a) (upd W g (.lst (f++[V.ref q]).dropLast)):=dk.put (λB z=>by rw[a5]at z;cases z) λφ z=>by rw[a5]at z;cases z
   have X:(upd W g (.lst (f++[V.ref q]).dropLast)) g=some (.lst f):=by rw[ad,ed]
   have M:(upd W g (.lst (f++[V.ref q]).dropLast)) j=some (.lst F):=by rw[af cy];exact c'
   have dd:(upd W g (.lst (f++[V.ref q]).dropLast)) q=some (.tup [v1,.int tp,.int bt]):=by rw[af em];exact ep
   have c2:SameT (cut2 W g j) (cut2 (upd W g (.lst (f++[V.ref q]).dropLast)) g j):=pz;refine⟨q,_,rfl,SqT.of dd,rfl,_,_,rfl,_,_,rfl,_,_,rfl,rfl,?_⟩;generalize upd W g (.lst (f++[V.ref q]).dropLast)=H2 at t2 cs X M dd c2;have df:=ak (EntR.t c2) ca;have br:=ak (WayR.t c2) a';have co:=ev.t c2;cases u with
   | leaf ns =>
    obtain⟨x,dx,kt,en,rfl,hx,cT,hs⟩:=wU co;have ab:=(gR hx).2.2;have eA:=(gR cT).2.2;refine .inl ⟨x,dx,_,rfl,ab,rfl,_,rfl,?_⟩;refine⟨.inl ⟨rfl,_,SqL.of M⟩,.inl ⟨x,dx,_,rfl,ab,rfl,x,dx,kt,rfl,ab,?_⟩⟩;have bg:bd d1<=1100:=by unfold bd;lia
    have zl:F.length=r.length:=a'.length.symm;have yl:f.length=s'.length:=ca.length.symm;have c1:r.length+(s'.length+1)<=4096:=by rw[length_append]at R;exact R
    refine⟨by show 2<=sizeLine;decide,λct a2=>?_⟩;have n1:=Same.new (o:=.tup [.int tp,.int bt]) a2;refine⟨by show 2<=sizeLine;decide,λp fp=>?_⟩;have n2:=Same.new (o:=.tup [.ref kt,.ref ct]) fp;have as:=n1.trans n2;have bn:=n2 _ _ (ad (H:=H2) (a:=ct) (o:=.tup [.int tp,.int bt]));have ds:=ad (H:=upd H2 ct (.tup [.int tp,.int bt])) (a:=p) (o:=.tup [.ref kt,.ref ct]);have ek:ct≠g:=λz=>by rw[z,X]at a2;cases a2
    have de:ct≠j:=λz=>by rw[z,M]at a2;cases a2
    have ei:p≠g:=λz=>by rw[z,n1 _ _ X]at fp;cases fp
    have dr:p≠j:=λz=>by rw[z,n1 _ _ M]at fp;cases fp
    generalize upd (upd H2 ct (.tup [.int tp,.int bt])) p (.tup [.ref kt,.ref ct])=H4 at as bn ds;have J:=as _ _ M;have G:(upd H4 j (.lst (F++[.ref p]))) g=some (.lst f):=by rw[af (Ne.symm cy)];exact as _ _ X
    have c4:SameT (cut2 H2 g j) (cut2 (upd H4 j (.lst (F++[.ref p]))) g j):=(SameT.cut2 as.t).trans zf;have c7:TabsOk (tabs a) (upd H4 j (.lst (F++[.ref p]))):=(cs.same as).put (λB z=>by rw[J]at z;cases z) λφ z=>by rw[J]at z;cases z
    have t5:SameT H (upd H4 j (.lst (F++[.ref p]))):=(t2.trans as.t).put a8;have b3:=c4.at cT;have b4:cut2 (upd H4 j (.lst (F++[.ref p]))) g j ct=some (.tup [.int tp,.int bt]):=gD ek de (by rw[af de];exact bn);have c8:cut2 (upd H4 j (.lst (F++[.ref p]))) g j p=some (.tup [.ref kt,.ref ct]):=gD ei dr (by rw[af dr];exact ds);refine⟨j,F,_,rfl,rfl,J,by lia,?_⟩;have Z:=ad (H:=H4) (a:=j) (o:=.lst (F++[.ref p]));generalize upd H4 j (.lst (F++[.ref p]))=Y at G c4 c7 t5 b3 b4 c8 Z;refine⟨_,.inl (SqL.of Z),⟨_,.inl (SqL.of G),?_⟩⟩;have ll:((F++[V.ref p]).length:Int)+(f.length:Int)<=4096:=by rw[length_append,length_singleton];lia
    refine ifC (λz=>absurd (show(4096:Int)<((F++[V.ref p]).length:Int)+(f.length:Int) from z) (by lia)) λ_=>?_
    refine⟨Tb.stS s',?_,s',r++[(ns,(tp,bt))],f,F++[.ref p],_,_,_,_,rfl,t5,c7,G,Z,ak (EntR.t c4) df,bB ⟨p,kt,ct,en,rfl,c8,b3,hs,b4,b1.mono bg,b2.mono bg,b0⟩ (ak (WayR.t c4) br),hW.leaf,?_,rfl⟩
    .rw[Tb.stS_app,Tb.stS,Tb.stS,Tb.sz];lia
    .rw[length_append,length_singleton];lia
   | die B =>
    obtain⟨rs,b6,ex⟩:=vJ co;have a4:=b6.t nR;obtain⟨x,dx,l,mk,rfl,ab,e3,_⟩:=id a4
    obtain⟨d',rfl⟩:∃ d',d1=d'+1:=by
     cases d1 with
     | zero=>rw[Tb.Dk]at I;exact I.elim
     | succ d'=>exact⟨d',rfl⟩
    rw[Tb.Dk]at I;refine .inr ⟨x,dx,_,rfl,ab,rfl,_,rfl,?_⟩;have cG:Tb.Ok (.die B):=hW.ok _ (mem_append_right _ mem_cons_self);rw[Tb.Ok]at cG;refine .inr ⟨x,dx,_,rfl,ab,rfl,.ref x,rs,rfl,a4,λH3 n3=>?_⟩;rw[xO ex];have O:=n3 _ _ X;have S:=n3 _ _ M;refine⟨.inl ⟨rfl,_,SqL.of O⟩,?_⟩;have ea:=n3 _ _ ab;have ey:B.length<=1000:=I.2.1;have eo:∀ p∈B,1<=p.1/\p.1<=1000000000:=λp hp=>let z:=Tb.dk_part I.2.2 hp;⟨z.1,z.2.1⟩
    obtain⟨e4,eB⟩:=vZ I.2.2;have t3:=t2.trans n3.t
    have c9:Bad H3 [g,j]:=λb hb=>by
     rcases mem_cons.mp hb with z | z
     .rw[z];exact⟨_,O⟩
     .rw[mem_singleton.mp z];exact⟨_,S⟩
    refine .inr ⟨x,dx,_,rfl,ea,rfl,.ref x,B,[g,j],rfl,c9,co.t (SameT.cut2 n3.t),cs.same n3,λH4 D zz t4 es fD hD hP=>?_⟩;have bo:=t4.at O;have J:=t4.at S;have b':zz.length=B.length:=hP.length.symm;have bS:Bt 43 (Tb.tot B):=by unfold Bt;lia
    have c0:bd (d'+1)+43<=bd d':=by unfold bd;lia
    refine .inl ⟨⟨_,SqL.of hD⟩,λD2 a7=>?_⟩
    let Pw1:PvL:=λi L Y=>i<=B.length/\Same H4 Y/\Y D2=some (.lst L)/\Paired (EntR a (untr (cut2 Y g j) D2)) ((Tb.kids B tp bt (Tb.tot B)).take i) L
    refine cE (K:=K) (a:=D) (xs:=zz) Pw1 ⟨Nat.zero_le _,Same.new a7,ad,.nil⟩ (λi ys W h=>SqL.of (h.2.1 _ _ hD)) (λi ys W h=>h.2.2.1) ?_ ?_
    .rintro i y L Y P' hy ⟨hi,n5,a6,al⟩ dV
     obtain⟨⟨m,u⟩,a9,qq,un,rfl,cj,dv⟩:=cQ hP hy;have cj:=(av cj).2;have c5:=(Tb.dk_part I.2.2 (List.mem_of_getElem? a9)).2.2;have eq:i<B.length:=(List.getElem?_eq_some_iff.mp a9).1;have mp:=eo _ (List.mem_of_getElem? a9);have bm:Bt 43 m:=by have h1:1<=m:=mp.1;have h2:m<=1000000000:=mp.2;unfold Bt;lia
     have c3:L.length<=5000:=by rw[<- al.length,length_take];unfold Tb.kids;rw[length_map];lia
     refine⟨qq,_,rfl,SqT.of (n5 _ _ cj),rfl,_,_,rfl,_,_,rfl,rfl,⟨rfl,rfl,rfl,trivial⟩,?_⟩;have bl:bd (d'+1)<=1100:=by unfold bd;lia
     refine⟨cmB (b1.mono bl) bm,cmB (b2.mono bl) bS,by show 3<=sizeLine;decide,λq3 f3=>?_⟩;have n6:=Same.new (o:=.tup [un,.int (tp*m),.int (bt*Tb.tot B)]) f3;have eg:=n6 _ _ a6;have cA:q3≠D2:=λz=>by rw[z,a6]at f3;cases f3
     have cP:q3≠g:=λz=>by rw[z,n5 _ _ bo]at f3;cases f3
     have cB:q3≠j:=λz=>by rw[z,n5 _ _ J]at f3;cases f3
     refine⟨eg,by lia,dV _ _ ⟨eq,(n5.trans n6).put a7,ad,?_⟩⟩;have cc:SameT (untr (cut2 Y g j) D2) (untr (cut2 (upd (upd Y q3 (.tup [un,.int (tp*m),.int (bt*Tb.tot B)])) D2 (.lst (L++[.ref q3]))) g j) D2):=(zV (SameT.cut2 n6.t)).trans vW;have cn:SameT (cut2 H4 g j) (untr (cut2 (upd (upd Y q3 (.tup [un,.int (tp*m),.int (bt*Tb.tot B)])) D2 (.lst (L++[.ref q3]))) g j) D2):=BP (SameT.cut2 ((n5.trans n6).put a7).t) (ua a7);have hk:(Tb.kids B tp bt (Tb.tot B))[i]? = some (u,(tp*m,bt*Tb.tot B)):=by unfold Tb.kids;rw[List.getElem?_map,a9];rfl
     refine dI (ak (EntR.t cc) al) hk ⟨q3,un,d',rfl,?_,dv.t cn,c5,by lia,(b1.mul bm).mono c0,(b2.mul bS).mono c0,Int.mul_pos b0 (by lia)⟩;rw[bq cA];exact gD cP cB (by rw[af cA];exact ad)
    .rintro L Y ⟨_,n5,a6,al⟩
     have kl:(Tb.kids B tp bt (Tb.tot B)).length=zz.length:=by unfold Tb.kids;rw[length_map,b']
     rw[<- kl,take_length]at al;have c3:L.length=B.length:=by rw[<- al.length,kl,b']
     have yl:f.length=s'.length:=ca.length.symm;have zl:F.length=r.length:=a'.length.symm;have c1:r.length+(s'.length+1)<=4096:=by rw[length_append]at R;exact R
     have G:=n5 _ _ bo;have Z:=n5 _ _ J;refine⟨g,D2,f,L,rfl,rfl,G,a6,by lia,?_⟩;have t6:SameT H (upd Y g (.lst (f++L))):=((t3.trans t4).trans n5.t).put a3;have ck:TabsOk (tabs a) (upd Y g (.lst (f++L))):=(es.same n5).put (λB z=>by rw[G]at z;cases z) λφ z=>by rw[G]at z;cases z
     have a0:=ad (H:=Y) (a:=g) (o:=.lst (f++L));have a1:(upd Y g (.lst (f++L))) j=some (.lst F):=by rw[af cy];exact Z
     have c6:SameT (cut2 H2 g j) (cut2 (upd Y g (.lst (f++L))) g j):=(SameT.cut2 ((n3.t.trans t4).trans n5.t)).trans pz;have k6:SameT (untr (cut2 Y g j) D2) (cut2 (upd Y g (.lst (f++L))) g j):=cut_sub.trans pz;generalize upd Y g (.lst (f++L))=H6 at t6 ck a0 a1 c6 k6;have dm:=hW.die;refine⟨_,.inl (SqL.of a1),⟨_,.inl (SqL.of a0),?_⟩⟩;have eH:(Tb.kids B tp bt (Tb.tot B)).length=L.length:=by rw[kl,b',c3]
     refine ifC (λz=>?_) λz=>?_
     .have z:(4096:Int)<(F.length:Int)+((f++L).length:Int):=z
      have:=dm.few;rw[length_append]at this z;exact vN t6 ck (q2 (by lia))
     .have z:¬(4096:Int)<(F.length:Int)+((f++L).length:Int):=z
      rw[length_append]at z;refine⟨_,?_,s'++Tb.kids B tp bt (Tb.tot B),r,f++L,F,_,_,_,_,rfl,t6,ck,a0,a1,kO (ak (EntR.t k6) al) (ak (EntR.t c6) df),ak (WayR.t c6) br,dm,?_,rfl⟩
      .rw[Tb.stS_app,Tb.stS_app,Tb.stS_kids,Tb.stS,Tb.stS,Tb.sz];lia
      .rw[length_append];lia
  .have e0:ys=[]:=List.isEmpty_iff.mp (by simpa using hc)
   subst e0;cases hE;have ew:=hW.done;have el:Tb.lv t<=4096:=by rw[<- Tb.wl_len t 1 1,<- ew];simpa using R
   refine q1 el _ j F t1 dk a8 c' ?_;rw[<- ew];exact ak (WayR.t nR) a'
end
end My
namespace My
open PySem L2 FrM Du
open Tb (Tr Ent Way Rws Ch Lm2)
def By:Sp:=λ_ _ _ _=>False
inductive spGcd(vs:List V)(H:Hp)(Q:VK)(_E:XK):Prop
 | mk(x y:Int)(h0:vs=[.int x,.int y])(h1:0<=x)(h2:0<=y)(h3:Q (.int (Int.gcd x y)) H):spGcd vs H Q _E
def Cw(H:Hp)(Q:VK)(T B:Int):Prop:=∀ H' p,Same H H'->H' p=some (.tup [.int (lowP T B).1,.int (lowP T B).2])->Q (.ref p) H'
inductive spLow(vs:List V)(H:Hp)(Q:VK)(_E:XK):Prop
 | mk(T B:Int)(h0:vs=[.int T,.int B])(h1:0<B)(h2:Bt 6000 T)(h3:Bt 6000 B)(h4:Cw H Q T B):spLow vs H Q _E
def PT(K:Frag)(H:Hp)(p:Addr)(f:Int×Int):Prop:=H p=some (.tup [.int f.1,.int f.2])\/uZ K p [.int f.1,.int f.2]=true
theorem PT.sq{K:Frag}{H:Hp}{p:Addr}{f:Int×Int}(h:PT K H p f):SqT K H p [.int f.1,.int f.2]:=h.elim SqT.of Av
def IsF(K:Frag)(H:Hp)(f:Int×Int)(x:V):Prop:=∃ p,x=.ref p/\PT K H p f
theorem IsF.tk{K:Frag}{H a:Hp}{f:Int×Int}{x:V}(k:TK H a)(h:IsF K H f x):IsF K a f x:=let ⟨p,e,q⟩:=h;⟨p,e,q.imp (λz=>k _ _ z) id⟩
abbrev AllF(K:Frag)(H:Hp):List (Int×Int)->List V->Prop:=PySem.Paired (IsF K H)
theorem IsF.same{K:Frag}{H a:Hp}{f:Int×Int}{x:V}(s:Same H a)(h:IsF K H f x):IsF K a f x:=h.tk s.tk
theorem AllF.tk{K:Frag}{H a:Hp}(k:TK H a):∀{fs:List (Int×Int)}{xs:List V},AllF K H fs xs->AllF K a fs xs
 | _,_,.nil=>.nil
 | _,_,.cons r t=>.cons (r.tk k) (AllF.tk k t)
theorem AllF.get{K:Frag}{H:Hp}:∀{fs:List (Int×Int)}{xs:List V}{i:Nat}{x:V},AllF K H fs xs->xs[i]? = some x->∃ f,fs[i]? = some f/\IsF K H f x
 | _,_,_,_,.nil,h=>by cases h
 | _,_,0,_,.cons r _,h=>⟨_,rfl,by cases h;exact r⟩
 | _,_,i+1,_,.cons _ t,h=>AllF.get (i:=i) t h
theorem AllF.snoc{K:Frag}{H:Hp}{f:Int×Int}{x:V}(r:IsF K H f x):∀{fs:List (Int×Int)}{xs:List V},AllF K H fs xs->AllF K H (fs++[f]) (xs++[x])
 | _,_,.nil=>.cons r .nil
 | _,_,.cons q t=>.cons q (AllF.snoc r t)
theorem AllF.len{K:Frag}{H:Hp}{a:List (Int×Int)}{xs:List V}(h:AllF K H a xs):a.length=xs.length:=Paired.length h
theorem xg(T B:Int):Int.gcd (if T<0 then -T else T) B=Int.gcd T B:=by
 split
 .exact Int.neg_gcd
 .rfl
theorem px1{K:Frag}{H:Hp}{p:Addr}{x y:V}{Q:VK}(h:SqT K H p [x,y])(q:Q y H):rIx K (.ref p) (.int 1) H Q:=.inr (.inl ⟨p,_,_,y,rfl,rfl,h,gC (j:=1) rfl,q⟩)
abbrev IsQ(K:Frag)(H:Hp)(q:Rat)(x:V):Prop:=IsF K H (fr q) x
inductive spLcm(K:Frag)(vs:List V)(H:Hp)(Q:VK)(_E:XK):Prop
 | mk(l:Addr)(ns:List Int)(D:Nat)(h0:vs=[.ref l])(h1:SqL K H l (ns.map V.int))(h2:0<D)(h3:D<=Lm2)(h4:(∀ n∈ns,0<n/\n ∣ (D:Int)))(h5:∀ r,0<r->r ∣ (D:Int)->(∀ n∈ns,n ∣ r)->Q (.int r) H):spLcm K vs H Q _E
inductive spTotal(K:Frag)(vs:List V)(H:Hp)(Q:VK)(_E:XK):Prop
 | mk(l:Addr)(fs:List (Int×Int))(xs:List V)(D:Nat)(h0:vs=[.ref l])(h1:H l=some (.lst xs))(h2:AllF K H fs xs)(h3:xs.length<=5000)(h4:0<D)(h5:D<=Lm2)(h6:(∀ f∈fs,Ch (D:Int) f))(h7:∀ H' z,Same H H'->IsQ K H' (Tb.sumQ fs) z->Q z H'):spTotal K vs H Q _E
theorem ur{L:Int}:∀{xs:List Int},(∀ x∈xs,0<=x/\x<=L)->0<=xs.sum/\xs.sum<=(xs.length:Int)*L
 | [],_=>by simp
 | x::xs,h=>by
  have b:=ur λy a=>h y (mem_cons_of_mem _ a)
  have c:=h x mem_cons_self;rw[sum_cons,length_cons];have e:((xs.length+1:Nat):Int)*L=(xs.length:Int)*L+L:=by rw[Int.natCast_add,Int.add_mul];simp
  rw[e];lia
theorem AC{L t b:Int}(i:0<L)(g:0<=t)(h:t<=b)(f:0<b)(d:b ∣ L):0<=t*(L/b)/\t*(L/b)<=L:=by
 obtain⟨c,rfl⟩:=d;rw[Int.mul_ediv_cancel_left c (by lia)]
 have a:0<=c:=by
  rcases Int.lt_or_le c 0 with z | z
  .have:=Int.mul_neg_of_pos_of_neg f z;lia
  .exact z
 exact⟨Int.mul_nonneg g a,Int.mul_le_mul_of_nonneg_right h a⟩
theorem CA{D n:Nat}{i:Int}(f:D<=Lm2)(g:n<=5000)(d:0<=i)(h:i<=(n:Int)*(D:Int)):Bt 2800 i:=by
 unfold Bt;have j:(n:Int)*(D:Int)<=5000*(Lm2:Nat):=Int.mul_le_mul (by lia) (by lia) (by lia) (by lia);have b:i.natAbs<=5000*Lm2:=by lia
 have a:5000*Lm2<2 ^ 13*Lm2:=Nat.mul_lt_mul_of_pos_right (by decide) (by unfold Lm2;exact Nat.pow_pos (by decide));have c:2 ^ 13*Lm2<=2 ^ 2800:=by unfold Lm2;rw[<- Nat.pow_add];exact Nat.pow_le_pow_right (by decide) (by decide)
 exact Nat.lt_of_le_of_lt b (Nat.lt_of_lt_of_le a c)
section
variable {P:Program}{w:World}{K:Frag}{mg:Str->Option Value}{base:Heap}{a:Ad}
theorem Be{k:Nat}{f:Addr}{a:FuncData}{ps:List Str}:FnOk P w K mg base CX0 k f a ps By:=⟨λ_ _ _ _ h=>h.elim,λ_ _ _ _ _ _ _ _ _ _ _ _ _ h=>h.elim⟩
theorem uX(T:Txt K mg a):FnOk P w K mg base CX0 1 a.f_k a.d_k ["one","other"] spGcd:=by
 refine T.F_k.ok sc_k (λu H Q E h=>?_) (λcdv A outer s H u Q E hr h=>?_)
 .obtain⟨x,y,rfl,_⟩:=h;rfl
 .obtain⟨n,l,rfl,v,z,q⟩:=h
  refine⟨_,(ai (m4 PassesOwn.never (mR (vr 1) (λ_=>rfl)) (aj (Ap rfl sc_k.nd (i:=0) (j:=1) rfl rfl (by decide) rfl rfl (aa (vr 1) (aa (aw gm (vr 0) (vr 1)) ae)) rfl))) (aj (ax (vr 0)))),nF ?_⟩;intro B;refine⟨λm o g=>g=H/\∃ x y:Int,0<=x/\0<=y/\m=y.toNat/\Int.gcd x y=Int.gcd n l/\o=[some (.int x),some (.int y)],⟨_,rfl,n,l,v,z,rfl,rfl,rfl⟩,?_⟩;rintro m o g ⟨rfl,x,y,C,r,rfl,p,rfl⟩;refine⟨_,rfl,?_⟩;refine ifB (λc=>?_) (λc=>?_)
  .have f:y≠0:=by simpa using c
   let Pw4:St->Hp->Prop:=λd b=>b=g/\d=[some (.int y),some (.int (x % y))]
   refine⟨Pw4,?_,?_⟩
   .rintro d b ⟨rfl,rfl⟩
    exact⟨(x % y).toNat,by have:=Int.emod_lt_of_pos x (show 0<y by lia);have:=Int.emod_nonneg x f;lia,rfl,y,x % y,r,Int.emod_nonneg x f,rfl,by rw[wF,p],rfl⟩
   .exact⟨cp (by lia),_,_,rfl,rfl,rfl⟩
  .have f:y=0:=by simpa using c
   subst f;rw[Int.gcd_zero_right]at p;have:x=(Int.gcd n l:Int):=by lia
   rw[<- this]at q;exact q
theorem gM(T:Txt K mg a):FnOk P w K mg base CX0 2 a.f_I a.d_I ["top","bottom"] spLow:=by
 have d:FnOk P w K mg base CX0 1 a.f_I a.d_I ["top","bottom"] By:=Be;have f:FnOk P w K mg base CX0 1 _ _ _ spGcd:=uX T;refine T.F_I.ok sc_I (λn H Q E h=>?_) (λcdv A outer s H n Q E hr h=>?_)
 .obtain⟨x,y,rfl,_⟩:=h;rfl
 .obtain⟨t,b,rfl,l,z,o,q⟩:=h
  refine⟨_,(ai (cg (cm rS (vr 1) am (bp _)) (aj (ax (ap d hr rfl T.m_I T.F_I.kp T.B_I .nil aq (aa (yP yY (vr 0)) (aa (yP yY (vr 1)) ae))))) aT) (ai (aM (i:=2) sc_I.nd rfl (Or.inl rfl) (ap f hr rfl T.m_k T.F_k.kp T.B_k .nil aq (aa (az ul rfl T.z_abs AK (aa (vr 0) ae)) (aa (vr 1) ae)))) (aj (ax (bT (aa (aw eN (vr 0) (vr 2)) (aa (aw eN (vr 1) (vr 2)) ae))))))),gg ?_⟩;intro u v;obtain⟨j,B,F,C,D⟩:=low t b l;refine ifC (λc=>absurd c (by lia)) (λ_=>?_);refine⟨t,rfl,⟨_,_,rfl,by split <;> lia,by lia,?_⟩⟩;rw[xg];have g:Bt 6000 (Int.gcd t b:Int):=o.le (by lia);refine⟨cdB j g,cdB j g,cR _ _,λp r=>?_⟩;exact q _ p (Same.new r) ad
theorem zM(T:Txt K mg a):FnOk P w K mg base CX0 2 a.f_q a.d_q ["numbers"] (spLcm K):=by
 have B:FnOk P w K mg base CX0 1 _ _ _ spGcd:=uX T;refine T.F_q.ok sc_q (λL H Q E h=>?_) (λcdv A outer s H L Q E hr h=>?_)
 .obtain⟨l,f,D,rfl,_⟩:=h;rfl
 .obtain⟨l,f,D,rfl,F,z,d,v,q⟩:=h
  refine⟨_,(ai (aM (i:=1) sc_q.nd rfl (Or.inl rfl) am) (ai (da PassesOwn.never rfl (bI (vr 0)) (ar (i:=2) sc_q.nd rfl (Or.inl rfl)) (aj (aM (i:=1) sc_q.nd rfl (Or.inl rfl) (aw cU (aw eN (vr 1) (ap B hr rfl T.m_k T.F_k.kp T.B_k .nil aq (aa (vr 1) (aa (vr 2) ae)))) (vr 2))))) (aj (ax (vr 1))))),gg ?_⟩;intro X al
  let Pw1:PvS:=λi o p=>p=H/\∃(r:Int) (x:Option V),o=[some (.ref l),some (.int r),x]/\0<r/\r ∣ (D:Int)/\∀ n∈f.take i,n ∣ r
  refine .inl ⟨⟨_,F⟩,cY (K:=K) (a:=l) (xs:=f.map V.int) Pw1 ⟨rfl,1,none,rfl,by lia,Int.one_dvd _,(λn u=>by cases u)⟩ (λi o p _ h=>by rw[h.1];exact F) ?_ ?_⟩
  .rintro i x o p g ⟨rfl,r,N,rfl,y,c,j⟩
   rw[List.getElem?_map]at g
   obtain⟨n,u,rfl⟩:∃ n,f[i]? = some n/\V.int n=x:=by
    cases e:f[i]? with
    | none=>rw[e]at g;cases g
    | some n=>rw[e]at g;cases g;exact⟨n,rfl,rfl⟩
   obtain⟨C,G⟩:=v n (List.mem_of_getElem? u);obtain⟨Z,J,W,R⟩:=Tb.lcm_step y C c G;have g0:0<Int.gcd r n:=Int.gcd_pos_of_ne_zero_right _ (by lia);have ab:(Int.gcd r n:Int)<=n:=Int.le_of_dvd C (Int.gcd_dvd_right (a:=r) (b:=n));have Y:=Int.le_of_dvd (by lia) G;have M:=Int.le_of_dvd (by lia) c;have I:=Tb.bt_of (i:=(Int.gcd r n:Int)) z d (by lia) (by lia);have O:=Tb.bt_of (i:=n) z d (by lia) Y;have S:=Tb.bt_of (i:=r/(Int.gcd r n:Int)) z d (Int.ediv_nonneg (by lia) (by lia)) (Int.le_trans (Int.ediv_le_self _ (by lia)) M);refine⟨r,n,rfl,by lia,by lia,?_⟩;refine⟨cdB (by lia) I,?_⟩;refine⟨cmB S O,rfl,_,_,rfl,Z,R,λm hm=>?_⟩;rw[take_add_one,u]at hm
   rcases mem_append.mp hm with hm | hm
   .exact Int.dvd_trans (j m hm) J
   .have:m=n:=by simpa using hm
    rw[this];exact W
  .rintro o p ⟨rfl,r,N,rfl,y,c,j⟩
   refine q r y c ?_;rw[length_map,take_length]at j;exact j
theorem wu(T:Txt K mg a):FnOk P w K mg base CX0 3 a.f_ac a.d_ac ["fractions"] (spTotal K):=by
 have Z:FnOk P w K mg base CX0 2 _ _ _ (spLcm K):=zM T;have ab:FnOk P w K mg base CX0 2 _ _ _ spLow:=gM T;refine T.F_ac.ok sc_ac (λvs H Q E h=>?_) (λcdv A outer s H vs Q E hr h=>?_)
 .obtain⟨l,d,xs,D,rfl,_⟩:=h;rfl
 .obtain⟨l,d,xs,D,rfl,S,hF,a0,R,o,g,q⟩:=h
  have an:sizeLine=16777216:=sizeLine_eq;have fl:d.length=xs.length:=hF.len;refine⟨_,(ai (aM (i:=1) sc_ac.nd rfl (Or.inr rfl) (ap Z hr rfl T.m_q T.F_q.kp T.B_q .nil aq (aa (cJ rfl (N:=["fraction"]) (ix:=[none]) ⟨rfl,rfl,rfl,rfl,trivial⟩ (bI (vr 0)) ⟨λC s H L=>ar (i:=0) (show List.Nodup (["fraction"]:List Str) by decide +kernel) rfl (Or.inl rfl),λC s H L=>cH,λC s H L=>(ci (lD (K:=K) rfl) (vr 0) am (λ_ _=>rfl))⟩) ae))) (aj (ax (ap ab hr rfl T.m_I T.F_I.kp T.B_I .nil aq (aa (az (kh rfl) rfl T.z_sum vO (aa (cJ rfl (N:=["top","own","bottom"]) (ix:=[none,none,some 1]) ⟨rfl,rfl,rfl,rfl,⟨rfl,rfl,rfl,trivial⟩⟩ (bI (vr 0)) ⟨λC s H L=>(gL (K:=K) (n:=2) rfl rfl (au (ar (i:=0) (show List.Nodup (["top","own","bottom"]:List Str) by decide +kernel) rfl (Or.inl rfl)) (au (ar (i:=1) (show List.Nodup (["top","own","bottom"]:List Str) by decide +kernel) rfl (Or.inl rfl)) bR))),λC s H L=>cH,λC s H L=>(aw cU (vr 0) (aw eN (vr 2) (vr 1)))⟩) ae)) (aa (vr 1) ae)))))),nF ?_⟩;intro a1;refine .inl ⟨⟨_,SqL.of S⟩,λD1 J=>?_⟩
  let Pw2:PvL:=λi v j=>Same H j/\j D1=some (.lst v)/\i<=d.length/\v=((d.take i).map (·.2)).map V.int
  refine cE (K:=K) (a:=l) (xs:=xs) Pw2 ⟨Same.new J,ad,Nat.zero_le _,rfl⟩ (λi ys j h=>SqL.of (h.1 _ _ S)) (λi ys j h=>h.2.1) ?_ ?_
  .rintro i y v j P' W ⟨G,u,hi,rfl⟩ I
   obtain⟨⟨t,b⟩,c,p,rfl,X⟩:=hF.get W;have F:i<d.length:=(List.getElem?_eq_some_iff.mp c).1;refine⟨trivial,px1 (IsF.same G ⟨p,rfl,X⟩ |> λ⟨_,e,z⟩=>by cases e;exact z.sq) ⟨u,by rw[length_map,length_map,length_take];lia,I _ _ ⟨G.put J,ad,F,?_⟩⟩⟩;rw[take_add_one,c];simp
  rintro v H1 ⟨G,u,_,rfl⟩;rw[<- fl,take_length]at u;refine⟨D1,d.map (·.2),D,rfl,SqL.of u,R,o,λn hn=>?_,λr r1 hr9 hrn=>?_⟩
  .obtain⟨f,c,rfl⟩:=mem_map.mp hn
   exact⟨(g f c).b0,(g f c).dv⟩
  have Y:=Int.le_of_dvd (show(0:Int)<(D:Int) by lia) hr9;have dr:∀ f∈d,f.2 ∣ r:=λf c=>hrn _ (mem_map.mpr ⟨f,c,rfl⟩)
  refine .inl ⟨⟨_,SqL.of (G _ _ S)⟩,λD3 M=>?_⟩
  let Pw3:PvL:=λi v j=>Same H1 j/\j D3=some (.lst v)/\i<=d.length/\v=((d.take i).map λf=>f.1*(r/f.2)).map V.int
  refine cE (K:=K) (a:=l) (xs:=xs) Pw3 ⟨Same.new M,ad,Nat.zero_le _,rfl⟩ (λi ys j h=>SqL.of (h.1 _ _ (G _ _ S))) (λi ys j h=>h.2.1) ?_ ?_
  .rintro i y v j P' W ⟨O,B,hi,rfl⟩ I
   obtain⟨⟨t,b⟩,c,p,rfl,X⟩:=hF.get W;have F:i<d.length:=(List.getElem?_eq_some_iff.mp c).1;have hc:=g _ (List.mem_of_getElem? c);obtain⟨b1,b2⟩:=Tb.ch_bt R o hc;have b0:0<b:=hc.b0
   have as:SqT K j p [.int t,.int b]:=by
    obtain⟨_,e,z⟩:=IsF.same (G.trans O) (x:=.ref p) ⟨p,rfl,X⟩;cases e;exact z.sq
   have br:=Tb.bt_of (i:=r/b) R o (Int.ediv_nonneg (by lia) (by lia)) (Int.le_trans (Int.ediv_le_self _ (by lia)) Y);refine⟨p,_,rfl,as,rfl,_,_,rfl,_,_,rfl,rfl,⟨rfl,trivial⟩,cdB b0 b2,cmB b1 br,B,by rw[length_map,length_map,length_take];lia,I _ _ ⟨O.put M,ad,F,?_⟩⟩;rw[take_add_one,c];simp
  rintro v H2 ⟨O,B,_,rfl⟩;rw[<- fl,take_length]at B;refine⟨D3,_,rfl,SqL.of B,?_⟩
  have sb:0<=(d.map λf=>f.1*(r/f.2)).sum/\(d.map λf=>f.1*(r/f.2)).sum<=((d.map λf=>f.1*(r/f.2)).length:Int)*r:=ur λx hx=>by
   obtain⟨f,c,rfl⟩:=mem_map.mp hx;exact AC r1 (g f c).t0 (g f c).le (g f c).b0 (dr f c)
  rw[length_map]at sb;have sD:(d.map λf=>f.1*(r/f.2)).sum<=(d.length:Int)*(D:Int):=Int.le_trans sb.2 (Int.mul_le_mul_of_nonneg_left Y (by lia));refine⟨_,_,rfl,r1,(CA o (by lia) sb.1 sD).mono (by decide),(Tb.bt_of R o (by lia) Y).mono (by decide),λH3 p s3 al=>q _ _ ((G.trans O).trans s3) ⟨p,rfl,.inl ?_⟩⟩;rw[al,Tb.low_tops r1 (Tb.top_sum r1 λf c=>⟨(g f c).b0,dr f c⟩)]
end
end My
namespace My
open PySem L2 FrM Du LexM
open Tb (Tr Ent Way Rws Ch Lm2 Grp bnd xX Dk Dks)
theorem lu{x y:List Int}(h:x.map (Sum.inl:Int->Key)=y.map Sum.inl):x=y:=by
 have:=congrArg (List.map λk:Key=>match k with | .inl i=>i | .inr _=>0) h;rw[map_map,map_map]at this
 have e:∀ l:List Int,l.map ((λk:Key=>match k with | .inl i=>i | .inr _=>0) ∘ Sum.inl)=l:=λl=>by
  induction l with
  | nil=>rfl
  | cons a l ih=>rw[map_cons,ih];rfl
 rw[e,e]at this;exact this
def GrR(K:Frag)(H1 H:Hp)(x:List Int×List (Int×Int))(kv:List Key×V):Prop:=kv.1=x.1.map Sum.inl/\∃ l ys,kv.2=.ref l/\H1 l=none/\H l=some (.lst ys)/\AllF K H1 x.2 ys
theorem GrR.m{K:Frag}{a H b:Hp}(h:∀ l ys,H l=some (.lst ys)->b l=some (.lst ys))(x:List Int×List (Int×Int))(c:List Key×V)(g:GrR K a H x c):GrR K a b x c:=by
 obtain⟨e,l,ys,i,f,d,j⟩:=g;exact⟨e,l,ys,i,f,h _ _ d,j⟩
theorem BD{K:Frag}{c H:Hp}{l:Addr}{i:List V}{g:Grp}{a:List (List Key×V)}(h:Paired (GrR K c H) g a)(n:V.ref l ∉ a.map (·.2)):Paired (GrR K c (upd H l (.lst i))) g a:=by
 induction h with
 | nil=>exact .nil
 | @cons x kv g a r t ih =>
  rw[map_cons,mem_cons,not_or]at n;obtain⟨e,j,b,d,o,f,p⟩:=r;refine .cons ⟨e,j,b,d,o,?_,p⟩ (ih n.2);rw[af (λz=>n.1 (by rw[d,z]))];exact f
theorem zy{K:Frag}{j H:Hp}{k:List Int}{c:Int×Int}{v:V}{g:Grp}{a:List (List Key×V)}(h:Paired (GrR K j H) g a)(i:(a.map (·.2)).Nodup)(b:dh a (k.map Sum.inl)=some v) :
  ∃ x l ys,x∈g/\v=.ref l/\j l=none/\H l=some (.lst ys)/\ys.length=x.2.length/\∀ ct,IsF K j c ct->Paired (GrR K j (upd H l (.lst (ys++[ct])))) (Tb.pushG k c g) a:=by
 induction h with
 | nil=>cases b
 | @cons x n g a r t ih =>
  obtain⟨e,l,ys,f,p,s,q⟩:=r;rw[map_cons,nodup_cons]at i
  by_cases z:x.1=k
  .rw[eC (by rw[e,z])]at b
   have b:n.2=v:=Option.some.inj b;refine⟨x,l,ys,mem_cons_self,by rw[<- b,f],p,s,q.len.symm,λct d=>?_⟩;rw[Tb.pushG,if_pos z];rw[f]at i;exact .cons ⟨by show n.1=k.map Sum.inl;rw[e,z],l,ys++[ct],f,p,ad,q.snoc d⟩ (BD t i.1)
  .rw[eh (λy=>z (lu (e.symm.trans y)))]at b
   obtain⟨A,C,o,G,u,D,w,E,F⟩:=ih i.2 b;refine⟨A,C,o,mem_cons_of_mem _ G,u,D,w,E,λct d=>?_⟩;rw[Tb.pushG,if_neg z];refine .cons ⟨e,l,ys,f,p,?_,q⟩ (F ct d)
   have B:v∈a.map (·.2):=by
    unfold dh at b;cases hf:a.find? (λn=>decide (n.1=k.map Sum.inl)) with
    | none=>rw[hf]at b;cases b
    | some y =>
     rw[hf]at b;have:y.2=v:=Option.some.inj b;exact mem_map.mpr ⟨y,List.mem_of_find?_eq_some hf,this⟩
   rw[af (λy=>i.1 (by rw[f,y,<- u];exact B))];exact s
theorem zL{K:Frag}{b H:Hp}{k:List Int}{c:Int×Int}{D:Addr}{i:V}{g:Grp}{a:List (List Key×V)}(h:Paired (GrR K b H) g a)(d:dh a (k.map Sum.inl)=none)(l:b D=none)(j:H D=some (.lst [i]))(f:IsF K b c i):Paired (GrR K b H) (Tb.pushG k c g) (a++[(k.map Sum.inl,.ref D)]):=by
 induction h with
 | nil=>exact .cons ⟨rfl,D,[i],rfl,l,j,.cons f .nil⟩ .nil
 | @cons x kv g a r t ih =>
  have z:¬x.1=k:=λz=>by rw[eC (by rw[r.1,z])]at d;cases d
  rw[eh (λy=>z (lu (r.1.symm.trans y)))]at d;rw[Tb.pushG,if_neg z];exact .cons r (ih d)
theorem wT{K:Frag}{b H:Hp}{g:Grp}{a:List (List Key×V)}(h:Paired (GrR K b H) g a):a.map (·.1)=(g.map (·.1)).map λx=>x.map Sum.inl:=by
 induction h with
 | nil=>rfl
 | cons r _ ih=>rw[map_cons,map_cons,map_cons,ih,r.1]
theorem Bq{K:Frag}{f H:Hp}{g:Grp}{a:List (List Key×V)}(h:Paired (GrR K f H) g a)(d:(g.map (·.1)).Nodup){i:Nat}{x:List Int×List (Int×Int)}(b:g[i]? = some x):∃ l ys,dh a (x.1.map Sum.inl)=some (.ref l)/\H l=some (.lst ys)/\AllF K f x.2 ys:=by
 induction h generalizing i with
 | nil=>cases b
 | @cons x' kv g a r t ih =>
  rw[map_cons,nodup_cons]at d;obtain⟨e,l,ys,p,v,j,u⟩:=r;cases i with
  | zero =>
   cases b;exact⟨l,ys,by rw[eC e,p],j,u⟩
  | succ i =>
   obtain⟨n,c,o,s,q⟩:=ih d.2 (i:=i) b;refine⟨n,c,?_,s,q⟩;rw[eh,o];intro y;have:=lu (e.symm.trans y);exact d.1 (by rw[this];exact mem_map.mpr ⟨x,List.mem_of_getElem? b,rfl⟩)
def RowR(K:Frag)(H:Hp)(x:List Int×Rat)(y:V):Prop:=∃ p kt z,y=.ref p/\H p=some (.tup [.ref kt,z])/\H kt=some (.tup (x.1.map V.int))/\IsQ K H x.2 z
theorem RowR.tk{K:Frag}{H a:Hp}(s:TK H a)(x:List Int×Rat)(y:V)(h:RowR K H x y):RowR K a x y:=by
 obtain⟨p,c,z,d,f,b,g⟩:=h;exact⟨p,c,z,d,s _ _ f,s _ _ b,g.tk s⟩
theorem SameT.tk'{H a:Hp}(s:SameT H a):TK H a:=λb c e=>s.at e
def lY(a:Ad)(K:Frag):Sp:=λvs H Q E=>∃ v d t,∃ D:Nat,vs=[v]/\IsNd a H v t/\Dk d t/\d<=24/\Tb.Ok t/\(∀ L:List (List Int),L.Nodup->(∀ k∈L,k∈(Tb.toR (Tb.kW (Tb.wl t 1 1))).map (·.1))->L.length<64)/\0<D/\D<=Lm2/\(∀ w∈Tb.wl t 1 1,Ch (D:Int) w.2)/\TabsOk (tabs a) H/\(Tb.lv t<=4096->∀ H' l R ys,SameT H H'->TabsOk (tabs a) H'->H l=none->H' l=some (.lst ys)->Paired (RowR K H') R ys->Tb.IsTab (Tb.toR (Tb.kW (Tb.wl t 1 1))) R->ys.length<=4096->Q (.ref l) H')/\(4096<Tb.lv t->RefMT a H E)
theorem RefMT.t{a:Ad}{H b:Hp}{E:XK}(s:SameT H b)(h:RefMT a H E):RefMT a b E:=λc t=>h c (s.trans t)
section
variable {P:Program}{w:World}{K:Frag}{mg:Str->Option Value}{base:Heap}{a:Ad}
theorem mG(T:Txt K mg a)(hB:Bm mg base):FnOk P w K mg base (CXG P w) 19 a.f_X a.d_X ["node"] (lY a K):=by
 have c0:FnOk P w K mg base (CXG P w) 18 _ _ _ (vR a):=ye T hB;have b2:FnOk P w K mg base CX0 18 _ _ _ _:=(wu T).mono (by decide);refine T.F_X.okG sc_X (λvs H Q E h=>?_) (λcdv A outer s H vs Q E hr h=>?_)
 .obtain⟨v,d,t,D9,rfl,_⟩:=h;rfl
 .obtain⟨v,d,t,D9,rfl,hn,cx,hd,co,b1,Dp,c8,an,hT,q1,q2⟩:=h
  have cA:sizeLine=16777216:=sizeLine_eq;refine⟨_,(ai (aM (i:=1) sc_X.nd rfl (Or.inr rfl) mJ) (ai (da AQ rfl (bI (ap c0 hr rfl T.m_Q T.F_Q.kp T.B_Q .nil vU (aa (vr 0) ae))) (dU rfl (au (ar (i:=2) sc_X.nd rfl (Or.inl rfl)) (au (ar (i:=3) sc_X.nd rfl (Or.inl rfl)) bR))) (aj (cX (pe_m.append (zC (qG hr) (vr 1) (vr 2) (bW ae) ⟨rfl,rfl,rfl,rfl⟩) (aa (vr 3) ae))))) (aj (ax (cJ rfl (N:=["kept","found"]) (ix:=[none,some 1]) ⟨rfl,rfl,rfl,rfl,⟨rfl,rfl,rfl,trivial⟩⟩ (bI (az (jY rfl hr.units) rfl T.z_sorted ip (aa (vr 1) ae))) ⟨λC s H fp=>ar (i:=0) (show List.Nodup (["kept","found"]:List Str) by decide +kernel) rfl (Or.inl rfl),λC s H fp=>cH,λC s H fp=>(bT (aa (vr 0) (aa (ap b2 hr rfl T.m_ac T.F_ac.kp T.B_ac .nil aq (aa (yx (qG hr) (vr 1) (vr 0) (λ_ _=>rfl)) ae)) ae)))⟩))))),gg ?_⟩;intro dr de;intro J bn;have u1:=Same.new (o:=.dT []) bn;have as:=ad (H:=H) (a:=J) (o:=.dT []);generalize upd H J (.dT [])=Ha at u1 as;refine⟨v,d,t,rfl,hn.t u1.t,cx,hd,co,hT.same u1,λck H1 lw zs t1 c3 dk a8 hW=>?_,λh=>(q2 h).t u1.t⟩;have I:=t1.at as;have zl:zs.length=Tb.lv t:=by rw[<- hW.length,Tb.wl_len]
  have b6:∀ w∈Tb.kW (Tb.wl t 1 1),Ch (D9:Int) w.2:=λw hw=>by
   obtain⟨y,hy,rfl⟩:=mem_map.mp hw;exact an y hy
  clear an;have br:=Tb.kW_len t;have c7:SameT H H1:=u1.t.trans t1;generalize hWW:Tb.wl t 1 1=W at hW b6 br q1 b1;have dp:W.length=zs.length:=hW.length;have c':∀ b,H1 b=none->b≠J:=λb hb z=>by rw[z,I]at hb;cases hb
  let Pw1:PvS:=λi σ G=>∃(B:List (List Key×V)) (x2 x3:Option V),(∀ b o,b≠J->H1 b=some o->G b=some o)/\TabsOk (tabs a) G/\G J=some (.dT B)/\Paired (GrR K H1 G) (Tb.grp ((Tb.kW W).take i)) B/\(B.map (·.2)).Nodup/\i<=zs.length/\σ=[some v,some (.ref J),x2,x3]
  refine .inl ⟨⟨_,SqL.of a8⟩,cY (K:=K) (a:=lw) (xs:=zs) Pw1 ⟨[],none,none,(λb o _ e=>e),c3,I,.nil,nodup_nil,Nat.zero_le _,rfl⟩ (λi σ G _ h=>by
   obtain⟨B,x2,x3,k,_⟩:=h
   exact SqL.of (k _ _ (fZ a8 I (λz=>nomatch z)) a8)) ?_ ?_⟩
  .rintro i y σ G hy ⟨B,x2,x3,kp,a7,O,hG,nd,hi,rfl⟩
   obtain⟨⟨F,tp,bt⟩,hw,q,kt,ct,ns,rfl,hq,a2,a0,c1,dx,dv,b0⟩:=cQ hW hy;have ab:i<zs.length:=(List.getElem?_eq_some_iff.mp hy).1;have ek:ns=Tb.so F:=Tb.so_uniq a0.1 a0.2;have cW:=Tb.kW_get hw;have gk:=Tb.grp_gk (Tb.kW W) i (by lia);have gl:B.length<=i:=by rw[<- hG.length];exact gk.1
   have nq:q≠J:=fZ hq I (λz=>nomatch z);have cj:kt≠J:=fZ a2 I (λz=>nomatch z);have eg:=Tb.grp_snoc cW
   have hF:IsF K H1 (tp,bt) (.ref ct):=⟨ct,rfl,.inl c1⟩
   rw[ek]at a2;refine⟨q,_,rfl,SqT.of (kp _ _ nq hq),rfl,_,_,rfl,_,_,rfl,rfl,?_⟩;refine⟨J,rfl,.inr ⟨B,.inl O⟩,Nat.zero_le _,λD fD=>?_⟩;have n2:=Same.new (o:=.lst []) fD;have nD:D≠J:=λz=>by rw[z,O]at fD;cases fD
   have bS:H1 D=none:=by
    cases hh:H1 D with
    | none=>rfl
    | some o=>rw[kp _ _ nD hh]at fD;cases fD
   have b3:(upd G D (.lst [])) kt=some (.tup (((Tb.so F).map Sum.inl).map kV)):=by rw[lQ];exact n2 _ _ (kp _ _ cj a2)
   have Y:TabsOk (tabs a) (upd G D (.lst [])):=a7.same n2;have M:=n2 _ _ O;have ca:=ad (H:=G) (a:=D) (o:=.lst []);have bo:∀ b o,b≠J->H1 b=some o->(upd G D (.lst [])) b=some o:=λb o n e=>n2 _ _ (kp _ _ n e)
   have c5:=ak (GrR.m λl Z e=>n2 _ _ e) hG;have b4:∀ l Z,G l=some (.lst Z)->l≠D:=λl Z e z=>by rw[z,fD]at e;cases e
   refine⟨B,_,kt,rfl,b3,M,by lia,λv' cP=>?_,λhn'=>?_⟩
   .obtain⟨x,l,Z,a6,rfl,fl,hl,c9,a'⟩:=zy (c:=(tp,bt)) c5 nd cP
    generalize upd G D (.lst [])=H2 at *;have yl:=(gk.2 x a6).1;refine⟨.inl ⟨rfl,_,SqL.of hl⟩,⟨l,Z,_,rfl,rfl,hl,by lia,?_⟩⟩;have nl:l≠J:=fZ hl M (λz=>nomatch z);refine⟨B,_,_,λb o n e=>?_,Y.put (λps z=>by rw[hl]at z;cases z) (λφ z=>by rw[hl]at z;cases z),by rw[af (Ne.symm nl)];exact M,by rw[eg];exact a' _ hF,nd,ab,rfl⟩;rw[af (λz=>by rw[z,fl]at e;cases e)];exact bo _ _ n e
   .generalize eH2:upd G D (.lst [])=H2 at *
    have L:(upd H2 J (.dT (B++[((Tb.so F).map Sum.inl,.ref D)]))) D=some (.lst []):=by rw[af nD];exact ca
    refine⟨.inl ⟨rfl,_,SqL.of L⟩,⟨D,[],_,rfl,rfl,L,by show 0<_;lia,?_⟩⟩;have c4:TabsOk (tabs a) (upd H2 J (.dT (B++[((Tb.so F).map Sum.inl,.ref D)]))):=Y.put (λps z=>by rw[M]at z;cases z) λφ z=>by rw[M]at z;cases z
    have GN:Paired (GrR K H1 (upd (upd H2 J (.dT (B++[((Tb.so F).map Sum.inl,.ref D)]))) D (.lst ([]++[.ref ct])))) (Tb.pushG (Tb.so F) (tp,bt) (Tb.grp ((Tb.kW W).take i))) (B++[((Tb.so F).map Sum.inl,.ref D)]):=zL (ak (GrR.m λl Z e=>by rw[af (b4 _ _ e),af (fZ e O (λz=>nomatch z))];exact n2 _ _ e) hG) hn' bS ad hF;refine⟨B++[((Tb.so F).map Sum.inl,.ref D)],_,_,λb o n e=>?_,c4.put (λps z=>by rw[L]at z;cases z) (λφ z=>by rw[L]at z;cases z),by rw[af (Ne.symm nD)];exact ad,by rw[eg];exact GN,?_,ab,rfl⟩
    .rw[af (λz=>by rw[z,bS]at e;cases e),af n]
     exact bo _ _ n e
    .rw[map_append]
     refine nodup_append.mpr ⟨nd,by simp,λu hu u' cG e=>?_⟩;have e':u'=V.ref D:=by simpa using cG
     rw[e,e']at hu;obtain⟨kv,c2,e9⟩:=mem_map.mp hu;obtain⟨j,hj⟩:=List.getElem?_of_mem c2;obtain⟨x,_,r⟩:=cQ hG hj;obtain⟨_,l,Z,h1,_,h3,_⟩:=r;rw[e9]at h1;cases h1;exact b4 _ _ h3 rfl
  rintro σ H2 ⟨B,x2,x3,kp,a7,O,hG,nd,hi,rfl⟩;have gk:=Tb.grp_gk (Tb.kW W) zs.length (by lia);have et:(Tb.kW W).take zs.length=Tb.kW W:=take_of_length_le (by rw[br];lia);rw[et]at hG gk;have a5:=Tb.grp_nd (Tb.kW W);have X:=Tb.rat_grp (Tb.kW W);generalize hg:Tb.grp (Tb.kW W)=g at hG gk a5 X;have a4:(g.map (·.1)).Nodup:=by have:=a5;unfold Tb.NdR at this;rwa [Tb.rat_keys]at this
  have dt:g.length<64:=by
   have:=b1 (g.map (·.1)) a4 λk hk=>by rw[<- Tb.rat_keys,X,Tb.adds_keys]at hk;exact hk
   rwa [length_map]at this
  have t2:SameT H H2:=λb o e=>by
   have nb:b≠J:=λz=>by rw[z,bn]at e;cases e
   obtain⟨e1,o1,e2⟩:=c7 b o e;have:=kp _ _ nb e2;exact⟨λnp=>kp _ _ nb (e1 np),o1,this⟩
  have kl:B.length=g.length:=hG.length.symm;have gl:g.length<=4096:=by have:=gk.1;lia
  refine⟨J,B,g.map (·.1),rfl,O,by lia,wT hG,a4,λq o f fq op cc bl=>?_⟩;rw[length_map]at op bl;have u3:=Same.new (o:=.lst (o.map f)) fq;have a3:=ad (H:=H2) (a:=q) (o:=.lst (o.map f));have Y:=a7.same u3;generalize upd H2 q (.lst (o.map f))=H3 at u3 a3 Y;have t3:=t2.trans u3.t;have dd:H q=none:=t2.free fq;have cT:(Tb.rat g).length=g.length:=by unfold Tb.rat;rw[length_map]
  obtain⟨rp,rs⟩:=Tb.tab_of a5 (o:=o) (by rw[cT];exact op) (by rw[Tb.rat_keys];exact cc);have ol:o.length=g.length:=by rw[op.length_eq,length_range]
  generalize hR:(o.map λi=>(Tb.rat g).getD i ([],0))=R at rp rs;have Rl:R.length=o.length:=by rw[<- hR,length_map]
  refine .inl ⟨⟨_,SqL.of a3⟩,λD3 L=>?_⟩
  let Pw2:PvL:=λi ws G=>i<=o.length/\Same H3 G/\G D3=some (.lst ws)/\Paired (RowR K G) (R.take i) ws
  refine cE (K:=K) (a:=q) (xs:=o.map f) Pw2 ⟨Nat.zero_le _,Same.new L,ad,.nil⟩ (λi Z G h=>SqL.of (h.2.1 _ _ a3)) (λi Z G h=>h.2.2.1) ?_ ?_
  .rintro i y ws G P' hy ⟨dm,n5,a1,S⟩ cs
   rw[List.getElem?_map]at hy
   obtain⟨j,hj,rfl⟩:∃ j,o[i]? = some j/\f j=y:=by
    cases e:o[i]? with
    | none=>rw[e]at hy;cases hy
    | some j=>rw[e]at hy;cases hy;exact⟨j,rfl,rfl⟩
   have ab:i<o.length:=(List.getElem?_eq_some_iff.mp hj).1;have bg:j<g.length:=mem_range.mp (op.mem_iff.mp (List.mem_of_getElem? hj));obtain⟨b,eb,hb⟩:=bl j bg
   obtain⟨x,hx⟩:∃ x,g[j]? = some x:=⟨_,List.getElem?_eq_getElem bg⟩
   have a9:(g.map (·.1)).getD j []=x.1:=by rw[List.getD,List.getElem?_map,hx];rfl
   rw[a9]at hb;have hb:H2 b=some (.tup (x.1.map V.int)):=hb;have b5:=(u3.trans n5) _ _ hb;obtain⟨l,Z,hv,hl,hF⟩:=Bq hG a4 hx;have a6:=List.mem_of_getElem? hx;obtain⟨xl,xc⟩:=gk.2 x a6;have c6:TK H1 G:=λb us e=>(u3.trans n5) _ _ (kp _ _ (fZ e I (λz=>nomatch z)) e)
   have ds:ws.length<=4096:=by rw[<- S.length,length_take];lia
   rw[eb];refine⟨⟨rfl,trivial⟩,?_⟩;refine⟨J,_,rfl,.inr ⟨B,x.1.map Sum.inl,b,.inl ((u3.trans n5) _ _ O),rfl,by rw[lQ];exact b5,hv.symm⟩,?_⟩;refine⟨l,x.2,Z,D9,rfl,(u3.trans n5) _ _ hl,hF.tk c6,by rw[<- hF.len];lia,Dp,c8,λc hc=>?_,λH6 z s6 hz=>?_⟩
   .obtain⟨w9,cB,e9⟩:=xc c hc
    rw[<- e9];exact b6 w9 cB
   refine⟨by show 2<=sizeLine;decide,λp fp=>?_⟩;have s7:=Same.new (o:=.tup [.ref b,z]) fp;have bm:=(s6.trans s7) _ _ a1;have b':=(n5.trans s6).trans s7;refine⟨bm,by lia,cs _ _ ⟨ab,b'.put L,ad,?_⟩⟩
   have eR:R[i]? = some (x.1,Tb.sumQ x.2):=by
    rw[<- hR,List.getElem?_map,hj];show some ((Tb.rat g).getD j ([],0))=_;unfold Tb.rat;rw[List.getD,List.getElem?_map,hx];rfl
   have al:TK (upd H6 p (.tup [.ref b,z])) (upd (upd H6 p (.tup [.ref b,z])) D3 (.lst (ws++[.ref p]))):=λb us e=>by rw[af (fZ e bm (λz=>nomatch z))];exact e
   refine dI (ak (RowR.tk ((s6.trans s7).tk.trans al)) S) eR ⟨p,b,z,rfl,al _ _ ad,al _ _ ((s6.trans s7) _ _ b5),(hz.same s7).tk al⟩
  .rintro ws H5 ⟨_,n5,a1,S⟩
   have cy:H D3=none:=t3.free L;rw[length_map,<- Rl,take_length]at S;refine q1 ck _ D3 R ws (t3.trans n5.t) (Y.same n5) cy a1 S ⟨?_,rs⟩ (by rw[<- S.length];lia);rw[<- X];exact rp
end
end My
namespace Tb
open FrM Du LexM
abbrev Fn:=Int×Int
def fpl(f g:Fn):Fn:=lowP (f.1*g.2+g.1*f.2) (f.2*g.2)
def ftm(f g:Fn):Fn:=lowP (f.1*g.1) (f.2*g.2)
def dW:Nat->Nat->Nat->List (List Int)
 | _,_,0=>[[]]
 | _,0,_+1=>[]
 | lo,n+1,w+1=>(dW (lo+1) n w).map (λs=>(lo:Int)::s)++dW (lo+1) n (w+1)
abbrev Rw:=List Nat×Fn
def bH(l:List Nat)(S:List Int):List Nat:=S.map λk=>l.getD k.toNat 0
def aE(m:Nat)(l:List Nat):List Rw:=(dW 0 l.length (min l.length m)).map λS=>(bH l S,lowP 1 (ch l.length (min l.length m):Nat))
def wB(s:Nat)(S:List Int):Nat:=(S.filter λx=>decide (x<(s:Int))).length
def shF(w c1 s1 c2 s2:Nat)(S:List Int):Fn:=lowP ((ch c1 (wB s1 S)*ch c2 (w - wB s1 S):Nat):Int) ((ch s1 (wB s1 S)*ch s2 (w - wB s1 S)*ch (c1+c2) w:Nat):Int)
def prR(m c1 c2:Nat)(t1 t2:List Nat):List Rw:=(dW 0 (min m c1+min m c2) (min m (c1+c2))).map λS=>(bH (t1++t2) S,shF (min m (c1+c2)) c1 (min m c1) c2 (min m c2) S)
def prA(m c1 c2:Nat)(A B:List Rw):List Rw:=A.flatMap λa=>B.flatMap λb=>(prR m c1 c2 a.1 b.1).map λr=>(r.1,ftm (ftm a.2 b.2) r.2)
def ins(x:Nat):List Nat->List Nat
 | []=>[x]
 | y::l=>if x<=y then x::y::l else y::ins x l
def isr(l:List Nat):List Nat:=l.foldr ins []
abbrev Mg:=List (List Nat×List Nat×Fn)
def bO(k t:List Nat)(f:Fn):Mg->Mg
 | []=>[(k,t,fpl (0,1) f)]
 | x::r=>if x.1=k then (k,t,fpl x.2.2 f)::r else x::bO k t f r
def mgs(l:List Rw):Mg:=l.foldl (λg r=>bO (isr r.1) r.1 r.2 g) []
def mgR(l:List Rw):List Rw:=(mgs l).map (·.2)
def prM(m c1 c2:Nat)(A B:List Rw):List Rw:=mgR (prA m c1 c2 A B)
def alk(m n:Nat)(l:List Rw):Bool :=
 let g:=mgs l
 decide (g.length=ch n (min m n)) && g.all λx=>decide (x.1.length=min m n) && x.1.all (λk=>decide (k<n)) && decide (x.2.2=lowP 1 (g.length:Int))
def bN(lo n:Nat):List Nat:=(List.range n).map λk=>lo+k
def fbO(f:Fn):Bool:=decide (0<=f.1) && decide (f.1<2 ^ 64) && decide (0<f.2) && decide (f.2<2 ^ 64)
end Tb
namespace My
open PySem L2 FrM LexM
open Tb (Tr pN cM wo Pv stm stP Hd ch rng rnf pS tS Fn fpl ftm fbO)
inductive spPour(a:Ad)(vs:List V)(H:Hp)(Q:VK)(E:XK):Prop
 | mk(x h y h2:Addr)(m c1 m2 c2:Nat)(ts ts2:List Str)(h0:vs=[.ref x,.ref y])(h1:PotAt a H x h (m:Nat) (c1:Nat) ts)(h2:PotAt a H y h2 (m2:Nat) (c2:Nat) ts2)(h3:Okp (m:Nat) (c1:Nat) ts)(h4:Okp (m2:Nat) (c2:Nat) ts2)(h5:TabsOk (tabs a) H)(h6:(m≠m2->xU a H E))(h7:(m=m2->∀ H' u,SameT H H'->TabsOk (tabs a) H'->IsNd a H' u (pS (min m (c1+c2)) c1 (min m c1) c2 (min m c2))->Q u H')):spPour a vs H Q E
inductive spChoose(vs:List V)(H:Hp)(Q:VK)(_E:XK):Prop
 | mk(many few:Nat)(h0:vs=[.int (many:Nat),.int (few:Nat)])(h1:few<=many)(h2:many<=60)(h3:Q (.int (ch many few:Nat)) H):spChoose vs H Q _E
theorem pT{m c:Nat}{a:List Str}(h:Okp (m:Nat) (c:Nat) a):a.length=min m c:=by
 have:=h.2.2.2.2
 split at this <;> lia
theorem yE{m c1 c2:Nat}(a:m<=24):Tb.Pq (min m (c1+c2)) c1 (min m c1) c2 (min m c2):=⟨show _=_\/_<=_ by lia,show _=_\/_<=_ by lia,by lia,by lia,by lia,by lia⟩
def sg(i:Int):Str:=⟨#[97+i.toNat]⟩
theorem A8:∀ k:Nat,k<24->nmK (.s (sg (k:Int)))=true:=by decide +kernel
inductive spStd(a:Ad)(vs:List V)(H:Hp)(Q:VK)(E:XK):Prop
 | mk(v u:V)(k j:Kd)(h0:vs=[v,u])(h1:Thg H v k)(h2:Thg H u j)(h3:TabsOk (tabs a) H)(h4:(∀ many most:Nat,k=.i many->j=.i most->many<=24->1<=most->most<=24->∀ H' x,SameT H H'->TabsOk (tabs a) H'->IsNd a H' x (tS (min many most) (many - min many most))->Q x H'))(h5:(inK 0 24 k=false\/inK 1 24 j=false->∀ H',SameT H H'->TabsOk (tabs a) H'->E (.ref a.c_p) none H')):spStd a vs H Q E
inductive spFF(K:Frag)(op:Fn->Fn->Fn)(vs:List V)(H:Hp)(Q:VK)(_E:XK):Prop
 | mk(x y:V)(f g:Fn)(h0:vs=[x,y])(h1:IsF K H f x)(h2:IsF K H g y)(h3:fbO f=true)(h4:fbO g=true)(h5:∀ H' z,Same H H'->IsF K H' (op f g) z->Q z H'):spFF K op vs H Q _E
theorem p7{f:Fn}(h:fbO f=true):0<=f.1/\f.1<2 ^ 64/\0<f.2/\f.2<2 ^ 64:=by
 unfold fbO at h;simp only[Bool.and_eq_true,decide_eq_true_eq]at h;exact⟨h.1.1.1,h.1.1.2,h.1.2,h.2⟩
section
variable {P:Program}{w:World}{K:Frag}{mg:Str->Option Value}{base:Heap}{a:Ad}
theorem kH{k:Nat}{f:Addr}{a:FuncData}{ps:List Str}{sp:Sp}(F:FnOk P w K mg base (CXG P w) k f a ps sp):FnOk P w K mg base CX0 k f a ps (λvs H Q _=>sp vs H Q λ_ _ _=>False) :=
 ⟨λvs H Q E h=>F.len vs H Q _ h,λA outer s H args us vs Q E hr e0 hb hv hs=>codeAny_mono (F.run A outer s H args us vs Q _ hr e0 hb hv hs) λr s' hq=>by
  cases r with
  | error e=>obtain⟨_,_,_,_,_,_,_,z⟩:=hq;exact z
  | ok fl=>cases fl <;> exact hq⟩
theorem rY(T:Txt K mg a)(hB:Bm mg base):FnOk P w K mg base (CXG P w) 13 a.f_W a.d_W ["one","other"] (spPour a):=by
 have a2:FnOk P w K mg base (CXG P w) 12 _ _ _ (spNA a):=(oj T).mono (by decide);have p:FnOk P w K mg base CX0 12 _ _ _ _:=(ja T).mono (by decide);have X:FnOk P w K mg base CX0 12 _ _ _ _:=(eI T).mono (by decide);have a4:FnOk P w K mg base CX0 12 _ _ _ (spPN 2 a):=nK T hB 2;refine T.F_W.okG sc_W (λvs H Q E h=>?_) (λcdv A outer s H vs Q E hr h=>?_)
 .obtain⟨x,h,y,R,m,c,m2,f,L,g,rfl,_⟩:=h;rfl
 .obtain⟨x,h,y,R,m,c,m2,f,L,g,rfl,F,j,J,Y,hT,q1,q2⟩:=h
  have a1:sizeLine=16777216:=sizeLine_eq;refine⟨_,(ai (cX (ap a2 hr rfl T.m_y T.F_y.kp T.B_y .nil vU (aa (vr 0) (aa (vr 1) ae)))) (ai (aM (i:=2) sc_W.nd rfl (Or.inr rfl) (cK (gF rfl) rfl T.z_list gN (aa (cK kq rfl T.z_range mM (aa (az aL rfl T.z_len ce (aa (aD (vr 0) T.cl_h T.mt_j X hr T.B_j .nil aq) ae)) ae)) ae))) (ai (lf rfl (i:=3) sc_W.nd rfl rfl (by with_unfolding_all rfl) (N:=["place","firsts"]) (ix:=[none,some 2]) ⟨rfl,rfl,rfl,rfl,⟨rfl,rfl,rfl,trivial⟩⟩ (ee rfl T.z_range (aa (az aL rfl T.z_len ce (aa (aD (vr 1) T.cl_h T.mt_j X hr T.B_j .nil aq) ae)) ae)) ⟨λC s H fp=>ar (i:=0) (show List.Nodup (["place","firsts"]:List Str) by decide +kernel) rfl (Or.inl rfl),λC s H fp=>cH,λC s H fp=>(aw cu (az (oY (K:=K) rfl) rfl T.z_len ce (aa (vr 1) ae)) (vr 0))⟩) (ai (aM (i:=4) sc_W.nd rfl (Or.inl rfl) (az (g7 rfl) rfl T.z_min pf (aa (cL (vr 0) rfl) (aa (aw cu (aD (vr 0) T.cl_h T.mt_l p hr T.B_l .nil aq) (aD (vr 1) T.cl_h T.mt_l p hr T.B_l .nil aq)) ae)))) (aj (ax (ap a4 hr rfl T.m_c T.F_c.kp T.B_c .nil aq (aa (vr 4) (aa (bT (aa (aD (vr 0) T.cl_h T.mt_l p hr T.B_l .nil aq) (aa (vr 2) ae))) (aa (bT (aa (aD (vr 1) T.cl_h T.mt_l p hr T.B_l .nil aq) (aa (vr 3) ae))) (aa (bW ae) ae))))))))))),wd ?_⟩;intro bn bm bg a';obtain⟨⟨dx,hx⟩,_⟩:=id F;obtain⟨⟨dy,hy⟩,_⟩:=id j;refine⟨x,h,y,R,_,_,_,_,L,g,rfl,F,j,λem=>?_,λnm=>q1 λe=>nm (by rw[e])⟩;obtain rfl:m=m2:=by lia
  have l1:=pT J;have l2:=pT Y;obtain⟨m1,bl,_,a9,_⟩:=id J;obtain⟨_,_,_,a8,_⟩:=id Y;refine⟨x,dx,_,rfl,hx,rfl,⟨x,h,_,_,L,rfl,F,λH1 r1 s1 f1 ab=>?_⟩⟩;refine⟨_,.inl (SqL.of ab),?_⟩;rw[length_map,l1];refine⟨_,rfl,λpr a0=>?_⟩;have s2:=s1.trans (Same.new (o:=.rng 0 ((min m c:Nat):Int)) a0);refine⟨pr,min m c,rfl,by lia,ad,λr a3=>?_⟩;have s3:=s2.trans (Same.new (o:=.lst ((List.range (min m c)).map λ(i:Nat)=>V.int (i:Int))) a3);have z:(upd (upd H1 pr (.rng 0 ((min m c:Nat):Int))) r (.lst ((List.range (min m c)).map λ(i:Nat)=>V.int (i:Int)))) r=some (.lst ((rng (min m c)).map V.int)):=by rw[ad];unfold rng;rw[map_map];rfl
  generalize upd (upd H1 pr (.rng 0 ((min m c:Nat):Int))) r (.lst ((List.range (min m c)).map λ(i:Nat)=>V.int (i:Int)))=H3 at s3 z;refine⟨y,dy,_,rfl,s3 _ _ hy,rfl,⟨y,R,_,_,g,rfl,j.same s3,λH4 r4 s4 f4 a5=>?_⟩⟩;refine⟨_,.inl (SqL.of a5),?_⟩;rw[length_map,l2];refine⟨_,rfl,by lia,by lia,λD hD=>?_⟩;have a7:=s4 _ _ z
  let Pw1:PvL:=λi zs O=>Same H4 O/\O D=some (.lst zs)/\zs=(rnf (min m c) i).map V.int
  refine m7 (lo:=0) (n:=((min m f:Nat):Int).toNat) Pw1 ⟨Same.new hD,ad,rfl⟩ (λi ys O h=>h.2.1) ?_ ?_
  .rintro i zs O P' hi ⟨Z,l,rfl⟩ hP
   refine⟨⟨rfl,trivial⟩,_,.inl (SqL.of (Z _ _ a7)),l,by rw[length_map,Tb.rnf_len];lia,hP _ _ ⟨Z.put hD,ad,?_⟩⟩;unfold rnf;rw[List.range_succ,map_append,map_append,length_map,Tb.rng_len,Int.zero_add];rfl
  rintro zs H5 ⟨Z,l,rfl⟩;rw[Int.toNat_natCast]at l;have d:=(s3.trans s4).trans Z;have v:=d _ _ hx;have al:=d _ _ hy;refine⟨x,_,dx,_,_,rfl,v,T.cl_h,T.na_Pot_most,rfl,?_⟩;refine⟨x,dx,_,rfl,v,rfl,⟨x,h,_,_,L,rfl,F.same d,⟨y,dy,_,rfl,al,rfl,⟨y,R,_,_,g,rfl,j.same d,?_⟩⟩⟩⟩;refine⟨_,_,rfl,?_⟩;rw[show(if (c:Int)+(f:Int)<(m:Int) then (c:Int)+(f:Int) else (m:Int))=((min m (c+f):Nat):Int) by split <;> lia];refine⟨x,dx,_,rfl,v,rfl,⟨x,h,_,_,L,rfl,F.same d,?_⟩⟩;refine⟨cR _ _,λq6 as=>?_⟩;have s6:=Same.new (o:=.tup [.int (c:Nat),.ref r]) as;have I:=ad (H:=H5) (a:=q6) (o:=.tup [.int (c:Nat),.ref r]);generalize upd H5 q6 (.tup [.int (c:Nat),.ref r])=H6 at s6 I;have q:=d.trans s6;refine⟨y,dy,_,rfl,q _ _ hy,rfl,⟨y,R,_,_,g,rfl,j.same q,?_⟩⟩;refine⟨cR _ _,λq7 a6=>?_⟩;have S:=Same.new (o:=.tup [.int (f:Nat),.ref D]) a6;have W:=ad (H:=H6) (a:=q7) (o:=.tup [.int (f:Nat),.ref D]);generalize upd H6 q7 (.tup [.int (f:Nat),.ref D])=H7 at S W;refine⟨Nat.zero_le _,λl8 an=>?_⟩;have B:=Same.new (o:=.lst []) an;have M:=ad (H:=H7) (a:=l8) (o:=.lst []);generalize upd H7 l8 (.lst [])=H8 at B M;have G:=(q.trans S).trans B;refine⟨.ref q6,.ref q7,.ref l8,min m (c+f),⟨c,rng (min m c),f,rnf (min m c) (min m f),[]⟩,[],rfl,(λb hb=>by cases hb),?_,gu _ _ _,hT.same G,λO u t' hT' hN=>?_⟩
  .rw[fQ]
   exact⟨⟨q6,r,rfl,(S.trans B) _ _ I,(s4.trans (Z.trans (s6.trans (S.trans B)))) _ _ z⟩,⟨q7,D,rfl,B _ _ W,(s6.trans (S.trans B)) _ _ l⟩,⟨l8,rfl,M⟩,(yE (by lia)).pv,by rw[Tb.rng_len];lia,by rw[Tb.rnf_len];lia,by show c<=300;lia,by show f<=300;lia⟩
  .rw[fQ]at hN
   exact q2 rfl _ _ (G.t.trans t') hT' hN
theorem sV(T:Txt K mg a):FnOk P w K mg base CX0 1 a.f_O a.d_O ["_law_many","_law_few"] spChoose:=by
 refine T.F_O.ok sc_O (λp H Q E h=>?_) (λcdv A outer s H p Q E hr h=>?_)
 .obtain⟨c,d,rfl,_⟩:=h;rfl
 .obtain⟨c,d,rfl,C,f,q⟩:=h
  have l:sizeLine=16777216:=sizeLine_eq;refine⟨_,(ai (aM (i:=2) sc_O.nd rfl (Or.inl rfl) am) (ai (da PassesOwn.never rfl (ee rfl T.z_range (aa (vr 1) ae)) (ar (i:=3) sc_O.nd rfl (Or.inl rfl)) (aj (aM (i:=2) sc_O.nd rfl (Or.inl rfl) (aw eN (aw cU (vr 2) (aw gq (vr 0) (vr 3))) (aw cu (vr 3) am))))) (aj (ax (vr 2))))),gg ?_⟩;intro u y;refine⟨_,rfl,by lia,by lia,?_⟩
  let Pw2:PvS:=λi g j=>j=H/\i<=d/\∃ x,g=[some (.int (c:Nat)),some (.int (d:Nat)),some (.int (ch c i:Nat)),x]
  refine io (lo:=0) (n:=(d:Int).toNat) Pw2 ⟨rfl,Nat.zero_le _,none,by rw[Tb.ch_zero];rfl⟩ ?_ ?_
  .rintro i g j B ⟨rfl,v,x,rfl⟩
   have b:=Tb.ch_le c i;have z:(2:Nat) ^ c<=2 ^ 60:=Nat.pow_le_pow_right (by decide) f
   obtain⟨k,rfl⟩:∃ k,c=i+1+k:=⟨c - i - 1,by lia⟩
   have o:=Tb.ch_step i k;refine⟨cmB (show Bt 70 _ by unfold Bt;lia) (show Bt 70 _ by unfold Bt;lia),cdB (by lia) (show Bt 70 _ by unfold Bt;lia),?_⟩;refine⟨rfl,by lia,some (.int (0+(i:Int))),?_⟩
   have e:((ch (i+1+k) i:Nat):Int)*(((i+1+k:Nat):Int) - (0+(i:Int)))/(0+(i:Int)+1)=((ch (i+1+k) (i+1):Nat):Int):=by
    have r:((ch (i+1+k) i:Nat):Int)*(((i+1+k:Nat):Int) - (0+(i:Int)))=((ch (i+1+k) (i+1):Nat):Int)*(0+(i:Int)+1):=by
     have:((ch (i+1+k) i*(k+1):Nat):Int)=((ch (i+1+k) (i+1)*(i+1):Nat):Int):=by rw[o]
     push_cast at this ⊢
     rw[show((i:Int)+1+(k:Int) - (0+(i:Int)))=(k:Int)+1 by lia,show(0+(i:Int)+1)=(i:Int)+1 by lia];exact this
    rw[r];exact Int.mul_ediv_cancel _ (by lia)
   rw[<- e];rfl
  .rintro g j ⟨rfl,_,x,rfl⟩
   rw[Int.toNat_natCast];exact q
theorem nk(T:Txt K mg a)(S:Bm mg base):FnOk P w K mg base (CXG P w) 4 a.f_V a.d_V ["many","most"] (spStd a):=by
 have d:FnOk P w K mg base CX0 3 _ _ _ _:=(jk T).mono (by decide);have q:FnOk P w K mg base CX0 3 _ _ _ (spSN a):=mU T S;refine T.F_V.okG nB (λL H Q E h=>?_) (λcdv A outer s H L Q E hr h=>?_)
 .obtain⟨v,u,k,j,rfl,_⟩:=h;rfl
 .obtain⟨v,u,k,j,rfl,G,F,D,J,N⟩:=h
  have C:sizeLine=16777216:=sizeLine_eq;refine⟨_,(ai (cg (PW.pt (vj (iu (iL (ap d hr rfl T.m_x T.F_x.kp T.B_x .nil aq (aa (vr 0) (aa am (aa (iB rfl T.g_MOST_STREAMED) ae)))))) (o8 (iu (iL (ap d hr rfl T.m_x T.F_x.kp T.B_x .nil aq (aa (vr 1) (aa am (aa (iB rfl T.g_MOST_KEPT) ae))))))))) (aj (dj T.xc_p T.xh_p (fU T.xi_NoThing T.kc_NoThing rfl T.mc_p))) aT) (aj (ax (ap q hr rfl T.m_t T.F_t.kp T.B_t .nil aq (aa (cK (gF rfl) rfl T.z_list gN (aa (cK kq rfl T.z_range mM (aa (az (g7 rfl) rfl T.z_min pf (aa (vr 0) (aa (vr 1) ae))) ae)) ae)) (aa (vr 1) (aa (vr 0) ae))))))),nF ?_⟩;intro X;have f:inK 0 24 k=false\/inK 1 24 j=false->∀ y,H y=none->∃ x dct φ,V.ref y=.ref x/\(upd H y (.ext (XD0 y a.c_p))) x=some (.ext φ)/\(∀ h,φ h->XU x a.c_p dct h)/\H x=none/\E (.ref a.c_p) dct (untr (upd H y (.ext (XD0 y a.c_p))) x):=λw=>vN SameT.refl D (N w)
  refine⟨v,0,24,k,rfl,G,?_⟩;cases e1:inK 0 24 k with
  | false=>exact f (.inl e1)
  | true =>
   refine⟨u,1,24,j,rfl,F,?_⟩;cases e2:inK 1 24 j with
   | false=>exact f (.inr e2)
   | true =>
    obtain⟨i,rfl⟩:∃ i,k=.i i:=by cases k with | i n=>exact⟨n,rfl⟩ | s t=>cases e1 | o=>cases e1
    obtain⟨i2,rfl⟩:∃ i,j=.i i:=by cases j with | i n=>exact⟨n,rfl⟩ | s t=>cases e2 | o=>cases e2
    have Y:0<=i/\i<=24:=of_decide_eq_true e1;have Z:1<=i2/\i2<=24:=of_decide_eq_true e2;cases G;cases F
    obtain⟨many,rfl⟩:∃ n:Nat,i=(n:Int):=⟨i.toNat,by lia⟩
    obtain⟨most,rfl⟩:∃ n:Nat,i2=(n:Int):=⟨i2.toNat,by lia⟩
    refine⟨_,_,rfl,?_⟩;rw[show(if (most:Int)<(many:Int) then (most:Int) else (many:Int))=((min many most:Nat):Int) by split <;> lia];refine⟨_,rfl,λp z=>?_⟩;have M:=Same.new (o:=.rng 0 ((min many most:Nat):Int)) z;refine⟨p,min many most,rfl,by lia,ad,λl r=>?_⟩;have B:=M.trans (Same.new (o:=.lst ((List.range (min many most)).map λ(i:Nat)=>V.int (i:Int))) r);have g:(upd (upd H p (.rng 0 ((min many most:Nat):Int))) l (.lst ((List.range (min many most)).map λ(i:Nat)=>V.int (i:Int)))) l=some (.lst ((rng (min many most)).map V.int)):=by rw[ad];unfold rng;rw[map_map];rfl
    generalize upd (upd H p (.rng 0 ((min many most:Nat):Int))) l (.lst ((List.range (min many most)).map λ(i:Nat)=>V.int (i:Int)))=H1 at B g
    have O:Hd (rng (min many most)) most:=by
     have h:=Tb.rng_hd (min many most);exact⟨h.nd,λx W=>by have:=h.lt x W;lia,by rw[Tb.rng_len];lia⟩
    have R:stm (many - min many most) (rng (min many most)) most=tS (min many most) (many - min many most):=by
     unfold tS
     by_cases c:many<=most
     .rw[show many - min many most=0 by lia];rfl
     .rw[show min many most=most by lia]
    refine⟨l,rng (min many most),most,many,many - min many most,[],rfl,(λb I=>by cases I),by rw[fQ];exact g,by lia,by lia,by rw[Tb.rng_len];lia,O,D.same B,λH2 x t2 hT2 hN=>?_⟩;rw[fQ,R]at hN;exact J many most rfl rfl (by lia) (by lia) (by lia) _ _ (B.t.trans t2) hT2 hN
theorem qP(T:Txt K mg a):FnOk P w K mg base CX0 3 a.f_ad a.d_ad ["one","other"] (spFF K fpl):=by
 have l:FnOk P w K mg base CX0 2 _ _ _ spLow:=gM T;refine T.F_ad.ok xI (λr H Q E h=>?_) (λcdv A outer s H r Q E hr h=>?_)
 .obtain⟨x,y,f,g,rfl,_⟩:=h;rfl
 .obtain⟨x,y,f,g,rfl,⟨p,rfl,d⟩,⟨j,rfl,i⟩,C,v,q⟩:=h
  obtain⟨I,G,u,O⟩:=p7 C;obtain⟨L,N,F,M⟩:=p7 v;have o:Bt 65 f.1:=by unfold Bt;lia
  have b:Bt 65 f.2:=by unfold Bt;lia
  have n:Bt 65 g.1:=by unfold Bt;lia
  have c:Bt 65 g.2:=by unfold Bt;lia
  refine⟨_,(aj (ax (ap l hr rfl T.m_I T.F_I.kp T.B_I .nil aq (aa (aw cu (aw cU (ci bj (vr 0) am (λ_ _=>rfl)) (ci bj (vr 1) am (λ_ _=>rfl))) (aw cU (ci bj (vr 1) am (λ_ _=>rfl)) (ci bj (vr 0) am (λ_ _=>rfl)))) (aa (aw cU (ci bj (vr 0) am (λ_ _=>rfl)) (ci bj (vr 1) am (λ_ _=>rfl))) ae))))),?_⟩;refine .inr (.inl ⟨p,_,_,_,rfl,rfl,d.sq,aJ 0 rfl rfl,.inr (.inl ⟨j,_,_,_,rfl,rfl,i.sq,aJ 1 rfl rfl,cmB o c,?_⟩)⟩);refine .inr (.inl ⟨j,_,_,_,rfl,rfl,i.sq,aJ 0 rfl rfl,.inr (.inl ⟨p,_,_,_,rfl,rfl,d.sq,aJ 1 rfl rfl,cmB n b,?_⟩)⟩);refine .inr (.inl ⟨p,_,_,_,rfl,rfl,d.sq,aJ 1 rfl rfl,.inr (.inl ⟨j,_,_,_,rfl,rfl,i.sq,aJ 1 rfl rfl,cmB b c,?_⟩)⟩);exact⟨_,_,rfl,Int.mul_pos u F,((o.mul c).add (n.mul b)).mono (by decide),(b.mul c).mono (by decide),λJ z D B=>q _ _ D ⟨z,rfl,.inl B⟩⟩
theorem vk(T:Txt K mg a):FnOk P w K mg base CX0 3 a.f_ab a.d_ab ["one","other"] (spFF K ftm):=by
 have b:FnOk P w K mg base CX0 2 _ _ _ spLow:=gM T;refine T.F_ab.ok uL (λr H Q E h=>?_) (λcdv A outer s H r Q E hr h=>?_)
 .obtain⟨x,y,f,g,rfl,_⟩:=h;rfl
 .obtain⟨x,y,f,g,rfl,⟨p,rfl,d⟩,⟨n,rfl,i⟩,C,v,q⟩:=h
  obtain⟨I,G,u,O⟩:=p7 C;obtain⟨L,N,F,M⟩:=p7 v;have o:Bt 65 f.1:=by unfold Bt;lia
  have c:Bt 65 f.2:=by unfold Bt;lia
  have l:Bt 65 g.1:=by unfold Bt;lia
  have j:Bt 65 g.2:=by unfold Bt;lia
  refine⟨_,(aj (ax (ap b hr rfl T.m_I T.F_I.kp T.B_I .nil aq (aa (aw cU (ci bj (vr 0) am (λ_ _=>rfl)) (ci bj (vr 1) am (λ_ _=>rfl))) (aa (aw cU (ci bj (vr 0) am (λ_ _=>rfl)) (ci bj (vr 1) am (λ_ _=>rfl))) ae))))),?_⟩;refine .inr (.inl ⟨p,_,_,_,rfl,rfl,d.sq,aJ 0 rfl rfl,.inr (.inl ⟨n,_,_,_,rfl,rfl,i.sq,aJ 0 rfl rfl,cmB o l,?_⟩)⟩);refine .inr (.inl ⟨p,_,_,_,rfl,rfl,d.sq,aJ 1 rfl rfl,.inr (.inl ⟨n,_,_,_,rfl,rfl,i.sq,aJ 1 rfl rfl,cmB c j,?_⟩)⟩);exact⟨_,_,rfl,Int.mul_pos u F,(o.mul l).mono (by decide),(c.mul j).mono (by decide),λJ z D B=>q _ _ D ⟨z,rfl,.inl B⟩⟩
end
end My
namespace Tb
open FrM Du LexM
def prC(m c1 c2:Nat)(A B:List Rw):Bool:=A.all λa=>fbO a.2 && B.all λb=>fbO b.2 && fbO (ftm a.2 b.2) && (prR m c1 c2 a.1 b.1).all λr=>fbO r.2 && fbO (ftm (ftm a.2 b.2) r.2)
def mgC:Mg->List Rw->Bool
 | _,[]=>true
 | g,r::l=>(bO (isr r.1) r.1 r.2 g).all (λx=>fbO x.2.2) && mgC (bO (isr r.1) r.1 r.2 g) l
def jnC(m:Nat)(a b c:List Nat)(lft:Bool):Bool :=
 if lft then prC m a.length b.length (aE m a) (aE m b) && mgC [] (prA m a.length b.length (aE m a) (aE m b)) && prC m (a.length+b.length) c.length (prM m a.length b.length (aE m a) (aE m b)) (aE m c) && mgC [] (prA m (a.length+b.length) c.length (prM m a.length b.length (aE m a) (aE m b)) (aE m c))
 else prC m b.length c.length (aE m b) (aE m c) && mgC [] (prA m b.length c.length (aE m b) (aE m c)) && prC m a.length (b.length+c.length) (aE m a) (prM m b.length c.length (aE m b) (aE m c)) && mgC [] (prA m a.length (b.length+c.length) (aE m a) (prM m b.length c.length (aE m b) (aE m c)))
def jn3(m:Nat)(a b c:List Nat)(lft:Bool):List Rw:=if lft then prM m (a.length+b.length) c.length (prM m a.length b.length (aE m a) (aE m b)) (aE m c) else prM m a.length (b.length+c.length) (aE m a) (prM m b.length c.length (aE m b) (aE m c))
def odr(way:Nat):List Nat:=([[0,1,2],[1,0,2],[2,0,1],[0,2,1],[1,2,0],[2,1,0]]:List (List Nat)).getD (way % 6) []
def cS(f s t i:Nat):List Nat:=if i=0 then bN 0 f else if i=1 then bN f s else bN (f+s) t
def tst(m f s t way:Nat):Bool :=
 let a:=cS f s t ((odr way).getD 0 0);let b:=cS f s t ((odr way).getD 1 0);let c:=cS f s t ((odr way).getD 2 0)
 jnC m a b c (decide (way/6 % 2=0)) && alk m (f+s+t) (jn3 m a b c (decide (way/6 % 2=0))) && mgC [] (jn3 m a b c (decide (way/6 % 2=0)))
def eO(m f s t:Nat):Bool:=(List.range 12).all λway=>tst m f s t way
set_option maxHeartbeats 0 in
theorem wQ:∀ f,f<4->∀ s,s<4->∀ t,t<4->f+s+t<=7->eO 1 f s t=true:=by decide +kernel
set_option maxHeartbeats 0 in
theorem rX:∀ t,t<4->0+0+t<=7->eO 2 0 0 t=true:=by decide +kernel
set_option maxHeartbeats 0 in
theorem sQ:∀ t,t<4->0+1+t<=7->eO 2 0 1 t=true:=by decide +kernel
set_option maxHeartbeats 0 in
theorem tD:∀ t,t<4->0+2+t<=7->eO 2 0 2 t=true:=by decide +kernel
set_option maxHeartbeats 0 in
theorem rV:∀ t,t<4->0+3+t<=7->eO 2 0 3 t=true:=by decide +kernel
set_option maxHeartbeats 0 in
theorem tE:∀ t,t<4->1+0+t<=7->eO 2 1 0 t=true:=by decide +kernel
set_option maxHeartbeats 0 in
theorem sG:∀ t,t<4->1+1+t<=7->eO 2 1 1 t=true:=by decide +kernel
set_option maxHeartbeats 0 in
theorem sw:∀ t,t<4->1+2+t<=7->eO 2 1 2 t=true:=by decide +kernel
set_option maxHeartbeats 0 in
theorem sO:∀ t,t<4->1+3+t<=7->eO 2 1 3 t=true:=by decide +kernel
set_option maxHeartbeats 0 in
theorem rZ:∀ t,t<4->2+0+t<=7->eO 2 2 0 t=true:=by decide +kernel
set_option maxHeartbeats 0 in
theorem tU:∀ t,t<4->2+1+t<=7->eO 2 2 1 t=true:=by decide +kernel
set_option maxHeartbeats 0 in
theorem sR:∀ t,t<4->2+2+t<=7->eO 2 2 2 t=true:=by decide +kernel
set_option maxHeartbeats 0 in
theorem sj:∀ t,t<4->2+3+t<=7->eO 2 2 3 t=true:=by decide +kernel
set_option maxHeartbeats 0 in
theorem rQ:∀ t,t<4->3+0+t<=7->eO 2 3 0 t=true:=by decide +kernel
set_option maxHeartbeats 0 in
theorem sB:∀ t,t<4->3+1+t<=7->eO 2 3 1 t=true:=by decide +kernel
set_option maxHeartbeats 0 in
theorem tI:∀ t,t<4->3+2+t<=7->eO 2 3 2 t=true:=by decide +kernel
set_option maxHeartbeats 0 in
theorem tj:∀ t,t<4->3+3+t<=7->eO 2 3 3 t=true:=by decide +kernel
theorem xY(f:Nat)(b:f<4)(s:Nat)(c:s<4)(t:Nat)(a:t<4)(h:f+s+t<=7):eO 2 f s t=true:=by
 have e1:f=0\/f=1\/f=2\/f=3:=by omega
 have e2:s=0\/s=1\/s=2\/s=3:=by omega
 rcases e1 with e1 | e1 | e1 | e1 <;> rcases e2 with e2 | e2 | e2 | e2 <;> rw[e1,e2]at h ⊢
 .exact rX t a h
 .exact sQ t a h
 .exact tD t a h
 .exact rV t a h
 .exact tE t a h
 .exact sG t a h
 .exact sw t a h
 .exact sO t a h
 .exact rZ t a h
 .exact tU t a h
 .exact sR t a h
 .exact sj t a h
 .exact rQ t a h
 .exact sB t a h
 .exact tI t a h
 .exact tj t a h
theorem tst_all(m:Nat)(i:m=1\/m=2)(f:Nat)(b:f<4)(s:Nat)(d:s<4)(t:Nat)(c:t<4)(h:f+s+t<=7)(a:Nat)(g:a<12):tst m f s t a=true:=by
 have e:eO m f s t=true:=by
  rcases i with e | e
  .rw[e];exact wQ f b s d t c h
  .rw[e];exact xY f b s d t c h
 exact all_eq_true.1 e a (mem_range.2 g)
theorem mem_comb:∀{n lo w:Nat}{S:List Int},S∈dW lo n w↔S.Pairwise (· < ·)/\(∀ x∈S,(lo:Int)<=x/\x<(lo:Int)+(n:Int))/\S.length=w
 | n,lo,0,S=>by
  cases n <;>
  .rw[dW,mem_singleton]
   constructor
   .rintro rfl;exact⟨.nil,(λx hx=>by cases hx),rfl⟩
   .intro h;exact List.length_eq_zero_iff.mp h.2.2
 | 0,lo,w+1,S=>by
  rw[dW]
  constructor
  .intro h;cases h
  .rintro⟨_,h,e⟩
   cases S with
   | nil=>cases e
   | cons x S=>have:=h x mem_cons_self;lia
 | n+1,lo,w+1,S=>by
  rw[dW,mem_append,mem_map,mem_comb (n:=n) (lo:=lo+1) (w:=w+1)]
  constructor
  .rintro(⟨l,h,rfl⟩ | h)
   .obtain⟨g,d,f⟩:=mem_comb.mp h
    refine⟨pairwise_cons.mpr ⟨λx hx=>?_,g⟩,λx hx=>?_,by rw[length_cons,f]⟩
    .have:=d x hx;push_cast at this;lia
    .rcases mem_cons.mp hx with rfl | hx
     .push_cast;lia
     .have:=d x hx;push_cast at this ⊢;lia
   .exact⟨h.1,λx hx=>by have:=h.2.1 x hx;push_cast at this ⊢;lia,h.2.2⟩
  .rintro⟨g,d,f⟩
   cases S with
   | nil=>cases f
   | cons x S =>
    obtain⟨i,j⟩:=pairwise_cons.mp g
    by_cases e:x=(lo:Int)
    .subst e
     refine .inl ⟨S,mem_comb.mpr ⟨j,λy hy=>?_,by rw[length_cons]at f;lia⟩,rfl⟩;have:=d y (mem_cons_of_mem _ hy);have:=i y hy
     push_cast at *
     lia
    .refine .inr ⟨g,λy hy=>?_,f⟩
     have a:=d x mem_cons_self;have b:=d y hy
     have c:x<=y:=by
      rcases mem_cons.mp hy with rfl | hy
      .exact Int.le_refl _
      .have:=i y hy;lia
     push_cast at *
     lia
theorem mem_combS{n w:Nat}{S:List Int}:S∈dW 0 n w↔Sb S w n:=by
 rw[mem_comb]
 constructor
 .rintro⟨a,b,c⟩;exact⟨a,λx hx=>by have:=b x hx;push_cast at this;lia,c⟩
 .intro h;exact⟨h.up,λx hx=>by have:=h.lt x hx;push_cast;lia,h.len⟩
theorem qE:∀ n,n<=4->∀ w,w<=2->(dW 0 n w).Pairwise λa b=>aI a b=true:=by decide +kernel
theorem tS_row{N m:Nat}{R:Rws}(d:N<=3)(c:m<=2)(b:IsTab (toR (kW (wl (tS (min N m) (N - min N m)) 1 1))) R):R=(dW 0 N (min N m)).map λS=>(S,1/((ch N (min N m):Nat):Rat)):=by
 have e:min N m+(N - min N m)=N:=by lia
 have:=Az (m:=min N m) (s:=N - min N m) (R':=(dW 0 N (min N m)).map λS=>(S,1/((ch N (min N m):Nat):Rat))) (by lia) b ?_ ?_ ?_
 .exact this.symm
 .rw[map_map,show((λx:List Int×Rat=>x.1) ∘ λS:List Int=>(S,1/((ch N (min N m):Nat):Rat)))=id from rfl,map_id]
  exact qE N (by lia) _ (by lia)
 .intro k
  rw[map_map,show((λx:List Int×Rat=>x.1) ∘ λS:List Int=>(S,1/((ch N (min N m):Nat):Rat)))=id from rfl,map_id,mem_combS,e]
 .intro x a
  obtain⟨S,_,rfl⟩:=mem_map.mp a;rw[e]
theorem pS_row{m c1 c2:Nat}{R:Rws}(h:Pq (min m (c1+c2)) c1 (min m c1) c2 (min m c2))(c:m<=2)(b:IsTab (toR (kW (wl (pS (min m (c1+c2)) c1 (min m c1) c2 (min m c2)) 1 1))) R):R=(dW 0 (min m c1+min m c2) (min m (c1+c2))).map λS=>(S,shr (min m (c1+c2)) c1 (min m c1) c2 (min m c2) S):=by
 have:=AE h (R':=(dW 0 (min m c1+min m c2) (min m (c1+c2))).map λS=>(S,shr (min m (c1+c2)) c1 (min m c1) c2 (min m c2) S)) b ?_ ?_ ?_
 .exact this.symm
 .rw[map_map,show((λx:List Int×Rat=>x.1) ∘ λS:List Int=>(S,shr (min m (c1+c2)) c1 (min m c1) c2 (min m c2) S))=id from rfl,map_id]
  exact qE _ (by lia) _ (by lia)
 .intro k
  rw[map_map,show((λx:List Int×Rat=>x.1) ∘ λS:List Int=>(S,shr (min m (c1+c2)) c1 (min m c1) c2 (min m c2) S))=id from rfl,map_id,mem_combS]
 .intro x a
  obtain⟨S,_,rfl⟩:=mem_map.mp a;rfl
theorem fr_one{n k:Nat}(h:k<=n):fr (1/((ch n k:Nat):Rat))=lowP 1 (ch n k:Nat):=by
 have p:=hJ k (n - k);rw[show k+(n - k)=n by lia]at p;rw[lF 1 (b:=((ch n k:Nat):Int)) (by lia)];rfl
theorem fr_shr{w c1 a c2 c:Nat}(h:Pq w c1 a c2 c){S:List Int}(d:Sb S w (a+c)):fr (shr w c1 a c2 c S)=shF w c1 a c2 c S:=by
 unfold shr shF wB;have f:=gy d.nd h.pv.nd (kY d);rw[d.len]at f;have f:w=0+(cn S (rng a)+cn S (rnf a c)):=f;have g:=iJ S (rng a);have j:=iJ S (rnf a c);rw[rng_len]at g;rw[rnf_len]at j;have l:=wC (s:=a) d;have i:=h.all
 have p:∀ n k:Nat,k<=n->0<ch n k:=λn k o=>by
  have:=hJ k (n - k);rwa [show k+(n - k)=n by lia]at this
 rw[l]at g f;have q:0<ch a (S.filter λx=>decide (x<(a:Int))).length*ch c (w - (S.filter λx=>decide (x<(a:Int))).length)*ch (c1+c2) w:=Nat.mul_pos (Nat.mul_pos (p _ _ g) (p _ _ (by lia))) (p _ _ (by lia));rw[lF _ (b:=((ch a (S.filter λx=>decide (x<(a:Int))).length*ch c (w - (S.filter λx=>decide (x<(a:Int))).length)*ch (c1+c2) w:Nat):Int)) (by lia)];rfl
theorem jD(x:Nat):∀ l:List Nat,(ins x l).Perm (x::l)
 | []=>.refl _
 | y::l=>by
  unfold ins
  split
  .exact .refl _
  .exact((jD x l).cons y).trans (.swap x y l)
theorem my:∀ l:List Nat,(isr l).Perm l
 | []=>.refl _
 | x::l=>(jD x _).trans ((my l).cons x)
theorem rB(x:Nat):∀{l:List Nat},l.Pairwise (·<=·)->(ins x l).Pairwise (·<=·)
 | [],_=>List.pairwise_singleton _ _
 | y::l,h=>by
  obtain⟨b,d⟩:=pairwise_cons.mp h;unfold ins
  split
  .rename_i c
   exact pairwise_cons.mpr ⟨λz a=>(mem_cons.mp a).elim (λe=>by rw[e];exact c) λa=>Nat.le_trans c (b z a),h⟩
  .rename_i c
   exact pairwise_cons.mpr ⟨λz a=>(mem_cons.mp ((jD x l).mem_iff.mp a)).elim (λe=>by rw[e];lia) (b z),rB x d⟩
theorem rq:∀ l:List Nat,(isr l).Pairwise (·<=·)
 | []=>.nil
 | x::l=>rB x (rq l)
theorem isr_uniq{l c:List Nat}(f:c.Perm l)(d:c.Pairwise (·<=·)):c=isr l :=
 (f.trans (my l).symm).eq_of_pairwise (λa b _ _ x y=>Nat.le_antisymm x y) d (rq l)
theorem mgPut_eq{k t:List Nat}{f:Fn}:∀{g:Mg},(g.map (·.1)).Nodup->bO k t f g=if k∈g.map (·.1) then g.map (λx=>if x.1=k then (k,t,fpl x.2.2 f) else x) else g++[(k,t,fpl (0,1) f)]
 | [],_=>rfl
 | x::g,h=>by
  have a:=h;rw[map_cons,nodup_cons]at a;unfold bO
  by_cases c:x.1=k
  .rw[if_pos c,if_pos (by rw[map_cons,c];exact mem_cons_self),map_cons,if_pos c]
   congr 1
   refine(map_id g).symm.trans (map_congr_left λy b=>?_);rw[if_neg λe=>a.1 (by rw[c,<- e];exact mem_map.mpr ⟨y,b,rfl⟩)];rfl
  .rw[if_neg c,mgPut_eq a.2]
   by_cases d:k∈g.map (·.1)
   .rw[if_pos d,if_pos (by rw[map_cons];exact mem_cons_of_mem _ d),map_cons,if_neg c]
   .rw[if_neg d,if_neg (by rw[map_cons];intro z;exact(mem_cons.mp z).elim (λe=>c e.symm) d)]
    rfl
theorem jq{k t:List Nat}{f:Fn}:∀(g:Mg),(bO k t f g).map (·.1)=if k∈g.map (·.1) then g.map (·.1) else g.map (·.1)++[k]
 | []=>rfl
 | x::g=>by
  unfold bO
  by_cases c:x.1=k
  .rw[if_pos c,if_pos (by rw[map_cons,c];exact mem_cons_self),map_cons,map_cons,c]
  .rw[if_neg c,map_cons,jq g]
   by_cases d:k∈g.map (·.1)
   .rw[if_pos d,if_pos (by rw[map_cons];exact mem_cons_of_mem _ d),map_cons]
   .rw[if_neg d,if_neg (by rw[map_cons];intro z;exact(mem_cons.mp z).elim (λe=>c e.symm) d)]
    rfl
theorem uu{k t:List Nat}{f:Fn}{g:Mg}(h:(g.map (·.1)).Nodup):((bO k t f g).map (·.1)).Nodup:=by
 rw[jq]
 split
 .exact h
 .rename_i c
  rw[nodup_append];exact⟨h,nodup_cons.mpr ⟨(λz=>by cases z),.nil⟩,λx hx y hy e=>c (by rw[<- mem_singleton.mp hy,<- e];exact hx)⟩
def mgF(g:Mg)(l:List Rw):Mg:=l.foldl (λg r=>bO (isr r.1) r.1 r.2 g) g
theorem gQ(g:Mg)(r:Rw)(l:List Rw):mgF g (r::l)=mgF (bO (isr r.1) r.1 r.2 g) l:=rfl
theorem mgF_snoc(g:Mg)(l:List Rw)(r:Rw):mgF g (l++[r])=bO (isr r.1) r.1 r.2 (mgF g l):=by unfold mgF;rw[List.foldl_append];rfl
theorem mgF_nd:∀(l:List Rw){g:Mg},(g.map (·.1)).Nodup->((mgF g l).map (·.1)).Nodup
 | [],g,h=>h
 | r::l,g,h=>by rw[gQ];exact mgF_nd l (uu h)
theorem kn(k t:List Nat)(f:Fn):∀ g:Mg,(bO k t f g).length<=g.length+1
 | []=>Nat.le_refl _
 | x::g=>by
  unfold bO
  split
  .exact Nat.le_succ _
  .exact Nat.succ_le_succ (kn k t f g)
theorem mgF_len:∀(l:List Rw) (g:Mg),(mgF g l).length<=g.length+l.length
 | [],g=>Nat.le_refl _
 | r::l,g=>by rw[gQ];have:=mgF_len l (bO (isr r.1) r.1 r.2 g);have:=kn (isr r.1) r.1 r.2 g;rw[length_cons];lia
theorem ni{k t:List Nat}{f:Fn}{Pr:List Nat->List Nat->Prop}(h:Pr k t):∀{g:Mg},(∀ x∈g,Pr x.1 x.2.1)->∀ x∈bO k t f g,Pr x.1 x.2.1
 | [],_,x,hx=>by rw[mem_singleton.mp hx];exact h
 | y::g,hg,x,hx=>by
  unfold bO at hx
  split at hx
  .rcases mem_cons.mp hx with rfl | hx
   .exact h
   .exact hg x (mem_cons_of_mem _ hx)
  .rcases mem_cons.mp hx with rfl | hx
   .exact hg _ mem_cons_self
   .exact ni h (λz a=>hg z (mem_cons_of_mem _ a)) x hx
theorem vS{Pr:List Nat->List Nat->Prop}:∀{l:List Rw}{g:Mg},(∀ r∈l,Pr (isr r.1) r.1)->(∀ x∈g,Pr x.1 x.2.1)->∀ x∈mgF g l,Pr x.1 x.2.1
 | [],g,_,hg=>hg
 | r::l,g,h,hg=>by rw[gQ];exact vS (λz a=>h z (mem_cons_of_mem _ a)) (ni (h r mem_cons_self) hg)
theorem mgC_take{l:List Rw}:∀{g:Mg},mgC g l=true->∀ i,i<l.length->(mgF g (l.take (i+1))).all (λx=>fbO x.2.2)=true:=by
 induction l with
 | nil=>intro g _ i a;cases a
 | cons r l ih =>
  intro g h i a;unfold mgC at h;rw[Bool.and_eq_true]at h;cases i with
  | zero=>exact h.1
  | succ i=>rw[List.take_succ_cons,gQ];exact ih h.2 i (Nat.lt_of_succ_lt_succ a)
def er(m c:Nat)(R:List Rw):Prop:=∀ r∈R,r.1.length=min m c/\∀ k∈r.1,k<7
theorem pick_len(l:List Nat)(S:List Int):(bH l S).length=S.length:=by unfold bH;rw[length_map]
theorem re{l:List Nat}{S:List Int}(h:∀ k∈l,k<7):∀ k∈bH l S,k<7:=λk a=>by
 obtain⟨x,_,rfl⟩:=mem_map.mp a;rw[List.getD_eq_getElem?_getD];cases e:l[x.toNat]? with
 | none=>decide
 | some y=>exact h y (List.mem_of_getElem? e)
theorem strR_ok{m:Nat}{l:List Nat}(h:∀ k∈l,k<7):er m l.length (aE m l):=λr a=>by
 obtain⟨S,b,rfl⟩:=mem_map.mp a;have:=(mem_combS.mp b).len;exact⟨by rw[pick_len,this,Nat.min_comm],re h⟩
theorem zd{m c1 c2:Nat}{a b:List Nat}(g:∀ k∈a,k<7)(h:∀ k∈b,k<7):er m (c1+c2) (prR m c1 c2 a b):=λr c=>by
 obtain⟨S,d,rfl⟩:=mem_map.mp c;have:=(mem_combS.mp d).len;exact⟨by rw[pick_len,this],re λk f=>(mem_append.mp f).elim (g k) (h k)⟩
theorem prA_ok{m c1 c2:Nat}{A B:List Rw}(h:er m c1 A)(i:er m c2 B):er m (c1+c2) (prA m c1 c2 A B):=λr c=>by
 obtain⟨a,g,c⟩:=mem_flatMap.mp c;obtain⟨b,d,c⟩:=mem_flatMap.mp c;obtain⟨x,f,rfl⟩:=mem_map.mp c;exact zd (h a g).2 (i b d).2 x f
theorem zx{m c:Nat}{R:List Rw}(h:er m c R):er m c (mgR R):=λr b=>by
 obtain⟨x,a,rfl⟩:=mem_map.mp b;exact vS (Pr:=λ_ t=>t.length=min m c/\∀ k∈t,k<7) (l:=R) (g:=[]) (λr b=>h r b) (λx a=>by cases a) x a
theorem prM_ok{m c1 c2:Nat}{A B:List Rw}(b:er m c1 A)(a:er m c2 B):er m (c1+c2) (prM m c1 c2 A B):=zx (prA_ok b a)
theorem flt_all{S:List Int}{k:Int}(h:∀ x∈S,k<=x):S.filter (λx=>decide (x<k))=[]:=List.filter_eq_nil_iff.mpr λx a e=>by have:=h x a;have:=of_decide_eq_true e;lia
theorem flt_succ(k:Int):∀{S:List Int},S.Pairwise (· < ·)->S.filter (λx=>decide (x<k+1))=S.filter (λx=>decide (x<k))++if k∈S then [k] else []
 | [],_=>rfl
 | x::S,h=>by
  obtain⟨d,f⟩:=pairwise_cons.mp h
  rcases Int.lt_trichotomy x k with c | c | c
  .rw[filter_cons,if_pos (decide_eq_true (by lia)),filter_cons,if_pos (decide_eq_true c),flt_succ k f]
   have e:(k∈x::S)↔k∈S:=⟨λz=>(mem_cons.mp z).elim (λe=>absurd e (by lia)) id,mem_cons_of_mem _⟩
   by_cases z:k∈S
   .rw[if_pos z,if_pos (e.mpr z)];rfl
   .rw[if_neg z,if_neg λw=>z (e.mp w)];rfl
  .subst c
   rw[filter_cons,if_pos (decide_eq_true (by lia)),filter_cons,if_neg (λz=>by have:=of_decide_eq_true z;lia),if_pos mem_cons_self,flt_all λy b=>by have:=d y b;lia,flt_all λy b=>by have:=d y b;lia];rfl
  .have a:∀ y∈x::S,k+1<=y:=λy b=>(mem_cons.mp b).elim (λe=>by lia) λb=>by have:=d y b;lia
   rw[flt_all a,flt_all λy b=>by have:=a y b;lia,if_neg λz=>by have:=a k z;lia];rfl
theorem flt_end{S:List Int}{w N:Nat}(h:Sb S w N):S.filter (λx=>decide (x<(N:Int)))=S:=List.filter_eq_self.mpr λx a=>decide_eq_true (h.lt x a).2
theorem pick_app(l:List Nat)(S a:List Int):bH l (S++a)=bH l S++bH l a:=by unfold bH;rw[map_append]
theorem flt_lt{S:List Int}{k:Int}(h:k∈S):(S.filter (λx=>decide (x<k))).length<S.length:=by
 induction S with
 | nil=>cases h
 | cons x S ih =>
  rw[filter_cons]
  rcases mem_cons.mp h with e | e
  .rw[if_neg (λz=>by have:=of_decide_eq_true z;lia)]
   exact Nat.lt_succ_of_le (length_filter_le _ _)
  .have:=ih e
   split
   .rw[length_cons,length_cons];lia
   .rw[length_cons];lia
structure TsAll(N m:Nat):Prop where
 dk:Dk (N - min N m) (tS (min N m) (N - min N m))
 ok:Ok (tS (min N m) (N - min N m))
 few:∀ L:List (List Int),L.Nodup->(∀ k∈L,k∈(toR (kW (wl (tS (min N m) (N - min N m)) 1 1))).map (·.1))->L.length<64
 pos:0<Pn (min N m) (N - min N m)
 lm:Pn (min N m) (N - min N m)<=Lm2
 ch:∀ w∈wl (tS (min N m) (N - min N m)) 1 1,Ch ((Pn (min N m) (N - min N m):Nat):Int) w.2
 lv:lv (tS (min N m) (N - min N m))<=4096
theorem tS_all{N m:Nat}(i:N<=3)(g:m<=2):TsAll N m:=by
 have c:Ok (tS (min N m) (N - min N m)):=lK _ (rng_hd _) (by rw[rng_len];lia);refine⟨pI _ (rng_hd _) (by rw[rng_len];lia) (by lia),c,λL f d=>?_,pd _ _,Cj (by lia),zY (by rw[rng_len];exact Nat.le_refl _),?_⟩
 .refine uR (N:=N) (w:=min N m) (by lia) (by lia) f λk h=>?_
  have:=m9 (rng_hd (min N m)) (((kS c).map _).mem_iff.mp (d k h));rwa [rng_len,show min N m+(N - min N m)=N by lia]at this
 .unfold tS
  rw[oE,rng_len];have a:min N m+1<=3:=by lia
  have b:N - min N m<=3:=by lia
  exact Nat.le_trans (Nat.le_trans (Nat.pow_le_pow_left a _) (Nat.pow_le_pow_right (by decide) b)) (by decide)
theorem comb_len:∀ n,n<=4->∀ w,w<=2->(dW 0 n w).length<=6:=by decide +kernel
def rwF(m c1 c2:Nat)(a b:Rw):List Rw:=(prR m c1 c2 a.1 b.1).map λr=>(r.1,ftm (ftm a.2 b.2) r.2)
theorem Ag(m c1 c2:Nat)(A B:List Rw):prA m c1 c2 A B=A.flatMap λa=>B.flatMap (rwF m c1 c2 a):=rfl
theorem flat_len{b c:Type}{f:b->List c}{n:Nat}(h:∀ a,(f a).length<=n):∀ l:List b,(l.flatMap f).length<=l.length*n
 | []=>Nat.zero_le _
 | x::l=>by rw[List.flatMap_cons,length_append,length_cons,Nat.add_mul];have:=flat_len h l;have:=h x;lia
theorem rwF_len{m c1 c2:Nat}(c:m<=2)(a b:Rw):(rwF m c1 c2 a b).length<=6:=by unfold rwF prR;rw[length_map,length_map];exact comb_len _ (by lia) _ (by lia)
theorem prA_len{m c1 c2:Nat}(b:m<=2){A B:List Rw}(c:A.length<=54)(d:B.length<=54):(prA m c1 c2 A B).length<=A.length*(B.length*6):=by
 rw[Ag];exact flat_len (λa=>flat_len (rwF_len b a) B) A
theorem flat_take{a b:Type}(f:a->List b){l:List a}{i:Nat}{x:a}(h:l[i]? = some x):(l.take (i+1)).flatMap f=(l.take i).flatMap f++f x:=by
 rw[take_add_one,h,List.flatMap_append];simp
theorem prM_len{m c1 c2:Nat}{A B:List Rw}:(prM m c1 c2 A B).length<=(prA m c1 c2 A B).length:=by
 unfold prM mgR;rw[length_map];have:=mgF_len (prA m c1 c2 A B) [];rw[length_nil,Nat.zero_add]at this;exact this
structure PrC(m c1 c2:Nat)(a b:Rw):Prop where
 fa:fbO a.2=true
 fb:fbO b.2=true
 ft:fbO (ftm a.2 b.2)=true
 fr:∀ r∈prR m c1 c2 a.1 b.1,fbO r.2=true/\fbO (ftm (ftm a.2 b.2) r.2)=true
theorem prC_at{m c1 c2:Nat}{A B:List Rw}(h:prC m c1 c2 A B=true){a b:Rw}(i:a∈A)(f:b∈B):PrC m c1 c2 a b:=by
 have d:=all_eq_true.mp h a i;rw[Bool.and_eq_true]at d;have c:=all_eq_true.mp d.2 b f;rw[Bool.and_eq_true,Bool.and_eq_true]at c;refine⟨d.1,c.1.1,c.1.2,λr g=>?_⟩;have:=all_eq_true.mp c.2 r g;rwa [Bool.and_eq_true]at this
theorem prC_fb{m c1 c2:Nat}{A B:List Rw}(h:prC m c1 c2 A B=true):∀ r∈prA m c1 c2 A B,fbO r.2=true:=λr c=>by
 obtain⟨a,f,c⟩:=mem_flatMap.mp c;obtain⟨b,d,c⟩:=mem_flatMap.mp c;obtain⟨x,g,rfl⟩:=mem_map.mp c;exact((prC_at h f d).fr x g).2
theorem tB:∀ n,n<=3->∀ w,w<=2->(dW 0 n w).length<=3:=by decide +kernel
theorem strR_len{m:Nat}{l:List Nat}(a:l.length<=3)(b:m<=2):(aE m l).length<=3:=by unfold aE;rw[length_map];exact tB _ a _ (by lia)
theorem nmsF_len(lo n:Nat):(bN lo n).length=n:=by unfold bN;rw[length_map,length_range]
theorem nmsF_lt{lo n:Nat}(h:lo+n<=7):∀ k∈bN lo n,k<7:=λk b=>by
 obtain⟨j,a,rfl⟩:=mem_map.mp b;have:=mem_range.mp a;lia
theorem grp_len{f s t:Nat}(b:f<=3)(c:s<=3)(a:t<=3)(i:Nat):(cS f s t i).length<=3:=by
 unfold cS
 split
 .rw[nmsF_len];exact b
 .split
  .rw[nmsF_len];exact c
  .rw[nmsF_len];exact a
theorem grp_lt{f s t:Nat}(h:f+s+t<=7)(i:Nat):∀ k∈cS f s t i,k<7:=by
 unfold cS
 split
 .exact nmsF_lt (by lia)
 .split
  .exact nmsF_lt (by lia)
  .exact nmsF_lt (by lia)
structure OdR(way:Nat)(o0 o1 o2:Nat):Prop where
 eq:odr way=[o0,o1,o2]
 l0:o0<=2
 l1:o1<=2
 l2:o2<=2
 sum:∀ f s t,(cS f s t o0).length+(cS f s t o1).length+(cS f s t o2).length=f+s+t
theorem odr_ok(a:Nat):∃ o0 o1 o2,OdR a o0 o1 o2:=by
 have h:a % 6<6:=Nat.mod_lt _ (by decide);have e:∀ j,a % 6=j->odr a=([[0,1,2],[1,0,2],[2,0,1],[0,2,1],[1,2,0],[2,1,0]]:List (List Nat)).getD j []:=λj z=>by unfold odr;rw[z]
 have c:∀ f s t,(cS f s t 0).length=f:=λf s t=>by unfold cS;rw[if_pos rfl,nmsF_len]
 have d:∀ f s t,(cS f s t 1).length=s:=λf s t=>by unfold cS;rw[if_neg (by decide),if_pos rfl,nmsF_len]
 have b:∀ f s t,(cS f s t 2).length=t:=λf s t=>by unfold cS;rw[if_neg (by decide),if_neg (by decide),nmsF_len]
 rcases(show a % 6=0\/a % 6=1\/a % 6=2\/a % 6=3\/a % 6=4\/a % 6=5 by lia) with z | z | z | z | z | z
 .exact⟨0,1,2,e _ z,by decide,by decide,by decide,λf s t=>by rw[c,d,b]⟩
 .exact⟨1,0,2,e _ z,by decide,by decide,by decide,λf s t=>by rw[c,d,b];lia⟩
 .exact⟨2,0,1,e _ z,by decide,by decide,by decide,λf s t=>by rw[c,d,b];lia⟩
 .exact⟨0,2,1,e _ z,by decide,by decide,by decide,λf s t=>by rw[c,d,b];lia⟩
 .exact⟨1,2,0,e _ z,by decide,by decide,by decide,λf s t=>by rw[c,d,b];lia⟩
 .exact⟨2,1,0,e _ z,by decide,by decide,by decide,λf s t=>by rw[c,d,b];lia⟩
theorem tst_at{m f s t a c d b:Nat}(o:OdR a c d b)(h:tst m f s t a=true):jnC m (cS f s t c) (cS f s t d) (cS f s t b) (decide (a/6 % 2=0))=true/\alk m (f+s+t) (jn3 m (cS f s t c) (cS f s t d) (cS f s t b) (decide (a/6 % 2=0)))=true/\mgC [] (jn3 m (cS f s t c) (cS f s t d) (cS f s t b) (decide (a/6 % 2=0)))=true:=by
 unfold tst at h;rw[o.eq]at h;simp only[Bool.and_eq_true]at h;exact⟨h.1.1,h.1.2,h.2⟩
theorem mgR_fb{R:List Rw}(h:mgC [] R=true):∀ r∈mgR R,fbO r.2=true:=λr b=>by
 obtain⟨x,a,rfl⟩:=mem_map.mp b;cases R with
 | nil=>cases a
 | cons y R =>
  have:=mgC_take h R.length (by rw[length_cons];exact Nat.lt_succ_self _);rw[take_of_length_le (by rw[length_cons];exact Nat.le_refl _)]at this;exact all_eq_true.mp this x a
end Tb
namespace L2
open PySem PySem.Spec PyProof.Rows PySem.W
theorem kJ{X:Cx}:CallR X (.builtin "len") (λxs H Q=>∃(d:Addr) (kvs:List (List Key×V)),xs=[.ref d]/\Rd H d (.dT kvs)/\Q (.int kvs.length) H):=by
 intro c s w H xs x Q I r h;obtain⟨d,kvs,rfl,i,q⟩:=h;obtain⟨u,rfl,p⟩:=dJ r;cases p
 obtain⟨z,l,xs,b,o,f,y,v,j,g,n,A⟩:=(show ObjOk X.prog X.w H s.heap d (.dT kvs) from i.ok I.hok)
 have a:f.size=kvs.length:=by rw[size_of_entries n,Paired.length b]
 have B:sizeLine=16777216:=sizeLine_eq;refine Calls.call_function_entry kind_len plain_len entry_len (args_len1 _) (xG l ⟨o,v,j,g⟩ (by lia) ?_);exact⟨.int kvs.length,H,I.tok _,⟨_,by rw[a]⟩,q⟩
section
variable {X:Cx}{o i e f value:Expr}{pos pos' apos cpos:Pos}{td ty tv tx to te:TE}{P:Program}{w:World}
theorem mw(b:X.prog=P)(a:X.w=w):PE X (.Dict [] [] pos) (yG P w):=by
 subst b a;exact yg
theorem uD(f:X.prog=P)(a:X.w=w)(d:X.A.units+16<cLine)(c:PE X o td)(b:PE X i ty)(g:wR i):PE X (.Subscript o i pos) (yN P w td ty):=by
 subst f a;exact xB d c b g
theorem mQ(g:X.prog=P)(a:X.w=w)(f:X.A.units+16<cLine)(c:PE X o td)(b:PE X i ty)(d:PE X value tv)(h:swapsWith value (some (.Subscript o i pos')) pos.line X.env=pure false):PS X (.Assign [.Subscript o i pos'] value pos) (yX P w td ty tv):=by
 subst g a;exact xJ f c b d h
theorem sF(h:X.prog=P)(a:X.w=w)(d:X.A.units+16<cLine)(b:PE X o td)(g:PE X e ty)(c:PE X f tx)(m:M2 X o "get" apos e f cpos):PE X (.Call (.Attribute o "get" apos) [e,f] [] cpos) (wg P w td ty tx):=by
 subst h a;exact vD d b g c m
theorem pe_m.itemsPK(f:X.prog=P)(c:X.w=w)(d:PE X o to)(b:attributeBase o "items" X.env (eval o X.env)=eval o X.env:=by rfl)(a:(apos.endLine == cpos.line)=true:=by rfl):PE X (.Call (.Attribute o "items" apos) [] [] cpos) (λσ H Q=>to σ H λx H1=>lM P w x [] H1 Q):=by
 subst f c;exact pe_m.itemsP d b a
theorem oX(f:X.prog=P)(c:X.w=w){h:List Expr}{b:Nat}{a:Pos}(g:PE X e te):PI X (.Tuple h b a) e (λσ H R=>te σ H λx H1=>∃ v d kvs,x=.ref v/\H1 v=some (.ext (IV v d))/\Rd H1 d (.ext (PDx P w d kvs))/\∀ o,R (Itp P w d o kvs) (upd H1 d (.frz o (.ext (PDx P w d kvs))))):=by
 subst f c;exact sv g
end
end L2
namespace My
open PySem L2 FrM LexM
open PySem.Spec (ltCps)
open PyProof.Rows (risingS sortedS)
open Tb (Tr pN cM wo Pv stm stP Hd ch rng rnf pS tS Fn fpl ftm fbO isr Rw)
def nmS(t:List Nat):List Str:=t.map λ(k:Nat)=>sg (k:Int)
def bD(t:List Nat):List Key:=t.map λ(k:Nat)=>Sum.inr (sg (k:Int))
theorem vx(t:List Nat):(bD t).map kV=(nmS t).map V.str:=by unfold bD nmS;rw[map_map,map_map];rfl
theorem wc{i j:Nat}(h:sg (i:Int)=sg (j:Int)):i=j:=by
 unfold sg at h;injection h with h
 have h:[97+(i:Int).toNat]=[97+(j:Int).toNat]:=congrArg Array.toList h;injection h with h
 lia
theorem fw:∀{t t':List Nat},bD t=bD t'->t=t'
 | [],[],_=>rfl
 | [],_::_,h=>by cases h
 | _::_,[],h=>by cases h
 | x::t,y::t',h=>by
  injection h with h1 h2
  injection h1 with h1
  rw[wc h1,fw h2]
theorem vC(t:List Nat):(bD t).length=t.length:=by unfold bD;rw[length_map]
theorem dY(t:List Nat):(nmS t).length=t.length:=by unfold nmS;rw[length_map]
theorem Bk(i j:Nat):ltCps (sg (i:Int)).cps.toList (sg (j:Int)).cps.toList=decide (i<j):=by
 show ltCps [97+(i:Int).toNat] [97+(j:Int).toNat]=_;rw[Int.toNat_natCast,Int.toNat_natCast];unfold ltCps;rw[show ltCps [] []=false from rfl,Bool.and_false,Bool.or_false];exact decide_eq_decide.mpr (by lia)
theorem rh:∀{t:List Nat}{x:Nat},risingS (sg (x:Int)) (nmS t)=true->(x::t).Pairwise (·<=·)
 | [],x,_=>List.pairwise_singleton _ _
 | y::t,x,h=>by
  have h:(!ltCps (sg (y:Int)).cps.toList (sg (x:Int)).cps.toList && risingS (sg (y:Int)) (nmS t))=true:=h;rw[Bool.and_eq_true,Bk]at h;have a:=rh h.2
  have c:x<=y:=by
   by_cases z:y<x
   .rw[decide_eq_true z]at h;exact absurd h.1 (by decide)
   .lia
  refine pairwise_cons.mpr ⟨λz b=>?_,a⟩
  rcases mem_cons.mp b with e | e
  .rw[e];exact c
  .exact Nat.le_trans c ((pairwise_cons.mp a).1 z e)
theorem zc{t:List Nat}:∀{ss:List Str},(∀ s∈ss,s∈nmS t)->∃ t',ss=nmS t'
 | [],_=>⟨[],rfl⟩
 | s::ss,h=>by
  obtain⟨t',e⟩:=zc λs hs=>h s (mem_cons_of_mem _ hs)
  obtain⟨k,_,a⟩:=mem_map.mp (h s mem_cons_self);exact⟨k::t',by rw[e,<- a];rfl⟩
def un(s:Str):Nat:=s.cps.toList.headD 97 - 97
theorem BC(k:Nat):un (sg (k:Int))=k:=by
 show(97+(k:Int).toNat) - 97=k;lia
theorem yB(t:List Nat):(nmS t).map un=t:=by
 unfold nmS;rw[map_map];exact(map_congr_left λk _=>BC k).trans (map_id t)
theorem rN{t:List Nat}{b:List Str}(c:b.Perm (nmS t))(f:sortedS b=true):b=nmS (isr t):=by
 obtain⟨d,rfl⟩:=zc (t:=t) λs h=>c.mem_iff.mp h
 have a:=c.map un;rw[yB,yB]at a;rw[Tb.isr_uniq a];cases d with
 | nil=>exact .nil
 | cons x d=>exact rh f
inductive spSigns(K:Frag)(vs:List V)(H:Hp)(Q:VK)(_E:XK):Prop
 | mk(l:Addr)(t:List Nat)(h0:vs=[.ref l])(h1:SqL K H l ((nmS t).map V.str))(h2:t.length<64)(h3:∀ H' p,Same H H'->H p=none->H' p=some (.tup ((bD (isr t)).map kV))->Q (.ref p) H'):spSigns K vs H Q _E
section
variable {P:Program}{w:World}{K:Frag}{mg:Str->Option Value}{base:Heap}{a:Ad}
theorem mX(T:Txt K mg a):FnOk P w K mg base CX0 1 a.f_T a.d_T ["_law_names"] (spSigns K):=by
 refine T.F_T.ok oC (λi H Q E h=>?_) (λcdv A outer s H i Q E hr h=>?_)
 .obtain⟨l,t,rfl,_⟩:=h;rfl
 .obtain⟨l,t,rfl,j,c,q⟩:=h
  refine⟨_,(aj (ax (cK gp rfl T.z_tuple nW (aa (az jj rfl T.z_sorted ip (aa (vr 0) ae)) ae)))),?_⟩;refine⟨l,nmS t,rfl,j,by rw[dY];exact c,λr u b n d=>?_⟩;obtain rfl:=rN b n;refine⟨r,_,rfl,.inl ⟨SqL.of ad,λp b=>?_⟩⟩;have g:=Same.new (o:=.lst ((nmS (isr t)).map V.str)) d
  have f:H p=none:=by
   cases e:H p with
   | none=>rfl
   | some o=>rw[g _ _ e]at b;cases b
  exact q _ _ (g.trans (Same.new b)) f (by rw[ad,vx])
end
open Tb (Tr pN cM wo Pv stm stP Hd ch rng rnf pS tS Fn fpl ftm fbO isr Rw aE bH dW)
theorem uG(i:Int)(a:List Int):inV (.int i) (a.map V.int)=decide (i∈a):=by
 unfold inV;rw[List.any_map]
 induction a with
 | nil=>rfl
 | cons x r ih =>
  rw[any_cons,ih];simp only[mem_cons,Function.comp]
  by_cases e:i=x
  .subst e;simp[eqV]
  .have b:¬x=i:=λz=>e z.symm
   simp[eqV,e,b]
def PotR(a:Ad)(K:Frag)(m c:Nat)(H0 H:Hp)(r:Rw)(v:V):Prop:=∃ p x h z,v=.ref p/\H p=some (.tup [.ref x,z])/\PotAt a H x h (m:Nat) (c:Nat) (nmS r.1)/\H0 h=none/\IsF K H r.2 z
theorem PotAt.t{a:Ad}{H b:Hp}{x h:Addr}{m n:Int}{c:List Str}(s:SameT H b)(p:PotAt a H x h m n c):PotAt a b x h m n c:=⟨let ⟨dx,e⟩:=p.at_;⟨dx,s.at e⟩,s.at p.held⟩
theorem PotR.t{a:Ad}{K:Frag}{m c:Nat}{d H b:Hp}(s:SameT H b){r:Rw}{v:V}(h:PotR a K m c d H r v):PotR a K m c d b r v:=by
 obtain⟨p,x,h,z,j,g,i,l,f⟩:=h;exact⟨p,x,h,z,j,s.at g,i.t s,l,f.tk (SameT.tk' s)⟩
theorem PotR.up{a:Ad}{K:Frag}{m c:Nat}{f d H:Hp}(s:∀ b,d b=none->f b=none){r:Rw}{v:V}(h:PotR a K m c d H r v):PotR a K m c f H r v:=by
 obtain⟨p,x,h,z,l,i,j,n,g⟩:=h;exact⟨p,x,h,z,l,i,j,s _ n,g⟩
theorem PotR.put{a:Ad}{K:Frag}{m c:Nat}{g H:Hp}{D:Addr}{A:List V}{o y:HO}(l:g D=some o)(d:H D=some (.lst A)){r:Rw}{v:V}(h:PotR a K m c g H r v):PotR a K m c g (upd H D y) r v:=by
 obtain⟨p,x,h,z,B,f,⟨⟨w,i⟩,C⟩,j,n⟩:=h;have s:p≠D:=λe=>by rw[e,d]at f;cases f
 have q:x≠D:=λe=>by rw[e,d]at i;cases i
 have u:h≠D:=λe=>by rw[e,l]at j;cases j
 refine⟨p,x,h,z,B,by rw[af s];exact f,⟨⟨w,by rw[af q];exact i⟩,by rw[af u];exact C⟩,j,?_⟩;refine n.tk λb E e=>?_
 rw[af λz=>by rw[z,d]at e;cases e];exact e
theorem nX{d:mH}{H h:Hp}{x:Addr}{s:List V}(g:H x=some (.lst s))(i:SB x H h)(o:TabsOk d H):TabsOk d h:=λq j=>by
 obtain⟨r,f,n,p⟩:=o q j;exact⟨r,i _ _ (λz=>by rw[z,g]at f;cases f) f,n,λl hl=>(p l hl).imp id λ⟨c,a,b⟩=>⟨c,a,i _ _ (λz=>by rw[z,g]at b;cases b) b⟩⟩
theorem xx:nmK (.s "gone")=true:=by decide +kernel
theorem dM{b a:Type}{R:b->a->Prop}:∀{xs:List b}{ys:List a}{i:Nat}{y:a},Paired R xs ys->ys[i]? = some y->∃ x,xs[i]? = some x/\R x y
 | _,_,i,y,.nil,h=>by cases h
 | _,_,0,y,.cons r t,h=>by cases h;exact⟨_,rfl,r⟩
 | _,_,i+1,y,.cons r t,h=>let ⟨x,e,q⟩:=dM (i:=i) t h;⟨x,e,q⟩
theorem Bc{a:List Nat}{k n:Nat}(h:a[k]? = some n):(nmS a)[k]? = some (sg (n:Int)):=by unfold nmS;rw[List.getElem?_map,h];rfl
theorem i7{H a d:Hp}{x:Addr}(s:SameT H a)(b:SB x a d)(f:H x=none):SameT H d:=λc o e=>by
 have n:c≠x:=λz=>by rw[z,f]at e;cases e
 obtain⟨j,i,g⟩:=s c o e;exact⟨λh=>b _ _ n (j h),i,b _ _ n g⟩
theorem AU{K:Frag}{H a:Hp}{p:Addr}{xs:List V}(e:SameT H a)(h:SqL K H p xs):SqL K a p xs:=by
 rcases h with(h | ⟨o,h⟩) | h
 .exact .inl (.inl (e.at h))
 .exact .inl (.inr ⟨o,e.at h⟩)
 .exact .inr h
inductive spStream(a:Ad)(K:Frag)(vs:List V)(H:Hp)(Q:VK)(_E:XK):Prop
 | mk(l:Addr)(m:Nat)(ls:List Nat)(h0:vs=[.int (m:Nat),.ref l])(h1:SqL K H l ((nmS ls).map V.str))(h2:1<=m)(h3:m<=2)(h4:ls.length<=3)(h5:(∀ k∈ls,k<7))(h6:TabsOk (tabs a) H)(h7:∀ H' r ys,SameT H H'->TabsOk (tabs a) H'->H r=none->H' r=some (.lst ys)->Paired (PotR a K m ls.length H H') (aE m ls) ys->Q (.ref r) H'):spStream a K vs H Q _E
section
variable {P:Program}{w:World}{K:Frag}{mg:Str->Option Value}{base:Heap}{a:Ad}
theorem sL(T:Txt K mg a)(hB:Bm mg base):FnOk P w K mg base CX0 20 a.f_G a.d_G ["_law_most","_law_names"] (spStream a K):=by
 have cs:FnOk P w K mg base CX0 19 _ _ _ _:=(kH (mG T hB)).mono (by decide);have c2:FnOk P w K mg base CX0 19 _ _ _ _:=(kH (nk T hB)).mono (by decide);have b':FnOk P w K mg base CX0 18 _ _ _ _:=(vM T).mono (by decide);have br:FnOk P w K mg base CX0 19 _ _ _ _:=(kH (xQ T)).mono (by decide);have c4:FnOk P w K mg base CX0 19 _ _ _ _:=(eI T).mono (by decide);have c5:FnOk P w K mg base CX0 19 _ _ _ _:=(m6 T).mono (by decide);refine T.F_G.ok sc_G (λvs H Q E h=>?_) (λcdv A outer s H vs Q E hr h=>?_)
 .obtain⟨l,m,d,rfl,_⟩:=h;rfl
 .obtain⟨l,m,d,rfl,hl,m1,m2,n3,n7,hT,q⟩:=h
  have ct:sizeLine=16777216:=sizeLine_eq;refine⟨_,(ai (aM (i:=2) sc_G.nd rfl (Or.inl rfl) (bW ae)) (ai (da PassesOwn.never rfl (bI (ap cs hr rfl T.m_X T.F_X.kp T.B_X .nil aq (aa (ap c2 hr rfl T.m_V T.F_V.kp T.B_V .nil aq (aa (az aL rfl T.z_len ce (aa (vr 1) ae)) (aa (vr 0) ae))) ae))) (dU rfl (au (ar (i:=3) sc_G.nd rfl (Or.inl rfl)) (au (ar (i:=4) sc_G.nd rfl (Or.inl rfl)) bR))) (ai (aM (i:=5) sc_G.nd rfl (Or.inl rfl) (eM T.mk_h b' hr rfl T.mc_h T.Bi_h .nil aq (aa (vr 0) ae))) (ai (da PassesOwn.never rfl (ee rfl T.z_range (aa (az aL rfl T.z_len ce (aa (vr 1) ae)) ae)) (ar (i:=6) sc_G.nd rfl (Or.inl rfl)) (aj (cg (PW.pt (Aj (cm sh (vr 6) (vr 3) (by with_unfolding_all rfl)) (yp (cm rS (az aL rfl T.z_len ce (aa (aD (vr 5) T.cl_h T.mt_j c4 hr T.B_j .nil aq) ae)) (vr 0) (bp _))))) (aj (cX (pV (vr 5) T.cl_h T.mt_H br hr T.Bd_Pot_come (.cons T.Rv_Pot_come .nil) aq (aa (ci bj (vr 1) (vr 6) (λ_ _=>rfl)) ae)))) aT))) (ai (da PassesOwn.never rfl (ee rfl T.z_range (aa (aw gq (az aL rfl T.z_len ce (aa (vr 1) ae)) (az aL rfl T.z_len ce (aa (vr 3) ae))) ae)) (ar (i:=6) sc_G.nd rfl (Or.inl rfl)) (aj (cX (pV (vr 5) T.cl_h T.mt_H br hr T.B_H .nil aq (aa vq (aa (aw gq (aD (vr 5) T.cl_h T.mt_o c5 hr T.B_o .nil aq) am) ae)))))) (aj (cX (pe_m.append (vr 2) (aa (bT (aa (vr 5) (aa (vr 4) ae))) ae)))))))) (aj (ax (vr 2))))),gg ?_⟩;intro c8 c7;refine⟨Nat.zero_le _,λI O=>?_⟩;have s1:=Same.new (o:=.lst []) O;have M:=ad (H:=H) (a:=I) (o:=.lst []);generalize upd H I (.lst [])=H1 at s1 M;have c1:=hT.same s1;have c3:=s1.seq hl;have nl:((nmS d).map V.str).length=d.length:=by rw[length_map,dY]
  refine⟨_,.inl c3,?_⟩;rw[nl];refine⟨_,_,_,_,rfl,.int _,.int _,c1,λa5 a4 e1 W b1 b2 b3 H2 u t2 cy hN=>?_,λz=>?_⟩
  .injection e1 with e1
   injection W with W
   obtain rfl:d.length=a5:=by lia
   obtain rfl:m=a4:=by lia
   have g:=Tb.tS_all (N:=d.length) (m:=m) n3 m2;refine⟨u,_,_,_,rfl,hN,g.dk,by lia,g.ok,g.few,g.pos,g.lm,g.ch,cy,λ_ HT l6 R a1 t6 co a6 bg a2 bt df=>?_,λz=>absurd g.lv (by lia)⟩;obtain rfl:=Tb.tS_row n3 m2 bt;have c6:H I=none:=O;refine .inl ⟨⟨_,SqL.of bg⟩,?_⟩;have D:HT I=some (.lst []):=(t2.trans t6).at M;have bl:=s1.t.trans (t2.trans t6);have c0:=Paired.length a2
   let Pw1:PvS:=λi J j=>i<=a1.length/\SB I HT j/\∃(zs:List V) (x3 x4 x5 x6:Option V),zs.length=i/\j I=some (.lst zs)/\Paired (PotR a K m d.length H1 j) ((aE m d).take i) zs/\J=[some (.int (m:Nat)),some (.ref l),some (.ref I),x3,x4,x5,x6]
   refine cY (K:=K) (a:=l6) (xs:=a1) Pw1 ⟨Nat.zero_le _,(λ_ _ _ e=>e),[],none,none,none,none,rfl,D,.nil,rfl⟩ (λi J j _ h=>SqL.of (h.2.1 _ _ (λe=>by rw[e,t2.at M]at a6;cases a6) bg)) ?_ ?_
   .rintro i y J j hy ⟨hi,Y,zs,x3,x4,x5,x6,bS,F,hP,rfl⟩
    obtain⟨dd,a',bm⟩:=dM a2 hy;rw[List.getElem?_map]at a';obtain⟨S,hS,rfl⟩:=Option.map_eq_some_iff.mp a';have B:=Tb.mem_combS.mp (List.mem_of_getElem? hS);have de:i<a1.length:=(List.getElem?_eq_some_iff.mp hy).1;obtain⟨p,kt,z,rfl,hp,a0,hz⟩:=bm;have np:p≠I:=λe=>by rw[e,D]at hp;cases hp
    have b4:kt≠I:=λe=>by rw[e,D]at a0;cases a0
    have tH:SameT H j:=i7 bl Y O;have as:=AU tH hl;have al:=Y _ _ b4 a0
    have b6:∀ b,j b=none->H1 b=none:=λb e=>by
     by_cases c:b=I
     .rw[c,F]at e;cases e
     .cases e1:H1 b with
      | none=>rfl
      | some o =>
       obtain⟨_,o',W⟩:=(t2.trans t6) b o e1;rw[Y _ _ c W]at e;cases e
    refine⟨p,_,rfl,SqT.of (Y _ _ np hp),rfl,_,_,rfl,_,_,rfl,rfl,?_⟩;intro x dx fx cW dk;have s3:=kN (C:=a.c_h) fx cW;refine⟨x,dx,m,rfl,ad,by lia,by lia,λH3 h cP fh a8=>⟨rfl,?_⟩⟩;have s4:Same j H3:=λb o e=>cP b o (λz=>by rw[z,fx]at e;cases e) (s3 b o e)
    have b5:=s3.free fh;refine⟨_,.inl (s4.seq as),?_⟩;rw[nl];refine⟨_,rfl,by lia,by lia,?_⟩
    let Pw2:PvS:=λk J H5=>k<=d.length/\SB x H3 H5/\∃(h:Addr) (x6:Option V),PotAt a H5 x h (m:Nat) ((S.filter λy=>decide (y<(k:Int))).length:Nat) (nmS (bH d (S.filter λy=>decide (y<(k:Int)))))/\j h=none/\J=[some (.int (m:Nat)),some (.ref l),some (.ref I),some (.ref kt),some z,some (.ref x),x6]
    refine io (lo:=0) (n:=((d.length:Nat):Int).toNat) Pw2 ⟨Nat.zero_le _,(λ_ _ _ e=>e),h,x6,?_,b5,rfl⟩ ?_ ?_
    .rw[Tb.flt_all (k:=((0:Nat):Int)) (S:=S) λy hy=>(B.lt y hy).1]
     exact a8
    .rintro k J H5 hk ⟨cB,L,h5,ca,G,X,rfl⟩
     have cc:k<d.length:=by lia
     have o5:∀ b o,j b=some o->H5 b=some o:=λb o e=>L b o (λz=>by rw[z,fx]at e;cases e) (s4 b o e)
     have b0:∀{q xs},SqL K j q xs->SqL K H5 q xs:=λh=>Same.seq o5 h
     refine⟨kt,_,rfl,.inr (SqT.of (o5 _ _ al)),rfl,by rw[all_eq_true];intro v hv;obtain⟨c,_,rfl⟩:=mem_map.mp hv;rfl,?_⟩;dsimp only;rw[uG];obtain⟨dy,bn⟩:=G.at_;refine ifC (λck=>?_) λck=>?_
     .rw[Int.zero_add]at ck
      have cT:=Tb.flt_lt ck;rw[B.len]at cT;refine⟨x,dy,_,rfl,bn,rfl,⟨x,h5,_,_,_,rfl,G,λZ r s6 f6 cj=>?_⟩⟩;refine⟨_,.inl (SqL.of cj),?_⟩;rw[length_map,dY,Tb.pick_len];refine ifC (λ_=>?_) λz=>absurd (show _<((m:Nat):Int) by lia) z
      obtain⟨n,hn⟩:∃ n,d[k]? = some n:=⟨_,List.getElem?_eq_getElem cc⟩
      have c9:=n7 n (List.mem_of_getElem? hn);refine⟨x,dy,_,rfl,s6 _ _ bn,rfl,?_⟩;have cx:((nmS d).map V.str)[k]? = some (.str (sg (n:Int))):=by rw[List.getElem?_map,Bc hn];rfl
      refine .inl ⟨l,_,_,_,rfl,rfl,s6.seq (b0 as),aJ k (by lia) cx,?_⟩;have nm:=A8 n (by lia);have tl:(nmS (bH d (S.filter λy=>decide (y<(k:Int))))).length=(S.filter λy=>decide (y<(k:Int))).length:=by rw[dY,Tb.pick_len]
      refine⟨x,h5,_,_,_,_,_,.s (sg n),.i 0,rfl,G.same s6,⟨by lia,by lia,by lia,by lia,by rw[tl];split <;> lia⟩,.str (sg n) (show(1:Nat)<=100 by decide) (λc hc=>by obtain rfl:c=97+((n:Nat):Int).toNat:=(mem_singleton.mp hc);lia),.int 0,(λe=>by rw[nm]at e;cases e),(λ_ e=>by lia),λ_ _ e=>?_,λ_ _ _ H7 h7 sb7 pot7 hh7=>?_⟩
      .have:inK 0 (sides (m:Nat) ((S.filter λy=>decide (y<(k:Int))).length:Nat) - 1) (.i 0)=true:=decide_eq_true ⟨Int.le_refl 0,by unfold sides;split <;> lia⟩
       rw[this]at e;cases e
      .refine⟨by lia,λb o nb e=>sb7 b o nb (s6 b o (L b o nb e)),h7,_,?_,?_,rfl⟩
       .have ek:(((k+1:Nat):Nat):Int)=(k:Int)+1:=by lia
        rw[ek,Tb.flt_succ (k:Int) B.up,if_pos ck,length_append,Tb.pick_app]
        have W:nmS (bH d (S.filter λy=>decide (y<(k:Int)))++bH d [(k:Int)])=nxt (m:Nat) (nmS (bH d (S.filter λy=>decide (y<(k:Int))))) (sg n) 0:=by
         unfold nxt j3;rw[if_pos (by rw[tl];lia)];unfold nmS bH;rw[map_append,map_cons,map_nil,map_cons,map_nil,Int.toNat_natCast,List.getD_eq_getElem?_getD,hn];rfl
        rw[W,show(((S.filter λy=>decide (y<(k:Int))).length+[(k:Int)].length:Nat):Int)=(((S.filter λy=>decide (y<(k:Int))).length:Nat):Int)+1 from rfl];exact pot7
       .rcases hh7 with e | e
        .rw[e];exact X
        .cases e1:j h7 with
         | none=>rfl
         | some o=>rw[s6 _ _ (o5 _ _ e1)]at e;cases e
     .rw[Int.zero_add]at ck
      refine⟨by lia,L,h5,_,?_,X,rfl⟩;have ek:(((k+1:Nat):Nat):Int)=(k:Int)+1:=by lia
      rw[ek,Tb.flt_succ (k:Int) B.up,if_neg ck,append_nil];exact G
    .rintro J H5 ⟨_,L,h5,ca,G,X,rfl⟩
     rw[Int.toNat_natCast,Tb.flt_end B,B.len]at G;have o5:∀ b o,j b=some o->H5 b=some o:=λb o e=>L b o (λz=>by rw[z,fx]at e;cases e) (s4 b o e)
     refine⟨_,.inl (Same.seq o5 as),⟨_,.inr (SqT.of (o5 _ _ al)),?_⟩⟩;rw[nl,length_map,B.len];refine⟨_,rfl,by lia,by lia,?_⟩
     let Pw3:PvS:=λk J Z=>k<=d.length - min d.length m/\SB x H5 Z/\∃(h:Addr) (x6:Option V),PotAt a Z x h (m:Nat) ((min d.length m+k:Nat)) (nmS (bH d S))/\j h=none/\J=[some (.int (m:Nat)),some (.ref l),some (.ref I),some (.ref kt),some z,some (.ref x),x6]
     refine io (lo:=0) (n:=(((d.length:Nat):Int) - ((min d.length m:Nat):Int)).toNat) Pw3 ⟨Nat.zero_le _,(λ_ _ _ e=>e),h5,_,G,X,rfl⟩ ?_ ?_
     .rintro k J Z hk ⟨cB,ab,h6,a7,f,a3,rfl⟩
      have wm:min d.length m=m:=by lia
      obtain⟨dy,bo⟩:=f.at_;have o6:∀ b o,j b=some o->Z b=some o:=λb o e=>ab b o (λz=>by rw[z,fx]at e;cases e) (o5 b o e)
      have tl:(nmS (bH d S)).length=m:=by rw[dY,Tb.pick_len,B.len,wm]
      refine⟨x,dy,_,rfl,bo,rfl,⟨x,dy,_,rfl,bo,rfl,⟨x,h6,_,_,_,rfl,f,?_⟩⟩⟩;have sd:sides (m:Nat) ((min d.length m+k:Nat):Int)=((min d.length m+k:Nat):Int)+1:=by unfold sides;rw[if_neg (by lia)]
      rw[sd];refine⟨x,h6,_,_,_,_,_,.s "gone",.i _,rfl,f,⟨by lia,by lia,by lia,by lia,by rw[tl];split <;> lia⟩,.str "gone" (by decide +kernel) (by decide +kernel),.int _,(λe=>by rw[xx]at e;cases e),(λ_ e=>by lia),λ_ _ e=>?_,λ_ _ _ H7 h7 sb7 pot7 hh7=>?_⟩
      .have:inK 0 (sides (m:Nat) ((min d.length m+k:Nat):Int) - 1) (.i (((min d.length m+k:Nat):Int)+1 - 1))=true:=decide_eq_true ⟨by lia,by rw[sd];lia⟩
       rw[this]at e;cases e
      .refine⟨by lia,λb o nb e=>sb7 b o nb (ab b o nb e),h7,_,?_,?_,rfl⟩
       .have W:nxt (m:Nat) (nmS (bH d S)) (txK (.s "gone")) (inI (.i (((min d.length m+k:Nat):Int)+1 - 1)))=nmS (bH d S):=by
         unfold nxt j3;rw[if_neg (by rw[tl];lia),if_neg (by show ¬(((min d.length m+k:Nat):Int)+1 - 1<_);lia)]
        rw[W]at pot7;exact pot7
       .rcases hh7 with e | e
        .rw[e];exact a3
        .cases e1:j h7 with
         | none=>rfl
         | some o=>rw[o6 _ _ e1]at e;cases e
     .rintro J Z ⟨_,ab,h6,a7,f,a3,rfl⟩
      have o6:∀ b o,j b=some o->Z b=some o:=λb o e=>ab b o (λz=>by rw[z,fx]at e;cases e) (o5 b o e)
      have ec:min d.length m+(((d.length:Nat):Int) - ((min d.length m:Nat):Int)).toNat=d.length:=by lia
      rw[ec]at f;refine⟨.inl ⟨rfl,_,SqL.of (o6 _ _ F)⟩,cR _ _,λpt cG=>?_⟩;have s7:=Same.new (o:=.tup [.ref x,z]) cG;have a9:=ad (H:=Z) (a:=pt) (o:=.tup [.ref x,z]);generalize upd Z pt (.tup [.ref x,z])=H7 at s7 a9;have o7:Same j H7:=λb o e=>s7 b o (o6 b o e)
      refine⟨I,zs,_,rfl,rfl,o7 _ _ F,by lia,?_⟩;have c':=a2;refine⟨by lia,λb o nb e=>?_,zs++[.ref pt],_,_,_,_,?_,ad,?_,rfl⟩
      .rw[af nb];exact o7 _ _ (Y _ _ nb e)
      .rw[length_append,bS];rfl
      .have cA:(aE m d)[i]? = some (bH d S,FrM.lowP 1 (ch d.length (min d.length m):Nat)):=by
        unfold aE;rw[List.getElem?_map,hS];rfl
       rw[take_add_one,cA];have tz:TK HT H7:=λb us e=>o7 _ _ (Y _ _ (λW=>by rw[W,D]at e;cases e) e)
       have an:=hz.tk tz;unfold IsQ at an;rw[Tb.fr_one (n:=d.length) (k:=min d.length m) (Nat.min_le_left _ _)]at an;refine bB (PotR.put M (o7 _ _ F) ?_) (ak (λr v h=>PotR.put M (o7 _ _ F) (h.t o7.t)) hP);exact⟨pt,x,h6,z,rfl,a9,f.same s7,b6 _ a3,an⟩
   .rintro J j ⟨_,Y,zs,x3,x4,x5,x6,bS,F,hP,rfl⟩
    rw[take_of_length_le (by unfold aE;rw[length_map];rw[length_map]at c0;lia)]at hP;refine q _ I zs ?_ (nX D Y co) O F (ak (λr v h=>PotR.up (λb e=>s1.free e) h) hP);exact i7 bl Y O
  .rcases z with z | z
   .have:inK 0 24 (.i ((d.length:Nat):Int))=true:=decide_eq_true (by lia)
    rw[this]at z;cases z
   .have:inK 1 24 (.i ((m:Nat):Int))=true:=decide_eq_true (by lia)
    rw[this]at z;cases z
end
open Tb (Tr pN cM wo Pv stm stP Hd ch rng rnf pS tS Fn fpl ftm fbO isr Rw aE bH dW Mg bO mgs mgR mgF mgC er)
def Kx(H H':Hp):Prop:=∀ b o,H b=some o->(∀ φ,o≠.ext φ)->H' b=some o
theorem Kx.of{H a:Hp}(s:Same H a):Kx H a:=λb o e _=>s b o e
theorem Kx.put{H:Hp}{d:Addr}{φ:Heap->Prop}{o:HO}(h:H d=some (.ext φ)):Kx H (upd H d o):=λb a e n=>by
 rw[af λz=>by rw[z,h]at e;cases e;exact n _ rfl];exact e
theorem Kx.tk{H a:Hp}(k:Kx H a):TK H a:=λb c e=>k _ _ e λφ z=>by cases z
theorem KyAt.k{H a:Hp}{k:PKy}{b:Addr}(s:Kx H a)(h:KyAt H k b):KyAt a k b:=h.tk s.tk
theorem PotAt.k{a:Ad}{H b:Hp}{x h:Addr}{m n:Int}{c:List Str}(s:Kx H b)(p:PotAt a H x h m n c):PotAt a b x h m n c:=⟨let ⟨dx,e⟩:=p.at_;⟨dx,s _ _ e λd z=>by cases z⟩,s _ _ p.held λd z=>by cases z⟩
abbrev Me:=List Nat×List Nat×Fn
def ShR(K:Frag)(c:Nat)(H:Hp)(x:Me)(kv:bK):Prop:=kv.1=(bD x.1,(c:Int))/\KyAt H kv.1 kv.2.1/\IsF K H x.2.2 kv.2.2
def OnR(a:Ad)(m c:Nat)(H0 H:Hp)(x:Me)(kv:bK):Prop:=kv.1=(bD x.1,(c:Int))/\KyAt H kv.1 kv.2.1/\∃ p h,kv.2.2=.ref p/\PotAt a H p h (m:Nat) (c:Nat) (nmS x.2.1)/\H0 h=none
theorem ShR.k{K:Frag}{c:Nat}{H a:Hp}(s:Kx H a)(x:Me)(b:bK)(h:ShR K c H x b):ShR K c a x b:=⟨h.1,KyAt.k s h.2.1,h.2.2.tk s.tk⟩
theorem OnR.k{a:Ad}{m c:Nat}{f H b:Hp}(s:Kx H b)(x:Me)(d:bK)(h:OnR a m c f H x d):OnR a m c f b x d:=⟨h.1,KyAt.k s h.2.1,let ⟨p,q,e1,e2,e3⟩:=h.2.2;⟨p,q,e1,PotAt.k s e2,e3⟩⟩
theorem pk_eq{k a:List Nat}{c:Int}:((bD k,c):PKy)=(bD a,c)↔k=a:=⟨λe=>fw (congrArg Prod.fst e),λe=>by rw[e]⟩
theorem mn{c:Nat}{a:Me->bK->Prop}(b:∀ x kv,a x kv->kv.1=(bD x.1,(c:Int))){k:List Nat}:∀{g:Mg}{kvs:List bK},Paired a g kvs->k ∉ g.map (·.1)->atV kvs (bD k,(c:Int))=none
 | _,_,.nil,_=>rfl
 | x::g,kv::kvs,.cons r t,h=>by
  rw[map_cons,mem_cons]at h;unfold atV;rw[List.find?_cons_of_neg (p:=λp:bK=>decide (p.1=(bD k,(c:Int)))) (λz=>h (.inl ((pk_eq.mp ((b _ _ r).symm.trans (of_decide_eq_true z))).symm)))];exact mn b t λz=>h (.inr z)
theorem jd{c:Nat}{d:Me->bK->Prop}(a:∀ x kv,d x kv->kv.1=(bD x.1,(c:Int))){k:List Nat}:∀{g:Mg}{kvs:List bK},Paired d g kvs->k∈g.map (·.1)->∃ x∈g,x.1=k/\∃ kv,d x kv/\atV kvs (bD k,(c:Int))=some kv.2.2
 | _,_,.nil,h=>by cases h
 | x::g,kv::kvs,.cons r t,h=>by
  by_cases e:x.1=k
  .refine⟨x,mem_cons_self,e,kv,r,?_⟩
   unfold atV;rw[List.find?_cons_of_pos (p:=λp:bK=>decide (p.1=(bD k,(c:Int)))) (decide_eq_true (by rw[a _ _ r,e]))];rfl
  .rw[map_cons,mem_cons]at h
   obtain⟨y,f,l,b,i,j⟩:=jd a t (h.resolve_left λz=>e z.symm);refine⟨y,mem_cons_of_mem _ f,l,b,i,?_⟩;rw[<- j];unfold atV;rw[List.find?_cons_of_neg (p:=λp:bK=>decide (p.1=(bD k,(c:Int)))) (λz=>e (pk_eq.mp ((a _ _ r).symm.trans (of_decide_eq_true z))))]
theorem jQ{a R2:Me->bK->Prop}{φ:Me->Me}{ψ:bK->bK}:∀{g:Mg}{kvs:List bK},(∀ x∈g,∀ kv,a x kv->R2 (φ x) (ψ kv))->Paired a g kvs->Paired R2 (g.map φ) (kvs.map ψ)
 | _,_,_,.nil=>.nil
 | x::g,kv::kvs,h,.cons r t=>.cons (h x mem_cons_self kv r) (jQ (λy b=>h y (mem_cons_of_mem _ b)) t)
theorem jU{c:Nat}{l R2:Me->bK->Prop}(j:∀ x kv,l x kv->kv.1=(bD x.1,(c:Int))){k t:List Nat}{f:Fn}{b:Addr}{v:V}{g:Mg}{i:List bK}(u:(g.map (·.1)).Nodup)(h:Paired l g i)
  (o:∀ x kv,l x kv->x.1≠k->R2 x kv) (A:∀ x∈g,∀ kv,l x kv->x.1=k->R2 (k,t,fpl x.2.2 f) (kv.1,kv.2.1,v)) (p:k ∉ g.map (·.1)->R2 (k,t,fpl (0,1) f) ((bD k,(c:Int)),b,v)):Paired R2 (bO k t f g) (fg i (bD k,(c:Int)) b v):=by
 rw[Tb.mgPut_eq u];unfold fg
 by_cases z:k∈g.map (·.1)
 .obtain⟨x,B,e,kv,r,s⟩:=jd j h z
  rw[if_pos z,s,if_pos (show(some kv.2.2).isSome=true from rfl)];refine jQ (λy n a d=>?_) h
  by_cases w:y.1=k
  .rw[if_pos w,if_pos (by rw[j _ _ d,w])]
   exact A y n a d w
  .rw[if_neg w,if_neg (λq=>w (pk_eq.mp ((j _ _ d).symm.trans q)))]
   exact o y a d w
 .rw[if_neg z,mn j h z,if_neg (by decide)]
  refine bB (p z) ?_;have:=jQ (φ:=id) (ψ:=id) (R2:=R2) (λy n a d=>o y a d λe=>z (mem_map.mpr ⟨y,n,e⟩)) h;rwa [map_id,map_id]at this
theorem oH{g:Mg}(c:(g.map (·.1)).Nodup){x y:Me}(d:x∈g)(f:y∈g)(e:x.1=y.1):x=y:=by
 induction g with
 | nil=>cases d
 | cons z g ih =>
  rw[map_cons,nodup_cons]at c
  rcases mem_cons.mp d with a | a <;> rcases mem_cons.mp f with b | b
  .rw[a,b]
  .exact absurd (mem_map.mpr ⟨y,b,by rw[<- e,a]⟩) c.1
  .exact absurd (mem_map.mpr ⟨x,a,by rw[e,b]⟩) c.1
  .exact ih c.2 a b
theorem iy{a:Me->bK->Prop}{H:Hp}(h:∀ x kv,a x kv->KyAt H kv.1 kv.2.1):∀{g:Mg}{kvs:List bK},Paired a g kvs->∀ p∈kvs,KyAt H p.1 p.2.1
 | _,_,.nil,p,hp=>by cases hp
 | x::g,kv::kvs,.cons r t,p,hp=>(mem_cons.mp hp).elim (λe=>by rw[e];exact h _ _ r) (iy h t p)
theorem qz{R:List Rw}(h:mgC [] R=true):∀ i,i<=R.length->(mgF [] (R.take i)).all (λx=>fbO x.2.2)=true
 | 0,_=>rfl
 | i+1,hi=>Tb.mgC_take h i hi
def zb(a:Ad)(K:Frag)(m c:Nat)(H0 HC H:Hp)(x:Me)(v:V):Prop:=∃ p y h z,v=.ref p/\H p=some (.tup [.ref y,z])/\PotAt a HC y h (m:Nat) (c:Nat) (nmS x.2.1)/\H0 h=none/\IsF K HC x.2.2 z
theorem iD{a:Ad}{K:Frag}{m c:Nat}{d b H:Hp}(s:Same b H):∀{g:Mg}{zs:List V},Paired (zb a K m c d b H) g zs->Paired (PotR a K m c d H) (g.map (·.2)) zs
 | _,_,.nil=>.nil
 | x::g,z::zs,.cons r t=>by
  obtain⟨p,y,h,z,l,i,j,n,f⟩:=r;exact .cons ⟨p,y,h,z,l,i,j.same s,n,f.same s⟩ (iD s t)
inductive spMerged(a:Ad)(K:Frag)(vs:List V)(H:Hp)(Q:VK)(_E:XK):Prop
 | mk(H0:Hp)(l:Addr)(m c:Nat)(R:List Rw)(ys:List V)(h0:vs=[.ref l])(h1:H l=some (.lst ys))(h2:Paired (PotR a K m c H0 H) R ys)(h3:(∀ b,H b=none->H0 b=none))(h4:er m c R)(h5:m<=2)(h6:R.length<=100000)(h7:(∀ r∈R,fbO r.2=true))(h8:mgC [] R=true)(h9:∀ H' r ys',Same H H'->H r=none->H' r=some (.lst ys')->Paired (PotR a K m c H0 H') (mgR R) ys'->Q (.ref r) H'):spMerged a K vs H Q _E
section
variable {P:Program}{w:World}{K:Frag}{mg:Str->Option Value}{base:Heap}{a:Ad}
theorem sf(T:Txt K mg a):FnOk P w K mg base CX0 4 a.f_K a.d_K ["_law_pots"] (spMerged a K):=by
 have cP:FnOk P w K mg base CX0 3 _ _ _ _:=(mX T).mono (by decide);have cj:FnOk P w K mg base CX0 3 _ _ _ (spFF K fpl):=qP T;have c9:FnOk P w K mg base CX0 3 _ _ _ _:=(eI T).mono (by decide);have cT:FnOk P w K mg base CX0 3 _ _ _ _:=(ja T).mono (by decide);refine T.F_K.ok sc_K (λvs H Q E h=>?_) (λcdv A outer s H vs Q E hr h=>?_)
 .obtain⟨H0,l,m,c,R,ys,rfl,_⟩:=h;rfl
 .obtain⟨H0,l,m,c,R,ys,rfl,hl,hP,f0,c7,m2,dk,cG,hC,q⟩:=h
  have c3:sizeLine=16777216:=sizeLine_eq;have dm:=Paired.length hP;refine⟨_,(ai (aM (i:=1) sc_K.nd rfl (Or.inl rfl) (mw (P:=P) (w:=w) rfl rfl)) (ai (aM (i:=2) sc_K.nd rfl (Or.inr rfl) (mw (P:=P) (w:=w) rfl rfl)) (ai (da PassesOwn.never rfl (bI (vr 0)) (dU rfl (au (ar (i:=3) sc_K.nd rfl (Or.inl rfl)) (au (ar (i:=4) sc_K.nd rfl (Or.inl rfl)) bR))) (ai (aM (i:=5) sc_K.nd rfl (Or.inl rfl) (bT (aa (ap cP hr rfl T.m_T T.F_T.kp T.B_T .nil aq (aa (aD (vr 3) T.cl_h T.mt_j c9 hr T.B_j .nil aq) ae)) (aa (aD (vr 3) T.cl_h T.mt_l cT hr T.B_l .nil aq) ae)))) (ai (mQ (P:=P) (w:=w) rfl rfl (xo hr) (vr 2) (vr 5) (vr 3) rfl) (aj (mQ (P:=P) (w:=w) rfl rfl (xo hr) (vr 1) (vr 5) (ap cj hr rfl T.m_ad T.F_ad.kp T.B_ad .nil aq (aa (sF (P:=P) (w:=w) rfl rfl (xo hr) (vr 1) (vr 5) (bT (aa am (aa am ae))) ⟨rfl,rfl,rfl,rfl⟩) (aa (vr 4) ae))) rfl))))) (aj (ax (cJ rfl (N:=["_law_key","_law_much","_law_ones"]) (ix:=[none,none,some 2]) ⟨rfl,rfl,rfl,rfl,⟨rfl,rfl,rfl,trivial⟩⟩ (oX (P:=P) (w:=w) rfl rfl (pe_m.itemsPK (P:=P) (w:=w) rfl rfl (vr 1))) ⟨λC s H fp=>(gL (K:=K) (n:=2) rfl rfl (au (ar (i:=0) (show List.Nodup (["_law_key","_law_much","_law_ones"]:List Str) by decide +kernel) rfl (Or.inl rfl)) (au (ar (i:=1) (show List.Nodup (["_law_key","_law_much","_law_ones"]:List Str) by decide +kernel) rfl (Or.inl rfl)) bR))),λC s H fp=>cH,λC s H fp=>(bT (aa (uD (P:=P) (w:=w) rfl rfl (xo hr) (vr 2) (vr 0) (λ_ _=>rfl)) (aa (vr 1) ae)))⟩)))))),pU ?_⟩;intro dp de dd;intro f a9;have s1:=Same.new (o:=.ext (PDx P w f [])) a9;have a':=ad (H:=H) (a:=f) (o:=.ext (PDx P w f []));generalize upd H f (.ext (PDx P w f []))=H1 at s1 a';intro B as;have s2:=Same.new (o:=.ext (PDx P w B [])) as;have br:=ad (H:=H1) (a:=B) (o:=.ext (PDx P w B []));have a2:=s2 _ _ a';have bn:f≠B:=λe=>by rw[<- e,a']at as;cases as
  generalize upd H1 B (.ext (PDx P w B []))=H2 at s2 br a2;have f2:H B=none:=s1.free as;refine .inl ⟨⟨_,SqL.of ((s1.trans s2) _ _ hl)⟩,?_⟩
  let Pw1:PvS:=λi σ Z=>i<=ys.length/\Same H Z/\∃(d j:List bK) (x3 x4 x5:Option V),Z f=some (.ext (PDx P w f d))/\Z B=some (.ext (PDx P w B j))/\Paired (ShR K c Z) (mgF [] (R.take i)) d/\Paired (OnR a m c H0 Z) (mgF [] (R.take i)) j/\σ=[some (.ref l),some (.ref f),some (.ref B),x3,x4,x5]
  refine cY (K:=K) (a:=l) (xs:=ys) Pw1 ⟨Nat.zero_le _,s1.trans s2,[],[],none,none,none,a2,br,.nil,.nil,rfl⟩ (λi σ Z _ h=>SqL.of (h.2.1 _ _ hl)) ?_ ?_
  .rintro i y σ Z hy ⟨hi,sH,d,j,x3,x4,x5,Y,bg,P1,P2,rfl⟩
   have c8:i<ys.length:=(List.getElem?_eq_some_iff.mp hy).1;obtain⟨r,bm,p,x,h,z,rfl,hp,W,fh,hz⟩:=dM hP hy;have df:=c7 r (List.mem_of_getElem? bm);have nd:=Tb.mgF_nd (R.take i) (g:=[]) .nil;have gl:=Tb.mgF_len (R.take i) [];rw[length_take]at gl;have gl:(mgF [] (R.take i)).length<=i:=by have:([]:Mg).length=0:=rfl;lia
   have L1:=Paired.length P1;have L2:=Paired.length P2;have ca:=qz hC i (by lia);have ab:mgF [] (R.take (i+1))=bO (isr r.1) r.1 r.2 (mgF [] (R.take i)):=by rw[take_add_one,bm];exact Tb.mgF_snoc _ _ _
   generalize mgF [] (R.take i)=g at P1 P2 nd gl L1 L2 ca ab;obtain⟨dx,hx⟩:=W.at_;refine⟨p,_,rfl,SqT.of (sH _ _ hp),rfl,_,_,rfl,_,_,rfl,rfl,?_⟩;refine⟨x,dx,_,rfl,sH _ _ hx,rfl,⟨x,h,_,_,_,rfl,W.same sH,λH3 r3 s3 f3 c5=>?_⟩⟩;refine⟨r3,r.1,rfl,SqL.of c5,by lia,λH4 kt s4 dr c2=>?_⟩;have cs:=s3.trans s4;have M:=sH.trans cs;refine⟨x,dx,_,rfl,M _ _ hx,rfl,⟨x,h,_,_,_,rfl,W.same M,?_⟩⟩;refine⟨cR _ _,λI cB=>?_⟩;have s5:=Same.new (o:=.tup [.ref kt,.int (c:Nat)]) cB;have ct:=ad (H:=H4) (a:=I) (o:=.tup [.ref kt,.int (c:Nat)]);generalize upd H4 I (.tup [.ref kt,.int (c:Nat)])=J at s5 ct;have S:=cs.trans s5;have cW:=sH.trans S
   have ky:KyAt J (bD (isr r.1),(c:Int)) I:=⟨kt,ct,s5 _ _ c2⟩
   have cx:=ak (ShR.k (Kx.of S)) P1;have a7:=ak (OnR.k (Kx.of S)) P2;have b3:=S _ _ Y;have a1:=S _ _ bg;clear P1 P2;refine⟨B,I,j,_,rfl,rfl,⟨a1,iy (λ_ _ r=>r.2.1) a7⟩,ky,by lia,?_⟩;have k6:=Kx.put (o:=.ext (PDx P w B (fg j (bD (isr r.1),(c:Int)) I (.ref x)))) a1;have a4:=ad (H:=J) (a:=B) (o:=.ext (PDx P w B (fg j (bD (isr r.1),(c:Int)) I (.ref x))));have G:(upd J B (.ext (PDx P w B (fg j (bD (isr r.1),(c:Int)) I (.ref x))))) f=some (.ext (PDx P w f d)):=by rw[af bn];exact b3
   have an:=cW.put (o:=.ext (PDx P w B (fg j (bD (isr r.1),(c:Int)) I (.ref x)))) f2;generalize upd J B (.ext (PDx P w B (fg j (bD (isr r.1),(c:Int)) I (.ref x))))=H6 at k6 a4 G an;have ck:=ak (ShR.k k6) cx;have co:=KyAt.k k6 ky
   have c4:Paired (OnR a m c H0 H6) (bO (isr r.1) r.1 r.2 g) (fg j (bD (isr r.1),(c:Int)) I (.ref x)):=jU (λ_ _ r=>r.1) nd a7 (λy F r' _=>OnR.k k6 _ _ r') (λy hy F r' e=>⟨by rw[r'.1,e],KyAt.k k6 r'.2.1,x,h,rfl,W.same an,fh⟩) λ_=>⟨rfl,co,x,h,rfl,W.same an,fh⟩
   clear cx a7;refine⟨f,rfl,⟨d,G,iy (λ_ _ r=>r.2.1) ck⟩,?_⟩;refine⟨cR _ _,λal c'=>?_⟩;have L:=Same.new (o:=.tup [.int 0,.int 1]) c';have b5:=ad (H:=H6) (a:=al) (o:=.tup [.int 0,.int 1]);generalize upd H6 al (.tup [.int 0,.int 1])=H7 at L b5;have O:=ak (ShR.k (Kx.of L)) ck;have c0:=ak (OnR.k (Kx.of L)) c4;have bl:=KyAt.k (Kx.of L) co;refine⟨I,d,_,rfl,⟨L _ _ G,iy (λ_ _ r=>r.2.1) O⟩,bl,?_⟩
   obtain⟨f',v',ev,hf',fbf,hput⟩:∃(f':Fn) (v':V),(atV d (bD (isr r.1),(c:Int))).getD (.ref al)=v'/\IsF K H7 f' v'/\fbO f'=true/\∀ H8 z8,Kx H7 H8->IsF K H8 (fpl f' r.2) z8->Paired (ShR K c H8) (bO (isr r.1) r.1 r.2 g) (fg d (bD (isr r.1),(c:Int)) I z8):=by
    by_cases z:isr r.1∈g.map (·.1)
    .obtain⟨y,b',e1,F,r',e2⟩:=jd (λ_ _ r=>r.1) O z
     refine⟨y.2.2,F.2.2,by rw[e2];rfl,r'.2.2,all_eq_true.mp ca y b',λH8 z8 k8 X=>?_⟩;refine jU (λ_ _ r=>r.1) nd O (λy F r' _=>ShR.k k8 _ _ r') (λu hu kv'' r'' e=>?_) λn=>absurd z n
     obtain rfl:=oH nd hu b' (e.trans e1.symm);exact⟨by rw[r''.1,e],KyAt.k k8 r''.2.1,X⟩
    .refine⟨(0,1),.ref al,by rw[mn (λ_ _ r=>r.1) O z];rfl,⟨al,rfl,.inl b5⟩,by decide +kernel,λH8 z8 k8 X=>?_⟩
     exact jU (λ_ _ r=>r.1) nd O (λy F r' _=>ShR.k k8 _ _ r') (λu hu kv'' r'' e=>absurd (mem_map.mpr ⟨u,hu,e⟩) z) λn=>⟨rfl,KyAt.k k8 bl,X⟩
   rw[ev];have bt:=an.trans L;refine⟨v',z,f',r.2,rfl,hf',hz.same bt,fbf,cG r (List.mem_of_getElem? bm),λH8 z8 s8 X=>?_⟩;refine⟨f,I,d,_,rfl,rfl,⟨s8 _ _ (L _ _ G),iy (λ_ _ r=>r.2.1) (ak (ShR.k (Kx.of s8)) O)⟩,KyAt.k (Kx.of s8) bl,by lia,?_⟩;have b0:=s8 _ _ (L _ _ G);have k9:=Kx.put (o:=.ext (PDx P w f (fg d (bD (isr r.1),(c:Int)) I z8))) b0;have cy:Kx H7 (upd H8 f (.ext (PDx P w f (fg d (bD (isr r.1),(c:Int)) I z8)))):=λb o e n=>k9 _ _ (s8 _ _ e) n
   exact⟨by lia,(bt.trans s8).put a9,_,_,_,_,_,ad,by rw[af (Ne.symm bn)];exact s8 _ _ (L _ _ a4),by rw[ab];exact hput _ _ cy (X.tk k9.tk),by rw[ab];exact ak (OnR.k cy) c0,rfl⟩
  .rintro σ Z ⟨_,sH,d,j,x3,x4,x5,Y,bg,P1,P2,rfl⟩
   rw[take_of_length_le (by lia)]at P1 P2;have nd:=Tb.mgF_nd R (g:=[]) .nil;have gl:=Tb.mgF_len R [];have e0:mgF [] R=mgs R:=rfl;have g0:([]:Mg).length=0:=rfl;refine⟨f,d,rfl,rfl,.inl Y,λv fv=>?_⟩;have s3:=Same.new (o:=.ext (IV v f)) fv;have bS:=ad (H:=Z) (a:=v) (o:=.ext (IV v f));generalize upd Z v (.ext (IV v f))=H3 at s3 bS;refine⟨v,f,d,rfl,bS,.inl (s3 _ _ Y),λo=>?_⟩;have k4:=Kx.put (o:=.frz o (.ext (PDx P w f d))) (s3 _ _ Y);have a5:(upd H3 f (.frz o (.ext (PDx P w f d)))) B=some (.ext (PDx P w B j)):=by rw[af (Ne.symm bn)];exact s3 _ _ bg
   have a3:=ad (H:=H3) (a:=f) (o:=.frz o (.ext (PDx P w f d)));have M:=(sH.trans s3).put (o:=.frz o (.ext (PDx P w f d))) a9;generalize upd H3 f (.frz o (.ext (PDx P w f d)))=H4 at k4 a5 a3 M;have b4:Kx Z H4:=λb o e n=>k4 _ _ (s3 _ _ e) n
   have cA:=ak (ShR.k b4) P1;have bo:=ak (OnR.k b4) P2;clear P1 P2;have L1:=Paired.length cA;intro D hD;refine nO (λi zs J=>Same H4 J/\J D=some (.lst zs)/\i<=d.length/\zs.length=i/\Paired (zb a K m c H0 H4 J) ((mgs R).take i) zs) ⟨Same.new hD,ad,Nat.zero_le _,rfl,.nil⟩ (λi zs J h=>h.1 _ _ a3) (λi zs J h=>h.2.1) ?_ ?_
   .rintro i F zs J p P' cc ⟨s5,a6,hi,zl,Pz⟩ fp c1
    have c8:i<d.length:=(List.getElem?_eq_some_iff.mp cc).1;obtain⟨x,hx,r1,r2,r3⟩:=dM cA cc;obtain⟨y,hy,ey,a8,q1,q2⟩:=jd (λ_ _ r=>r.1) bo (mem_map.mpr ⟨x,List.mem_of_getElem? hx,rfl⟩);obtain rfl:=oH nd hy (List.mem_of_getElem? hx) ey;obtain⟨q3,q4,pp,hh,q5,q6,q7⟩:=q1;have s6:=Same.new (o:=.tup [.ref F.2.1,F.2.2]) fp;have b6:=ad (H:=J) (a:=p) (o:=.tup [.ref F.2.1,F.2.2]);generalize upd J p (.tup [.ref F.2.1,F.2.2])=H6 at s6 b6;have a0:=s5.trans s6;rw[r1]at r2;refine⟨p,_,rfl,SqT.of b6,rfl,_,_,rfl,_,_,rfl,rfl,?_⟩;refine⟨⟨rfl,trivial⟩,B,F.2.1,j,_,_,rfl,rfl,⟨a0 _ _ a5,iy (λ_ _ r=>r.2.1) (ak (OnR.k (Kx.of a0)) bo)⟩,KyAt.k (Kx.of a0) r2,q2,?_⟩;refine⟨cR _ _,λpt c6=>?_⟩;have L:=Same.new (o:=.tup [a8.2.2,F.2.2]) c6;have b2:=ad (H:=H6) (a:=pt) (o:=.tup [a8.2.2,F.2.2]);generalize upd H6 pt (.tup [a8.2.2,F.2.2])=H7 at L b2;have b1:=L _ _ (s6 _ _ a6);refine⟨b1,by lia,c1 _ _ ⟨(a0.trans L).put hD,ad,by lia,by rw[length_append,zl];rfl,?_⟩⟩;rw[take_add_one,show(mgs R)[i]? = some y from hx];have up:TK H7 (upd H7 D (.lst (zs++[.ref pt]))):=TK.lst b1;refine bB ⟨pt,pp,hh,F.2.2,rfl,up _ _ (by rw[b2,q5]),q6,q7,r3⟩ (ak (λx v h=>?_) Pz);obtain⟨p',y',h',z',g1,g2,g3⟩:=h;exact⟨p',y',h',z',g1,up _ _ (L _ _ (s6 _ _ g2)),g3⟩
   .rintro zs J ⟨s5,a6,_,zl,Pz⟩
    rw[take_of_length_le (by rw[<- e0];lia)]at Pz;refine q J D zs (M.trans s5) (M.free hD) a6 ?_;exact iD s5 Pz
end
open Tb (Tr pN cM wo Pv stm stP Hd ch rng rnf pS tS Fn fpl ftm fbO isr Rw aE bH dW Mg bO mgs mgR mgF mgC er prR prA prM prC rwF)
theorem xb{b a:List Nat}{S:List Int}(h:∀ k∈S,0<=k/\k<((b++a).length:Int)):(S.map λk=>(nmS b++nmS a).getD k.toNat "")=nmS (bH (b++a) S):=by
 unfold bH nmS;rw[map_map,<- map_append];refine map_congr_left λk d=>?_
 have:=h k d;have c:k.toNat<(b++a).length:=by lia
 show(List.map (λ(k:Nat)=>sg (k:Int)) (b++a)).getD k.toNat "" = sg ((((b++a).getD k.toNat 0:Nat)):Int);rw[List.getD_eq_getElem?_getD,List.getD_eq_getElem?_getD,List.getElem?_map,List.getElem?_eq_getElem c];rfl
inductive spLPoured(a:Ad)(K:Frag)(vs:List V)(H:Hp)(Q:VK)(_E:XK):Prop
 | mk(Ha Hb:Hp)(la lb:Addr)(m c1 c2:Nat)(A B:List Rw)(ya yb:List V)(h0:vs=[.ref la,.ref lb])(h1:H la=some (.lst ya))(h2:H lb=some (.lst yb))(h3:Paired (PotR a K m c1 Ha H) A ya)(h4:Paired (PotR a K m c2 Hb H) B yb)(h5:er m c1 A)(h6:er m c2 B)(h7:1<=m)(h8:m<=2)(h9:c1+c2<=7)(h10:A.length<=54)(h11:B.length<=54)(h12:prC m c1 c2 A B=true)(h13:mgC [] (prA m c1 c2 A B)=true)(h14:TabsOk (tabs a) H)(h15:∀ H' r ys,SameT H H'->TabsOk (tabs a) H'->H r=none->H' r=some (.lst ys)->Paired (PotR a K m (c1+c2) H H') (prM m c1 c2 A B) ys->Q (.ref r) H'):spLPoured a K vs H Q _E
section
variable {P:Program}{w:World}{K:Frag}{mg:Str->Option Value}{base:Heap}{a:Ad}
theorem ow(T:Txt K mg a)(hB:Bm mg base):FnOk P w K mg base CX0 20 a.f_s a.d_s ["_law_ones","_law_others"] (spLPoured a K):=by
 have dk:FnOk P w K mg base CX0 19 _ _ _ _:=(kH (mG T hB)).mono (by decide);have d0:FnOk P w K mg base CX0 19 _ _ _ _:=(kH (rY T hB)).mono (by decide);have ck:FnOk P w K mg base CX0 19 _ _ _ _:=(kH (xk T)).mono (by decide);have ab:FnOk P w K mg base CX0 19 _ _ _ _:=(vk T).mono (by decide);have dT:FnOk P w K mg base CX0 19 _ _ _ _:=(sf T).mono (by decide);refine T.F_s.ok sc_s (λvs H Q E h=>?_) (λcdv A outer s H vs Q E hr h=>?_)
 .obtain⟨Ha,Hb,la,lb,m,c1,c2,A,B,ya,yb,rfl,_⟩:=h;rfl
 .obtain⟨Ha,Hb,la,lb,m,c1,c2,RA,l,ya,yb,rfl,cB,br,PA,PB,bg,bS,m1,m2,c7,lA,lB,hC,hM,hT,q⟩:=h
  have dp:sizeLine=16777216:=sizeLine_eq;have em:=Paired.length PA;have ei:=Paired.length PB;have pq:Tb.Pq (min m (c1+c2)) c1 (min m c1) c2 (min m c2):=yE (by lia);have eb:=Tb.prA_len (c1:=c1) (c2:=c2) m2 lA lB;have ea:RA.length*(l.length*6)<=54*(54*6):=Nat.mul_le_mul lA (Nat.mul_le_mul_right 6 lB);refine⟨_,(ai (aM (i:=2) sc_s.nd rfl (Or.inl rfl) (bW ae)) (ai (da PassesOwn.never rfl (bI (vr 0)) (dU rfl (au (ar (i:=3) sc_s.nd rfl (Or.inl rfl)) (au (ar (i:=4) sc_s.nd rfl (Or.inl rfl)) bR))) (aj (da PassesOwn.never rfl (bI (vr 1)) (dU rfl (au (ar (i:=5) sc_s.nd rfl (Or.inl rfl)) (au (ar (i:=6) sc_s.nd rfl (Or.inl rfl)) bR))) (aj (da PassesOwn.never rfl (bI (ap dk hr rfl T.m_X T.F_X.kp T.B_X .nil aq (aa (ap d0 hr rfl T.m_W T.F_W.kp T.B_W .nil aq (aa (vr 3) (aa (vr 5) ae))) ae))) (dU rfl (au (ar (i:=7) sc_s.nd rfl (Or.inl rfl)) (au (ar (i:=8) sc_s.nd rfl (Or.inl rfl)) bR))) (aj (cX (pe_m.append (vr 2) (aa (bT (aa (ap ck hr rfl T.m_ae T.F_ae.kp T.B_ae .nil aq (aa (vr 3) (aa (vr 5) (aa (vr 7) ae)))) (aa (ap ab hr rfl T.m_ab T.F_ab.kp T.B_ab .nil aq (aa (ap ab hr rfl T.m_ab T.F_ab.kp T.B_ab .nil aq (aa (vr 4) (aa (vr 6) ae))) (aa (vr 8) ae))) ae))) ae))))))))) (aj (ax (ap dT hr rfl T.m_K T.F_K.kp T.B_K .nil aq (aa (vr 2) ae)))))),gg ?_⟩;intro ej eg;refine⟨Nat.zero_le _,λn a7=>?_⟩;have s1:=Same.new (o:=.lst []) a7;have Y:=ad (H:=H) (a:=n) (o:=.lst []);generalize upd H n (.lst [])=H1 at s1 Y;have dy:=hT.same s1;refine .inl ⟨⟨_,SqL.of (s1 _ _ cB)⟩,?_⟩
  let Pw1:PvS:=λi D O=>i<=ya.length/\SameT H O/\TabsOk (tabs a) O/\(∀ b,O b=none->H1 b=none)/\∃(J:List V) (x3 x4 x5 x6 x7 x8:Option V),O n=some (.lst J)/\Paired (PotR a K m (c1+c2) H1 O) (prA m c1 c2 (RA.take i) l) J/\D=[some (.ref la),some (.ref lb),some (.ref n),x3,x4,x5,x6,x7,x8]
  refine cY (K:=K) (a:=la) (xs:=ya) Pw1 ⟨Nat.zero_le _,s1.t,dy,(λb e=>e),[],none,none,none,none,none,none,Y,.nil,rfl⟩ (λi D O _ h=>SqL.of (h.2.1.at cB)) ?_ ?_
  .rintro i y D O hy ⟨hi,tH,a0,a8,J,x3,x4,x5,x6,x7,x8,a3,hP,rfl⟩
   have eo:i<ya.length:=(List.getElem?_eq_some_iff.mp hy).1;obtain⟨c,a9,p,x,h,z,rfl,hp,bt,fh,hz⟩:=dM PA hy;have cs:=bg c (List.mem_of_getElem? a9);have eA:prA m c1 c2 (RA.take (i+1)) l=prA m c1 c2 (RA.take i) l++l.flatMap (rwF m c1 c2 c):=Tb.flat_take _ a9
   have cG:(prA m c1 c2 (RA.take i) l).length<=54*(54*6):=by
    have:=Tb.prA_len (c1:=c1) (c2:=c2) (A:=RA.take i) (B:=l) m2 (by rw[length_take];lia) lB;exact Nat.le_trans this (Nat.mul_le_mul (by rw[length_take];lia) (Nat.mul_le_mul_right 6 lB))
   generalize prA m c1 c2 (RA.take i) l=G at hP eA cG;refine⟨p,_,rfl,SqT.of (tH.at hp),rfl,_,_,rfl,_,_,rfl,rfl,?_⟩;refine .inl ⟨⟨_,SqL.of (tH.at br)⟩,?_⟩
   let Pw2:PvS:=λj D H2=>j<=yb.length/\SameT H H2/\TabsOk (tabs a) H2/\(∀ b,H2 b=none->H1 b=none)/\∃(J:List V) (x5 x6 x7 x8:Option V),H2 n=some (.lst J)/\Paired (PotR a K m (c1+c2) H1 H2) (G++(l.take j).flatMap (rwF m c1 c2 c)) J/\D=[some (.ref la),some (.ref lb),some (.ref n),some (.ref x),some z,x5,x6,x7,x8]
   refine cY (K:=K) (a:=lb) (xs:=yb) Pw2 ⟨Nat.zero_le _,tH,a0,a8,J,x5,x6,x7,x8,a3,by rw[take_zero,List.flatMap_nil,append_nil];exact hP,rfl⟩ (λi D O _ h=>SqL.of (h.2.1.at br)) ?_ ?_
   .rintro j y2 D H2 cc ⟨hj,F,a5,a2,a',c',c8,co,b4,C,I,rfl⟩
    have ed:j<yb.length:=(List.getElem?_eq_some_iff.mp cc).1;obtain⟨f,a6,p2,x2,h2,z2,rfl,dx,an,eq,dt⟩:=dM PB cc;have cj:=bS f (List.mem_of_getElem? a6);have pc:=Tb.prC_at hC (List.mem_of_getElem? a9) (List.mem_of_getElem? a6);have eB:(l.take (j+1)).flatMap (rwF m c1 c2 c)=(l.take j).flatMap (rwF m c1 c2 c)++rwF m c1 c2 c f:=Tb.flat_take _ a6;have bm:((l.take j).flatMap (rwF m c1 c2 c)).length<=54*6:=Nat.le_trans (Tb.flat_len (Tb.rwF_len m2 c) _) (Nat.mul_le_mul_right 6 (by rw[length_take];lia));have cW:(G++(l.take j).flatMap (rwF m c1 c2 c)).length<=54*(54*6)+54*6:=by rw[length_append];lia
    have bn:G++(l.take (j+1)).flatMap (rwF m c1 c2 c)=G++(l.take j).flatMap (rwF m c1 c2 c)++rwF m c1 c2 c f:=by rw[eB,append_assoc]
    generalize G++(l.take j).flatMap (rwF m c1 c2 c)=G2 at I bn cW;clear eB bm hP;refine⟨p2,_,rfl,SqT.of (F.at dx),rfl,_,_,rfl,_,_,rfl,rfl,?_⟩;have l1:(nmS c.1).length=min m c1:=by rw[dY];exact cs.1
    have l2:(nmS f.1).length=min m c2:=by rw[dY];exact cj.1
    have df:Okp (m:Nat) (c1:Nat) (nmS c.1):=⟨by lia,by lia,by lia,by lia,by rw[l1];split <;> lia⟩
    have d2:Okp (m:Nat) (c2:Nat) (nmS f.1):=⟨by lia,by lia,by lia,by lia,by rw[l2];split <;> lia⟩
    refine⟨x,h,x2,h2,m,c1,m,c2,nmS c.1,nmS f.1,rfl,bt.t F,an.t F,df,d2,a5,(λz=>absurd rfl z),λ_ H3 u t3 hT3 hN=>?_⟩;have g:=Tb.pS_all (m:=m) (c1:=c1) (c2:=c2) (by lia) (by lia) (by lia) pq;refine⟨u,_,_,Tb.Dpo (min m (c1+c2)) (c1+c2),rfl,hN,g.dk,by lia,g.ok,g.few,g.pos,g.lm,g.ch,hT3,λ_ HT l6 R a4 t6 dd bo b3 b1 cy ep=>?_,λz=>absurd g.lv (by lia)⟩;obtain rfl:=Tb.pS_row pq m2 cy;have X:=t3.trans t6;have b5:=F.trans X;have M:=X.at C;have c0:=Paired.length b1;have c6:=Tb.comb_len (min m c1+min m c2) (by lia) (min m (c1+c2)) (by lia);rw[length_map]at c0;have c3:=ak (λr v h=>PotR.t X h) I;have cx:∀ b,HT b=none->H1 b=none:=λb e=>a2 b (X.free e)
    clear I;refine .inl ⟨⟨_,SqL.of b3⟩,?_⟩
    let Pw3:PvS:=λk D H4=>k<=a4.length/\SB n HT H4/\∃(J:List V) (x7 x8:Option V),H4 n=some (.lst J)/\Paired (PotR a K m (c1+c2) H1 H4) (G2++(rwF m c1 c2 c f).take k) J/\D=[some (.ref la),some (.ref lb),some (.ref n),some (.ref x),some z,some (.ref x2),some z2,x7,x8]
    refine cY (K:=K) (a:=l6) (xs:=a4) Pw3 ⟨Nat.zero_le _,(λ_ _ _ e=>e),a',co,b4,M,by rw[take_zero,append_nil];exact c3,rfl⟩ (λi D O _ h=>SqL.of (h.2.1 _ _ (λe=>by rw[e,t3.at C]at bo;cases bo) b3)) ?_ ?_
    .rintro k y3 D H4 b6 ⟨hk,sb,W,ca,ct,d,L,rfl⟩
     have ec:k<a4.length:=(List.getElem?_eq_some_iff.mp b6).1;obtain⟨ek,b2,b'⟩:=dM b1 b6;rw[List.getElem?_map]at b2;obtain⟨S,hS,rfl⟩:=Option.map_eq_some_iff.mp b2;have Z:=Tb.mem_combS.mp (List.mem_of_getElem? hS);obtain⟨p3,kt,z3,rfl,dV,c5,de⟩:=b';have nl:∀{b us},HT b=some (.tup us)->b≠n:=λe z=>by rw[z,M]at e;cases e
     have t4:SameT H H4:=i7 b5 sb a7;have a1:TK HT H4:=λb us e=>sb _ _ (nl e) e
     have dm:=Paired.length L;rw[length_append]at dm;have el:=List.length_take_le k (rwF m c1 c2 c f)
     have c4:∀ k∈S,0<=k/\k<((c.1++f.1).length:Int):=λk hk=>by
      have:=Z.lt k hk;rw[length_append,cs.1,cj.1];exact this
     have cA:∀ k∈S,0<=k/\k<((nmS c.1++nmS f.1).length:Int):=λk hk=>by
      have:=Z.lt k hk;rw[length_append,l1,l2];exact this
     refine⟨p3,_,rfl,SqT.of (a1 _ _ dV),rfl,_,_,rfl,_,_,rfl,rfl,?_⟩;refine⟨.inl ⟨rfl,_,SqL.of d⟩,?_⟩;refine⟨x,h,x2,h2,kt,_,_,_,_,nmS c.1,nmS f.1,S,rfl,bt.t t4,an.t t4,by lia,by lia,by lia,by lia,SqT.of (a1 _ _ c5),by rw[Z.len];lia,cA,(λz=>absurd rfl z),(λ_ z=>by lia),λ_ _ H5 w5 h5 s5 fw5 fh5 pot5=>?_⟩;have t5:=t4.trans s5.t;refine⟨_,_,c.2,f.2,rfl,hz.tk (SameT.tk' t5),dt.tk (SameT.tk' t5),pc.fa,pc.fb,λH6 z6 s6 dz=>?_⟩;have cT:(bH (c.1++f.1) S,Tb.shF (min m (c1+c2)) c1 (min m c1) c2 (min m c2) S)∈prR m c1 c2 c.1 f.1:=mem_map.mpr ⟨S,List.mem_of_getElem? hS,rfl⟩;have c9:=pc.fr _ cT
     have bl:IsF K H6 (Tb.shF (min m (c1+c2)) c1 (min m c1) c2 (min m c2) S) z3:=by
      have:=de.tk (a1.trans (s5.trans s6).tk);unfold IsQ at this;rw[Tb.fr_shr pq Z]at this;exact this
     refine⟨_,_,ftm c.2 f.2,_,rfl,dz,bl,pc.ft,c9.1,λH7 z7 s7 cP=>?_⟩;refine⟨cR _ _,λpt dv=>?_⟩;have s8:=Same.new (o:=.tup [.ref w5,z7]) dv;have b0:=ad (H:=H7) (a:=pt) (o:=.tup [.ref w5,z7]);generalize upd H7 pt (.tup [.ref w5,z7])=H8 at s8 b0;have as:=(s5.trans s6).trans (s7.trans s8);have N:=as _ _ d;refine⟨n,W,_,rfl,rfl,N,by lia,?_⟩;refine⟨by lia,λb o nb e=>?_,W++[.ref pt],_,_,ad,?_,rfl⟩
     .rw[af nb];exact as _ _ (sb _ _ nb e)
     .have dK:(rwF m c1 c2 c f)[k]? = some (bH (c.1++f.1) S,ftm (ftm c.2 f.2) (Tb.shF (min m (c1+c2)) c1 (min m c1) c2 (min m c2) S)):=by
       unfold rwF prR;rw[List.getElem?_map,List.getElem?_map,hS];rfl
      rw[take_add_one,dK,<- append_assoc];refine bB (PotR.put Y N ?_) (ak (λr v h=>PotR.put Y N (h.t as.t)) L)
      have dr:∀ b,H4 b=none->H1 b=none:=λb e=>cx b (by
       cases e1:HT b with
       | none=>rfl
       | some o =>
        by_cases nb:b=n
        .rw[nb,d]at e;cases e
        .rw[sb _ _ nb e1]at e;cases e)
      refine⟨pt,w5,h5,z7,rfl,b0,?_,dr _ fh5,cP.same s8⟩;have al:=pot5.same ((s6.trans s7).trans s8);rw[xb c4]at al;exact al
    .rintro D H4 ⟨_,sb,W,ca,ct,d,L,rfl⟩
     have ef:(rwF m c1 c2 c f).length=(dW 0 (min m c1+min m c2) (min m (c1+c2))).length:=by unfold rwF prR;rw[length_map,length_map]
     rw[take_of_length_le (by lia),<- bn]at L;refine⟨by lia,i7 b5 sb a7,nX M sb dd,λb e=>cx b ?_,W,_,_,_,_,d,L,rfl⟩;cases e1:HT b with
     | none=>rfl
     | some o =>
      by_cases nb:b=n
      .rw[nb,d]at e;cases e
      .rw[sb _ _ nb e1]at e;cases e
   .rintro D H2 ⟨_,F,a5,a2,a',c',c8,co,b4,C,I,rfl⟩
    rw[take_of_length_le (by lia),<- eA]at I;exact⟨by lia,F,a5,a2,a',_,_,_,_,_,_,C,I,rfl⟩
  .rintro D O ⟨_,tH,a0,a8,J,x3,x4,x5,x6,x7,x8,a3,hP,rfl⟩
   rw[take_of_length_le (by lia)]at hP;refine⟨H1,n,m,c1+c2,_,J,rfl,a3,hP,a8,Tb.prA_ok bg bS,m2,by lia,Tb.prC_fb hC,hM,λH5 r en s5 d' ds d1=>?_⟩;exact q _ _ _ (tH.trans s5.t) (a0.same s5) (tH.free d') ds (ak (λr v h=>PotR.up (λb e=>s1.free e) h) d1)
end
open Tb (Tr pN cM wo Pv stm stP Hd ch rng rnf pS tS Fn fpl ftm fbO isr Rw aE bH dW Mg bO mgs mgR mgF mgC er prR prA prM prC rwF alk bN)
theorem yw{K:Frag}{H:Hp}{p:Addr}{t b:Int}(h:SqT K H p [.int t,.int b]):DV K H (.tuple [.int t,.int b]) (.ref p):=by
 rw[DV];refine⟨p,_,rfl,h,?_⟩;rw[DVs];refine⟨_,_,rfl,by simp[DV],?_⟩;rw[DVs];exact⟨_,_,rfl,by simp[DV],by simp[DVs]⟩
def Ly(n:Nat)(d:PyData):Prop:=PyData.canLay0 d=true/\PyData.depth d<=n
theorem pC{n:Nat}:∀{ds:List PyData},(∀ d∈ds,Ly n d)->PyData.canLayAll0 ds=true/\PyData.depthAll ds<=n
 | [],_=>by simp[PyData.canLayAll0,PyData.depthAll]
 | d::ds,h=>by
  obtain⟨a,c⟩:=pC λx hx=>h x (mem_cons_of_mem _ hx)
  obtain⟨b,f⟩:=h d mem_cons_self;rw[PyData.canLayAll0,PyData.depthAll,a,b];exact⟨rfl,by lia⟩
theorem Ab{n:Nat}{ds:List PyData}(h:∀ d∈ds,Ly n d):Ly (n+1) (.tuple ds):=by
 obtain⟨a,b⟩:=pC h;refine⟨by rw[PyData.canLay0,a],?_⟩;simp only[PyData.depth];lia
theorem yr{n:Nat}{ds:List PyData}(h:∀ d∈ds,Ly n d):Ly (n+1) (.list ds):=by
 obtain⟨a,b⟩:=pC h;refine⟨by rw[PyData.canLay0,a],?_⟩;simp only[PyData.depth];lia
theorem vi(i:Int):Ly 1 (.int i):=⟨by simp[PyData.canLay0],by simp[PyData.depth]⟩
theorem ij{n:Nat}{d:PyData}(h:Ly n d)(a:n<=5):SeqAt.shaped d=true:=by
 unfold SeqAt.shaped;rw[h.1,Bool.true_and];exact decide_eq_true (by have:=h.2;lia)
theorem qk{K:Frag}{H:Hp}{x y:V}{d:PyData}{n:Nat}{Q:VK}(c:DV K H d x)(b:DV K H d y)(h:Ly n d)(a:n<=5)(q:Q (.bl false) H):rEqD K true x y H Q:=by
 refine⟨d,d,c,b,ij h a,ij h a,?_⟩;rw[SeqAt.eqv_refl _ (SeqAt.canLay_of_shaped (ij h a))];exact q
def fnD(f:Fn):PyData:=.tuple [.int f.1,.int f.2]
theorem yA{K:Frag}{H:Hp}{f:Fn}{z:V}(h:IsF K H f z):DV K H (fnD f) z:=by
 obtain⟨p,rfl,a⟩:=h;exact yw a.sq
theorem Bb(f:Fn):Ly 2 (fnD f):=Ab (n:=1) λd hd=>by
 rcases mem_cons.mp hd with rfl | hd
 .exact vi _
 .rw[mem_singleton.mp hd];exact vi _
theorem v9{K:Frag}{H:Hp}{l:Addr}(h:H l=some (.lst [])):DV K H (.list []) (.ref l):=by
 rw[DV];exact⟨l,_,rfl,SqL.of h,by simp[DVs]⟩
theorem xw{i j:Int}{A B:Prop}(e:i=j)(h:B):if (!decide (i=j))=true then A else B:=by
 rw[decide_eq_true e];exact Cq h
abbrev KR:=List Key×V
def AlR(K:Frag)(H:Hp)(x:Me)(kv:KR):Prop:=kv.1=bD x.1/\IsF K H x.2.2 kv.2
theorem AlR.tk{K:Frag}{H a:Hp}(s:TK H a)(x:Me)(b:KR)(h:AlR K H x b):AlR K a x b:=⟨h.1,h.2.tk s⟩
theorem vA{H:Hp}{d:Addr}{a:List KR}{o:HO}(h:H d=some (.dT a)):TK H (upd H d o):=λb c e=>by
 rw[af λz=>by rw[z,h]at e;cases e];exact e
theorem lN{K:Frag}{H:Hp}{k:List Nat}:∀{g:Mg}{kvs:List KR},Paired (AlR K H) g kvs->k ∉ g.map (·.1)->dh kvs (bD k)=none/\(kvs.any λkv=>decide (kv.1=bD k))=false
 | _,_,.nil,_=>⟨rfl,rfl⟩
 | x::g,kv::kvs,.cons r t,h=>by
  rw[map_cons,mem_cons]at h;have n:¬kv.1=bD k:=λz=>h (.inl (fw (r.1.symm.trans z)).symm)
  obtain⟨a,b⟩:=lN t λz=>h (.inr z)
  refine⟨?_,by rw[any_cons,decide_eq_false n,b];rfl⟩;unfold dh;rw[List.find?_cons_of_neg (p:=λkv:KR=>decide (kv.1=bD k)) (λz=>n (of_decide_eq_true z))];exact a
theorem lJ{K:Frag}{H:Hp}{k:List Nat}:∀{g:Mg}{kvs:List KR},Paired (AlR K H) g kvs->k∈g.map (·.1)->(kvs.any λkv=>decide (kv.1=bD k))=true/\∃ x∈g,x.1=k/\∃ kv,AlR K H x kv/\dh kvs (bD k)=some kv.2
 | _,_,.nil,h=>by cases h
 | x::g,kv::kvs,.cons r t,h=>by
  by_cases e:x.1=k
  .have n:kv.1=bD k:=by rw[r.1,e]
   refine⟨by rw[any_cons,decide_eq_true n];rfl,x,mem_cons_self,e,kv,r,?_⟩;unfold dh;rw[List.find?_cons_of_pos (p:=λkv:KR=>decide (kv.1=bD k)) (decide_eq_true n)];rfl
  .have n:¬kv.1=bD k:=λz=>e (fw (r.1.symm.trans z))
   rw[map_cons,mem_cons]at h;obtain⟨d,y,b,i,a,c,f⟩:=lJ t (h.resolve_left λz=>e z.symm);refine⟨by rw[any_cons,d,Bool.or_true],y,mem_cons_of_mem _ b,i,a,c,?_⟩;rw[<- f];unfold dh;rw[List.find?_cons_of_neg (p:=λkv:KR=>decide (kv.1=bD k)) (λz=>n (of_decide_eq_true z))]
theorem um{a R2:Me->KR->Prop}{φ:Me->Me}{ψ:KR->KR}:∀{g:Mg}{kvs:List KR},(∀ x∈g,∀ kv,a x kv->R2 (φ x) (ψ kv))->Paired a g kvs->Paired R2 (g.map φ) (kvs.map ψ)
 | _,_,_,.nil=>.nil
 | x::g,kv::kvs,h,.cons r t=>.cons (h x mem_cons_self kv r) (um (λy b=>h y (mem_cons_of_mem _ b)) t)
theorem ve{K:Frag}{H c:Hp}{k t:List Nat}{f:Fn}{v:V}{g:Mg}{a:List KR}(n:(g.map (·.1)).Nodup)(s:TK H c)(h:Paired (AlR K H) g a)(o:∀ x∈g,x.1=k->IsF K c (fpl x.2.2 f) v)(j:k ∉ g.map (·.1)->IsF K c (fpl (0,1) f) v):Paired (AlR K c) (bO k t f g) (fA a (bD k) v):=by
 rw[Tb.mgPut_eq n];unfold fA
 by_cases z:k∈g.map (·.1)
 .obtain⟨l,_⟩:=lJ h z
  rw[if_pos z,if_pos l];refine um (λy d i b=>?_) h
  by_cases w:y.1=k
  .rw[if_pos w,if_pos (by rw[b.1,w])]
   exact⟨by rw[b.1,w],o y d w⟩
  .rw[if_neg w,if_neg (λq=>w (fw (b.1.symm.trans q)))]
   exact AlR.tk s _ _ b
 .rw[if_neg z,(lN h z).2,if_neg (by decide)]
  exact bB ⟨rfl,j z⟩ (ak (AlR.tk s) h)
theorem zo(k:Nat)(a:List Nat):inV (.str (sg (k:Int))) ((nmS a).map V.str)=decide (k∈a):=by
 unfold inV nmS;rw[map_map,Bool.eq_iff_iff,List.any_eq_true,decide_eq_true_eq]
 constructor
 .rintro⟨v,c,e⟩
  obtain⟨j,b,rfl⟩:=mem_map.mp c;have e:decide (sg (j:Int)=sg (k:Int))=true:=e;rw[<- wc (of_decide_eq_true e)];exact b
 .intro h
  exact⟨_,mem_map.mpr ⟨k,h,rfl⟩,show decide (sg (k:Int)=sg (k:Int))=true from decide_eq_true rfl⟩
inductive spAlike(a:Ad)(K:Frag)(vs:List V)(H:Hp)(Q:VK)(_E:XK):Prop
 | mk(H0:Hp)(l ln:Addr)(m n:Nat)(R:List Rw)(ys:List V)(h0:vs=[.ref l,.ref ln,.int (m:Nat)])(h1:H l=some (.lst ys))(h2:Paired (PotR a K m n H0 H) R ys)(h3:SqL K H ln ((nmS (bN 0 n)).map V.str))(h4:er m n R)(h5:1<=m)(h6:m<=2)(h7:n<=7)(h8:R.length<=100000)(h9:(∀ r∈R,fbO r.2=true))(h10:mgC [] R=true)(h11:alk m n R=true)(h12:∀ H',Same H H'->Q (.bl true) H'):spAlike a K vs H Q _E
section
variable {P:Program}{w:World}{K:Frag}{mg:Str->Option Value}{base:Heap}{a:Ad}
theorem ti(T:Txt K mg a):FnOk P w K mg base CX0 4 a.f_N a.d_N ["_law_pots","_law_names","_law_most"] (spAlike a K):=by
 have b4:FnOk P w K mg base CX0 3 _ _ _ _:=(mX T).mono (by decide);have br:FnOk P w K mg base CX0 3 _ _ _ (spFF K fpl):=qP T;have cs:FnOk P w K mg base CX0 3 _ _ _ _:=(gM T).mono (by decide);have b3:FnOk P w K mg base CX0 3 _ _ _ _:=(sV T).mono (by decide);have cB:FnOk P w K mg base CX0 3 _ _ _ _:=(eI T).mono (by decide);have b6:FnOk P w K mg base CX0 3 _ _ _ _:=(ja T).mono (by decide);refine T.F_N.ok sc_N (λvs H Q E h=>?_) (λcdv A outer s H vs Q E hr h=>?_)
 .obtain⟨H0,l,ln,m,n,R,ys,rfl,_⟩:=h;rfl
 .obtain⟨H0,l,ln,m,n,R,ys,rfl,hl,hP,Z,cx,m1,m2,n7,c1,b1,hC,hA,q⟩:=h
  have ck:sizeLine=16777216:=sizeLine_eq;have c2:=Paired.length hP;have nl:((nmS (bN 0 n)).map V.str).length=n:=by rw[length_map,dY];unfold bN;rw[length_map,length_range]
  unfold alk at hA;simp only[Bool.and_eq_true,decide_eq_true_eq,all_eq_true]at hA;obtain⟨cj,b5⟩:=hA;refine⟨_,(ai (aM (i:=3) sc_N.nd rfl (Or.inl rfl) (az (g7 rfl) rfl T.z_min pf (aa (vr 2) (aa (az aL rfl T.z_len ce (aa (vr 1) ae)) ae)))) (ai (aM (i:=4) sc_N.nd rfl (Or.inl rfl) mJ) (ai (da PassesOwn.never rfl (bI (vr 0)) (dU rfl (au (ar (i:=5) sc_N.nd rfl (Or.inl rfl)) (au (ar (i:=6) sc_N.nd rfl (Or.inl rfl)) bR))) (ai (cg (PW.pt (vj (cm tG (aD (vr 5) T.cl_h T.mt_l b6 hr T.B_l .nil aq) (az aL rfl T.z_len ce (aa (vr 1) ae)) (bp _)) (o8 (cm tG (cL (vr 5) rfl) (vr 2) (bp _))))) (aj (ax gw)) aT) (ai (aM (i:=7) sc_N.nd rfl (Or.inl rfl) (ap b4 hr rfl T.m_T T.F_T.kp T.B_T .nil aq (aa (aD (vr 5) T.cl_h T.mt_j cB hr T.B_j .nil aq) ae))) (aj (yy (qG hr) (vr 4) (vr 7) (ap br hr rfl T.m_ad T.F_ad.kp T.B_ad .nil aq (aa (wD (qG hr) (vr 4) (vr 7) (bT (aa am (aa am ae))) ⟨rfl,rfl,rfl,rfl⟩) (aa (vr 6) ae))) rfl))))) (ai (cg (cm tG (az kJ rfl T.z_len ce (aa (vr 4) ae)) (ap b3 hr rfl T.m_O T.F_O.kp T.B_O .nil aq (aa (az aL rfl T.z_len ce (aa (vr 1) ae)) (aa (vr 3) ae))) (bp _)) (aj (ax gw)) aT) (ai (da PassesOwn.never rfl (u6 (pe_m.itemsT (vr 4))) (dU rfl (au (ar (i:=7) sc_N.nd rfl (Or.inl rfl)) (au (ar (i:=6) sc_N.nd rfl (Or.inl rfl)) bR))) (ai (cg (PW.pt (vj (cm tG (az aL rfl T.z_len ce (aa (vr 7) ae)) (vr 3) (bp _)) (o8 (cm (yI hr.units) (cJ rfl (N:=["_law_name","_law_names"]) (ix:=[none,some 1]) ⟨rfl,rfl,rfl,rfl,⟨rfl,rfl,rfl,trivial⟩⟩ (bI (vr 7)) ⟨λC s H fp=>ar (i:=0) (show List.Nodup (["_law_name","_law_names"]:List Str) by decide +kernel) rfl (Or.inl rfl),λC s H fp=>qK (cm (jX (K:=K) rfl) (vr 0) (vr 1) (by with_unfolding_all rfl)),λC s H fp=>(vr 0)⟩) (bW ae) (bp _))))) (aj (ax gw)) aT) (aj (cg (cm (yI hr.units) (vr 6) (ap cs hr rfl T.m_I T.F_I.kp T.B_I .nil aq (aa am (aa (az kJ rfl T.z_len ce (aa (vr 4) ae)) ae))) (bp _)) (aj (ax gw)) aT)))) (aj (ax gw))))))),BL ?_⟩;intro cP c6 c3 cW cT;refine⟨_,.inl Z,?_⟩;rw[nl];refine⟨_,_,rfl,?_⟩
  rw[show(if ((n:Nat):Int)<((m:Nat):Int) then ((n:Nat):Int) else ((m:Nat):Int))=((min m n:Nat):Int) by split <;> lia];intro d fd;have s1:=Same.new (o:=.dT []) fd;have bg:=ad (H:=H) (a:=d) (o:=.dT []);generalize upd H d (.dT [])=H1 at s1 bg;refine .inl ⟨⟨_,SqL.of (s1 _ _ hl)⟩,?_⟩
  let Pw1:PvS:=λi S J=>i<=ys.length/\Same H J/\∃(f:List KR) (x5 x6 x7:Option V),J d=some (.dT f)/\Paired (AlR K J) (mgF [] (R.take i)) f/\S=[some (.ref l),some (.ref ln),some (.int (m:Nat)),some (.int (min m n:Nat)),some (.ref d),x5,x6,x7]
  refine cY (K:=K) (a:=l) (xs:=ys) Pw1 ⟨Nat.zero_le _,s1,[],none,none,none,bg,.nil,rfl⟩ (λi S J _ h=>SqL.of (h.2.1 _ _ hl)) ?_ ?_
  .rintro i y S J hy ⟨hi,F,f,x5,x6,x7,hk,W,rfl⟩
   have c4:i<ys.length:=(List.getElem?_eq_some_iff.mp hy).1;obtain⟨r,a4,p,x,h,z,rfl,hp,an,fh,hz⟩:=dM hP hy;have c0:=cx r (List.mem_of_getElem? a4);have nd:=Tb.mgF_nd (R.take i) (g:=[]) .nil;have gl:=Tb.mgF_len (R.take i) [];rw[length_take]at gl;have gl:(mgF [] (R.take i)).length<=i:=by have:([]:Mg).length=0:=rfl;lia
   have L1:=Paired.length W;have bo:=qz hC i (by lia);have ab:mgF [] (R.take (i+1))=bO (isr r.1) r.1 r.2 (mgF [] (R.take i)):=by rw[take_add_one,a4];exact Tb.mgF_snoc _ _ _
   generalize mgF [] (R.take i)=g at W nd gl L1 bo ab;obtain⟨dx,hx⟩:=an.at_;refine⟨p,_,rfl,SqT.of (F _ _ hp),rfl,_,_,rfl,_,_,rfl,rfl,?_⟩;refine⟨x,dx,_,rfl,F _ _ hx,rfl,⟨x,h,_,_,_,rfl,an.same F,?_⟩⟩;refine⟨_,.inl (F.seq Z),?_⟩;rw[nl];refine xw (i:=((n:Nat):Int)) rfl ?_;refine⟨x,_,dx,_,_,rfl,F _ _ hx,T.cl_h,T.na_Pot_most,rfl,?_⟩;refine xw (i:=((m:Nat):Int)) rfl ?_;refine⟨x,dx,_,rfl,F _ _ hx,rfl,⟨x,h,_,_,_,rfl,an.same F,λH3 r3 s3 f3 co=>?_⟩⟩;refine⟨r3,r.1,rfl,SqL.of co,by lia,λH4 kt s4 c5 a9=>?_⟩;have a5:=s3.trans s4;have G:=F.trans a5;have M:=ak (AlR.tk a5.tk) W;clear W;have B:=a5 _ _ hk;refine⟨d,rfl,.inr ⟨f,.inl B⟩,?_⟩;refine⟨cR _ _,λI cG=>?_⟩;have L:=Same.new (o:=.tup [.int 0,.int 1]) cG;have bl:=ad (H:=H4) (a:=I) (o:=.tup [.int 0,.int 1]);generalize upd H4 I (.tup [.int 0,.int 1])=Y at L bl;have O:=ak (AlR.tk L.tk) M;clear M;have a6:=L _ _ B;refine⟨_,DGet.t a6 (L _ _ a9),?_⟩;have a8:=G.trans L
   obtain⟨f',v',ev,hf',fbf,hput⟩:∃(f':Fn) (v':V),(dh f (bD (isr r.1))).getD (.ref I)=v'/\IsF K Y f' v'/\fbO f'=true/\∀ H8 z8,TK Y H8->IsF K H8 (fpl f' r.2) z8->Paired (AlR K H8) (bO (isr r.1) r.1 r.2 g) (fA f (bD (isr r.1)) z8):=by
    by_cases z:isr r.1∈g.map (·.1)
    .obtain⟨_,y,bn,e1,kv,r',e2⟩:=lJ O z
     refine⟨y.2.2,kv.2,by rw[e2];rfl,r'.2,all_eq_true.mp bo y bn,λH8 z8 k8 a0=>ve nd k8 O (λu hu e=>?_) λn=>absurd z n⟩;obtain rfl:=oH nd hu bn (e.trans e1.symm);exact a0
    .refine⟨(0,1),.ref I,by rw[(lN O z).1];rfl,⟨I,rfl,.inl bl⟩,by decide +kernel,λH8 z8 k8 a0=>ve nd k8 O (λu hu e=>absurd (mem_map.mpr ⟨u,hu,e⟩) z) λn=>a0⟩
   rw[ev];refine⟨v',z,f',r.2,rfl,hf',hz.same a8,fbf,b1 r (List.mem_of_getElem? a4),λH6 z6 s6 cy=>?_⟩;have a':=s6 _ _ a6;refine⟨d,_,rfl,DPut.t a' (s6 _ _ (L _ _ a9)) (by lia),?_⟩;have k7:TK H6 (upd H6 d (.dT (fA f (bD (isr r.1)) z6))):=vA a';exact⟨by lia,(a8.trans s6).put fd,_,_,_,_,ad,by rw[ab];exact hput _ _ (s6.tk.trans k7) (cy.tk k7),rfl⟩
  .rintro S J ⟨_,F,f,x5,x6,x7,hk,W,rfl⟩
   rw[take_of_length_le (by lia),show mgF [] R=mgs R from rfl]at W;have nd:((mgs R).map (·.1)).Nodup:=Tb.mgF_nd R (g:=[]) .nil;have L1:=Paired.length W;refine⟨d,f,rfl,.inl hk,?_⟩;refine⟨_,.inl (F.seq Z),?_⟩;rw[nl];refine⟨n,min m n,rfl,by lia,by lia,?_⟩;refine xw (i:=((f.length:Nat):Int)) (j:=((ch n (min m n):Nat):Int)) (by rw[<- L1,cj]) ?_;refine⟨.inr (.inr (.inl ⟨rfl,.inr ⟨f,hk⟩⟩)),d,f,rfl,rfl,.inl hk,λv fv=>?_⟩;have s3:=Same.new (o:=.ext (IV v d)) fv;have a7:=ad (H:=J) (a:=v) (o:=.ext (IV v d));generalize upd J v (.ext (IV v d))=H3 at s3 a7;refine⟨v,d,f,rfl,a7,.inl (s3 _ _ hk),λo=>?_⟩;have k4:TK H3 (upd H3 d (.frz o (.dT f))):=vA (s3 _ _ hk);have B:=ad (H:=H3) (a:=d) (o:=.frz o (.dT f));have G:=(F.trans s3).put (o:=.frz o (.dT f)) fd;generalize upd H3 d (.frz o (.dT f))=H4 at k4 B G;have M:=ak (AlR.tk (s3.tk.trans k4)) W;clear W;have g2:ch n (min m n)<=2 ^ n:=Tb.ch_le n (min m n);have g3:2 ^ n<=2 ^ 7:=Nat.pow_le_pow_right (by decide) n7;have g0:0<ch n (min m n):=Tb.ch_pos' (Nat.min_le_right _ _);refine tO (Pv:=λi S Y=>Same H4 Y/\∃(x6 x7:Option V),S=[some (.ref l),some (.ref ln),some (.int (m:Nat)),some (.int (min m n:Nat)),some (.ref d),x5,x6,x7]) ⟨Same.refl _,x6,x7,rfl⟩ (λi S Y h=>h.1 _ _ B) ?_ ?_
   .rintro i kv b S Y p ct hb ⟨L,y6,y7,rfl⟩ fp
    obtain⟨x,hx,r1,r2⟩:=dM M ct;obtain⟨⟨a1,a2⟩,a3⟩:=b5 x (List.mem_of_getElem? hx);have s6:=Same.new (o:=.tup [.ref b,kv.2]) fp;have bm:=ad (H:=Y) (a:=p) (o:=.tup [.ref b,kv.2]);generalize upd Y p (.tup [.ref b,kv.2])=H6 at s6 bm;have X:=s6 _ _ hb;rw[r1]at X;have bS:=L.trans s6;refine⟨p,_,rfl,SqT.of bm,rfl,_,_,rfl,_,_,rfl,rfl,?_⟩;refine⟨_,.inr (SqT.of X),?_⟩;rw[length_map,vC];refine xw (i:=((x.1.length:Nat):Int)) (j:=((min m n:Nat):Int)) (by rw[a1]) ?_;refine .inr ⟨⟨_,SqT.of X⟩,λD hD=>?_⟩
    let Pw2:PvL:=λj zs H7=>Same H6 H7/\H7 D=some (.lst zs)/\zs=[]
    refine mC (K:=K) (a:=b) (xs:=(bD x.1).map kV) Pw2 ⟨Same.new hD,ad,rfl⟩ (λi ys J h=>SqT.of (h.1 _ _ X)) (λi ys J h=>h.2.1) ?_ ?_
    .rintro j y zs H7 P' hy ⟨s7,as,rfl⟩ cc
     rw[vx,List.getElem?_map]at hy;obtain⟨t,ht,rfl⟩:=Option.map_eq_some_iff.mp hy;unfold nmS at ht;rw[List.getElem?_map]at ht;obtain⟨k,ca,rfl⟩:=Option.map_eq_some_iff.mp ht;have b2:=a2 k (List.mem_of_getElem? ca);refine⟨⟨rfl,trivial⟩,⟨ln,_,rfl,.inl ((bS.trans s7).seq (G.seq Z)),rfl,by rw[all_eq_true];intro v hv;obtain⟨c,_,rfl⟩:=mem_map.mp hv;rfl,?_⟩⟩;refine ifB (λz=>?_) λz=>cc _ _ ⟨s7,as,rfl⟩
     have z:(!inV (.str (sg (k:Int))) ((nmS (bN 0 n)).map V.str))=true:=z;rw[zo,decide_eq_true (show k∈bN 0 n from mem_map.mpr ⟨k,mem_range.mpr b2,Nat.zero_add k⟩)]at z;cases z
    .rintro zs H7 ⟨s7,as,rfl⟩
     refine⟨Nat.zero_le _,λl2 cA=>?_⟩;have s8:=Same.new (o:=.lst []) cA;have bt:=ad (H:=H7) (a:=l2) (o:=.lst []);generalize upd H7 l2 (.lst [])=H8 at s8 bt;refine qk (v9 (s8 _ _ as)) (v9 bt) (yr (n:=1) λd hd=>by cases hd) (by decide) ?_;have al:=(bS.trans s7).trans s8;refine⟨d,f,rfl,.inr ⟨o,al _ _ B⟩,?_⟩;refine⟨_,_,rfl,by lia,(show Bt 64 _ from by unfold Bt;lia).mono (by decide),(show Bt 64 _ from by unfold Bt;lia).mono (by decide),λH9 z9 s9 b'=>?_⟩
     have b0:IsF K H9 x.2.2 (.ref z9):=by
      rw[a3,L1];exact⟨z9,rfl,.inl b'⟩
     refine qk (yA (r2.same (al.trans s9))) (yA b0) (Bb _) (by decide) ?_;exact⟨al.trans s9,_,_,rfl⟩
   .rintro S Y ⟨L,y6,y7,rfl⟩
    exact q _ (G.trans L)
end
end My
namespace L2
open PySem PySem.Spec PyProof.Rows
theorem nV{X:Cx}(p:X.calm=true):CallR X (.type "list") (λxs H Q=>∃ z:Str,xs=[.str z]/\z.cps.size<=1000/\∀ l,H l=none->Q (.ref l) (upd H l (.lst (z.cps.toList.map λ(c:Nat)=>V.str ⟨#[c]⟩)))):=by
 intro g s D H xs F Q I r h;obtain⟨z,rfl,K,q⟩:=h;obtain⟨u,rfl,⟨t,rfl⟩⟩:=dJ r;have E:sizeLine=16777216:=sizeLine_eq;refine call_list_str (I.ok.hd p) z t (λG v a c A j C=>?_) (by lia);refine⟨.ref s.heap.objs.size,_,I.laid (t':=v) (o:=.lst (z.cps.toList.map λ(c:Nat)=>V.str ⟨#[c]⟩)) A (Nat.le_refl _) ?_,rfl,q _ (I.hok.fresh (Nat.le_refl _))⟩;obtain⟨w,B⟩:=C;refine⟨by rw[length_map,Array.length_toList];lia,a.toList,c,lE (by rw[length_map,Array.length_toList];simpa using w.symm) λi x u d y=>?_,j⟩;rw[List.getElem?_map,Array.getElem?_toList]at d;obtain⟨k,b,rfl⟩:=Option.map_eq_some_iff.mp d;have:=B i u (by simpa using y);obtain⟨J,t',f,n⟩:=this;rw[b]at f;cases f;exact⟨t',n⟩
section
variable {X:Cx}
theorem pQ{e:Expr}{b:TE}{a:Pos}(c:PEq X e b):PSt X (.Return (some e) a) (BM b):=lI (ax (i4 c))
theorem yf:PSq X [] yL:=by unfold PSq;exact aT
theorem AH{c:Expr}{b o:List Stmt}{f:TT}{d g:TS}{a:Pos}(i:PT X c f)(h:PSq X b d)(j:PSq X o g):PSt X (.If c b o a) (AV f d g):=lI (cg i (lh h) (lh j))
end
section
variable {P:Program}{w:World}{K:Frag}{mg:Str->Option Value}{base:Heap}
theorem Fun.okQ{x a:Str}{c:Stmt}{f:Addr}{g:FuncData}{N ps:List Str}{k:Nat}{sp:Sp}(F:Fun K x a c f g)(S:FnScope N ps (ac c))(d:∀ vs H Q E,sp vs H Q E->vs.length=ps.length)
  (b:∀(cdv:Value) (A:Around) (outer:List Env) (s:Shared) (H:Hp) (vs:List V) (Q:VK) (E:XK),Room k (A.deeper (envOfC a (ac c) s.heap.objs.size f cdv))->sp vs H Q E ->
   ∃ t,PSq (dN CX0 P w K mg base N a (ac c) f cdv A outer s H E).nox (ag c) t/\t { nx:=λ_ H'=>Q .non H',rt:=Q } (start N vs) H):FnOk P w K mg base CX0 (k+1) f g ps sp :=
 F.ok S d λcdv A outer s H vs Q E i h=>let ⟨t,h1,h2⟩:=b cdv A outer s H vs Q E i h;⟨t,lh h1,h2⟩
end
end L2
namespace My
open PySem L2 FrM LexM
open Tb (Tr pN cM wo Pv stm stP Hd ch rng rnf pS tS Fn fpl ftm fbO isr Rw aE bH dW Mg bO mgs mgR mgF mgC er prR prA prM prC rwF alk bN cS odr OdR jn3 jnC tst)
def RAt(a:Ad)(K:Frag)(m:Nat)(H:Hp)(g:List Nat)(v:V):Prop:=∃(H0:Hp) (l:Addr) (ys:List V),v=.ref l/\H l=some (.lst ys)/\Paired (PotR a K m g.length H0 H) (aE m g) ys
theorem RAt.t{a:Ad}{K:Frag}{m:Nat}{H b:Hp}{g:List Nat}{v:V}(s:SameT H b)(h:RAt a K m H g v):RAt a K m b g v:=by
 obtain⟨f,l,c,j,d,i⟩:=h;exact⟨f,l,c,j,s.at d,ak (λr v h=>h.t s) i⟩
def rvf(v0 v1 v2:V)(i:Nat):V:=if i=0 then v0 else if i=1 then v1 else v2
theorem Bf{a b c:V}{i:Nat}(h:i<=2):[a,b,c][i]? = some (rvf a b c i):=by
 rcases(show i=0\/i=1\/i=2 by lia) with rfl | rfl | rfl <;> rfl
theorem oS{a:Ad}{K:Frag}{m f s t:Nat}{H:Hp}{d b c:V}(g:RAt a K m H (bN 0 f) d)(j:RAt a K m H (bN f s) b)(l:RAt a K m H (bN (f+s) t) c){i:Nat}(h:i<=2):RAt a K m H (cS f s t i) (rvf d b c i):=by
 rcases(show i=0\/i=1\/i=2 by lia) with rfl | rfl | rfl
 .exact g
 .exact j
 .exact l
abbrev oL(xs:List Nat):HO:=.lst (xs.map λ(k:Nat)=>V.int (k:Int))
inductive spJoined(a:Ad)(K:Frag)(vs:List V)(H:Hp)(Q:VK)(_E:XK):Prop
 | mk(l:Addr)(m f s t way:Nat)(v0 v1 v2:V)(h0:vs=[.ref l,.int (way:Nat)])(h1:H l=some (.lst [v0,v1,v2]))(h2:RAt a K m H (bN 0 f) v0)(h3:RAt a K m H (bN f s) v1)(h4:RAt a K m H (bN (f+s) t) v2)(h5:1<=m)(h6:m<=2)(h7:f<=3)(h8:s<=3)(h9:t<=3)(h10:f+s+t<=7)(h11:way<12)(h12:tst m f s t way=true)(h13:TabsOk (tabs a) H)(h14:∀ H' r ys R,SameT H H'->TabsOk (tabs a) H'->H' r=some (.lst ys)->Paired (PotR a K m (f+s+t) H H') R ys->er m (f+s+t) R->R.length<=100000->(∀ r∈R,fbO r.2=true)->mgC [] R=true->alk m (f+s+t) R=true->Q (.ref r) H'):spJoined a K vs H Q _E
theorem dR(x y z:V):[x,y,z].length<=sizeLine:=by show 3<=sizeLine;decide
section
variable {P:Program}{w:World}{K:Frag}{mg:Str->Option Value}{base:Heap}{a:Ad}
theorem tZ(T:Txt K mg a)(hB:Bm mg base):FnOk P w K mg base CX0 21 a.f_L a.d_L ["_law_rows","_law_way"] (spJoined a K):=by
 have M:FnOk P w K mg base CX0 20 _ _ _ (spLPoured a K):=ow T hB;refine T.F_L.okQ sc_L (λvs H Q E h=>?_) (λcdv A outer s H vs Q E hr h=>?_)
 .obtain⟨l,m,f,s,t,c,X,Y,v2,rfl,_⟩:=h;rfl
 .obtain⟨l,m,f,s,t,c,X,Y,v2,rfl,hl,R0,R1,R2,m1,p,f3,s3,t3,n7,bl,a',hT,q⟩:=h
  have u:sizeLine=16777216:=sizeLine_eq;obtain⟨n,g,d,S⟩:=Tb.odr_ok c;obtain⟨I,tA,tM⟩:=Tb.tst_at S a';have sm:=S.sum f s t;refine⟨_,(jM (wZ (i:=2) sc_L.nd rfl (Or.inl rfl) (AA bj (eV (aC (eV (aC (bL am) (aC (bL am) (aC (bL am) eW)))) (aC (eV (aC (bL am) (aC (bL am) (aC (bL am) eW)))) (aC (eV (aC (bL am) (aC (bL am) (aC (bL am) eW)))) (aC (eV (aC (bL am) (aC (bL am) (aC (bL am) eW)))) (aC (eV (aC (bL am) (aC (bL am) (aC (bL am) eW)))) (aC (eV (aC (bL am) (aC (bL am) (aC (bL am) eW)))) eW))))))) (aw gm (vr 1) am) (λ_ _=>rfl))) (jM (lI (pi (cJ rfl (N:=["_law_k","_law_rows"]) (ix:=[none,some 0]) ⟨rfl,rfl,rfl,rfl,⟨rfl,rfl,rfl,trivial⟩⟩ (bI (vr 2)) ⟨λC s H fp=>ar (i:=0) (show List.Nodup (["_law_k","_law_rows"]:List Str) by decide +kernel) rfl (Or.inl rfl),λC s H fp=>cH,λC s H fp=>(ci (lD (K:=K) rfl) (vr 1) (vr 0) (λ_ _=>rfl))⟩) (wb rfl (au (ar (i:=3) sc_L.nd rfl (Or.inl rfl)) (au (ar (i:=4) sc_L.nd rfl (Or.inl rfl)) (au (ar (i:=5) sc_L.nd rfl (Or.inl rfl)) bR)))))) (jM (AH (cm tY (aw gm (aw eN (vr 1) am) am) am (bp _)) (qd (pQ (bL (ap M hr rfl T.m_s T.F_s.kp T.B_s .nil aq (aa (ap M hr rfl T.m_s T.F_s.kp T.B_s .nil aq (aa (vr 3) (aa (vr 4) ae))) (aa (vr 5) ae)))))) yf) (qd (pQ (bL (ap M hr rfl T.m_s T.F_s.kp T.B_s .nil aq (aa (vr 3) (aa (ap M hr rfl T.m_s T.F_s.kp T.B_s .nil aq (aa (vr 4) (aa (vr 5) ae))) ae))))))))),?_⟩;refine⟨dR _ _ _,λp0 g0=>?_⟩;have u0:=Same.new (o:=.lst [V.int 0,V.int 1,V.int 2]) g0;have w0:=ad (H:=H) (a:=p0) (o:=.lst [V.int 0,V.int 1,V.int 2]);generalize upd H p0 (.lst [V.int 0,V.int 1,V.int 2])=U0 at u0 w0;refine⟨dR _ _ _,λp1 g1=>?_⟩;have u1:=Same.new (o:=.lst [V.int 1,V.int 0,V.int 2]) g1;have w1:=ad (H:=U0) (a:=p1) (o:=.lst [V.int 1,V.int 0,V.int 2]);generalize upd U0 p1 (.lst [V.int 1,V.int 0,V.int 2])=U1 at u1 w1;refine⟨dR _ _ _,λp2 g2=>?_⟩;have u2:=Same.new (o:=.lst [V.int 2,V.int 0,V.int 1]) g2;have w2:=ad (H:=U1) (a:=p2) (o:=.lst [V.int 2,V.int 0,V.int 1])
  generalize upd U1 p2 (.lst [V.int 2,V.int 0,V.int 1])=U2 at u2 w2;refine⟨dR _ _ _,λp3 g3=>?_⟩;have u3:=Same.new (o:=.lst [V.int 0,V.int 2,V.int 1]) g3;have w3:=ad (H:=U2) (a:=p3) (o:=.lst [V.int 0,V.int 2,V.int 1]);generalize upd U2 p3 (.lst [V.int 0,V.int 2,V.int 1])=U3 at u3 w3;refine⟨dR _ _ _,λp4 g4=>?_⟩;have u4:=Same.new (o:=.lst [V.int 1,V.int 2,V.int 0]) g4;have w4:=ad (H:=U3) (a:=p4) (o:=.lst [V.int 1,V.int 2,V.int 0]);generalize upd U3 p4 (.lst [V.int 1,V.int 2,V.int 0])=U4 at u4 w4;refine⟨dR _ _ _,λp5 g5=>?_⟩;have Z:=Same.new (o:=.lst [V.int 2,V.int 1,V.int 0]) g5;have w5:=ad (H:=U4) (a:=p5) (o:=.lst [V.int 2,V.int 1,V.int 0]);generalize upd U4 p5 (.lst [V.int 2,V.int 1,V.int 0])=U5 at Z w5;refine⟨by rw[u];exact show(6:Nat)<=_ by decide,λpO gO=>?_⟩;have W:=Same.new (o:=.lst [V.ref p0,V.ref p1,V.ref p2,V.ref p3,V.ref p4,V.ref p5]) gO;have wO:=ad (H:=U5) (a:=pO) (o:=.lst [V.ref p0,V.ref p1,V.ref p2,V.ref p3,V.ref p4,V.ref p5]);generalize upd U5 pO (.lst [V.ref p0,V.ref p1,V.ref p2,V.ref p3,V.ref p4,V.ref p5])=U at W wO
  have sU:Same H U:=((((((u0.trans u1).trans u2).trans u3).trans u4).trans Z).trans W)
  obtain⟨po,hpo,hord⟩:∃ po,[V.ref p0,V.ref p1,V.ref p2,V.ref p3,V.ref p4,V.ref p5][c % 6]? = some (.ref po)/\U po=some (.lst [V.int (n:Nat),V.int (g:Nat),V.int (d:Nat)]):=by
   have eo:=S.eq;unfold odr at eo
   rcases(show c % 6=0\/c % 6=1\/c % 6=2\/c % 6=3\/c % 6=4\/c % 6=5 by lia) with z | z | z | z | z | z <;> rw[z]at eo ⊢ <;> injection eo with e1 eo <;> injection eo with e2 eo <;> injection eo with e3 eo <;> subst e1 e2 e3
   .exact⟨p0,rfl,W _ _ (Z _ _ (u4 _ _ (u3 _ _ (u2 _ _ (u1 _ _ w0)))))⟩
   .exact⟨p1,rfl,W _ _ (Z _ _ (u4 _ _ (u3 _ _ (u2 _ _ w1))))⟩
   .exact⟨p2,rfl,W _ _ (Z _ _ (u4 _ _ (u3 _ _ w2)))⟩
   .exact⟨p3,rfl,W _ _ (Z _ _ (u4 _ _ w3))⟩
   .exact⟨p4,rfl,W _ _ (Z _ _ w4)⟩
   .exact⟨p5,rfl,W _ _ w5⟩
  refine⟨cp,?_⟩;refine .inl ⟨pO,_,_,_,rfl,rfl,SqL.of wO,aJ (c % 6) (by lia) hpo,?_⟩;refine .inl ⟨⟨_,SqL.of hord⟩,λD hD=>?_⟩;have a9:=sU _ _ hl;clear u0 u1 u2 u3 u4 Z W w0 w1 w2 w3 w4 w5 wO hpo g0 g1 g2 g3 g4 g5 gO;have ab:=R0.t sU.t;have a1:=R1.t sU.t;have a0:=R2.t sU.t
  let Pw1:PvL:=λi zs H'=>Same U H'/\H' D=some (.lst zs)/\zs=([n,g,d].take i).map (rvf X Y v2)
  refine cE (K:=K) (a:=po) (xs:=[V.int (n:Nat),V.int (g:Nat),V.int (d:Nat)]) Pw1 ⟨Same.new hD,ad,rfl⟩ (λi ys H' h=>SqL.of (h.1 _ _ hord)) (λi ys H' h=>h.2.1) ?_ ?_
  .rintro i y zs H' P' hy ⟨s1,x,rfl⟩ hP
   obtain⟨k,hk,rfl,hk2⟩:∃ k:Nat,[n,g,d][i]? = some k/\V.int (k:Int)=y/\k<=2:=by
    rcases i with _ | _ | _ | i
    .cases hy;exact⟨n,rfl,rfl,S.l0⟩
    .cases hy;exact⟨g,rfl,rfl,S.l1⟩
    .cases hy;exact⟨d,rfl,rfl,S.l2⟩
    .cases hy
   have bg:i<[n,g,d].length:=(List.getElem?_eq_some_iff.mp hk).1;refine⟨⟨rfl,trivial⟩,.inl ⟨l,_,_,_,rfl,rfl,SqL.of (s1 _ _ a9),gC (j:=k) (Bf hk2),x,by rw[length_map,length_take,u];have:[n,g,d].length=3:=rfl;lia,hP _ _ ⟨s1.put hD,ad,?_⟩⟩⟩;rw[take_add_one,hk,map_append];rfl
  rintro zs H1 ⟨s1,x,rfl⟩;have x:H1 D=some (.lst [rvf X Y v2 n,rvf X Y v2 g,rvf X Y v2 d]):=x;refine⟨D,_,rfl,SqL.of x,rfl,_,_,rfl,_,_,rfl,_,_,rfl,rfl,?_⟩;have an:=sU.trans s1;have a5:=hT.same an;have Ra:=(oS ab a1 a0 S.l0).t s1.t;have Rb:=(oS ab a1 a0 S.l1).t s1.t;have Rc:=(oS ab a1 a0 S.l2).t s1.t;have la:=Tb.grp_len f3 s3 t3 n;have lb:=Tb.grp_len f3 s3 t3 g;have lc:=Tb.grp_len f3 s3 t3 d;have ka:=Tb.grp_lt n7 n;have kb:=Tb.grp_lt n7 g;have kc:=Tb.grp_lt n7 d;generalize rvf X Y v2 n=va at *;generalize rvf X Y v2 g=vb at *;generalize rvf X Y v2 d=vc at *;generalize cS f s t n=ga at *;generalize cS f s t g=gb at *;generalize cS f s t d=gc at *;obtain⟨Ha,pa,ya,rfl,a4,Pa⟩:=Ra;obtain⟨Hb,pb,yb,rfl,a3,Pb⟩:=Rb;obtain⟨Hc,pc,yc,rfl,a2,Pc⟩:=Rc;have A1:=Tb.strR_len (m:=m) la p;have A2:=Tb.strR_len (m:=m) lb p;have A3:=Tb.strR_len (m:=m) lc p;have J:=Tb.strR_ok (m:=m) ka;have R:=Tb.strR_ok (m:=m) kb;have L:=Tb.strR_ok (m:=m) kc;have a8:=an.t;have a7:∀ b,H1 b=none->H b=none:=λb e=>an.free e
  refine⟨cdB (by decide) (show Bt 70 _ by unfold Bt;lia),cp,?_⟩;refine ifC (λz=>?_) λz=>?_
  .have z:((c:Nat):Int)/6 % 2=0:=z
   rw[decide_eq_true (show c/6 % 2=0 by lia)]at I tA tM;unfold jnC at I;unfold jn3 at tA tM;rw[if_pos rfl]at I tA tM;simp only[Bool.and_eq_true]at I;obtain⟨⟨⟨c1,c2⟩,c3⟩,c4⟩:=I;have LP:=Tb.prM_len (m:=m) (c1:=ga.length) (c2:=gb.length) (A:=aE m ga) (B:=aE m gb);have LA:=Tb.prA_len (c1:=ga.length) (c2:=gb.length) p (A:=aE m ga) (B:=aE m gb) (by lia) (by lia);have LM:(aE m ga).length*((aE m gb).length*6)<=3*(3*6):=Nat.mul_le_mul A1 (Nat.mul_le_mul_right 6 A2);refine⟨Ha,Hb,pa,pb,m,ga.length,gb.length,aE m ga,aE m gb,ya,yb,rfl,a4,a3,Pa,Pb,J,R,m1,p,by lia,by lia,by lia,c1,c2,a5,λH2 r2 y2 O as f2 al P2=>?_⟩;have G:=Tb.prM_ok J R;have LB:=Tb.prA_len (c1:=ga.length+gb.length) (c2:=gc.length) p (A:=prM m ga.length gb.length (aE m ga) (aE m gb)) (B:=aE m gc) (by lia) (by lia);have LN:(prM m ga.length gb.length (aE m ga) (aE m gb)).length*((aE m gc).length*6)<=54*(3*6):=Nat.mul_le_mul (by lia) (Nat.mul_le_mul_right 6 A3);have LQ:=Tb.prM_len (m:=m) (c1:=ga.length+gb.length) (c2:=gc.length) (A:=prM m ga.length gb.length (aE m ga) (aE m gb)) (B:=aE m gc);refine⟨H1,Hc,r2,pc,m,ga.length+gb.length,gc.length,_,aE m gc,y2,yc,rfl,al,O.at a2,P2,ak (λr v h=>h.t O) Pc,G,L,m1,p,by lia,by lia,by lia,c3,c4,as,λH3 r3 y3 t3 hT3 f3' hr3 P3=>?_⟩;rw[sm]at P3;have F:=Tb.prM_ok G L;rw[sm]at F;exact q _ _ _ _ (a8.trans (O.trans t3)) hT3 hr3 (ak (λr v h=>PotR.up (λb e=>a7 b (O.free e)) h) P3) F (by lia) (Tb.mgR_fb c4) tM tA
  .have z:¬((c:Nat):Int)/6 % 2=0:=z
   rw[decide_eq_false (show ¬c/6 % 2=0 by lia)]at I tA tM;unfold jnC at I;unfold jn3 at tA tM;rw[if_neg (by decide)]at I tA tM;simp only[Bool.and_eq_true]at I;obtain⟨⟨⟨c1,c2⟩,c3⟩,c4⟩:=I;have LP:=Tb.prM_len (m:=m) (c1:=gb.length) (c2:=gc.length) (A:=aE m gb) (B:=aE m gc);have LA:=Tb.prA_len (c1:=gb.length) (c2:=gc.length) p (A:=aE m gb) (B:=aE m gc) (by lia) (by lia);have LM:(aE m gb).length*((aE m gc).length*6)<=3*(3*6):=Nat.mul_le_mul A2 (Nat.mul_le_mul_right 6 A3);refine⟨Hb,Hc,pb,pc,m,gb.length,gc.length,aE m gb,aE m gc,yb,yc,rfl,a3,a2,Pb,Pc,R,L,m1,p,by lia,by lia,by lia,c1,c2,a5,λH2 r2 y2 O as f2 al P2=>?_⟩;have G:=Tb.prM_ok R L;have LB:=Tb.prA_len (c1:=ga.length) (c2:=gb.length+gc.length) p (A:=aE m ga) (B:=prM m gb.length gc.length (aE m gb) (aE m gc)) (by lia) (by lia);have LN:(aE m ga).length*((prM m gb.length gc.length (aE m gb) (aE m gc)).length*6)<=3*(54*6):=Nat.mul_le_mul A1 (Nat.mul_le_mul_right 6 (by lia));have LQ:=Tb.prM_len (m:=m) (c1:=ga.length) (c2:=gb.length+gc.length) (A:=aE m ga) (B:=prM m gb.length gc.length (aE m gb) (aE m gc));refine⟨Ha,H1,pa,r2,m,ga.length,gb.length+gc.length,aE m ga,_,ya,y2,rfl,O.at a4,al,ak (λr v h=>h.t O) Pa,P2,J,G,m1,p,by lia,by lia,by lia,c3,c4,as,λH3 r3 y3 t3 hT3 f3' hr3 P3=>?_⟩;have a6:ga.length+(gb.length+gc.length)=f+s+t:=by lia
   rw[a6]at P3;have F:=Tb.prM_ok J G;rw[a6]at F;exact q _ _ _ _ (a8.trans (O.trans t3)) hT3 hr3 (ak (λr v h=>PotR.up (λb e=>a7 b (O.free e)) h) P3) F (by lia) (Tb.mgR_fb c4) tM tA
end
open Tb (Tr pN cM wo Pv stm stP Hd ch rng rnf pS tS Fn fpl ftm fbO isr Rw aE bH dW Mg bO mgs mgR mgF mgC er prR prA prM prC rwF alk bN cS odr OdR jn3 jnC tst)
theorem tm{i:Nat}{v:V}{σ σ':St}{H:Hp}{Q:St->Hp->Prop}(e:σ.set i (some v)=σ')(h:Q σ' H):nU i v σ H Q:=by
 subst e;exact h
theorem uE{a:Ad}{c:List Addr}{H:Hp}(b:∀ q∈tabs a,q.1∈c)(h:∀ P∈c,H P=some (.tbl #[])):TabsOk (tabs a) H:=λq d=>⟨#[],h _ (b q d),trivial,λ_ _=>.inl rfl⟩
theorem xy{xs:List V}{lo a:Option Int}{x:V}(h:x∈d9 xs lo a):x∈xs:=List.mem_of_mem_drop (List.mem_of_mem_take h)
abbrev lawK:Nat:=22
def sP:List V:=(nmS (bN 0 12)).map V.str
theorem yo:(("abcdefghijkl" : Str).cps.toList.map λ(c:Nat)=>V.str ⟨#[c]⟩)=sP:=by decide +kernel
theorem y9:∀ n,n<=7->d9 sP none (some ((n:Nat):Int))=(nmS (bN 0 n)).map V.str:=by decide +kernel
theorem yD:∀ f,f<=6->∀ s,s<=3->d9 sP (some ((f:Nat):Int)) (some ((f+s:Nat):Int))=(nmS (bN f s)).map V.str:=by decide +kernel
def RD(a:Ad)(K:Frag)(m:Nat)(D:Addr)(H:Hp)(g:List Nat)(v:V):Prop:=∃(H0:Hp) (l:Addr) (ys:List V) (o:HO),H0 D=some o/\l≠D/\v=.ref l/\H l=some (.lst ys)/\Paired (PotR a K m g.length H0 H) (aE m g) ys
theorem RD.t{a:Ad}{K:Frag}{m:Nat}{D:Addr}{H b:Hp}(s:SameT H b)(g:List Nat)(v:V)(h:RD a K m D H g v):RD a K m D b g v:=by
 obtain⟨i,l,d,o,c,n,f,j,p⟩:=h;exact⟨i,l,d,o,c,n,f,s.at j,ak (λr v h=>h.t s) p⟩
theorem RD.put{a:Ad}{K:Frag}{m:Nat}{D:Addr}{H:Hp}{q:List V}{p:HO}(d:H D=some (.lst q))(g:List Nat)(v:V)(h:RD a K m D H g v):RD a K m D (upd H D p) g v:=by
 obtain⟨j,l,f,o,b,c,i,n,s⟩:=h;exact⟨j,l,f,o,b,c,i,by rw[af c];exact n,ak (λr v h=>PotR.put b d h) s⟩
theorem RD.at{a:Ad}{K:Frag}{m:Nat}{D:Addr}{H:Hp}{g:List Nat}{v:V}(h:RD a K m D H g v):RAt a K m H g v:=by
 obtain⟨d,l,b,o,j,n,c,f,i⟩:=h;exact⟨d,l,b,c,f,i⟩
section
variable {P:Program}{w:World}{K:Frag}{mg:Str->Option Value}{base:Heap}{a:Ad}
theorem ok_law{ts:List Addr}(T:Txt K mg a)(hB:Bm mg base)(c6:∀ q∈tabs a,q.1∈ts):FnOk P w K mg base CX0 lawK a.f_af a.d_af ["_law_script"] (spLaw K ts):=by
 have a0:FnOk P w K mg base CX0 21 _ _ _ _:=(yq T).mono (by decide);have a4:FnOk P w K mg base CX0 21 _ _ _ _:=(oJ T).mono (by decide);have b5:FnOk P w K mg base CX0 21 _ _ _ _:=(sL T hB).mono (by decide);have c3:FnOk P w K mg base CX0 21 _ _ _ (spJoined a K):=tZ T hB;have cP:FnOk P w K mg base CX0 21 _ _ _ _:=(ti T).mono (by decide);refine T.F_af.ok sc_af (λvs H Q E h=>?_) (λcdv A outer s H vs Q E hr h=>?_)
 .obtain⟨p,l,rfl,_⟩:=h;rfl
 .obtain⟨p,l,rfl,hS,S,a7,q⟩:=h
  have b:sizeLine=16777216:=sizeLine_eq;have hT:=uE c6 a7;refine⟨_,(ai (aM (i:=1) sc_af.nd rfl (Or.inl rfl) (rm tY (aw gm (ap a0 hr rfl T.m_J T.F_J.kp T.B_J .nil aq (aa (vr 0) (aa am ae))) am) am (bp _))) (ai (pi (ap a4 hr rfl T.m_w T.F_w.kp T.B_w .nil aq (aa (ap a0 hr rfl T.m_J T.F_J.kp T.B_J .nil aq (aa (vr 0) (aa am ae))) (aa (vr 1) (aa (bW (aa am (aa am (aa am (aa am ae))))) ae)))) (wb rfl (au (ar (i:=2) sc_af.nd rfl (Or.inr rfl)) (au (ar (i:=3) sc_af.nd rfl (Or.inl rfl)) (au (ar (i:=4) sc_af.nd rfl (Or.inl rfl)) (au (ar (i:=5) sc_af.nd rfl (Or.inl rfl)) bR)))))) (sT (cg (cm zK (aw cu (aw cu (vr 3) (vr 4)) (vr 5)) am (bp _)) (aj (aM (i:=5) sc_af.nd rfl (Or.inl rfl) (aw gq (aw gq am (vr 3)) (vr 4)))) aT) (ai (aM (i:=6) sc_af.nd rfl (Or.inl rfl) (cK (nV rfl) rfl T.z_list gN (aa vq ae))) (ai (aM (i:=7) sc_af.nd rfl (Or.inl rfl) (bW (aa (dQ eS (vr 6) jc (dq (vr 3))) (aa (dQ eS (vr 6) (dq (vr 3)) (dq (aw cu (vr 3) (vr 4)))) (aa (dQ eS (vr 6) (dq (aw cu (vr 3) (vr 4))) (dq (aw cu (aw cu (vr 3) (vr 4)) (vr 5)))) ae))))) (ai (lf rfl (i:=8) sc_af.nd rfl rfl (by with_unfolding_all rfl) (N:=["_law_group","_law_most"]) (ix:=[none,some 2]) ⟨rfl,rfl,rfl,rfl,⟨rfl,rfl,rfl,trivial⟩⟩ (bI (vr 7)) ⟨λC s H fp=>ar (i:=0) (show List.Nodup (["_law_group","_law_most"]:List Str) by decide +kernel) rfl (Or.inl rfl),λC s H fp=>cH,λC s H fp=>(ap b5 hr rfl T.m_G T.F_G.kp T.B_G .nil aq (aa (aw cu (vr 1) am) (aa (vr 0) ae)))⟩) (ai (da PassesOwn.never rfl (bI (aw fo (dQ eS (vr 0) (dq am) (dq am)) (bW (aa am ae)))) (ar (i:=9) sc_af.nd rfl (Or.inl rfl)) (ai (aM (i:=10) sc_af.nd rfl (Or.inl rfl) (ci bj (ap a4 hr rfl T.m_w T.F_w.kp T.B_w .nil aq (aa (vr 9) (aa (vr 1) (aa (bW (aa am ae)) ae)))) am (λ_ _=>rfl))) (aj (cg (iu (iL (ap cP hr rfl T.m_N T.F_N.kp T.B_N .nil aq (aa (ap c3 hr rfl T.m_L T.F_L.kp T.B_L .nil aq (aa (vr 8) (aa (vr 10) ae))) (aa (dQ eS (vr 6) jc (dq (aw cu (aw cu (vr 3) (vr 4)) (vr 5)))) (aa (aw cu (vr 2) am) ae)))))) (aj (ax gw)) aT)))) (aj (ax gw))))))))),gg ?_⟩
  intro dk dd;refine⟨p,l,0,rfl,hS,S,by decide,by decide,⟨cp,?_⟩⟩;dsimp only[L2.tC,Al];generalize (if false=true then !decide (qB l 0 % 2=1) else decide (qB l 0 % 2=1))=d;refine tm (σ':=[some (.ref p),some (.bl d),none,none,none,none,none,none,none,none,none]) rfl ?_;refine⟨p,l,1,rfl,hS,S,by decide,by decide,⟨by rw[b];exact show(4:Nat)<=_ by decide,λpb a2=>⟨_,d,pb,[2,4,4,4],rfl,ad,by decide,by decide,λH1 l1 ns1 s1 f1 hl1 hB'=>?_⟩⟩⟩;have an:=(Same.new (o:=.lst [.int 2,.int 4,.int 4,.int 4]) a2).trans s1
  rcases hB' with _ | ⟨h1,_ | ⟨h2,_ | ⟨h3,_ | ⟨h4,hn⟩⟩⟩⟩
  cases hn;rename_i mo fi se th;refine⟨l1,_,rfl,SqL.of hl1,rfl,_,_,rfl,_,_,rfl,_,_,rfl,_,_,rfl,rfl,?_⟩
  obtain⟨f,rfl,f3⟩:∃ c:Nat,fi=(c:Int)/\c<=3:=⟨fi.toNat,by have:=h2.1;lia,by have:=h2.2;lia⟩
  obtain⟨g,rfl,g3⟩:∃ c:Nat,se=(c:Int)/\c<=3:=⟨se.toNat,by have:=h3.1;lia,by have:=h3.2;lia⟩
  obtain⟨m,em,m1,m2⟩:∃ c:Nat,mo+1=(c:Int)/\1<=c/\c<=2:=⟨(mo+1).toNat,by have:=h1.1;lia,by have:=h1.1;lia,by have:=h1.2;lia⟩
  refine tm (σ':=[some (.ref p),some (.bl d),some (.int mo),some (.int (f:Nat)),some (.int (g:Nat)),some (.int th),none,none,none,none,none]) rfl ?_;refine⟨(λσ' j=>j=H1/\∃ t:Nat,t<=3/\f+g+t<=7/\σ'=[some (.ref p),some (.bl d),some (.int mo),some (.int (f:Nat)),some (.int (g:Nat)),some (.int (t:Nat)),none,none,none,none,none]),?_,?_⟩
  .refine ifC (λz=>?_) λz=>?_
   .have z:7<(f:Int)+(g:Int)+th:=z
    have:=h4.2;refine⟨rfl,7 - f - g,by lia,by lia,?_⟩;rw[show(((7 - f - g:Nat)):Int)=7 - (f:Int) - (g:Int) by lia];rfl
   .have z:¬7<(f:Int)+(g:Int)+th:=z
    have:=h4.1;refine⟨rfl,th.toNat,by have:=h4.2;lia,by lia,?_⟩;rw[show((th.toNat:Nat):Int)=th by lia]
  rintro σ' j ⟨rfl,t,t3,n7,rfl⟩;have bS:=hT.same an;have a1:=an.seq hS;clear s1 hl1 f1 a2 hT a7 hS h2 h3 h4;refine wd ?_;intro c' dr df de;refine⟨"abcdefghijkl",rfl,by decide +kernel,λR bm=>?_⟩;rw[yo];have s2:=Same.new (o:=.lst sP) bm;have n:=ad (H:=j) (a:=R) (o:=.lst sP);generalize upd j R (.lst sP)=H2 at s2 n;refine tm (σ':=[some (.ref p),some (.bl d),some (.int mo),some (.int (f:Nat)),some (.int (g:Nat)),some (.int (t:Nat)),some (.ref R),none,none,none,none]) rfl ?_;refine⟨_,rfl,_,_,rfl,SqL.of n,λM a3=>?_⟩;rw[y9 f (by lia)];have u0:=Same.new (o:=.lst ((nmS (bN 0 f)).map V.str)) a3;have w0:=ad (H:=H2) (a:=M) (o:=.lst ((nmS (bN 0 f)).map V.str));generalize upd H2 M (.lst ((nmS (bN 0 f)).map V.str))=U0 at u0 w0;refine⟨_,rfl,_,rfl,_,_,rfl,SqL.of (u0 _ _ n),λW bo=>?_⟩;rw[show((f:Nat):Int)+((g:Nat):Int)=((f+g:Nat):Int) by lia,yD f (by lia) g g3];have u1:=Same.new (o:=.lst ((nmS (bN f g)).map V.str)) bo;have w1:=ad (H:=U0) (a:=W) (o:=.lst ((nmS (bN f g)).map V.str));generalize upd U0 W (.lst ((nmS (bN f g)).map V.str))=U1 at u1 w1;refine⟨_,rfl,_,rfl,_,_,rfl,SqL.of (u1 _ _ (u0 _ _ n)),λX bt=>?_⟩;rw[show((f:Nat):Int)+((g:Nat):Int)=((f+g:Nat):Int) by lia,show((f+g:Nat):Int)+((t:Nat):Int)=((f+g+t:Nat):Int) by lia,yD (f+g) (by lia) t t3];have u2:=Same.new (o:=.lst ((nmS (bN (f+g) t)).map V.str)) bt;have w2:=ad (H:=U1) (a:=X) (o:=.lst ((nmS (bN (f+g) t)).map V.str));generalize upd U1 X (.lst ((nmS (bN (f+g) t)).map V.str))=U2 at u2 w2;refine⟨dR _ _ _,λL bg=>?_⟩;have Z:=Same.new (o:=.lst [.ref M,.ref W,.ref X]) bg;have w3:=ad (H:=U2) (a:=L) (o:=.lst [.ref M,.ref W,.ref X]);generalize upd U2 L (.lst [.ref M,.ref W,.ref X])=U at Z w3;have as:=Z _ _ (u2 _ _ (u1 _ _ w0));have br:=Z _ _ (u2 _ _ w1);have a5:=Z _ _ w2;have sU:=s2.trans (u0.trans (u1.trans (u2.trans Z)));have a9:=Z _ _ (u2 _ _ (u1 _ _ (u0 _ _ n)));have c7:=bS.same sU;have cB:=sU.seq a1;clear u0 u1 u2 Z w0 w1 w2 s2 n a3 bo bt bg bm bS a1 an
  refine tm (σ':=[some (.ref p),some (.bl d),some (.int mo),some (.int (f:Nat)),some (.int (g:Nat)),some (.int (t:Nat)),some (.ref R),some (.ref L),none,none,none]) rfl ?_;refine .inl ⟨⟨_,SqL.of w3⟩,λD hD=>?_⟩
  have O:∀(i:Nat) (y:V),[V.ref M,V.ref W,V.ref X][i]? = some y->∃(gi:Addr) (ls:List Nat),y=.ref gi/\U gi=some (.lst ((nmS ls).map V.str))/\ls.length<=3/\(∀ k∈ls,k<7)/\[bN 0 f,bN f g,bN (f+g) t][i]? = some ls:=λi y Y=>by
   rcases i with _ | _ | _ | i
   .cases Y;exact⟨M,_,rfl,as,by rw[Tb.nmsF_len];exact f3,Tb.nmsF_lt (by lia),rfl⟩
   .cases Y;exact⟨W,_,rfl,br,by rw[Tb.nmsF_len];exact g3,Tb.nmsF_lt (by lia),rfl⟩
   .cases Y;exact⟨X,_,rfl,a5,by rw[Tb.nmsF_len];exact t3,Tb.nmsF_lt (by lia),rfl⟩
   .cases Y
  let Pw1:PvL:=λi zs j=>SameT U j/\TabsOk (tabs a) j/\j D=some (.lst zs)/\zs.length=i/\Paired (RD a K m D j) ([bN 0 f,bN f g,bN (f+g) t].take i) zs
  refine cE (K:=K) (a:=L) (xs:=[.ref M,.ref W,.ref X]) Pw1 ⟨(Same.new hD).t,c7.same (Same.new hD),ad,rfl,.nil⟩ (λi ys j h=>SqL.of (h.1.at w3)) (λi ys j h=>h.2.2.1) ?_ ?_
  .rintro i y zs H3 P' Y ⟨t4,al,F,zl,PR⟩ hP
   have dp:i<3:=(List.getElem?_eq_some_iff.mp Y).1;obtain⟨gi,ls,rfl,cx,l3,k7,c4⟩:=O i y Y;refine⟨⟨rfl,trivial⟩,gi,m,ls,(show [V.int (mo+1),V.ref gi]=[V.int (m:Nat),V.ref gi] by rw[em]),SqL.of (t4.at cx),m1,m2,l3,k7,al,λH5 r ys t5 G b4 cG P5=>?_⟩;have u:=t5.at F;have c1:r≠D:=λe=>by rw[e,F]at b4;cases b4
   refine⟨u,by lia,hP _ _ ⟨(t4.trans t5).put hD,G.put (λps e=>by rw[u]at e;cases e) (λφ e=>by rw[u]at e;cases e),ad,by rw[length_append,zl];rfl,?_⟩⟩;rw[take_add_one,c4];refine bB (RD.put u _ _ ⟨H3,r,ys,_,F,c1,rfl,cG,P5⟩) (ak (RD.put u) (ak (RD.t t5) PR))
  rintro zs H3 ⟨t4,al,F,zl,PR⟩;have PR:Paired (RD a K m D H3) [bN 0 f,bN f g,bN (f+g) t] zs:=PR
  rcases PR with _ | ⟨r0,_ | ⟨r1,_ | ⟨r2,hn⟩⟩⟩
  cases hn;rename_i v0 v1 v2;have R0:=r0.at;have R1:=r1.at;have R2:=r2.at;clear r0 r1 r2 O as br a5;have b0:=t4.at a9;have c2:=AU t4 cB;refine tm (σ':=[some (.ref p),some (.bl d),some (.int mo),some (.int (f:Nat)),some (.int (g:Nat)),some (.int (t:Nat)),some (.ref R),some (.ref L),some (.ref D),none,none]) rfl ?_;refine⟨_,rfl,_,rfl,_,_,rfl,c2,λr1 b'=>?_⟩;refine⟨by rw[b];exact show(1:Nat)<=_ by decide,λr2 cj=>?_⟩;have b1:=Same.new (o:=.lst (d9 (l.map V.int) (some 2) (some 5))) b';have b2:=Same.new (o:=.lst [.int 0]) cj;have cl:=iM (l.map V.int) (some 2) (some 5);rw[length_map]at cl;refine⟨r1,r2,_,_,rfl,rfl,b2 _ _ ad,ad,by show _+1<=sizeLine;lia,λr3 c0=>?_⟩;have b3:=(b1.trans b2).trans (Same.new (o:=.lst (d9 (l.map V.int) (some 2) (some 5)++[.int 0])) c0);have I:(upd (upd (upd H3 r1 (.lst (d9 (l.map V.int) (some 2) (some 5)))) r2 (.lst [.int 0])) r3 (.lst (d9 (l.map V.int) (some 2) (some 5)++[.int 0]))) r3=some (.lst (d9 (l.map V.int) (some 2) (some 5)++[.int 0])):=ad
  have a6:∀ x∈d9 (l.map V.int) (some 2) (some 5)++[.int 0],∃ c:Int,x=.int c:=λx hx=>by
   rcases mem_append.mp hx with h | h
   .obtain⟨c,_,rfl⟩:=mem_map.mp (xy h);exact⟨c,rfl⟩
   .exact⟨0,mem_singleton.mp h⟩
  generalize d9 (l.map V.int) (some 2) (some 5)++[V.int 0]=cs at b3 I a6;generalize upd (upd (upd H3 r1 (.lst (d9 (l.map V.int) (some 2) (some 5)))) r2 (.lst [.int 0])) r3 (.lst cs)=HA at b3 I;refine .inl ⟨⟨_,SqL.of I⟩,?_⟩
  let Pw2:PvS:=λi σ j=>SameT HA j/\TabsOk (tabs a) j/\∃(x9 J:Option V),σ=[some (.ref p),some (.bl d),some (.int mo),some (.int (f:Nat)),some (.int (g:Nat)),some (.int (t:Nat)),some (.ref R),some (.ref L),some (.ref D),x9,J]
  refine cY (K:=K) (a:=r3) (xs:=cs) Pw2 ⟨SameT.refl,al.same b3,none,none,rfl⟩ (λi σ j _ h=>SqL.of (h.1.at I)) ?_ ?_
  .rintro i yv σ H5 cW ⟨t5,G,x9,J,rfl⟩
   obtain⟨c,rfl⟩:=a6 yv (List.mem_of_getElem? cW);refine⟨by rw[b];exact show(1:Nat)<=_ by decide,λpw ca=>?_⟩;have e1:=Same.new (o:=.lst [.int 12]) ca;have bl:=ad (H:=H5) (a:=pw) (o:=.lst [.int 12]);generalize upd H5 pw (.lst [.int 12])=U1' at e1 bl;refine⟨c,d,pw,[12],rfl,bl,by decide,by decide,λU4 ln dm e4 c9 c8 cc=>?_⟩
   rcases cc with _ | ⟨h9,hn⟩
   cases hn;rename_i wy;refine .inl ⟨ln,_,_,_,rfl,rfl,SqL.of c8,aJ 0 rfl rfl,?_⟩
   obtain⟨way,rfl,w12⟩:∃ k:Nat,wy=(k:Int)/\k<12:=⟨wy.toNat,by have:=h9.1;lia,by have:=h9.2;lia⟩
   refine tm (i:=10) (v:=.int (way:Nat)) (σ:=[some (.ref p),some (.bl d),some (.int mo),some (.int (f:Nat)),some (.int (g:Nat)),some (.int (t:Nat)),some (.ref R),some (.ref L),some (.ref D),some (.int c),J]) (σ':=[some (.ref p),some (.bl d),some (.int mo),some (.int (f:Nat)),some (.int (g:Nat)),some (.int (t:Nat)),some (.ref R),some (.ref L),some (.ref D),some (.int c),some (.int (way:Nat))]) rfl ?_;have ab:=e1.trans e4;have B:=b3.t.trans (t5.trans ab.t);have bn:=Tb.tst_all m (by lia) f (by lia) g (by lia) t (by lia) n7 way w12;refine⟨D,m,f,g,t,way,v0,v1,v2,rfl,B.at F,R0.t B,R1.t B,R2.t B,m1,m2,f3,g3,t3,n7,w12,bn,G.same ab,λU6 r6 y6 R6 t6 cA ct P6 ck a8 b6 cy c5=>?_⟩;have co:=B.trans t6;refine⟨_,rfl,_,_,rfl,SqL.of (co.at b0),λr7 cT=>?_⟩;rw[show((f:Nat):Int)+((g:Nat):Int)+((t:Nat):Int)=((f+g+t:Nat):Int) by lia,y9 (f+g+t) n7];have e7:=Same.new (o:=.lst ((nmS (bN 0 (f+g+t))).map V.str)) cT;have a':=ad (H:=U6) (a:=r7) (o:=.lst ((nmS (bN 0 (f+g+t))).map V.str));generalize upd U6 r7 (.lst ((nmS (bN 0 (f+g+t))).map V.str))=U7 at e7 a';refine⟨_,r6,r7,m,f+g+t,R6,y6,(show [V.ref r6,V.ref r7,V.int (mo+1)]=[V.ref r6,V.ref r7,V.int (m:Nat)] by rw[em]),e7 _ _ ct,ak (λr v h=>h.t e7.t) P6,SqL.of a',ck,m1,m2,n7,a8,b6,cy,c5,λU8 e8=>?_⟩;exact⟨t5.trans (ab.t.trans (t6.trans (e7.trans e8).t)),cA.same (e7.trans e8),_,_,rfl⟩
  .rintro σ H5 ⟨t5,G,x9,J,rfl⟩
   exact q _
end
end My
namespace My
open PySem L2
theorem us0{a:Type}:∀{us:List a},us.length=0->us=[]
 | [],_=>rfl
theorem us1{a:Type}{us:List a}(h:us.length=1):∃ a0,us=[a0]:=by
 cases us with
 | nil=>cases h
 | cons a0 t=>obtain rfl:=us0 (Nat.succ.inj h);exact⟨a0,rfl⟩
theorem us2{a:Type}{us:List a}(h:us.length=2):∃ a0 a1,us=[a0,a1]:=by
 cases us with
 | nil=>cases h
 | cons a0 t=>obtain⟨a1,rfl⟩:=us1 (Nat.succ.inj h);exact⟨a0,a1,rfl⟩
theorem us3{a:Type}{us:List a}(h:us.length=3):∃ a0 a1 a2,us=[a0,a1,a2]:=by
 cases us with
 | nil=>cases h
 | cons a0 t=>obtain⟨a1,a2,rfl⟩:=us2 (Nat.succ.inj h);exact⟨a0,a1,a2,rfl⟩
theorem us4{a:Type}{us:List a}(h:us.length=4):∃ a0 a1 a2 a3,us=[a0,a1,a2,a3]:=by
 cases us with
 | nil=>cases h
 | cons a0 t=>obtain⟨a1,a2,a3,rfl⟩:=us3 (Nat.succ.inj h);exact⟨a0,a1,a2,a3,rfl⟩
theorem txt_mk{K:Frag}{h:Heap}{mg:Str->Option Value}{f0 f1 f2 f3 f4 f5 f6 f7 f8 f9 f10 f11 f12 f13 f14 f15 f16 f17 f18 f19 f20 f21 f22 f23 f24 f25 f26 f27 f28 f29 f30 f31 f32 f33 f34 c_R c_a i_a c_r c_p c_Z c_g i_g c_n i_n c_h i_h x_H dd_Pot_come x_o x_j x_u x_v x_D x_P x_A x_E x_B x_F x_l lc_b lp_b lc_z lp_z lc_i lp_i lc_c lp_c lc_d lp_d:Addr}{od0 an0 od1 an1 od2 an2 od3 an3 od4 an4 od5 an5 od6 an6 od7 an7 od8 an8 od9 an9 od10 an10 od11 an11 od12 an12 od13 an13 od14 an14 od15 an15 od16 an16 od17 an17 od18 an18 od19 an19 od20 an20 od21 an21 od22 an22 od23 an23 od24 an24 od25 an25 od26 an26 od27 an27 od28 an28 od29 an29 od30 an30 od31 an31 od32 an32 od33 an33 od34 an34 od_5 an_5 od_b an_b od_0 an_0 od_6 an_6 od_8 an_8 oo_Pot_come od_9 an_9 od_a an_a od_c an_c od_1 an_1 od_d an_d od_2 an_2 od_f an_f od_4 an_4 od_e an_e od_3 an_3 od_7 an_7 lod_11 lod_12 lod_10 lod_13 lod_14:Option Addr}{sl0 sl1 sl2 sl3 sl4 sl5 sl6 sl7 sl8 sl9 sl10 sl11 sl12 sl13 sl14 sl15 sl16 sl17 sl18 sl19 sl20 sl21 sl22 sl23 sl24 sl25 sl26 sl27 sl28 sl29 sl30 sl31 sl32 sl33 sl34 sl_5 sl_b sl_0 sl_6 sl_8 se_Pot_come sl_9 sl_a sl_c sl_1 sl_d sl_2 sl_f sl_4 sl_e sl_3 sl_7 lsl_11 lsl_12 lsl_10 lsl_13 lsl_14:Array (Option Value)}{oc0 kV0 dc0 pm0 cd0 ct0 oc1 kV1 dc1 pm1 cd1 ct1 oc2 kV2 dc2 pm2 cd2 ct2 oc3 kV3 dc3 pm3 cd3 ct3 oc4 kV4 dc4 pm4 cd4 ct4 oc5 kV5 dc5 pm5 cd5 ct5 oc6 kV6 dc6 pm6 cd6 ct6 oc7 kV7 dc7 pm7 cd7 ct7 oc8 kV8 dc8 pm8 cd8 ct8 oc9 kV9 dc9 pm9 cd9 ct9 oc10 kV10 dc10 pm10 cd10 ct10 oc11 kV11 dc11 pm11 cd11 ct11 oc12 kV12 dc12 pm12 cd12 ct12 oc13 kV13 dc13 pm13 cd13 ct13 oc14 kV14 dc14 pm14 cd14 ct14 oc15 kV15 dc15 pm15 cd15 ct15 oc16 kV16 dc16 pm16 cd16 ct16 oc17 kV17 dc17 pm17 cd17 ct17 oc18 kV18 dc18 pm18 cd18 ct18 oc19 kV19 dc19 pm19 cd19 ct19 oc20 kV20 dc20 pm20 cd20 ct20 oc21 kV21 dc21 pm21 cd21 ct21 oc22 kV22 dc22 pm22 cd22 ct22 oc23 kV23 dc23 pm23 cd23 ct23 oc24 kV24 dc24 pm24 cd24 ct24 oc25 kV25 dc25 pm25 cd25 ct25 oc26 kV26 dc26 pm26 cd26 ct26 oc27 kV27 dc27 pm27 cd27 ct27 oc28 kV28 dc28 pm28 cd28 ct28 oc29 kV29 dc29 pm29 cd29 ct29 oc30 kV30 dc30 pm30 cd30 ct30 oc31 kV31 dc31 pm31 cd31 ct31 oc32 kV32 dc32 pm32 cd32 ct32 oc33 kV33 dc33 pm33 cd33 ct33 oc34 kV34 dc34 pm34 cd34 ct34 u0 u1 u2 u3 u4 u5 oc_5 kV_5 dc_5 pm_5 cd_5 ct_5 oc_b kV_b dc_b pm_b cd_b ct_b oc_0 kV_0 dc_0 pm_0 cd_0 ct_0 oc_6 kV_6 dc_6 pm_6 cd_6 ct_6 oc_8 kV_8 dc_8 pm_8 cd_8 ct_8 oe_Pot_come ve_Pot_come oc_9 kV_9 dc_9 pm_9 cd_9 ct_9 oc_a kV_a dc_a pm_a cd_a ct_a oc_c kV_c dc_c pm_c cd_c ct_c oc_1 kV_1 dc_1 pm_1 cd_1 ct_1 oc_d kV_d dc_d pm_d cd_d ct_d oc_2 kV_2 dc_2 pm_2 cd_2 ct_2 oc_f kV_f dc_f pm_f cd_f ct_f oc_4 kV_4 dc_4 pm_4 cd_4 ct_4 oc_e kV_e dc_e pm_e cd_e ct_e oc_3 kV_3 dc_3 pm_3 cd_3 ct_3 oc_7 kV_7 dc_7 pm_7 cd_7 ct_7 lo_11 lo_12 lo_10 lo_13 lo_14:Value}{ne_Pot_come:Nat}{lvs_11 lvs_12 lvs_10 lvs_13 lvs_14:Array Value}(X:K.In h) (G:h.Ns mainGlobals mg)
  (a0:nsIn K mainGlobals "greatest_divisor" = some (some (.ref f0))) (l0:K.lookup f0=some ⟨oc0,od0,.func (fnOf "greatest_divisor" "greatest_divisor" (ah aA) (ag aA) (ac aA) .none kV0 dc0 pm0 an0 cd0 ct0),sl0⟩) (c0:codeIn K cd0 "greatest_divisor" = true) (k0:keepIn K (.ref f0)=true)
  (a1:nsIn K mainGlobals "least_multiple" = some (some (.ref f1))) (l1:K.lookup f1=some ⟨oc1,od1,.func (fnOf "least_multiple" "least_multiple" (ah aH) (ag aH) (ac aH) .none kV1 dc1 pm1 an1 cd1 ct1),sl1⟩) (c1:codeIn K cd1 "least_multiple" = true) (k1:keepIn K (.ref f1)=true)
  (a2:nsIn K mainGlobals "share" = some (some (.ref f2))) (l2:K.lookup f2=some ⟨oc2,od2,.func (fnOf "share" "share" (ah dA) (ag dA) (ac dA) .none kV2 dc2 pm2 an2 cd2 ct2),sl2⟩) (c2:codeIn K cd2 "share" = true) (k2:keepIn K (.ref f2)=true)
  (a3:nsIn K mainGlobals "plus" = some (some (.ref f3))) (l3:K.lookup f3=some ⟨oc3,od3,.func (fnOf "plus" "plus" (ah d7) (ag d7) (ac d7) .none kV3 dc3 pm3 an3 cd3 ct3),sl3⟩) (c3:codeIn K cd3 "plus" = true) (k3:keepIn K (.ref f3)=true)
  (a4:nsIn K mainGlobals "times" = some (some (.ref f4))) (l4:K.lookup f4=some ⟨oc4,od4,.func (fnOf "times" "times" (ah du) (ag du) (ac du) .none kV4 dc4 pm4 an4 cd4 ct4),sl4⟩) (c4:codeIn K cd4 "times" = true) (k4:keepIn K (.ref f4)=true)
  (a5:nsIn K mainGlobals "total" = some (some (.ref f5))) (l5:K.lookup f5=some ⟨oc5,od5,.func (fnOf "total" "total" (ah dF) (ag dF) (ac dF) .none kV5 dc5 pm5 an5 cd5 ct5),sl5⟩) (c5:codeIn K cd5 "total" = true) (k5:keepIn K (.ref f5)=true)
  (a6:nsIn K mainGlobals "is_whole" = some (some (.ref f6))) (l6:K.lookup f6=some ⟨oc6,od6,.func (fnOf "is_whole" "is_whole" (ah b8) (ag b8) (ac b8) .none kV6 dc6 pm6 an6 cd6 ct6),sl6⟩) (c6:codeIn K cd6 "is_whole" = true) (k6:keepIn K (.ref f6)=true)
  (a7:nsIn K mainGlobals "is_made_of" = some (some (.ref f7))) (l7:K.lookup f7=some ⟨oc7,od7,.func (fnOf "is_made_of" "is_made_of" (ah bh) (ag bh) (ac bh) .none kV7 dc7 pm7 an7 cd7 ct7),sl7⟩) (c7:codeIn K cd7 "is_made_of" = true) (k7:keepIn K (.ref f7)=true)
  (a8:nsIn K mainGlobals "is_name" = some (some (.ref f8))) (l8:K.lookup f8=some ⟨oc8,od8,.func (fnOf "is_name" "is_name" (ah cv) (ag cv) (ac cv) .none kV8 dc8 pm8 an8 cd8 ct8),sl8⟩) (c8:codeIn K cd8 "is_name" = true) (k8:keepIn K (.ref f8)=true)
  (a9:nsIn K mainGlobals "ways_of" = some (some (.ref f9))) (l9:K.lookup f9=some ⟨oc9,od9,.func (fnOf "ways_of" "ways_of" (ah cF) (ag cF) (ac cF) .none kV9 dc9 pm9 an9 cd9 ct9),sl9⟩) (c9:codeIn K cd9 "ways_of" = true) (k9:keepIn K (.ref f9)=true)
  (a10:nsIn K mainGlobals "table" = some (some (.ref f10))) (l10:K.lookup f10=some ⟨oc10,od10,.func (fnOf "table" "table" (ah dB) (ag dB) (ac dB) .none kV10 dc10 pm10 an10 cd10 ct10),sl10⟩) (c10:codeIn K cd10 "table" = true) (k10:keepIn K (.ref f10)=true)
  (a11:nsIn K mainGlobals "held_with" = some (some (.ref f11))) (l11:K.lookup f11=some ⟨oc11,od11,.func (fnOf "held_with" "held_with" (ah bA) (ag bA) (ac bA) .none kV11 dc11 pm11 an11 cd11 ct11),sl11⟩) (c11:codeIn K cd11 "held_with" = true) (k11:keepIn K (.ref f11)=true)
  (a12:nsIn K mainGlobals "streamed" = some (some (.ref f12))) (l12:K.lookup f12=some ⟨oc12,od12,.func (fnOf "streamed" "streamed" (ah b9) (ag b9) (ac b9) .none kV12 dc12 pm12 an12 cd12 ct12),sl12⟩) (c12:codeIn K cd12 "streamed" = true) (k12:keepIn K (.ref f12)=true)
  (a13:nsIn K mainGlobals "stream_node" = some (some (.ref f13))) (l13:K.lookup f13=some ⟨oc13,od13,.func (fnOf "stream_node" "stream_node" (ah aV) (ag aV) (ac aV) .none kV13 dc13 pm13 an13 cd13 ct13),sl13⟩) (c13:codeIn K cd13 "stream_node" = true) (k13:keepIn K (.ref f13)=true)
  (a14:nsIn K mainGlobals "stream_make" = some (some (.ref f14))) (l14:K.lookup f14=some ⟨oc14,od14,.func (fnOf "stream_make" "stream_make" (ah aR) (ag aR) (ac aR) .none kV14 dc14 pm14 an14 cd14 ct14),sl14⟩) (c14:codeIn K cd14 "stream_make" = true) (k14:keepIn K (.ref f14)=true)
  (a15:nsIn K mainGlobals "need_alike" = some (some (.ref f15))) (l15:K.lookup f15=some ⟨oc15,od15,.func (fnOf "need_alike" "need_alike" (ah bi) (ag bi) (ac bi) .none kV15 dc15 pm15 an15 cd15 ct15),sl15⟩) (c15:codeIn K cd15 "need_alike" = true) (k15:keepIn K (.ref f15)=true)
  (a16:nsIn K mainGlobals "poured" = some (some (.ref f16))) (l16:K.lookup f16=some ⟨oc16,od16,.func (fnOf "poured" "poured" (ah cN) (ag cN) (ac cN) .none kV16 dc16 pm16 an16 cd16 ct16),sl16⟩) (c16:codeIn K cd16 "poured" = true) (k16:keepIn K (.ref f16)=true)
  (a17:nsIn K mainGlobals "pour_node" = some (some (.ref f17))) (l17:K.lookup f17=some ⟨oc17,od17,.func (fnOf "pour_node" "pour_node" (ah aY) (ag aY) (ac aY) .none kV17 dc17 pm17 an17 cd17 ct17),sl17⟩) (c17:codeIn K cd17 "pour_node" = true) (k17:keepIn K (.ref f17)=true)
  (a18:nsIn K mainGlobals "from_one" = some (some (.ref f18))) (l18:K.lookup f18=some ⟨oc18,od18,.func (fnOf "from_one" "from_one" (ah bF) (ag bF) (ac bF) .none kV18 dc18 pm18 an18 cd18 ct18),sl18⟩) (c18:codeIn K cd18 "from_one" = true) (k18:keepIn K (.ref f18)=true)
  (a19:nsIn K mainGlobals "from_other" = some (some (.ref f19))) (l19:K.lookup f19=some ⟨oc19,od19,.func (fnOf "from_other" "from_other" (ah aX) (ag aX) (ac aX) .none kV19 dc19 pm19 an19 cd19 ct19),sl19⟩) (c19:codeIn K cd19 "from_other" = true) (k19:keepIn K (.ref f19)=true)
  (a20:nsIn K mainGlobals "without" = some (some (.ref f20))) (l20:K.lookup f20=some ⟨oc20,od20,.func (fnOf "without" "without" (ah cz) (ag cz) (ac cz) .none kV20 dc20 pm20 an20 cd20 ct20),sl20⟩) (c20:codeIn K cd20 "without" = true) (k20:keepIn K (.ref f20)=true)
  (a21:nsIn K mainGlobals "any_of" = some (some (.ref f21))) (l21:K.lookup f21=some ⟨oc21,od21,.func (fnOf "any_of" "any_of" (ah cO) (ag cO) (ac cO) .none kV21 dc21 pm21 an21 cd21 ct21),sl21⟩) (c21:codeIn K cd21 "any_of" = true) (k21:keepIn K (.ref f21)=true)
  (a22:nsIn K mainGlobals "going" = some (some (.ref f22))) (l22:K.lookup f22=some ⟨oc22,od22,.func (fnOf "going" "going" (ah cV) (ag cV) (ac cV) .none kV22 dc22 pm22 an22 cd22 ct22),sl22⟩) (c22:codeIn K cd22 "going" = true) (k22:keepIn K (.ref f22)=true)
  (a23:nsIn K mainGlobals "into" = some (some (.ref f23))) (l23:K.lookup f23=some ⟨oc23,od23,.func (fnOf "into" "into" (ah d8) (ag d8) (ac d8) .none kV23 dc23 pm23 an23 cd23 ct23),sl23⟩) (c23:codeIn K cd23 "into" = true) (k23:keepIn K (.ref f23)=true)
  (a24:nsIn K mainGlobals "_law_cell_at" = some (some (.ref f24))) (l24:K.lookup f24=some ⟨oc24,od24,.func (fnOf "_law_cell_at" "_law_cell_at" (ah bw) (ag bw) (ac bw) .none kV24 dc24 pm24 an24 cd24 ct24),sl24⟩) (c24:codeIn K cd24 "_law_cell_at" = true) (k24:keepIn K (.ref f24)=true)
  (a25:nsIn K mainGlobals "_law_mix" = some (some (.ref f25))) (l25:K.lookup f25=some ⟨oc25,od25,.func (fnOf "_law_mix" "_law_mix" (ah dl) (ag dl) (ac dl) .none kV25 dc25 pm25 an25 cd25 ct25),sl25⟩) (c25:codeIn K cd25 "_law_mix" = true) (k25:keepIn K (.ref f25)=true)
  (a26:nsIn K mainGlobals "_law_numbers" = some (some (.ref f26))) (l26:K.lookup f26=some ⟨oc26,od26,.func (fnOf "_law_numbers" "_law_numbers" (ah bv) (ag bv) (ac bv) .none kV26 dc26 pm26 an26 cd26 ct26),sl26⟩) (c26:codeIn K cd26 "_law_numbers" = true) (k26:keepIn K (.ref f26)=true)
  (a27:nsIn K mainGlobals "_law_choose" = some (some (.ref f27))) (l27:K.lookup f27=some ⟨oc27,od27,.func (fnOf "_law_choose" "_law_choose" (ah b7) (ag b7) (ac b7) .none kV27 dc27 pm27 an27 cd27 ct27),sl27⟩) (c27:codeIn K cd27 "_law_choose" = true) (k27:keepIn K (.ref f27)=true)
  (a28:nsIn K mainGlobals "_law_signs" = some (some (.ref f28))) (l28:K.lookup f28=some ⟨oc28,od28,.func (fnOf "_law_signs" "_law_signs" (ah cD) (ag cD) (ac cD) .none kV28 dc28 pm28 an28 cd28 ct28),sl28⟩) (c28:codeIn K cd28 "_law_signs" = true) (k28:keepIn K (.ref f28)=true)
  (a29:nsIn K mainGlobals "_law_stream" = some (some (.ref f29))) (l29:K.lookup f29=some ⟨oc29,od29,.func (fnOf "_law_stream" "_law_stream" (ah cb) (ag cb) (ac cb) .none kV29 dc29 pm29 an29 cd29 ct29),sl29⟩) (c29:codeIn K cd29 "_law_stream" = true) (k29:keepIn K (.ref f29)=true)
  (a30:nsIn K mainGlobals "_law_poured" = some (some (.ref f30))) (l30:K.lookup f30=some ⟨oc30,od30,.func (fnOf "_law_poured" "_law_poured" (ah bV) (ag bV) (ac bV) .none kV30 dc30 pm30 an30 cd30 ct30),sl30⟩) (c30:codeIn K cd30 "_law_poured" = true) (k30:keepIn K (.ref f30)=true)
  (a31:nsIn K mainGlobals "_law_merged" = some (some (.ref f31))) (l31:K.lookup f31=some ⟨oc31,od31,.func (fnOf "_law_merged" "_law_merged" (ah bU) (ag bU) (ac bU) .none kV31 dc31 pm31 an31 cd31 ct31),sl31⟩) (c31:codeIn K cd31 "_law_merged" = true) (k31:keepIn K (.ref f31)=true)
  (a32:nsIn K mainGlobals "_law_alike" = some (some (.ref f32))) (l32:K.lookup f32=some ⟨oc32,od32,.func (fnOf "_law_alike" "_law_alike" (ah cw) (ag cw) (ac cw) .none kV32 dc32 pm32 an32 cd32 ct32),sl32⟩) (c32:codeIn K cd32 "_law_alike" = true) (k32:keepIn K (.ref f32)=true)
  (a33:nsIn K mainGlobals "_law_joined" = some (some (.ref f33))) (l33:K.lookup f33=some ⟨oc33,od33,.func (fnOf "_law_joined" "_law_joined" (ah bZ) (ag bZ) (ac bZ) .none kV33 dc33 pm33 an33 cd33 ct33),sl33⟩) (c33:codeIn K cd33 "_law_joined" = true) (k33:keepIn K (.ref f33)=true)
  (a34:nsIn K mainGlobals "law" = some (some (.ref f34))) (l34:K.lookup f34=some ⟨oc34,od34,.func (fnOf "law" "law" (ah gE) (ag gE) (ac gE) .none kV34 dc34 pm34 an34 cd34 ct34),sl34⟩) (c34:codeIn K cd34 "law" = true) (k34:keepIn K (.ref f34)=true)
  (b0:nsIn K mainGlobals "LETTERS" = some (some u0))
  (b1:nsIn K mainGlobals "MOST_LETTERS" = some (some u1))
  (b2:nsIn K mainGlobals "MOST_WAYS" = some (some u2))
  (b3:nsIn K mainGlobals "MOST_KEPT" = some (some u3))
  (b4:nsIn K mainGlobals "MOST_STREAMED" = some (some u4))
  (b5:nsIn K mainGlobals "MOST_COME" = some (some u5))
  (ca_R:nsIn K mainGlobals "SpeakError" = some (some (.ref c_R))) (cb_R:keepIn K (.ref c_R)=true) (cc_R:nC K c_R=true)
  (cx_R:xIn K c_R none=true)
  (ca_a:nsIn K mainGlobals "NoThrow" = some (some (.ref c_a))) (cb_a:keepIn K (.ref c_a)=true) (cc_a:nC K c_a=true)
  (cf_a:findIn K (.ref c_a) "__init__" = some (some (.ref i_a))) (cx_a:xIn K c_a (some (.ref i_a))=true) (cg_a:isFn K (.ref i_a)=true)
  (cl_a:K.lookup i_a=some ⟨oc_5,od_5,.func (fnOf "__init__" "NoThrow.__init__" (ah aB) (ag aB) (ac aB) .none kV_5 dc_5 pm_5 an_5 cd_5 ct_5),sl_5⟩) (co_a:codeIn K cd_5 "NoThrow.__init__" = true) (ck_a:keepIn K (.ref i_a)=true)
  (cs_NoThrow_place:zB K c_a "place" = true)
  (ca_r:nsIn K mainGlobals "TooMany" = some (some (.ref c_r))) (cb_r:keepIn K (.ref c_r)=true) (cc_r:nC K c_r=true)
  (cx_r:xIn K c_r none=true)
  (ca_p:nsIn K mainGlobals "NoThing" = some (some (.ref c_p))) (cb_p:keepIn K (.ref c_p)=true) (cc_p:nC K c_p=true)
  (cx_p:xIn K c_p none=true)
  (ca_Z:nsIn K mainGlobals "Node" = some (some (.ref c_Z))) (pa_Z:plainGet K c_Z Str.empty=true) (pb_Z:hasDictIn K c_Z=true) (pc_Z:plainOver K c_Z=true)
  (pd_Z:findIn K (.ref c_Z) "__setattr__" = some (some (.builtin "object.__setattr__"))) (pe_Z:findIn K (.ref c_Z) "__class__" = some (some (.builtin "object.__class__"))) (pf_Z:specialIn K (.builtin "object.__class__") "__get__" = some (some (.builtin "getset_descriptor.__get__"))) (pg_Z:takesIn K (.builtin "object.__class__")=some true) (ph_Z:mroIn K c_Z (.type "object")=some true)
  (ca_g:nsIn K mainGlobals "Told" = some (some (.ref c_g))) (pa_g:plainGet K c_g Str.empty=true) (pb_g:hasDictIn K c_g=true) (pc_g:plainOver K c_g=true)
  (pd_g:findIn K (.ref c_g) "__setattr__" = some (some (.builtin "object.__setattr__"))) (pe_g:findIn K (.ref c_g) "__class__" = some (some (.builtin "object.__class__"))) (pf_g:specialIn K (.builtin "object.__class__") "__get__" = some (some (.builtin "getset_descriptor.__get__"))) (pg_g:takesIn K (.builtin "object.__class__")=some true) (ph_g:mroIn K c_g (.type "object")=some true)
  (qa_g:makesIn K c_g=true) (qb_g:findIn K (.ref c_g) "__init__" = some (some (.ref i_g))) (qc_g:isFn K (.ref i_g)=true) (qd_g:keepIn K (.ref c_g)=true)
  (qn_Told_rising:findIn K (.ref c_g) "rising" = some none)
  (cl_g:K.lookup i_g=some ⟨oc_b,od_b,.func (fnOf "__init__" "Told.__init__" (ah aK) (ag aK) (ac aK) .none kV_b dc_b pm_b an_b cd_b ct_b),sl_b⟩) (co_g:codeIn K cd_b "Told.__init__" = true) (ck_g:keepIn K (.ref i_g)=true)
  (ca_n:nsIn K mainGlobals "Die" = some (some (.ref c_n))) (pa_n:plainGet K c_n Str.empty=true) (pb_n:hasDictIn K c_n=true) (pc_n:plainOver K c_n=true)
  (pd_n:findIn K (.ref c_n) "__setattr__" = some (some (.builtin "object.__setattr__"))) (pe_n:findIn K (.ref c_n) "__class__" = some (some (.builtin "object.__class__"))) (pf_n:specialIn K (.builtin "object.__class__") "__get__" = some (some (.builtin "getset_descriptor.__get__"))) (pg_n:takesIn K (.builtin "object.__class__")=some true) (ph_n:mroIn K c_n (.type "object")=some true)
  (qa_n:makesIn K c_n=true) (qb_n:findIn K (.ref c_n) "__init__" = some (some (.ref i_n))) (qc_n:isFn K (.ref i_n)=true) (qd_n:keepIn K (.ref c_n)=true)
  (qn_Die_makes:findIn K (.ref c_n) "makes" = some none)
  (cl_n:K.lookup i_n=some ⟨oc_0,od_0,.func (fnOf "__init__" "Die.__init__" (ah aS) (ag aS) (ac aS) .none kV_0 dc_0 pm_0 an_0 cd_0 ct_0),sl_0⟩) (co_n:codeIn K cd_0 "Die.__init__" = true) (ck_n:keepIn K (.ref i_n)=true)
  (ca_h:nsIn K mainGlobals "Pot" = some (some (.ref c_h))) (pa_h:plainGet K c_h Str.empty=true) (pb_h:hasDictIn K c_h=true) (pc_h:plainOver K c_h=true)
  (pd_h:findIn K (.ref c_h) "__setattr__" = some (some (.builtin "object.__setattr__"))) (pe_h:findIn K (.ref c_h) "__class__" = some (some (.builtin "object.__class__"))) (pf_h:specialIn K (.builtin "object.__class__") "__get__" = some (some (.builtin "getset_descriptor.__get__"))) (pg_h:takesIn K (.builtin "object.__class__")=some true) (ph_h:mroIn K c_h (.type "object")=some true)
  (qa_h:makesIn K c_h=true) (qb_h:findIn K (.ref c_h) "__init__" = some (some (.ref i_h))) (qc_h:isFn K (.ref i_h)=true) (qd_h:keepIn K (.ref c_h)=true)
  (qn_Pot_most:findIn K (.ref c_h) "most" = some none)
  (qn_Pot_seen:findIn K (.ref c_h) "seen" = some none)
  (qn_Pot_held:findIn K (.ref c_h) "held" = some none)
  (cl_h:K.lookup i_h=some ⟨oc_6,od_6,.func (fnOf "__init__" "Pot.__init__" (ah aP) (ag aP) (ac aP) .none kV_6 dc_6 pm_6 an_6 cd_6 ct_6),sl_6⟩) (co_h:codeIn K cd_6 "Pot.__init__" = true) (ck_h:keepIn K (.ref i_h)=true)
  (mf_8:findIn K (.ref c_h) "come" = some (some (.ref x_H)))
  (ml_8:K.lookup x_H=some ⟨oc_8,od_8,.func (fnOf "come" "Pot.come" (ah cq) (ag cq) (ac cq) (.ref dd_Pot_come) kV_8 dc_8 pm_8 an_8 cd_8 ct_8),sl_8⟩) (mo_8:codeIn K cd_8 "Pot.come" = true) (mk_8:keepIn K (.ref x_H)=true) (mi_8:isFn K (.ref x_H)=true)
  (md_Pot_come:K.lookup dd_Pot_come=some ⟨oe_Pot_come,oo_Pot_come,.seq #[ve_Pot_come] ne_Pot_come,se_Pot_come⟩) (mv_Pot_come:RelV (.int 0) ve_Pot_come)
  (mf_9:findIn K (.ref c_h) "next_sides" = some (some (.ref x_o)))
  (ml_9:K.lookup x_o=some ⟨oc_9,od_9,.func (fnOf "next_sides" "Pot.next_sides" (ah aG) (ag aG) (ac aG) .none kV_9 dc_9 pm_9 an_9 cd_9 ct_9),sl_9⟩) (mo_9:codeIn K cd_9 "Pot.next_sides" = true) (mk_9:keepIn K (.ref x_o)=true) (mi_9:isFn K (.ref x_o)=true)
  (mf_a:findIn K (.ref c_h) "things" = some (some (.ref x_j)))
  (ml_a:K.lookup x_j=some ⟨oc_a,od_a,.func (fnOf "things" "Pot.things" (ah bf) (ag bf) (ac bf) .none kV_a dc_a pm_a an_a cd_a ct_a),sl_a⟩) (mo_a:codeIn K cd_a "Pot.things" = true) (mk_a:keepIn K (.ref x_j)=true) (mi_a:isFn K (.ref x_j)=true)
  (mf_c:findIn K (.ref c_g) "is_told" = some (some (.ref x_u)))
  (ml_c:K.lookup x_u=some ⟨oc_c,od_c,.func (fnOf "is_told" "Told.is_told" (ah aQ) (ag aQ) (ac aQ) .none kV_c dc_c pm_c an_c cd_c ct_c),sl_c⟩) (mo_c:codeIn K cd_c "Told.is_told" = true) (mk_c:keepIn K (.ref x_u)=true) (mi_c:isFn K (.ref x_u)=true)
  (mf_1:findIn K (.ref c_n) "is_told" = some (some (.ref x_v)))
  (ml_1:K.lookup x_v=some ⟨oc_1,od_1,.func (fnOf "is_told" "Die.is_told" (ah aW) (ag aW) (ac aW) .none kV_1 dc_1 pm_1 an_1 cd_1 ct_1),sl_1⟩) (mo_1:codeIn K cd_1 "Die.is_told" = true) (mk_1:keepIn K (.ref x_v)=true) (mi_1:isFn K (.ref x_v)=true)
  (mf_d:findIn K (.ref c_g) "kept" = some (some (.ref x_D)))
  (ml_d:K.lookup x_D=some ⟨oc_d,od_d,.func (fnOf "kept" "Told.kept" (ah bx) (ag bx) (ac bx) .none kV_d dc_d pm_d an_d cd_d ct_d),sl_d⟩) (mo_d:codeIn K cd_d "Told.kept" = true) (mk_d:keepIn K (.ref x_D)=true) (mi_d:isFn K (.ref x_D)=true)
  (mf_2:findIn K (.ref c_n) "kept" = some (some (.ref x_P)))
  (ml_2:K.lookup x_P=some ⟨oc_2,od_2,.func (fnOf "kept" "Die.kept" (ah bX) (ag bX) (ac bX) .none kV_2 dc_2 pm_2 an_2 cd_2 ct_2),sl_2⟩) (mo_2:codeIn K cd_2 "Die.kept" = true) (mk_2:keepIn K (.ref x_P)=true) (mi_2:isFn K (.ref x_P)=true)
  (mf_f:findIn K (.ref c_g) "sides" = some (some (.ref x_A)))
  (ml_f:K.lookup x_A=some ⟨oc_f,od_f,.func (fnOf "sides" "Told.sides" (ah bc) (ag bc) (ac bc) .none kV_f dc_f pm_f an_f cd_f ct_f),sl_f⟩) (mo_f:codeIn K cd_f "Told.sides" = true) (mk_f:keepIn K (.ref x_A)=true) (mi_f:isFn K (.ref x_A)=true)
  (mf_4:findIn K (.ref c_n) "sides" = some (some (.ref x_E)))
  (ml_4:K.lookup x_E=some ⟨oc_4,od_4,.func (fnOf "sides" "Die.sides" (ah bC) (ag bC) (ac bC) .none kV_4 dc_4 pm_4 an_4 cd_4 ct_4),sl_4⟩) (mo_4:codeIn K cd_4 "Die.sides" = true) (mk_4:keepIn K (.ref x_E)=true) (mi_4:isFn K (.ref x_E)=true)
  (mf_e:findIn K (.ref c_g) "parts" = some (some (.ref x_B)))
  (ml_e:K.lookup x_B=some ⟨oc_e,od_e,.func (fnOf "parts" "Told.parts" (ah be) (ag be) (ac be) .none kV_e dc_e pm_e an_e cd_e ct_e),sl_e⟩) (mo_e:codeIn K cd_e "Told.parts" = true) (mk_e:keepIn K (.ref x_B)=true) (mi_e:isFn K (.ref x_B)=true)
  (mf_3:findIn K (.ref c_n) "parts" = some (some (.ref x_F)))
  (ml_3:K.lookup x_F=some ⟨oc_3,od_3,.func (fnOf "parts" "Die.parts" (ah bz) (ag bz) (ac bz) .none kV_3 dc_3 pm_3 an_3 cd_3 ct_3),sl_3⟩) (mo_3:codeIn K cd_3 "Die.parts" = true) (mk_3:keepIn K (.ref x_F)=true) (mi_3:isFn K (.ref x_F)=true)
  (mf_7:findIn K (.ref c_h) "came" = some (some (.ref x_l)))
  (ml_7:K.lookup x_l=some ⟨oc_7,od_7,.func (fnOf "came" "Pot.came" (ah bY) (ag bY) (ac bY) .none kV_7 dc_7 pm_7 an_7 cd_7 ct_7),sl_7⟩) (mo_7:codeIn K cd_7 "Pot.came" = true) (mk_7:keepIn K (.ref x_l)=true) (mi_7:isFn K (.ref x_l)=true)
  (lca_11:cd19=.ref lc_b) (lct_11:K.lookup lc_b=some ⟨lo_11,lod_11,.fields lvs_11,lsl_11⟩) (lcq_11:lvs_11[11]? = some (.ref lp_b)) (lch_b:codeHdIn K lc_b lp_b=true)
  (lca_12:cd22=.ref lc_z) (lct_12:K.lookup lc_z=some ⟨lo_12,lod_12,.fields lvs_12,lsl_12⟩) (lcq_12:lvs_12[11]? = some (.ref lp_z)) (lch_z:codeHdIn K lc_z lp_z=true)
  (lca_10:cd18=.ref lc_i) (lct_10:K.lookup lc_i=some ⟨lo_10,lod_10,.fields lvs_10,lsl_10⟩) (lcq_10:lvs_10[11]? = some (.ref lp_i)) (lch_i:codeHdIn K lc_i lp_i=true)
  (lca_13:cd17=.ref lc_c) (lct_13:K.lookup lc_c=some ⟨lo_13,lod_13,.fields lvs_13,lsl_13⟩) (lcq_13:lvs_13[11]? = some (.ref lp_c)) (lch_c:codeHdIn K lc_c lp_c=true)
  (lca_14:cd14=.ref lc_d) (lct_14:K.lookup lc_d=some ⟨lo_14,lod_14,.fields lvs_14,lsl_14⟩) (lcq_14:lvs_14[11]? = some (.ref lp_d)) (lch_d:codeHdIn K lc_d lp_d=true)
  (ltnd:([lp_b,lp_z,lp_i,lp_c,lp_d]:List Addr).Nodup)
  (fact_tt:iq K c_p c_p=some true)
  (fact_tm:iq K c_r c_p=some false)
  (fact_tm2:iq K c_r c_r=some true)
  (fact_tw:iq K c_a c_p=some false)
  (fact_tw2:iq K c_a c_r=some false)
  (fact_tw3:iq K c_a c_a=some true)
  (z0:nsIn K mainGlobals "abs" = some none)
  (z1:nsIn K mainGlobals "all" = some none)
  (z2:nsIn K mainGlobals "bool" = some none)
  (z3:nsIn K mainGlobals "enumerate" = some none)
  (z4:nsIn K mainGlobals "int" = some none)
  (z5:nsIn K mainGlobals "isinstance" = some none)
  (z6:nsIn K mainGlobals "len" = some none)
  (z7:nsIn K mainGlobals "list" = some none)
  (z8:nsIn K mainGlobals "min" = some none)
  (z9:nsIn K mainGlobals "range" = some none)
  (z10:nsIn K mainGlobals "sorted" = some none)
  (z11:nsIn K mainGlobals "str" = some none)
  (z12:nsIn K mainGlobals "sum" = some none)
  (z13:nsIn K mainGlobals "tuple" = some none) (r0:RelV (.str "abcdefghijklmnopqrstuvwxyz") u0) (r1:RelV (.int 8) u1) (r2:RelV (.int 4096) u2) (r3:RelV (.int 24) u3) (r4:RelV (.int 24) u4) (r5:RelV (.int 300) u5):∃ a:Ad,Txt K mg a/\(tabs a).map (·.1)=[lp_b,lp_z,lp_i,lp_c,lp_d]:=by
 refine⟨{ f_k:=f0,d_k:=fnOf "greatest_divisor" "greatest_divisor" (ah aA) (ag aA) (ac aA) .none kV0 dc0 pm0 an0 cd0 ct0,f_q:=f1,d_q:=fnOf "least_multiple" "least_multiple" (ah aH) (ag aH) (ac aH) .none kV1 dc1 pm1 an1 cd1 ct1,f_I:=f2,d_I:=fnOf "share" "share" (ah dA) (ag dA) (ac dA) .none kV2 dc2 pm2 an2 cd2 ct2,f_ad:=f3,d_ad:=fnOf "plus" "plus" (ah d7) (ag d7) (ac d7) .none kV3 dc3 pm3 an3 cd3 ct3,f_ab:=f4,d_ab:=fnOf "times" "times" (ah du) (ag du) (ac du) .none kV4 dc4 pm4 an4 cd4 ct4,f_ac:=f5,d_ac:=fnOf "total" "total" (ah dF) (ag dF) (ac dF) .none kV5 dc5 pm5 an5 cd5 ct5,f_x:=f6,d_x:=fnOf "is_whole" "is_whole" (ah b8) (ag b8) (ac b8) .none kV6 dc6 pm6 an6 cd6 ct6,f_M:=f7,d_M:=fnOf "is_made_of" "is_made_of" (ah bh) (ag bh) (ac bh) .none kV7 dc7 pm7 an7 cd7 ct7,f_Y:=f8,d_Y:=fnOf "is_name" "is_name" (ah cv) (ag cv) (ac cv) .none kV8 dc8 pm8 an8 cd8 ct8,f_Q:=f9,d_Q:=fnOf "ways_of" "ways_of" (ah cF) (ag cF) (ac cF) .none kV9 dc9 pm9 an9 cd9 ct9,f_X:=f10,d_X:=fnOf "table" "table" (ah dB) (ag dB) (ac dB) .none kV10 dc10 pm10 an10 cd10 ct10,f_C:=f11,d_C:=fnOf "held_with" "held_with" (ah bA) (ag bA) (ac bA) .none kV11 dc11 pm11 an11 cd11 ct11,f_V:=f12,d_V:=fnOf "streamed" "streamed" (ah b9) (ag b9) (ac b9) .none kV12 dc12 pm12 an12 cd12 ct12,f_t:=f13,d_t:=fnOf "stream_node" "stream_node" (ah aV) (ag aV) (ac aV) .none kV13 dc13 pm13 an13 cd13 ct13,f_d:=f14,d_d:=fnOf "stream_make" "stream_make" (ah aR) (ag aR) (ac aR) .none kV14 dc14 pm14 an14 cd14 ct14,f_y:=f15,d_y:=fnOf "need_alike" "need_alike" (ah bi) (ag bi) (ac bi) .none kV15 dc15 pm15 an15 cd15 ct15,f_W:=f16,d_W:=fnOf "poured" "poured" (ah cN) (ag cN) (ac cN) .none kV16 dc16 pm16 an16 cd16 ct16,f_c:=f17,d_c:=fnOf "pour_node" "pour_node" (ah aY) (ag aY) (ac aY) .none kV17 dc17 pm17 an17 cd17 ct17,f_i:=f18,d_i:=fnOf "from_one" "from_one" (ah bF) (ag bF) (ac bF) .none kV18 dc18 pm18 an18 cd18 ct18,f_b:=f19,d_b:=fnOf "from_other" "from_other" (ah aX) (ag aX) (ac aX) .none kV19 dc19 pm19 an19 cd19 ct19,f_S:=f20,d_S:=fnOf "without" "without" (ah cz) (ag cz) (ac cz) .none kV20 dc20 pm20 an20 cd20 ct20,f_U:=f21,d_U:=fnOf "any_of" "any_of" (ah cO) (ag cO) (ac cO) .none kV21 dc21 pm21 an21 cd21 ct21,f_z:=f22,d_z:=fnOf "going" "going" (ah cV) (ag cV) (ac cV) .none kV22 dc22 pm22 an22 cd22 ct22,f_ae:=f23,d_ae:=fnOf "into" "into" (ah d8) (ag d8) (ac d8) .none kV23 dc23 pm23 an23 cd23 ct23,f_J:=f24,d_J:=fnOf "_law_cell_at" "_law_cell_at" (ah bw) (ag bw) (ac bw) .none kV24 dc24 pm24 an24 cd24 ct24,f_aa:=f25,d_aa:=fnOf "_law_mix" "_law_mix" (ah dl) (ag dl) (ac dl) .none kV25 dc25 pm25 an25 cd25 ct25,f_w:=f26,d_w:=fnOf "_law_numbers" "_law_numbers" (ah bv) (ag bv) (ac bv) .none kV26 dc26 pm26 an26 cd26 ct26,f_O:=f27,d_O:=fnOf "_law_choose" "_law_choose" (ah b7) (ag b7) (ac b7) .none kV27 dc27 pm27 an27 cd27 ct27,f_T:=f28,d_T:=fnOf "_law_signs" "_law_signs" (ah cD) (ag cD) (ac cD) .none kV28 dc28 pm28 an28 cd28 ct28,f_G:=f29,d_G:=fnOf "_law_stream" "_law_stream" (ah cb) (ag cb) (ac cb) .none kV29 dc29 pm29 an29 cd29 ct29,f_s:=f30,d_s:=fnOf "_law_poured" "_law_poured" (ah bV) (ag bV) (ac bV) .none kV30 dc30 pm30 an30 cd30 ct30,f_K:=f31,d_K:=fnOf "_law_merged" "_law_merged" (ah bU) (ag bU) (ac bU) .none kV31 dc31 pm31 an31 cd31 ct31,f_N:=f32,d_N:=fnOf "_law_alike" "_law_alike" (ah cw) (ag cw) (ac cw) .none kV32 dc32 pm32 an32 cd32 ct32,f_L:=f33,d_L:=fnOf "_law_joined" "_law_joined" (ah bZ) (ag bZ) (ac bZ) .none kV33 dc33 pm33 an33 cd33 ct33,f_af:=f34,d_af:=fnOf "law" "law" (ah gE) (ag gE) (ac gE) .none kV34 dc34 pm34 an34 cd34 ct34,c_R:=c_R,c_a:=c_a,i_a:=i_a,e_a:=fnOf "__init__" "NoThrow.__init__" (ah aB) (ag aB) (ac aB) .none kV_5 dc_5 pm_5 an_5 cd_5 ct_5,c_r:=c_r,c_p:=c_p,c_Z:=c_Z,c_g:=c_g,i_g:=i_g,e_g:=fnOf "__init__" "Told.__init__" (ah aK) (ag aK) (ac aK) .none kV_b dc_b pm_b an_b cd_b ct_b,c_n:=c_n,i_n:=i_n,e_n:=fnOf "__init__" "Die.__init__" (ah aS) (ag aS) (ac aS) .none kV_0 dc_0 pm_0 an_0 cd_0 ct_0,c_h:=c_h,i_h:=i_h,e_h:=fnOf "__init__" "Pot.__init__" (ah aP) (ag aP) (ac aP) .none kV_6 dc_6 pm_6 an_6 cd_6 ct_6,x_H:=x_H,y_H:=fnOf "come" "Pot.come" (ah cq) (ag cq) (ac cq) (.ref dd_Pot_come) kV_8 dc_8 pm_8 an_8 cd_8 ct_8,v_Pot_come:=ve_Pot_come,x_o:=x_o,y_o:=fnOf "next_sides" "Pot.next_sides" (ah aG) (ag aG) (ac aG) .none kV_9 dc_9 pm_9 an_9 cd_9 ct_9,x_j:=x_j,y_j:=fnOf "things" "Pot.things" (ah bf) (ag bf) (ac bf) .none kV_a dc_a pm_a an_a cd_a ct_a,x_u:=x_u,y_u:=fnOf "is_told" "Told.is_told" (ah aQ) (ag aQ) (ac aQ) .none kV_c dc_c pm_c an_c cd_c ct_c,x_v:=x_v,y_v:=fnOf "is_told" "Die.is_told" (ah aW) (ag aW) (ac aW) .none kV_1 dc_1 pm_1 an_1 cd_1 ct_1,x_D:=x_D,y_D:=fnOf "kept" "Told.kept" (ah bx) (ag bx) (ac bx) .none kV_d dc_d pm_d an_d cd_d ct_d,x_P:=x_P,y_P:=fnOf "kept" "Die.kept" (ah bX) (ag bX) (ac bX) .none kV_2 dc_2 pm_2 an_2 cd_2 ct_2,x_A:=x_A,y_A:=fnOf "sides" "Told.sides" (ah bc) (ag bc) (ac bc) .none kV_f dc_f pm_f an_f cd_f ct_f,x_E:=x_E,y_E:=fnOf "sides" "Die.sides" (ah bC) (ag bC) (ac bC) .none kV_4 dc_4 pm_4 an_4 cd_4 ct_4,x_B:=x_B,y_B:=fnOf "parts" "Told.parts" (ah be) (ag be) (ac be) .none kV_e dc_e pm_e an_e cd_e ct_e,x_F:=x_F,y_F:=fnOf "parts" "Die.parts" (ah bz) (ag bz) (ac bz) .none kV_3 dc_3 pm_3 an_3 cd_3 ct_3,x_l:=x_l,y_l:=fnOf "came" "Pot.came" (ah bY) (ag bY) (ac bY) .none kV_7 dc_7 pm_7 an_7 cd_7 ct_7,lc_b:=lc_b,lp_b:=lp_b,lc_z:=lc_z,lp_z:=lp_z,lc_i:=lc_i,lp_i:=lp_i,lc_c:=lc_c,lp_c:=lp_c,lc_d:=lc_d,lp_d:=lp_d },?_,rfl⟩
 exact {
  lcd_b:=lca_11
  lch_b:=lch_b
  lcd_z:=lca_12
  lch_z:=lch_z
  lcd_i:=lca_10
  lch_i:=lch_i
  lcd_c:=lca_13
  lch_c:=lch_c
  lcd_d:=lca_14
  lch_d:=lch_d
  tnd:=ltnd
  F_k:=ao l0 c0 k0
  B_k:=(ao l0 c0 k0).binds (ps:=["one","other"]) λ_ _ _ _ _ _ us hl=>(by obtain⟨_,_,rfl⟩:=us2 hl;rfl)
  m_k:=mg_of X G a0
  F_q:=ao l1 c1 k1
  B_q:=(ao l1 c1 k1).binds (ps:=["numbers"]) λ_ _ _ _ _ _ us hl=>(by obtain⟨_,rfl⟩:=us1 hl;rfl)
  m_q:=mg_of X G a1
  F_I:=ao l2 c2 k2
  B_I:=(ao l2 c2 k2).binds (ps:=["top","bottom"]) λ_ _ _ _ _ _ us hl=>(by obtain⟨_,_,rfl⟩:=us2 hl;rfl)
  m_I:=mg_of X G a2
  F_ad:=ao l3 c3 k3
  B_ad:=(ao l3 c3 k3).binds (ps:=["one","other"]) λ_ _ _ _ _ _ us hl=>(by obtain⟨_,_,rfl⟩:=us2 hl;rfl)
  m_ad:=mg_of X G a3
  F_ab:=ao l4 c4 k4
  B_ab:=(ao l4 c4 k4).binds (ps:=["one","other"]) λ_ _ _ _ _ _ us hl=>(by obtain⟨_,_,rfl⟩:=us2 hl;rfl)
  m_ab:=mg_of X G a4
  F_ac:=ao l5 c5 k5
  B_ac:=(ao l5 c5 k5).binds (ps:=["fractions"]) λ_ _ _ _ _ _ us hl=>(by obtain⟨_,rfl⟩:=us1 hl;rfl)
  m_ac:=mg_of X G a5
  F_x:=ao l6 c6 k6
  B_x:=(ao l6 c6 k6).binds (ps:=["thing","low","high"]) λ_ _ _ _ _ _ us hl=>(by obtain⟨_,_,_,rfl⟩:=us3 hl;rfl)
  m_x:=mg_of X G a6
  F_M:=ao l7 c7 k7
  B_M:=(ao l7 c7 k7).binds (ps:=["text","signs","most"]) λ_ _ _ _ _ _ us hl=>(by obtain⟨_,_,_,rfl⟩:=us3 hl;rfl)
  m_M:=mg_of X G a7
  F_Y:=ao l8 c8 k8
  B_Y:=(ao l8 c8 k8).binds (ps:=["thing"]) λ_ _ _ _ _ _ us hl=>(by obtain⟨_,rfl⟩:=us1 hl;rfl)
  m_Y:=mg_of X G a8
  F_Q:=ao l9 c9 k9
  B_Q:=(ao l9 c9 k9).binds (ps:=["node"]) λ_ _ _ _ _ _ us hl=>(by obtain⟨_,rfl⟩:=us1 hl;rfl)
  m_Q:=mg_of X G a9
  F_X:=ao l10 c10 k10
  B_X:=(ao l10 c10 k10).binds (ps:=["node"]) λ_ _ _ _ _ _ us hl=>(by obtain⟨_,rfl⟩:=us1 hl;rfl)
  m_X:=mg_of X G a10
  F_C:=ao l11 c11 k11
  B_C:=(ao l11 c11 k11).binds (ps:=["held","most","thing","throw"]) λ_ _ _ _ _ _ us hl=>(by obtain⟨_,_,_,_,rfl⟩:=us4 hl;rfl)
  m_C:=mg_of X G a11
  F_V:=ao l12 c12 k12
  B_V:=(ao l12 c12 k12).binds (ps:=["many","most"]) λ_ _ _ _ _ _ us hl=>(by obtain⟨_,_,rfl⟩:=us2 hl;rfl)
  m_V:=mg_of X G a12
  F_t:=ao l13 c13 k13
  B_t:=(ao l13 c13 k13).binds (ps:=["held","number","many"]) λ_ _ _ _ _ _ us hl=>(by obtain⟨_,_,_,rfl⟩:=us3 hl;rfl)
  m_t:=mg_of X G a13
  F_d:=ao l14 c14 k14
  B_d:=(ao l14 c14 k14).binds (ps:=["held","number","many"]) λ_ _ _ _ _ _ us hl=>(by obtain⟨_,_,_,rfl⟩:=us3 hl;rfl)
  m_d:=mg_of X G a14
  F_y:=ao l15 c15 k15
  B_y:=(ao l15 c15 k15).binds (ps:=["one","other"]) λ_ _ _ _ _ _ us hl=>(by obtain⟨_,_,rfl⟩:=us2 hl;rfl)
  m_y:=mg_of X G a15
  F_W:=ao l16 c16 k16
  B_W:=(ao l16 c16 k16).binds (ps:=["one","other"]) λ_ _ _ _ _ _ us hl=>(by obtain⟨_,_,rfl⟩:=us2 hl;rfl)
  m_W:=mg_of X G a16
  F_c:=ao l17 c17 k17
  B_c:=(ao l17 c17 k17).binds (ps:=["wanted","one","other","taken"]) λ_ _ _ _ _ _ us hl=>(by obtain⟨_,_,_,_,rfl⟩:=us4 hl;rfl)
  m_c:=mg_of X G a17
  F_i:=ao l18 c18 k18
  B_i:=(ao l18 c18 k18).binds (ps:=["wanted","one","other","taken"]) λ_ _ _ _ _ _ us hl=>(by obtain⟨_,_,_,_,rfl⟩:=us4 hl;rfl)
  m_i:=mg_of X G a18
  F_b:=ao l19 c19 k19
  B_b:=(ao l19 c19 k19).binds (ps:=["wanted","one","other","taken"]) λ_ _ _ _ _ _ us hl=>(by obtain⟨_,_,_,_,rfl⟩:=us4 hl;rfl)
  m_b:=mg_of X G a19
  F_S:=ao l20 c20 k20
  B_S:=(ao l20 c20 k20).binds (ps:=["pot","place"]) λ_ _ _ _ _ _ us hl=>(by obtain⟨_,_,rfl⟩:=us2 hl;rfl)
  m_S:=mg_of X G a20
  F_U:=ao l21 c21 k21
  B_U:=(ao l21 c21 k21).binds (ps:=["places","go"]) λ_ _ _ _ _ _ us hl=>(by obtain⟨_,_,rfl⟩:=us2 hl;rfl)
  m_U:=mg_of X G a21
  F_z:=ao l22 c22 k22
  B_z:=(ao l22 c22 k22).binds (ps:=["go","place"]) λ_ _ _ _ _ _ us hl=>(by obtain⟨_,_,rfl⟩:=us2 hl;rfl)
  m_z:=mg_of X G a22
  F_ae:=ao l23 c23 k23
  B_ae:=(ao l23 c23 k23).binds (ps:=["one","other","kept"]) λ_ _ _ _ _ _ us hl=>(by obtain⟨_,_,_,rfl⟩:=us3 hl;rfl)
  m_ae:=mg_of X G a23
  F_J:=ao l24 c24 k24
  B_J:=(ao l24 c24 k24).binds (ps:=["_law_script","_law_k"]) λ_ _ _ _ _ _ us hl=>(by obtain⟨_,_,rfl⟩:=us2 hl;rfl)
  m_J:=mg_of X G a24
  F_aa:=ao l25 c25 k25
  B_aa:=(ao l25 c25 k25).binds (ps:=["_law_cell","_law_k"]) λ_ _ _ _ _ _ us hl=>(by obtain⟨_,_,rfl⟩:=us2 hl;rfl)
  m_aa:=mg_of X G a25
  F_w:=ao l26 c26 k26
  B_w:=(ao l26 c26 k26).binds (ps:=["_law_cell","_law_digits","_law_bases"]) λ_ _ _ _ _ _ us hl=>(by obtain⟨_,_,_,rfl⟩:=us3 hl;rfl)
  m_w:=mg_of X G a26
  F_O:=ao l27 c27 k27
  B_O:=(ao l27 c27 k27).binds (ps:=["_law_many","_law_few"]) λ_ _ _ _ _ _ us hl=>(by obtain⟨_,_,rfl⟩:=us2 hl;rfl)
  m_O:=mg_of X G a27
  F_T:=ao l28 c28 k28
  B_T:=(ao l28 c28 k28).binds (ps:=["_law_names"]) λ_ _ _ _ _ _ us hl=>(by obtain⟨_,rfl⟩:=us1 hl;rfl)
  m_T:=mg_of X G a28
  F_G:=ao l29 c29 k29
  B_G:=(ao l29 c29 k29).binds (ps:=["_law_most","_law_names"]) λ_ _ _ _ _ _ us hl=>(by obtain⟨_,_,rfl⟩:=us2 hl;rfl)
  m_G:=mg_of X G a29
  F_s:=ao l30 c30 k30
  B_s:=(ao l30 c30 k30).binds (ps:=["_law_ones","_law_others"]) λ_ _ _ _ _ _ us hl=>(by obtain⟨_,_,rfl⟩:=us2 hl;rfl)
  m_s:=mg_of X G a30
  F_K:=ao l31 c31 k31
  B_K:=(ao l31 c31 k31).binds (ps:=["_law_pots"]) λ_ _ _ _ _ _ us hl=>(by obtain⟨_,rfl⟩:=us1 hl;rfl)
  m_K:=mg_of X G a31
  F_N:=ao l32 c32 k32
  B_N:=(ao l32 c32 k32).binds (ps:=["_law_pots","_law_names","_law_most"]) λ_ _ _ _ _ _ us hl=>(by obtain⟨_,_,_,rfl⟩:=us3 hl;rfl)
  m_N:=mg_of X G a32
  F_L:=ao l33 c33 k33
  B_L:=(ao l33 c33 k33).binds (ps:=["_law_rows","_law_way"]) λ_ _ _ _ _ _ us hl=>(by obtain⟨_,_,rfl⟩:=us2 hl;rfl)
  m_L:=mg_of X G a33
  F_af:=ao l34 c34 k34
  m_af:=mg_of X G a34
  F_H:=wI ml_8 mo_8 mk_8
  B_H:=ji (ds:=[]) rfl md_Pot_come rfl λus hl=>match us,hl with | [_,_,_],_=>⟨_,rfl,rfl⟩
  Bd_Pot_come:=ji (ds:=[ve_Pot_come]) rfl md_Pot_come rfl λus hl=>let ⟨_,_,e⟩:=Ae hl;e ▸ ⟨_,rfl,rfl⟩
  Rv_Pot_come:=mv_Pot_come
  F_o:=ao ml_9 mo_9 mk_9
  B_o:=(ao ml_9 mo_9 mk_9).binds (ps:=["self"]) λ_ _ _ _ _ _ us hl=>(by obtain⟨_,rfl⟩:=us1 hl;rfl)
  F_j:=ao ml_a mo_a mk_a
  B_j:=(ao ml_a mo_a mk_a).binds (ps:=["self"]) λ_ _ _ _ _ _ us hl=>(by obtain⟨_,rfl⟩:=us1 hl;rfl)
  F_u:=ao ml_c mo_c mk_c
  B_u:=(ao ml_c mo_c mk_c).binds (ps:=["self"]) λ_ _ _ _ _ _ us hl=>(by obtain⟨_,rfl⟩:=us1 hl;rfl)
  F_v:=ao ml_1 mo_1 mk_1
  B_v:=(ao ml_1 mo_1 mk_1).binds (ps:=["self"]) λ_ _ _ _ _ _ us hl=>(by obtain⟨_,rfl⟩:=us1 hl;rfl)
  F_D:=ao ml_d mo_d mk_d
  B_D:=(ao ml_d mo_d mk_d).binds (ps:=["self"]) λ_ _ _ _ _ _ us hl=>(by obtain⟨_,rfl⟩:=us1 hl;rfl)
  F_P:=ao ml_2 mo_2 mk_2
  B_P:=(ao ml_2 mo_2 mk_2).binds (ps:=["self"]) λ_ _ _ _ _ _ us hl=>(by obtain⟨_,rfl⟩:=us1 hl;rfl)
  F_A:=ao ml_f mo_f mk_f
  B_A:=(ao ml_f mo_f mk_f).binds (ps:=["self"]) λ_ _ _ _ _ _ us hl=>(by obtain⟨_,rfl⟩:=us1 hl;rfl)
  F_E:=ao ml_4 mo_4 mk_4
  B_E:=(ao ml_4 mo_4 mk_4).binds (ps:=["self"]) λ_ _ _ _ _ _ us hl=>(by obtain⟨_,rfl⟩:=us1 hl;rfl)
  F_B:=ao ml_e mo_e mk_e
  B_B:=(ao ml_e mo_e mk_e).binds (ps:=["self"]) λ_ _ _ _ _ _ us hl=>(by obtain⟨_,rfl⟩:=us1 hl;rfl)
  F_F:=ao ml_3 mo_3 mk_3
  B_F:=(ao ml_3 mo_3 mk_3).binds (ps:=["self"]) λ_ _ _ _ _ _ us hl=>(by obtain⟨_,rfl⟩:=us1 hl;rfl)
  F_l:=ao ml_7 mo_7 mk_7
  B_l:=(ao ml_7 mo_7 mk_7).binds (ps:=["self"]) λ_ _ _ _ _ _ us hl=>(by obtain⟨_,rfl⟩:=us1 hl;rfl)
  mt_H:=⟨mf_8,mi_8,mk_8⟩
  mt_o:=⟨mf_9,mi_9,mk_9⟩
  mt_j:=⟨mf_a,mi_a,mk_a⟩
  mt_u:=⟨mf_c,mi_c,mk_c⟩
  mt_v:=⟨mf_1,mi_1,mk_1⟩
  mt_D:=⟨mf_d,mi_d,mk_d⟩
  mt_P:=⟨mf_2,mi_2,mk_2⟩
  mt_A:=⟨mf_f,mi_f,mk_f⟩
  mt_E:=⟨mf_4,mi_4,mk_4⟩
  mt_B:=⟨mf_e,mi_e,mk_e⟩
  mt_F:=⟨mf_3,mi_3,mk_3⟩
  mt_l:=⟨mf_7,mi_7,mk_7⟩
  mc_g:=mg_of X G ca_g
  cl_g:=⟨pa_g,pb_g,pc_g,pd_g⟩
  mk_g:=⟨qa_g,qb_g,qc_g,qd_g⟩
  na_Told_rising:=qn_Told_rising
  Fi_g:=ao cl_g co_g ck_g
  Bi_g:=(ao cl_g co_g ck_g).binds (ps:=["self","kept"]) λ_ _ _ _ _ _ us hl=>(by obtain⟨_,_,rfl⟩:=us2 hl;rfl)
  mc_n:=mg_of X G ca_n
  cl_n:=⟨pa_n,pb_n,pc_n,pd_n⟩
  mk_n:=⟨qa_n,qb_n,qc_n,qd_n⟩
  na_Die_makes:=qn_Die_makes
  Fi_n:=ao cl_n co_n ck_n
  Bi_n:=(ao cl_n co_n ck_n).binds (ps:=["self","parts"]) λ_ _ _ _ _ _ us hl=>(by obtain⟨_,_,rfl⟩:=us2 hl;rfl)
  mc_h:=mg_of X G ca_h
  cl_h:=⟨pa_h,pb_h,pc_h,pd_h⟩
  mk_h:=⟨qa_h,qb_h,qc_h,qd_h⟩
  na_Pot_most:=qn_Pot_most
  na_Pot_seen:=qn_Pot_seen
  na_Pot_held:=qn_Pot_held
  Fi_h:=ao cl_h co_h ck_h
  Bi_h:=(ao cl_h co_h ck_h).binds (ps:=["self","most"]) λ_ _ _ _ _ _ us hl=>(by obtain⟨_,_,rfl⟩:=us2 hl;rfl)
  g_LETTERS:=⟨u0,mg_of X G b0,r0⟩
  g_MOST_LETTERS:=⟨u1,mg_of X G b1,r1⟩
  g_MOST_WAYS:=⟨u2,mg_of X G b2,r2⟩
  g_MOST_KEPT:=⟨u3,mg_of X G b3,r3⟩
  g_MOST_STREAMED:=⟨u4,mg_of X G b4,r4⟩
  g_MOST_COME:=⟨u5,mg_of X G b5,r5⟩
  mc_a:=mg_of X G ca_a
  kc_NoThrow:=cb_a
  xc_a:=vT cc_a
  xh_a:=ug cc_a
  xi_NoThrow:=cx_a
  fn_NoThrow:=cg_a
  Fi_a:=ao cl_a co_a ck_a
  Bi_a:=(ao cl_a co_a ck_a).binds (ps:=["self","place"]) λ_ _ _ _ _ _ us hl=>(by obtain⟨_,_,rfl⟩:=us2 hl;rfl)
  sx_NoThrow_place:=AR cs_NoThrow_place
  mc_r:=mg_of X G ca_r
  kc_TooMany:=cb_r
  xc_r:=vT cc_r
  xh_r:=ug cc_r
  xi_TooMany:=cx_r
  mc_p:=mg_of X G ca_p
  kc_NoThing:=cb_p
  xc_p:=vT cc_p
  xh_p:=ug cc_p
  xi_NoThing:=cx_p
  z_abs:=mg_none_of X G z0
  z_all:=mg_none_of X G z1
  z_bool:=mg_none_of X G z2
  z_enumerate:=mg_none_of X G z3
  z_int:=mg_none_of X G z4
  z_isinstance:=mg_none_of X G z5
  z_len:=mg_none_of X G z6
  z_list:=mg_none_of X G z7
  z_min:=mg_none_of X G z8
  z_range:=mg_none_of X G z9
  z_sorted:=mg_none_of X G z10
  z_str:=mg_none_of X G z11
  z_sum:=mg_none_of X G z12
  z_tuple:=mg_none_of X G z13
  bl:=λs u=>.of_eq rfl }
end My
open PySem PySem.W PyProof.Rows
namespace PySem.W.Fast
def tw17501519704770495424:=0
def tw15488404162403172899:=0
def tw11526585221957183236:=0
def tw3103993528021766853:=0
def tw17309077515332178599:=0
def tw14993687748781718671:=0
def tw13126790797754352464:=0
def tw14895075508036104850:=0
def tw11537269014440268215:=0
def tw8212620762593638265:=0
def tw9585559752330558361:=0
def tw15199182037128112122:=0
def tw6294840883116390109:=0
def tw2465256382374287678:=0
def tw8399965044764316382:=0
def tw10005269320017239637:=0
def tw100466258218962930:=0
def tw10061394949416430620:=0
def tw10142762277778975618:=0
def tw10161548354498680124:=0
def tw10170512500172067334:=0
def tw10180538130342984985:=0
def tw10215918742047036563:=0
def tw10228261197419103365:=0
def tw10230367968325107829:=0
def tw10250340684107880750:=0
def tw10256454282863471601:=0
def tw10272146424555762747:=0
def tw10280088031155644063:=0
def tw10304315074012059698:=0
def tw10304739551719194504:=0
def tw10314477060608573854:=0
def tw10473024994390308965:=0
def tw10490435432377083073:=0
def tw10547234597232362803:=0
def tw10673207680176710374:=0
def tw10678982439668718759:=0
def tw10721691644749513046:=0
def tw10746128136216746916:=0
def tw10755412944123339577:=0
def tw1076089911434831280:=0
def tw10778574687224384939:=0
def tw10806500766819394307:=0
def tw10810676456035624261:=0
def tw10885930315816485746:=0
def tw10936129788712748863:=0
def tw10971138462664007504:=0
def tw11044160931080693989:=0
def tw11048319972423009242:=0
def tw11076299136542131917:=0
def tw11089280859674389927:=0
def tw11233289053362997445:=0
def tw11303775582095279753:=0
def tw11334639436929055011:=0
def tw11376516071458424085:=0
def tw11378302899809852336:=0
def tw11387114696293271830:=0
def tw11387421157368361706:=0
def tw11533682539688376656:=0
def tw11595535083238181603:=0
def tw11641980102775156531:=0
def tw11646368891915440251:=0
def tw11647780406829971595:=0
def tw11700201685662153321:=0
def tw1188423080315247569:=0
def tw11975248295445264590:=0
def tw11992072160043991768:=0
def tw12072112023220583855:=0
def tw12083731312811985184:=0
def tw12144883975908220995:=0
def tw12169133668182550352:=0
def tw12190746123508886017:=0
def tw12234394639196747878:=0
def tw12242071162211280033:=0
def tw12289180940046127251:=0
def tw12311144624089321009:=0
def tw12374380867719133173:=0
def tw12446631845552387012:=0
def tw12464221210664654824:=0
def tw12469550122665945993:=0
def tw12605155137384891332:=0
def tw12605802284341899196:=0
def tw12637040819687209921:=0
def tw12646807558375283202:=0
def tw12762458193222022769:=0
def tw12765599294452318392:=0
def tw12795833815388894903:=0
def tw12834784713612694560:=0
def tw12842591129106978602:=0
def tw12843376142194795577:=0
def tw12863875252621739945:=0
def tw12921978201517279812:=0
def tw12980203762146042013:=0
def tw12994745396862113911:=0
def tw13030166744367475409:=0
def tw13099282078658985741:=0
def tw13133664896750102177:=0
def tw13158025230943293864:=0
def tw13223541521969984:=0
def tw13256685593544214984:=0
def tw13273823971548941738:=0
def tw13359809999997150473:=0
def tw133651966252181663:=0
def tw13385141120073698034:=0
def tw13422282163843711594:=0
def tw1342839220132199359:=0
def tw13533571733941463086:=0
def tw1366293949709057765:=0
def tw13664088105571137407:=0
def tw13678720037722352597:=0
def tw13708040854120180528:=0
def tw13717377339829744167:=0
def tw13729632471952089347:=0
def tw13806707280142346192:=0
def tw13828718264926580823:=0
def tw13922008216608086798:=0
def tw13962852636170058932:=0
def tw13997965221435124182:=0
def tw14012415076618839500:=0
def tw14032999784958484077:=0
def tw14036200627839149979:=0
def tw14071790791118383459:=0
def tw14141959811522246928:=0
def tw14144933945032236599:=0
def tw14198200339316042724:=0
def tw14233214810986117507:=0
def tw14266612784043240030:=0
def tw14283415370198357459:=0
def tw14296266015864753397:=0
def tw14394233630888473341:=0
def tw14397734110320456446:=0
def tw14552674580119103000:=0
def tw1457410110432806097:=0
def tw14575298128392301622:=0
def tw14655304557027243130:=0
def tw14689878736965166590:=0
def tw1472128049283090309:=0
def tw14752764572282778794:=0
def tw14767116006869055493:=0
def tw14876657292278535024:=0
def tw14886571245130632121:=0
def tw14919437017458291723:=0
def tw14926030117976470507:=0
def tw14965456728686905215:=0
def tw15014530953036898049:=0
def tw15025453124265761897:=0
def tw15076838511443296902:=0
def tw15086971117392597253:=0
def tw15108912850752875261:=0
def tw15140147837112049993:=0
def tw15146157771794150258:=0
def tw15171976996150496150:=0
def tw15187163207342887911:=0
def tw15208290029440575519:=0
def tw15217605559600004925:=0
def tw15223753788830218644:=0
def tw1530503007054900248:=0
def tw15313290275899383225:=0
def tw15363330949032664657:=0
def tw15488977124796027739:=0
def tw15507900705784367570:=0
def tw15606111370415004828:=0
def tw1563922692746264249:=0
def tw15686238415804992567:=0
def tw15760562941864911593:=0
def tw15824778963298572596:=0
def tw15918627958162141389:=0
def tw15933371260531648175:=0
def tw15968769790979752871:=0
def tw16047692769137973536:=0
def tw16115795676235917575:=0
def tw1613957419389445176:=0
def tw16141395706291904033:=0
def tw16188063622294836096:=0
def tw16231433301488861773:=0
def tw16263210596622369528:=0
def tw16272674698747120542:=0
def tw16275226065815949020:=0
def tw16290192469594839006:=0
def tw16338426098172959664:=0
def tw16360531401153151006:=0
def tw1638716840600516821:=0
def tw16398102433692574366:=0
def tw16406785406549022962:=0
def tw16511309171355858574:=0
def tw16551426280299672989:=0
def tw16647118757287188682:=0
def tw16667602532897682217:=0
def tw16688911652305933732:=0
def tw16706481196910185369:=0
def tw16732543259445269219:=0
def tw16764730652243834097:=0
def tw16778050530846638566:=0
def tw16781329323285078693:=0
def tw16827201992305763927:=0
def tw16936124454640997315:=0
def tw16953284851348040241:=0
def tw16984614457064849245:=0
def tw16987363107944753335:=0
def tw17009769549226998899:=0
def tw1705288283535750023:=0
def tw17088765844619805484:=0
def tw17089789126321616850:=0
def tw17121735814295795651:=0
def tw1714444050209329639:=0
def tw17196786239202169573:=0
def tw17206966510659381558:=0
def tw17230122527091606053:=0
def tw17240737723469133336:=0
def tw17249503856030877072:=0
def tw17264757595634442384:=0
def tw17315883608698725388:=0
def tw17362358113497444868:=0
def tw17376425425440042718:=0
def tw17399712987246682825:=0
def tw17522002345321676675:=0
def tw17532645619855799843:=0
def tw17689699997846310573:=0
def tw17770020022353089365:=0
def tw17810636297160950601:=0
def tw17853931897482046788:=0
def tw179102813648203236:=0
def tw18032453184210988199:=0
def tw18071926512296698344:=0
def tw18099688857878413138:=0
def tw18119169082880479001:=0
def tw18140273820690163609:=0
def tw18167847303412870409:=0
def tw18181337095346538386:=0
def tw18237475387581170886:=0
def tw18286930493437086406:=0
def tw18293451485830791962:=0
def tw18364707434402525945:=0
def tw1929108286347592443:=0
def tw212962674129010468:=0
def tw2134325047404629937:=0
def tw2163128601914142698:=0
def tw2189270304405200355:=0
def tw2193463787716687875:=0
def tw2205631312064480600:=0
def tw2236765533673180369:=0
def tw2303445116801535028:=0
def tw2353047736752601224:=0
def tw2397978251575085185:=0
def tw2454203390539382110:=0
def tw2462128247452190576:=0
def tw2533463030195773407:=0
def tw2546253643778391326:=0
def tw2650847586400914433:=0
def tw2683386917795719256:=0
def tw2784408025419872329:=0
def tw2817411262117345176:=0
def tw297055075718511664:=0
def tw3012804534948728608:=0
def tw3029272840800602242:=0
def tw3038080424516368165:=0
def tw3073375255409311385:=0
def tw3073841668570333231:=0
def tw3102551046819982830:=0
def tw3114792888923543900:=0
def tw3173595850845816592:=0
def tw335167446910091449:=0
def tw3424393885949535774:=0
def tw3543810746970294573:=0
def tw3608633821212962453:=0
def tw3618375311844283918:=0
def tw3747255637424052304:=0
def tw3780506507415083607:=0
def tw3831062434274330413:=0
def tw3836559198399681558:=0
def tw3867637513346090996:=0
def tw3978865205744787496:=0
def tw3982015909177937509:=0
def tw4032274395481759544:=0
def tw4041438094496803688:=0
def tw4102341753649749550:=0
def tw4189234553765488871:=0
def tw4192339815879943732:=0
def tw4199953773391896368:=0
def tw4221232677959045156:=0
def tw4305302838831143607:=0
def tw4307287135321983870:=0
def tw4332155886213743424:=0
def tw434629391750767543:=0
def tw4362726744626440143:=0
def tw4415354667770357823:=0
def tw444463516073654244:=0
def tw4461079586971293790:=0
def tw45047304667344703:=0
def tw4539337794102535293:=0
def tw4548540078910733658:=0
def tw457880766127364168:=0
def tw4655325241490401633:=0
def tw4669987982089588846:=0
def tw4682367143579386143:=0
def tw4684676567546643807:=0
def tw468669187130047733:=0
def tw4697001892178639339:=0
def tw4748603833742991014:=0
def tw4757422830718907481:=0
def tw4829683335001843405:=0
def tw4871114048585400028:=0
def tw4907320945022974300:=0
def tw4920363812508084088:=0
def tw5035727305311609240:=0
def tw5160974333949257520:=0
def tw5199806002196624898:=0
def tw5265813618904719817:=0
def tw5319446870022317518:=0
def tw5371682046258064448:=0
def tw5436261023744898245:=0
def tw5512277637547435852:=0
def tw5512687318927370262:=0
def tw5607149329440181008:=0
def tw5684625667025972293:=0
def tw5709810995518923955:=0
def tw5733828433795162052:=0
def tw5797812509134027312:=0
def tw5801647722765889348:=0
def tw5804915162001938978:=0
def tw5837858866290500654:=0
def tw5848407765833577362:=0
def tw5893296090672189611:=0
def tw5964885225060480324:=0
def tw5985478470598675885:=0
def tw6052780203416362721:=0
def tw6104643285087854591:=0
def tw6157136351728971696:=0
def tw6236590807285536211:=0
def tw6244556634090705456:=0
def tw6268886377447267806:=0
def tw6313121724781625262:=0
def tw6334879592301505874:=0
def tw6355243200215319580:=0
def tw6364155276585811819:=0
def tw6379533627931586914:=0
def tw6383046574547122381:=0
def tw6454316577193533521:=0
def tw6493080837528530177:=0
def tw6579071766133932356:=0
def tw6609198482987561644:=0
def tw6632587921351241986:=0
def tw6632988536487925114:=0
def tw6637704389555728390:=0
def tw6680630346277722876:=0
def tw6689726820695204086:=0
def tw6701945568793420890:=0
def tw6705405371964261905:=0
def tw6806072452286041488:=0
def tw6894953077532703411:=0
def tw7003531080991103354:=0
def tw7022567589442497689:=0
def tw7026113334811765240:=0
def tw7102484899604024146:=0
def tw7110449867352692733:=0
def tw711968093766826284:=0
def tw7127112977232471373:=0
def tw7213629338520882147:=0
def tw7218328476183573232:=0
def tw724201311398768458:=0
def tw7246255457130788332:=0
def tw72520871762438711:=0
def tw7298365394394029725:=0
def tw7329570070012014088:=0
def tw7378764484770787421:=0
def tw7386571118702612665:=0
def tw7387970247036343877:=0
def tw7439554880414943797:=0
def tw7459128452442124265:=0
def tw7467362963968248836:=0
def tw7473506744115596446:=0
def tw7475474073298854949:=0
def tw7511280930086663710:=0
def tw7537097708241664350:=0
def tw7538406946197496515:=0
def tw7545927956780935741:=0
def tw7557945897197924647:=0
def tw7606194976907314741:=0
def tw765787773662654849:=0
def tw7675555054646127280:=0
def tw7677458205690468550:=0
def tw7699483647461812748:=0
def tw7732321563397713108:=0
def tw7780072542753090168:=0
def tw779922460427099262:=0
def tw7861002114583378250:=0
def tw791729386399380378:=0
def tw7930967101549431029:=0
def tw7973632641463043387:=0
def tw7986363888610334631:=0
def tw800061724766331237:=0
def tw8064422908669109770:=0
def tw8076846782906117699:=0
def tw8155283953130877227:=0
def tw8178818948615531634:=0
def tw8212569832639234192:=0
def tw8226258689048592275:=0
def tw830222918091932073:=0
def tw8414509739558673825:=0
def tw8432724557053220635:=0
def tw8492414370797256672:=0
def tw8503881996546002542:=0
def tw8527847224342444455:=0
def tw8609881811156288070:=0
def tw8636355813979542451:=0
def tw8642296820654123522:=0
def tw8646598814609699144:=0
def tw8670744868956946763:=0
def tw8716805702959058496:=0
def tw8844989878676533573:=0
def tw8916952294569913408:=0
def tw8925490876123419753:=0
def tw9033117868192606927:=0
def tw9139501889648970058:=0
def tw9197890567895200263:=0
def tw9203588879887644411:=0
def tw9226783095492885585:=0
def tw9243065424576598864:=0
def tw9251205365839965761:=0
def tw9284850956785104648:=0
def tw9295839467633573710:=0
def tw9338927836274345410:=0
def tw9393386196408193453:=0
def tw9435848568818497411:=0
def tw947201625937462265:=0
def tw9520967035046829905:=0
def tw9614368043810712015:=0
def tw9666911813134784081:=0
def tw9747886400811408219:=0
def tw9779066819024706043:=0
def tw9797675423895653794:=0
def tw9896003364115654321:=0
def tw9925320675971787304:=0
def tw9958080732536175303:=0
end PySem.W.Fast
set_option maxRecDepth 100000 in
set_option maxHeartbeats 0 in
theorem PySem.Challenge.cw_fewspeak_k69_whole_poured_in_any_order_holds : PySem.Challenge.rw_fewspeak_k69_whole_poured_in_any_order.Holds := by
 w_on;o_law;k_head;(case hw=>w_witness2)
 k_fill
 refine L2.walk_ofT (l:=PySem.Challenge.rw_fewspeak_k69_whole_poured_in_any_order) (n:=63) (k:=My.lawK) (x := "_law_script") (CX:=L2.CX0) (sp:=My.spLaw) rfl (by decide) rfl ⟨rfl,by decide,by decide⟩ (λw h Y=>⟨PySem.W.km_in_of Y,PySem.W.km_tabs_of Y⟩) ?F ?S ?C
 case F =>
  intro ts' hts w mg fa h KX G hmg
  have T:∃ a,My.Txt (L2.KOf KX) mg a/\(My.tabs a).map (·.1)=ts':=by
   rw[hts];dsimp only[L2.KOf];refine' My.txt_mk KX G ?a0 ?l0 ?c0 ?k0 ?a1 ?l1 ?c1 ?k1 ?a2 ?l2 ?c2 ?k2 ?a3 ?l3 ?c3 ?k3 ?a4 ?l4 ?c4 ?k4 ?a5 ?l5 ?c5 ?k5 ?a6 ?l6 ?c6 ?k6 ?a7 ?l7 ?c7 ?k7 ?a8 ?l8 ?c8 ?k8 ?a9 ?l9 ?c9 ?k9 ?a10 ?l10 ?c10 ?k10 ?a11 ?l11 ?c11 ?k11 ?a12 ?l12 ?c12 ?k12 ?a13 ?l13 ?c13 ?k13 ?a14 ?l14 ?c14 ?k14 ?a15 ?l15 ?c15 ?k15 ?a16 ?l16 ?c16 ?k16 ?a17 ?l17 ?c17 ?k17 ?a18 ?l18 ?c18 ?k18 ?a19 ?l19 ?c19 ?k19 ?a20 ?l20 ?c20 ?k20 ?a21 ?l21 ?c21 ?k21 ?a22 ?l22 ?c22 ?k22 ?a23 ?l23 ?c23 ?k23 ?a24 ?l24 ?c24 ?k24 ?a25 ?l25 ?c25 ?k25 ?a26 ?l26 ?c26 ?k26 ?a27 ?l27 ?c27 ?k27 ?a28 ?l28 ?c28 ?k28 ?a29 ?l29 ?c29 ?k29 ?a30 ?l30 ?c30 ?k30 ?a31 ?l31 ?c31 ?k31 ?a32 ?l32 ?c32 ?k32 ?a33 ?l33 ?c33 ?k33 ?a34 ?l34 ?c34 ?k34 ?b0 ?b1 ?b2 ?b3 ?b4 ?b5 ?ca_R ?cb_R ?cc_R ?cx_R ?ca_a ?cb_a ?cc_a ?cf_a ?cx_a ?cg_a ?cl_a ?co_a ?ck_a ?cs_NoThrow_place ?ca_r ?cb_r ?cc_r ?cx_r ?ca_p ?cb_p ?cc_p ?cx_p ?ca_Z ?pa_Z ?pb_Z ?pc_Z ?pd_Z ?pe_Z ?pf_Z ?pg_Z ?ph_Z ?ca_g ?pa_g ?pb_g ?pc_g ?pd_g ?pe_g ?pf_g ?pg_g ?ph_g ?qa_g ?qb_g ?qc_g ?qd_g ?qn_Told_rising ?cl_g ?co_g ?ck_g ?ca_n ?pa_n ?pb_n ?pc_n ?pd_n ?pe_n ?pf_n ?pg_n ?ph_n ?qa_n ?qb_n ?qc_n ?qd_n ?qn_Die_makes ?cl_n ?co_n ?ck_n ?ca_h ?pa_h ?pb_h ?pc_h ?pd_h ?pe_h ?pf_h ?pg_h ?ph_h ?qa_h ?qb_h ?qc_h ?qd_h ?qn_Pot_most ?qn_Pot_seen ?qn_Pot_held ?cl_h ?co_h ?ck_h ?mf_8 ?ml_8 ?mo_8 ?mk_8 ?mi_8 ?md_Pot_come ?mv_Pot_come ?mf_9 ?ml_9 ?mo_9 ?mk_9 ?mi_9 ?mf_a ?ml_a ?mo_a ?mk_a ?mi_a ?mf_c ?ml_c ?mo_c ?mk_c ?mi_c ?mf_1 ?ml_1 ?mo_1 ?mk_1 ?mi_1 ?mf_d ?ml_d ?mo_d ?mk_d ?mi_d ?mf_2 ?ml_2 ?mo_2 ?mk_2 ?mi_2 ?mf_f ?ml_f ?mo_f ?mk_f ?mi_f ?mf_4 ?ml_4 ?mo_4 ?mk_4 ?mi_4 ?mf_e ?ml_e ?mo_e ?mk_e ?mi_e ?mf_3 ?ml_3 ?mo_3 ?mk_3 ?mi_3 ?mf_7 ?ml_7 ?mo_7 ?mk_7 ?mi_7 ?lca_11 ?lct_11 ?lcq_11 ?lch_b ?lca_12 ?lct_12 ?lcq_12 ?lch_z ?lca_10 ?lct_10 ?lcq_10 ?lch_i ?lca_13 ?lct_13 ?lcq_13 ?lch_c ?lca_14 ?lct_14 ?lcq_14 ?lch_d ?ltnd ?fact_tt ?fact_tm ?fact_tm2 ?fact_tw ?fact_tw2 ?fact_tw3 ?z0 ?z1 ?z2 ?z3 ?z4 ?z5 ?z6 ?z7 ?z8 ?z9 ?z10 ?z11 ?z12 ?z13 ?r0 ?r1 ?r2 ?r3 ?r4 ?r5
   case a0|l0|c0|k0|a1|l1|c1|k1|a2|l2|c2|k2|a3|l3|c3|k3|a4|l4|c4|k4|a5|l5|c5|k5|a6|l6|c6|k6|a7|l7|c7|k7|a8|l8|c8|k8|a9|l9|c9|k9|a10|l10|c10|k10|a11|l11|c11|k11|a12|l12|c12|k12|a13|l13|c13|k13|a14|l14|c14|k14|a15|l15|c15|k15|a16|l16|c16|k16|a17|l17|c17|k17|a18|l18|c18|k18|a19|l19|c19|k19|a20|l20|c20|k20|a21|l21|c21|k21|a22|l22|c22|k22|a23|l23|c23|k23|a24|l24|c24|k24|a25|l25|c25|k25|a26|l26|c26|k26|a27|l27|c27|k27|a28|l28|c28|k28|a29|l29|c29|k29|a30|l30|c30|k30|a31|l31|c31|k31|a32|l32|c32|k32|a33|l33|c33|k33|a34|l34|c34|k34|b0|b1|b2|b3|b4|b5|ca_R|cb_R =>k_is
   case cc_R|cx_R =>kernel_rfl
   case ca_a|cb_a =>k_is
   case cc_a =>kernel_rfl
   case cf_a =>k_is
   case cx_a =>kernel_rfl
   case cg_a|cl_a|co_a|ck_a =>k_is
   case cs_NoThrow_place =>kernel_rfl
   case ca_r|cb_r =>k_is
   case cc_r|cx_r =>kernel_rfl
   case ca_p|cb_p =>k_is
   case cc_p|cx_p =>kernel_rfl
   case ca_Z =>k_is
   case pa_Z|pb_Z|pc_Z|pd_Z|pe_Z|pf_Z|pg_Z|ph_Z =>(first | k_is | kernel_rfl)
   case ca_g =>k_is
   case pa_g|pb_g|pc_g|pd_g|pe_g|pf_g|pg_g|ph_g|qa_g|qb_g|qc_g|qd_g|qn_Told_rising =>(first | k_is | kernel_rfl)
   case cl_g|co_g|ck_g|ca_n =>k_is
   case pa_n|pb_n|pc_n|pd_n|pe_n|pf_n|pg_n|ph_n|qa_n|qb_n|qc_n|qd_n|qn_Die_makes =>(first | k_is | kernel_rfl)
   case cl_n|co_n|ck_n|ca_h =>k_is
   case pa_h|pb_h|pc_h|pd_h|pe_h|pf_h|pg_h|ph_h|qa_h|qb_h|qc_h|qd_h|qn_Pot_most|qn_Pot_seen|qn_Pot_held =>(first | k_is | kernel_rfl)
   case cl_h|co_h|ck_h =>k_is
   case mf_8 =>(first | k_is | kernel_rfl)
   case ml_8|mo_8|mk_8 =>k_is
   case mi_8 =>(first | k_is | kernel_rfl)
   case md_Pot_come =>k_is
   case mv_Pot_come =>first | exact rfl | exact⟨_,rfl⟩
   case mf_9 =>(first | k_is | kernel_rfl)
   case ml_9|mo_9|mk_9 =>k_is
   case mi_9|mf_a =>(first | k_is | kernel_rfl)
   case ml_a|mo_a|mk_a =>k_is
   case mi_a|mf_c =>(first | k_is | kernel_rfl)
   case ml_c|mo_c|mk_c =>k_is
   case mi_c|mf_1 =>(first | k_is | kernel_rfl)
   case ml_1|mo_1|mk_1 =>k_is
   case mi_1|mf_d =>(first | k_is | kernel_rfl)
   case ml_d|mo_d|mk_d =>k_is
   case mi_d|mf_2 =>(first | k_is | kernel_rfl)
   case ml_2|mo_2|mk_2 =>k_is
   case mi_2|mf_f =>(first | k_is | kernel_rfl)
   case ml_f|mo_f|mk_f =>k_is
   case mi_f|mf_4 =>(first | k_is | kernel_rfl)
   case ml_4|mo_4|mk_4 =>k_is
   case mi_4|mf_e =>(first | k_is | kernel_rfl)
   case ml_e|mo_e|mk_e =>k_is
   case mi_e|mf_3 =>(first | k_is | kernel_rfl)
   case ml_3|mo_3|mk_3 =>k_is
   case mi_3|mf_7 =>(first | k_is | kernel_rfl)
   case ml_7|mo_7|mk_7 =>k_is
   case mi_7 =>(first | k_is | kernel_rfl)
   case lca_11 =>exact rfl
   case lct_11 =>k_is
   case lcq_11 =>exact rfl
   case lch_b =>kernel_rfl
   case lca_12 =>exact rfl
   case lct_12 =>k_is
   case lcq_12 =>exact rfl
   case lch_z =>kernel_rfl
   case lca_10 =>exact rfl
   case lct_10 =>k_is
   case lcq_10 =>exact rfl
   case lch_i =>kernel_rfl
   case lca_13 =>exact rfl
   case lct_13 =>k_is
   case lcq_13 =>exact rfl
   case lch_c =>kernel_rfl
   case lca_14 =>exact rfl
   case lct_14 =>k_is
   case lcq_14 =>exact rfl
   case lch_d =>kernel_rfl
   case ltnd =>decide
   case fact_tt|fact_tm|fact_tm2|fact_tw|fact_tw2|fact_tw3 =>kernel_rfl
   case z0|z1|z2|z3|z4|z5|z6|z7|z8|z9|z10|z11|z12|z13 =>k_is
   case r0|r1|r2|r3|r4|r5 =>first | exact rfl | exact⟨_,rfl⟩
  obtain⟨a,T,e1⟩:=T;have e1:=e1.trans hts;have e0:=hmg.symm.trans T.m_af;cases e0;refine' ⟨a.d_af,?b,?t,?u,λbase kb nb hB=>My.ok_law T hB ?v⟩
  case b=>exact T.bl
  case t =>
   intro P hP;have hP:=e1.symm ▸ hP;simp only[My.tabs,map_cons,map_nil,mem_cons,not_mem_nil,or_false]at hP
   rcases hP with rfl | rfl | rfl | rfl | rfl
   .exact⟨_,T.lch_b⟩
   .exact⟨_,T.lch_z⟩
   .exact⟨_,T.lch_i⟩
   .exact⟨_,T.lch_c⟩
   .exact⟨_,T.lch_d⟩
  case u =>
   intro P hP;simp only[mem_cons,not_mem_nil,or_false]at hP
   rcases hP with rfl | rfl | rfl | rfl | rfl <;> kernel_rfl
  case v =>
   intro q hq;rw[<- e1];exact List.mem_map_of_mem hq
 case S=>exact λK H a ns hl hO hS=>My.law_start hl hO hS
 case C=>exact λH s e s' z=>z
