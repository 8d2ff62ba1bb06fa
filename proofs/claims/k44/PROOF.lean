import PyProof.Rows.All
import Wide.All
import OpenK.AllK
import Wide.FinOn
import Lean
import PyProof.EqAt
import PyProof.EqKinds
import PyProof.TupleCall
import PySem.Challenge.RW_fewspeak_k44_whole_nested_matrices
open PySem.W(CodeHd FnAt Frag InstAt Looks any_some callWith_K cellsFrom_some clsIn codeHdIn codeHd_of_K codeIn codeRec_of emptyDict findIn fnOf handedIn hasDictIn instObj isFn keepIn kia_one kitOne kitx_dict kitx_list kitx_tuple kla_fn kla_obj lookIn looks_mroIn looks_typeIn makesIn methodCall_KW methodObj mg_none_of mg_of mroIn nsIn nsOkIn plainGet plainGet_of plainOver specialIn tabObj tailIn takerIn takesIn typeIn)
open List(all_cons all_eq_true any_cons any_eq_true append_assoc append_nil cons_append cons_ne_nil dropWhile_cons drop_zero filter_append filter_cons_of_neg filter_cons_of_pos flatten_cons foldl_cons forIn_cons getElem_mem length_append length_cons length_drop length_filter_le length_map length_nil length_range length_take lookup_cons map_append map_cons map_map map_nil map_take mem_append mem_append_left mem_append_right mem_cons mem_cons_of_mem mem_cons_self mem_filter mem_map mem_range mem_singleton nodup_append nodup_cons nodup_nil not_mem_nil of_mem_zip replicate_succ size_toArray sum_cons take_add_one take_length take_of_length_le take_zero)
noncomputable section
set_option Elab.async false
set_option linter.all false
set_option maxRecDepth 100000
namespace L2
open PySem PySem.Spec PyProof.Rows
abbrev Key:=Sum Int Str
def im:Key->Value->Bool
 | .inl k,v=>Value.isInt k v
 | .inr x,v=>Value.isStrOf x v
def xZ(w:World):Key->Int
 | .inl k=>hashInt k
 | .inr x=>hashStr w x
theorem bK:∀{k:Key}{v:Value},im k v=true->(∃ i t,k=Sum.inl i/\v=Value.int i t)\/(∃ x t,k=Sum.inr x/\v=Value.str x t)
 | .inl i,v,h=>by
  obtain⟨t,e⟩:=Value.isInt_shape (k:=i) (v:=v) h;exact .inl ⟨i,t,rfl,e⟩
 | .inr x,v,h=>by
  obtain⟨t,e⟩:=Value.isStrOf_shape (x:=x) (v:=v) h;exact .inr ⟨x,t,rfl,e⟩
theorem qf(i:Int)(t:Tok):im (.inl i) (.int i t)=true:=by simp[im,Value.isInt]
theorem pZ(x:Str)(t:Tok):im (.inr x) (.str x t)=true:=by simp[im,Value.isStrOf]
theorem ww(a b:Int):decide ((Sum.inl a:Key)=Sum.inl b)=(a == b):=by
 by_cases e:a=b
 .subst e;simp
 .have h:¬(Sum.inl a:Key)=Sum.inl b:=λq=>e (Sum.inl.inj q)
  rw[decide_eq_false h];exact(beq_eq_false_iff_ne.mpr e).symm
theorem vY(a b:Str):decide ((Sum.inr a:Key)=Sum.inr b)=decide (a=b):=by
 by_cases e:a=b
 .subst e;simp
 .have h:¬(Sum.inr a:Key)=Sum.inr b:=λq=>e (Sum.inr.inj q)
  rw[decide_eq_false h,decide_eq_false e]
theorem vP(a:Int)(b:Str):decide ((Sum.inl a:Key)=Sum.inr b)=false:=decide_eq_false (λq=>nomatch q)
theorem wg(a:Str)(b:Int):decide ((Sum.inr a:Key)=Sum.inl b)=false:=decide_eq_false (λq=>nomatch q)
def bq(prog:Program)(w:World):PySem.KeyKind prog w Key where
 is:=im
 hash:=xZ w
 inj:=λv a b ha hb=>by
  rcases bK ha with⟨i,t,rfl,rfl⟩ | ⟨x,t,rfl,rfl⟩
  .rcases bK hb with⟨j,u,rfl,e⟩ | ⟨y,u,rfl,e⟩
   .injection e with e1 _;rw[e1]
   .exact nomatch e
  .rcases bK hb with⟨j,u,rfl,e⟩ | ⟨y,u,rfl,e⟩
   .exact nomatch e
   .injection e with e1 _;rw[e1]
 byValue:=λk v h=>by
  rcases bK h with⟨i,t,rfl,rfl⟩ | ⟨x,t,rfl,rfl⟩ <;> rfl
 pyHash:=λhv h=>by
  rcases bK hv with⟨i,t,rfl,rfl⟩ | ⟨x,t,rfl,rfl⟩
  .exact wpAny_pyHash_int h
  .exact wpAny_pyHash_str h
 eqBool:=λhu hv h=>by
  rcases bK hu with⟨i,t,rfl,rfl⟩ | ⟨x,t,rfl,rfl⟩
  .rcases bK hv with⟨j,u,rfl,rfl⟩ | ⟨y,u,rfl,rfl⟩
   .rw[ww]at h;exact wpAny_eqBool_int h
   .rw[vP]at h;exact SeqAt.EqAt.int_str i t y u _ _ _ _ h
  .rcases bK hv with⟨j,u,rfl,rfl⟩ | ⟨y,u,rfl,rfl⟩
   .rw[wg]at h;exact SeqAt.EqAt.str_int x t j u _ _ _ _ h
   .rw[vY]at h;exact wpAny_eqBool_str h
 «strs»:=λk x t v h=>by
  rcases bK h with⟨i,u,rfl,e⟩ | ⟨y,u,rfl,e⟩
  .exact nomatch e
  .injection e with e1 _
   subst e1
   cases v <;> rfl
theorem m9(prog:Program)(w:World)(i:Int)(t:Tok):(bq prog w).is (.inl i) (.int i t)=true:=qf i t
theorem nO(prog:Program)(w:World)(x:Str)(t:Tok):(bq prog w).is (.inr x) (.str x t)=true:=pZ x t
inductive V where
 | non | bl (b:Bool) | int (i:Int) | str (x:Str) | byt (b:Array UInt8) | flt (b:UInt64) | ref (a:Addr) | ty (n:String)
 deriving DecidableEq
def RelV:V->Value->Prop
 | .non,u=>u=Value.none
 | .bl b,u=>u=Value.bool b
 | .int i,u=>∃ t,u=Value.int i t
 | .str x,u=>∃ t,u=Value.str x t
 | .byt b,u=>∃ t,u=Value.bytes b t
 | .flt b,u=>∃ t,u=Value.float b t
 | .ref a,u=>u=Value.ref a
 | .ty n,u=>u=Value.type n
abbrev Vals:List V->List Value->Prop:=Paired RelV
theorem Vals.length{xs:List V}{us:List Value}(r:Vals xs us):xs.length=us.length:=Paired.length r
theorem Vals.get:∀{xs:List V}{us:List Value}{i:Nat}{x:V},Vals xs us->xs[i]? = some x->∃ u,us[i]? = some u/\RelV x u
 | _,_,_,_,.nil,e=>by simp at e
 | _,_,0,_,.cons r _,e=>by simp at e;subst e;exact⟨_,rfl,r⟩
 | _,_,i+1,x,.cons _ t,e=>by
  obtain⟨u,a,b⟩:=Vals.get (i:=i) (x:=x) t (by simpa using e);exact⟨u,by simpa using a,b⟩
theorem Vals.append:∀{xs ys:List V}{us ws:List Value},Vals xs us->Vals ys ws->Vals (xs++ys) (us++ws)
 | _,_,_,_,.nil,s=>s
 | _,_,_,_,.cons r t,s=>.cons r (Vals.append t s)
theorem Vals.take:∀{xs:List V}{us:List Value}(n:Nat),Vals xs us->Vals (xs.take n) (us.take n)
 | _,_,0,_=>.nil
 | _,_,_+1,.nil=>.nil
 | _,_,n+1,.cons r t=>.cons r (Vals.take n t)
theorem Vals.drop:∀{xs:List V}{us:List Value}(n:Nat),Vals xs us->Vals (xs.drop n) (us.drop n)
 | _,_,0,r=>r
 | _,_,_+1,.nil=>.nil
 | _,_,n+1,.cons _ t=>Vals.drop n t
def RelO:Option V->Option Value->Prop
 | some v,some u=>RelV v u
 | none,none=>True
 | _,_=>False
def KV{κ:Type}:List (κ×V)->List (κ×Value)->Prop:=Paired λ(p:κ×V) (q:κ×Value)=>p.1=q.1/\RelV p.2 q.2
def kV:Key->V
 | .inl i=>.int i
 | .inr x=>.str x
inductive HO where
 | lst (xs:List V)
 | tup (xs:List V)
 | dK (kvs:List (Key×V)) | dT (kvs:List (List Key×V))
 | set (S:Int->Bool) (n:Nat)
 | ins (C dx:Addr) (fs:List (Str×V))
 | own (x:Addr)
 | xd (fs:List (Str×V))
 | met (f x:Addr)
 | rng (lo hi:Int)
 | frz (o:Obj) (u:HO)
 | tbl (ps:Array Value)
 | ext (φ:Heap->Prop)
abbrev Hp:=Addr->Option HO
def upd(H:Hp)(a:Addr)(o:HO):Hp:=λb=>if b=a then some o else H b
theorem ae{H:Hp}{a:Addr}{o:HO}:upd H a o a=some o:=by unfold upd;rw[if_pos rfl]
theorem az{H:Hp}{a b:Addr}{o:HO}(h:b≠a):upd H a o b=H b:=by unfold upd;rw[if_neg h]
theorem hZ{H:Hp}{a:Addr}{o u:HO}:upd (upd H a o) a u=upd H a u:=by
 funext b;unfold upd;split <;> rfl
theorem pH{H:Hp}{a b:Addr}{o u:HO}(h:H a=some o)(h':H b=some u)(d:o≠u):a≠b:=by
 intro e;subst e;rw[h]at h';exact d (Option.some.inj h')
theorem aJ{H:Hp}{a b:Addr}{o:HO}(h:H a=some o)(h':H b=none):a≠b:=by
 intro e;subst e;rw[h]at h';cases h'
section
variable (P:Program) (w:World)
def ObjOk(H:Hp)(h:Heap)(a:Addr):HO->Prop
 | .lst xs=>xs.length<=sizeLine/\∃(its:List Value) (n:Nat),Vals xs its/\h.get? a=some { cls:=.type "list",data:=.seq its.toArray n }
 | .tup xs=>xs.length<=sizeLine/\∃ its:List Value,Vals xs its/\IsTup h a its.toArray
 | .dK kvs=>kvs.length<=sizeLine/\(a == sysModules)=false/\∃ vs,KV kvs vs/\h.DictOf (bq P w) a vs
 | .dT kvs=>kvs.length<=sizeLine/\(a == sysModules)=false/\∃ xs:List (List Key×Addr×Value),
   Paired (λ(p:List Key×V) (q:List Key×Addr×Value)=>p.1=q.1/\H q.2.1=some (.tup (p.1.map kV))/\RelV p.2 q.2.2) kvs xs /\
   ∃ o es ep,h.get? a=some o/\o.ExactDict/\o.data=.dict es ep/\es.toList=xs.map (entryOfKey (tupleKind (bq P w)))/\(xs.map (·.1)).Nodup
 | .set S n=>h.SetOf (intKind P w) a S n
 | .ins C dx fs=>H dx=some (.own a)/\fs.length<=1000/\dx≠a/\h.get? a=some (instObj C dx) /\
   ∃ mA,h.Ns1 dx mA/\(∀ f,RelO (fs.lookup f) (mA f))/\PySem.Within mA (fs.map (·.1))
 | .own _=>∃ o,h.get? a=some o
 | .xd fs=>∃ mA,h.Ns1 a mA/\∀ f,RelO (fs.lookup f) (mA f)
 | .rng lo hi=>∃ t u v,h.get? a=some { cls:=.type "range",data:=.fields #[.int lo t,.int hi u,.int 1 v] }
 | .frz o u=>h.get? a=some o/\ObjOk H h a u
 | .tbl ps=>h.get? a=some { cls:=.none,data:=.fields ps }
 | .met f x=>h.get? a=some (methodObj (.ref f) (.ref x))
 | .ext φ=>φ h/\(∃ o,h.get? a=some o)/\∀ h1 h2:Heap,φ h1->(∀ o,h1.get? a=some o->h2.get? a=some o)->φ h2
def HOk(H:Hp)(h:Heap):Prop:=∀ a o,H a=some o->ObjOk P w H h a o
end
section
variable {P:Program}{w:World}{H H':Hp}{h h':Heap}{a:Addr}{o:HO}
theorem ObjOk.lt(x:ObjOk P w H h a o):a<h.objs.size:=by
 cases o with
 | lst xs=>obtain⟨_,_,_,_,e⟩:=x;exact Heap.lt_size e
 | tup xs=>obtain⟨_,_,_,p⟩:=x;exact p.lt
 | dK kvs=>obtain⟨_,_,_,_,o,_,_,e,_⟩:=x;exact Heap.lt_size e
 | dT kvs=>obtain⟨_,_,_,_,o,_,_,e,_⟩:=x;exact Heap.lt_size e
 | set S n=>obtain⟨o,_,_,_,e,_⟩:=x;exact Heap.lt_size e
 | ins C dx fs=>obtain⟨_,_,_,e,_⟩:=x;exact Heap.lt_size e
 | own y=>obtain⟨_,e⟩:=x;exact Heap.lt_size e
 | xd fs=>obtain⟨_,⟨_,_,_,e,_⟩,_⟩:=x;exact Heap.lt_size e
 | rng lo hi=>obtain⟨_,_,_,e⟩:=x;exact Heap.lt_size e
 | frz ob u=>obtain⟨e,_⟩:=x;exact Heap.lt_size e
 | tbl ps=>exact Heap.lt_size (show h.get? a=some _ from x)
 | met f y=>exact Heap.lt_size (show h.get? a=some _ from x)
 | ext φ=>obtain⟨_,⟨_,e⟩,_⟩:=x;exact Heap.lt_size e
theorem Paired.mapP{c d:Type}{F G:c->d->Prop}:∀{l₁:List c}{l₂:List d},Paired F l₁ l₂->(∀ a b,F a b->G a b)->Paired G l₁ l₂
 | _,_,.nil,_=>.nil
 | _,_,.cons r t,f=>.cons (f _ _ r) (Paired.mapP t f)
theorem ObjOk.stay(x:ObjOk P w H h a o)(k:∀ b u,(b=a\/H b=some (.own a))->h.get? b=some u->h'.get? b=some u)
  (G:∀ b,H b=some (.own a)->H' b=some (.own a)) (F:∀ b xs,H b=some (.tup xs)->H' b=some (.tup xs)):ObjOk P w H' h' a o:=by
 induction o with
 | lst xs=>obtain⟨z,l,n,r,e⟩:=x;exact⟨z,l,n,r,k _ _ (.inl rfl) e⟩
 | tup xs=>obtain⟨z,l,r,g,e,c⟩:=x;exact⟨z,l,r,g,k _ _ (.inl rfl) e,c⟩
 | dK kvs=>obtain⟨z,y,D,r,g,i,j,e,c⟩:=x;exact⟨z,y,D,r,g,i,j,k _ _ (.inl rfl) e,c⟩
 | dT kvs =>
  obtain⟨z,y,xs,r,g,i,j,e,c⟩:=x;exact⟨z,y,xs,Paired.mapP r λp q z=>⟨z.1,F _ _ z.2.1,z.2.2⟩,g,i,j,k _ _ (.inl rfl) e,c⟩
 | set S n=>obtain⟨g,i,j,t,e,c⟩:=x;exact⟨g,i,j,t,k _ _ (.inl rfl) e,c⟩
 | ins C dx fs =>
  obtain⟨d,z,E,e,A,⟨s,i,j,I,c⟩,r⟩:=x;exact⟨G _ d,z,E,k _ _ (.inl rfl) e,A,⟨s,i,j,k _ _ (.inr d) I,c⟩,r⟩
 | own y=>obtain⟨g,e⟩:=x;exact⟨g,k _ _ (.inl rfl) e⟩
 | xd fs=>obtain⟨A,⟨s,i,j,e,c⟩,r⟩:=x;exact⟨A,⟨s,i,j,k _ _ (.inl rfl) e,c⟩,r⟩
 | rng lo hi=>obtain⟨t,u,v,e⟩:=x;exact⟨t,u,v,k _ _ (.inl rfl) e⟩
 | frz g u ih=>obtain⟨e,q⟩:=x;exact⟨k _ _ (.inl rfl) e,ih q⟩
 | tbl ps =>
  have e:h.get? a=some { cls:=.none,data:=.fields ps }:=x;show h'.get? a=some { cls:=.none,data:=.fields ps };exact k a _ (.inl rfl) e
 | met f y =>
  have e:h.get? a=some (methodObj (.ref f) (.ref y)):=x;show h'.get? a=some (methodObj (.ref f) (.ref y));exact k a _ (.inl rfl) e
 | ext φ=>obtain⟨p,⟨o,e⟩,B⟩:=x;exact⟨B _ _ p λo q=>k _ _ (.inl rfl) q,⟨o,k _ _ (.inl rfl) e⟩,B⟩
theorem HOk.lt(x:HOk P w H h)(e:H a=some o):a<h.objs.size:=(x a o e).lt
theorem HOk.fresh(x:HOk P w H h)(e:h.objs.size<=a):H a=none:=by
 cases q:H a with
 | none=>rfl
 | some u=>exact absurd (Nat.lt_of_lt_of_le (x.lt q) e) (Nat.lt_irrefl _)
theorem HOk.kept(x:HOk P w H h)(k:∀ b u,h.get? b=some u->h'.get? b=some u):HOk P w H h':=λa o e =>
 (x a o e).stay (λb u _ q=>k b u q) (λ_ q=>q) λ_ _ q=>q
theorem HOk.laid(x:HOk P w H h)(k:∀ b u,h.get? b=some u->h'.get? b=some u)(g:h.objs.size<=a)(d:ObjOk P w (upd H a o) h' a o):HOk P w (upd H a o) h':=λb u e=>by
 have f:=x.fresh g
 by_cases hb:b=a
 .subst hb;rw[ae]at e;cases e;exact d
 .rw[az hb]at e
  exact(x b u e).stay (λc v _ q=>k c v q) (λc q=>by rw[az (aJ q f)];exact q) λc xs q=>by rw[az (aJ q f)];exact q
end
def Rd(H:Hp)(a:Addr)(u:HO):Prop:=H a=some u\/∃ o,H a=some (.frz o u)
theorem Rd.ok{P:Program}{w:World}{H:Hp}{h:Heap}{a:Addr}{u:HO}(r:Rd H a u)(x:HOk P w H h):ObjOk P w H h a u:=by
 rcases r with r | ⟨o,r⟩
 .exact x a u r
 .obtain⟨_,q⟩:=x a _ r
  exact q
def Mut:Option HO->Prop
 | some (.lst _)=>True
 | some (.dK _)=>True
 | some (.dT _)=>True
 | some (.set _ _)=>True
 | some (.ins _ _ _)=>True
 | some (.ext _)=>True
 | _=>False
section
variable {P:Program}{w:World}{H:Hp}{h h':Heap}{x e:Addr}{o':HO}
theorem HOk.write(s:HOk P w H h)(g:Mut (H x))(l:e=x\/H e=some (.own x))(k:∀ b u,b≠e->h.get? b=some u->h'.get? b=some u)(i:∃ u,h'.get? e=some u)
  (j:ObjOk P w (upd H x o') h' x o'):HOk P w (upd H x o') h':=λb u q=>by
 have a:∀ c y,H c=some (.own y)->c≠x:=λc y r z=>by subst z;rw[r]at g;exact g
 have d:∀ c f,H c=some (.tup f)->c≠x:=λc f r z=>by subst z;rw[r]at g;exact g
 by_cases hb:b=x
 .subst hb;rw[ae]at q;cases q;exact j
 .rw[az hb]at q
  by_cases hbe:b=e
  .have o:H b=some (.own x):=by
    rcases l with z | z
    .exact absurd (hbe.trans z) hb
    .rw[hbe];exact z
   rw[q]at o;cases o;obtain⟨v,p⟩:=i;exact⟨v,by rw[hbe];exact p⟩
  .refine(s b u q).stay (λc v hc r=>k c v ?_ r) (λc r=>by rw[az (a c b r)];exact r) λc f r=>by rw[az (d c f r)];exact r
   rcases hc with rfl | hc
   .exact hbe
   .rintro rfl
    rcases l with z | z
    .exact a c b hc z
    .rw[hc]at z;cases z;exact hb rfl
end
structure Un(fs ex:List Addr)(H H':Hp)(h h':Heap):Prop where
 keep:∀ b o,h.get? b=some o->H b=none->b ∉ fs->b ∉ ex->h'.get? b=some o
 slot:∀ b o,h.get? b=some o->H b=none->b∈fs->b ∉ ex->∃ sl,h'.get? b=some { o with slots:=sl }
 free:∀ b o,h.get? b=some o->H b=none->b ∉ ex->H' b=none
 there:∀ b o,h.get? b=some o->b ∉ ex->∃ o',h'.get? b=some o'
 tups:∀ b xs,H b=some (.tup xs)->H' b=some (.tup xs)
 frzs:∀ b o u,H b=some (.frz o u)->H' b=some (.frz o u)
 tbls:∀ b ps,H b=some (.tbl ps)->∃ more,H' b=some (.tbl (ps++more))
section
variable {fs fs' ex ex':List Addr}{H H1 H2:Hp}{h h1 h2 h':Heap}{a x e:Addr}{o:HO}
theorem Un.any(u:Un fs ex H H1 h h1){b:Addr}{a:Obj}(q:h.get? b=some a)(n:H b=none)(c:b ∉ ex):∃ sl,h1.get? b=some { a with slots:=sl }:=by
 by_cases hb:b∈fs
 .exact u.slot b a q n hb c
 .exact⟨a.slots,u.keep b a q n hb c⟩
theorem Un.kept(k:∀ b u,h.get? b=some u->h'.get? b=some u):Un fs ex H H h h' :=
 ⟨λb a q _ _ _=>k b a q,λb a q _ _ _=>⟨a.slots,k b a q⟩,λ_ _ _ n _=>n,λb a q _=>⟨a,k b a q⟩,λ_ _ q=>q,λ_ _ _ q=>q,λ_ ps q=>⟨#[],by rw[q];simp⟩⟩
theorem Un.refl:Un fs ex H H h h:=Un.kept λ_ _ q=>q
theorem Un.laid(k:∀ b u,h.get? b=some u->h'.get? b=some u)(e:h.objs.size<=a)(c:H a=none):Un fs ex H (upd H a o) h h' where
 keep:=λb u q _ _ _=>k b u q
 slot:=λb u q _ _ _=>⟨u.slots,k b u q⟩
 free:=λb u q n _=>by rw[az (Nat.ne_of_lt (Nat.lt_of_lt_of_le (Heap.lt_size q) e))];exact n
 there:=λb u q _=>⟨u,k b u q⟩
 tups:=λb d q=>by rw[az (aJ q c)];exact q
 frzs:=λb u d q=>by rw[az (aJ q c)];exact q
 tbls:=λb f q=>⟨#[],by rw[az (aJ q c),q];simp⟩
theorem Un.write(a:Mut (H x))(i:e=x\/H e=some (.own x))(k:∀ b u,b≠e->h.get? b=some u->h'.get? b=some u)(d:∃ u,h'.get? e=some u):Un fs ex H (upd H x o) h h':=by
 have f:∀ b,H b=none->b≠x:=λb n z=>by subst z;rw[n]at a;exact a
 have g:∀ b,H b=none->b≠e:=λb n z=>by
  subst z
  rcases i with r | r
  .exact f b n r
  .rw[n]at r;cases r
 have c:∀ b u,H b=some u->¬Mut (some u)->b≠x:=λb u q l z=>by subst z;rw[q]at a;exact l a
 refine⟨λb u q n _ _=>k b u (g b n) q,λb u q n _ _=>⟨u.slots,k b u (g b n) q⟩,λb u q n _=>by rw[az (f b n)];exact n,λb u q _=>?_,
  λb j q=>by rw[az (c b _ q λz=>z)];exact q,λb u j q=>by rw[az (c b _ q λz=>z)];exact q,λb ps q=>⟨#[],by rw[az (c b _ q λz=>z),q];simp⟩⟩
 by_cases hbe:b=e
 .subst hbe;exact d
 .exact⟨u,k b u hbe q⟩
end
def trk(h:Heap)(H:Hp):List Addr:=(List.range h.objs.size).filter λa=>(H a).isSome
def kC(h:Heap)(H:Hp):Heap:=PySem.W.hideAll h (trk h H)
theorem qh(h:Heap)(H:Hp):(kC h H).objs.size=h.objs.size:=PySem.W.hideAll_size _ _
theorem sP{h:Heap}{H:Hp}{b:Addr}{o:Obj}(e:h.get? b=some o)(n:H b=none):(kC h H).get? b=some o :=
 PySem.W.hideAll_get _ e λa=>by
  have q:(H b).isSome=true:=(mem_filter.mp a).2;rw[n]at q;simp at q
theorem uQ{h:Heap}{H:Hp}{b:Addr}{o:Obj}(e:(kC h H).get? b=some o):h.get? b=some o/\H b=none:=by
 have a:h.get? b=some o:=PySem.W.of_hideAll (trk h H) e;refine⟨a,?_⟩;cases q:H b with
 | none=>rfl
 | some x =>
  have c:b∈trk h H:=mem_filter.mpr ⟨mem_range.mpr (Heap.lt_size a),by simp[q]⟩;have z:(kC h H).get? b=none:=PySem.W.hideAll_none (trk h H) c;rw[z]at e;cases e
structure Mod(K:Frag)(mg:Str->Option Value)(base:Heap):Prop where
 kin:K.In base
 glob:base.Ns mainGlobals mg
 blt:∃ mb,base.Ns builtinsNs mb/\∀ x:Str,x ≠ "__name__" -> mb x=bootBuiltins x
 nolimit:base.NoLimit
structure Cx where
 prog:Program
 w:World
 K:Frag
 mg:Str->Option Value
 base:Heap
 A:Around
 N:List Str
 s₀:Shared
 H₀:Hp
 env:Env
 outer:List Env
 stack:List Env
 ex:List Addr
 fn:Str->Bool
 calm:Bool
 pn:List (Addr×Obj)
 xe:Value->Shared->Prop
def frs(l:List Env):List Addr:=l.filterMap (·.frame)
abbrev Cx.fs(X:Cx):List Addr:=frs X.outer
def Vis(sc:Scope)(x:Str):Prop:=sc.names.lookup x = some .local\/sc.names.lookup x = some .cell\/sc.names.lookup x = some .free
def Loc(sc:Scope)(x:Str):Prop:=sc.names.lookup x = some .local\/sc.names.lookup x = some .cell
def yq(env:Env)(h:Heap)(m:Str->Option Value)(x:Str)(u:Value):Prop :=
 (env.kindOf x = some .local/\m x = some u)\/((env.kindOf x = some .cell\/env.kindOf x = some .free)/\∃ c,env.cells.lookup x = some c/\h.IsCell c (some u))
structure Cx.Ok(X:Cx):Prop where
 mod:Mod X.K X.mg X.base
 kind:X.env.scope.kind=.function
 glob:X.env.globals=mainGlobals
 blt:X.env.builtins=builtinsNs
 above:X.s₀.heap.objs.size<=X.env.locals
 inj:∀ x y c,X.env.cells.lookup x=some c->X.env.cells.lookup y=some c->x=y
 has:∀ x,(X.env.kindOf x=some .cell\/X.env.kindOf x=some .free)->∃ c,X.env.cells.lookup x=some c
 cab:∀ x c,X.fn x=true->X.env.cells.lookup x=some c->X.s₀.heap.objs.size<=c
 hd:X.calm=true->X.A.handled=none
 frames:X.A.frames=some X.stack
 stk:X.stack = X.outer\/(X.stack = X.env :: X.outer/\X.env.frame = some X.env.locals)
 exf:∀ b ∈ X.ex,b≠X.env.locals/\∀ x c,X.env.cells.lookup x = some c->c≠b
 bs:∀ b o,X.base.get? b=some o->X.s₀.heap.get? b=some o/\X.H₀ b=none
 bsz:X.base.objs.size<=X.s₀.heap.objs.size
 noex:∀ b o,X.base.get? b=some o->b ∉ X.ex
 exfs:∀ b∈X.ex,b ∉ X.fs
 funs:X.s₀.heap.FunFrames X.base X.outer
 frf:∀ b∈X.fs,X.H₀ b=none
structure Inv(X:Cx)(pins:List (Addr×Obj))(σ:List (Option V))(H:Hp)(s:Shared):Prop where
 ok:X.Ok
 os:s.os=X.s₀.os
 bare:AllBare s.gens
 base:Un X.fs X.ex X.H₀ H X.s₀.heap s.heap
 loc:∃ m,s.heap.Ns X.env.locals m/\∀(i:Nat) (x:Str) (v:V),X.N[i]? = some x->σ[i]? = some (some v)->Vis X.env.scope x->∃ u,RelV v u/\yq X.env s.heap m x u
 cell:∀ x c,X.env.cells.lookup x=some c->∃ v,s.heap.IsCell c v
 free:H X.env.locals = none
 freeC:∀ x c,X.env.cells.lookup x=some c->H c=none
 pin:∀ p ∈ X.pn ++ pins,s.heap.get? p.1 = some p.2/\H p.1 = none/\p.1≠X.env.locals/\p.1 ∉ X.fs/\∀ v,p.2.data≠.cell v
 hok:HOk X.prog X.w H s.heap
 len:σ.length=X.N.length
section
variable {X:Cx}{pins:List (Addr×Obj)}{σ:List (Option V)}{H H':Hp}{s:Shared}{h':Heap}
theorem Cx.Ok.nofr(a:X.Ok){b:Addr}{o:Obj}(e:X.base.get? b=some o):b ∉ X.fs:=λc=>by
 have:=(a.funs.mem c).1;rw[e]at this;cases this
theorem Inv.bs(I:Inv X pins σ H s):∀ b o,X.base.get? b=some o->s.heap.get? b=some o/\H b=none:=λb o e =>
 ⟨I.base.keep b o (I.ok.bs b o e).1 (I.ok.bs b o e).2 (I.ok.nofr e) (I.ok.noex b o e),I.base.free b o (I.ok.bs b o e).1 (I.ok.bs b o e).2 (I.ok.noex b o e)⟩
theorem Inv.bk(I:Inv X pins σ H s):∀ b o,X.base.get? b=some o->s.heap.get? b=some o:=λb o e=>(I.bs b o e).1
theorem Inv.mod(I:Inv X pins σ H s):Mod X.K X.mg X.base:=I.ok.mod
theorem Inv.kIn(I:Inv X pins σ H s):X.K.In s.heap:=I.ok.mod.kin.keeps I.bk
theorem Inv.lt(I:Inv X pins σ H s):X.env.locals < s.heap.objs.size:=let ⟨_,hn,_⟩:=I.loc;hn.lt
theorem Inv.sz(I:Inv X pins σ H s):X.s₀.heap.objs.size<=s.heap.objs.size:=Nat.le_trans I.ok.above (Nat.le_of_lt I.lt)
theorem Inv.nofs(I:Inv X pins σ H s){a:Addr}(h:s.heap.objs.size<=a):a ∉ X.fs:=λc=>by
 obtain⟨_,o,b,_⟩:=I.ok.funs.mem c;exact absurd (Nat.lt_of_lt_of_le (Heap.lt_size b) (Nat.le_trans I.sz h)) (Nat.lt_irrefl _)
theorem Inv.cne(I:Inv X pins σ H s):∀ x c,X.env.cells.lookup x = some c->c≠X.env.locals:=λx c e z=>by
 obtain⟨v,o,f,d⟩:=I.cell x c e;obtain⟨m,⟨i,g,h,a,b,_⟩,_⟩:=I.loc;rw[z,a]at f;cases f;rw[b]at d;cases d
theorem Inv.funs(I:Inv X pins σ H s):s.heap.FunFrames X.base X.outer:=by
 have d:∀(l:List Env),(∀ b∈frs l,b∈X.fs)->X.s₀.heap.FunFrames X.base l->s.heap.FunFrames X.base l:=by
  intro l
  induction l with
  | nil=>intro _ _;trivial
  | cons env r ih =>
   intro g v;obtain⟨i,⟨L,o,a,h,j,u⟩,p⟩:=v;have c:L∈X.fs:=g L (by unfold frs;rw[List.filterMap_cons,a];exact mem_cons_self);obtain⟨w,e⟩:=I.base.slot L o j (I.ok.frf L c) c λz=>I.ok.exfs L z c
   exact⟨i,⟨L,_,a,h,e,u⟩,ih (λb f=>g b (by unfold frs;rw[List.filterMap_cons,a];exact mem_cons_of_mem _ f)) p⟩
 exact d X.outer (λ_ f=>f) I.ok.funs
theorem Inv.stack(I:Inv X pins σ H s):s.heap.FunFrames X.base X.stack:=by
 rcases I.ok.stk with e | ⟨e,a⟩
 .rw[e];exact I.funs
 .rw[e]
  obtain⟨m,b,_⟩:=I.loc;refine .cons (by rw[I.ok.kind];decide) a b ?_ I.funs;exact Heap.get?_none_of_le (Nat.le_trans I.ok.bsz I.ok.above)
theorem Inv.stkSub(I:Inv X pins σ H s):∀ b ∈ frs X.stack,b ∈ X.env.locals :: X.fs:=λb a=>by
 rcases I.ok.stk with e | ⟨e,c⟩
 .rw[e]at a;exact mem_cons_of_mem _ a
 .rw[e]at a
  unfold frs at a;rw[List.filterMap_cons,c]at a;exact a
theorem Inv.stkFree(I:Inv X pins σ H s):∀ b∈frs X.stack,H b=none:=λb hb=>by
 rcases mem_cons.mp (I.stkSub b hb) with e | hb
 .rw[e];exact I.free
 .obtain⟨_,o,a,_⟩:=I.ok.funs.mem hb
  exact I.base.free b o a (I.ok.frf b hb) λz=>I.ok.exfs b z hb
theorem Inv.step{g':Array GenState}{t':Nat}{d':Drawn}{ch:List Addr}(I:Inv X pins σ H s)
  (w:∀ b ∈ ch,(b ∈ X.ex\/X.s₀.heap.objs.size<=b)/\b≠X.env.locals/\(∀ x c,X.env.cells.lookup x = some c->c≠b)/\∀ p ∈ X.pn ++ pins,p.1≠b)
  (g:∀ b o,b≠X.env.locals->b ∉ X.fs->b ∉ ch->s.heap.get? b = some o->H b = none->h'.get? b = some o)
  (B:∀ b o,b≠X.env.locals->b ∈ X.fs->b ∉ ch->s.heap.get? b = some o->H b = none->∃ sl,h'.get? b = some { o with slots:=sl }) (f:∀ b o,b ∉ ch->s.heap.get? b = some o->H b = none->H' b = none)
  (C:∀ b o,b ∉ ch->s.heap.get? b=some o->∃ o',h'.get? b=some o')
  (F:∀ b xs,H b=some (.tup xs)->H' b=some (.tup xs)) (M:∀ b o u,H b=some (.frz o u)->H' b=some (.frz o u)) (K:∀ b ps,H b=some (.tbl ps)->∃ more,H' b=some (.tbl (ps++more)))
  (ns:∀ m,s.heap.Ns X.env.locals m->h'.Ns X.env.locals m) (N:HOk X.prog X.w H' h') (hg:AllBare g') :
  Inv X pins σ H' { s with heap:=h',gens:=g',drawn:=d',toks:=t' }:=by
 have L:∀ b o,X.s₀.heap.get? b = some o->b≠X.env.locals:=λb o e=>Nat.ne_of_lt (Nat.lt_of_lt_of_le (Heap.lt_size e) I.ok.above)
 have A:∀ b o,X.s₀.heap.get? b=some o->b ∉ X.ex->b ∉ ch:=λb o e a D=>by
  rcases(w b D).1 with z | z
  .exact a z
  .exact absurd (Nat.lt_of_lt_of_le (Heap.lt_size e) z) (Nat.lt_irrefl _)
 have j:∀ x c,X.env.cells.lookup x=some c->∀ v,s.heap.IsCell c v->h'.IsCell c v:=λx c e v ⟨o,E,P⟩=>by
  have h:c ∉ ch:=λz=>(w c z).2.2.1 x c e rfl
  by_cases hc:c∈X.fs
  .obtain⟨sl,q⟩:=B c o (I.cne x c e) hc h E (I.freeC x c e)
   exact⟨_,q,P⟩
  .exact⟨o,g c o (I.cne x c e) hc h E (I.freeC x c e),P⟩
 refine⟨I.ok,I.os,hg,⟨λb o e n D a=>?_,λb o e n D a=>?_,λb o e n a=>?_,λb o e a=>?_,λb xs e=>F b xs (I.base.tups b xs e),λb o xs e=>M b o xs (I.base.frzs b o xs e),λb ps e=>?_⟩,?_,λx c e=>?_,?_,λx c e=>?_,λp hp=>?_,N,I.len⟩
 .exact g b o (L b o e) D (A b o e a) (I.base.keep b o e n D a) (I.base.free b o e n a)
 .obtain⟨sl,y⟩:=I.base.slot b o e n D a
  obtain⟨O,G⟩:=B b _ (L b o e) D (A b o e a) y (I.base.free b o e n a);exact⟨O,G⟩
 .obtain⟨o',y⟩:=I.base.there b o e a
  exact f b o' (A b o e a) y (I.base.free b o e n a)
 .obtain⟨o',y⟩:=I.base.there b o e a
  exact C b o' (A b o e a) y
 .obtain⟨Y,y⟩:=I.base.tbls b ps e
  obtain⟨T,G⟩:=K b _ y;exact⟨Y++T,by rw[G,Array.append_assoc]⟩
 .obtain⟨m,S,Z⟩:=I.loc
  refine⟨m,ns m S,λi x v y G W=>?_⟩;obtain⟨u,r,l⟩:=Z i x v y G W;refine⟨u,r,?_⟩
  rcases l with l | ⟨k,c,e,z⟩
  .exact .inl l
  .exact .inr ⟨k,c,e,j x c e _ z⟩
 .obtain⟨v,z⟩:=I.cell x c e
  exact⟨v,j x c e v z⟩
 .obtain⟨m,⟨o,_,_,E,_⟩,_⟩:=I.loc
  exact f _ o (λz=>(w _ z).2.1 rfl) E I.free
 .obtain⟨v,o,E,P⟩:=I.cell x c e
  exact f c o (λz=>(w c z).2.2.1 x c e rfl) E (I.freeC x c e)
 .obtain⟨e,n,R,Q,d⟩:=I.pin p hp
  have h:p.1 ∉ ch:=λz=>(w p.1 z).2.2.2 p hp rfl
  exact⟨g p.1 p.2 R Q h e n,f p.1 p.2 h e n,R,Q,d⟩
theorem Inv.un{t':Nat}(I:Inv X pins σ H s)(u:Un X.fs [] H H' s.heap h')(f:HOk X.prog X.w H' h'):Inv X pins σ H' { s with heap:=h',toks:=t' }:=by
 obtain⟨m,⟨o,j,l,g,r⟩,_⟩:=id I.loc;obtain⟨p,i⟩:=u.any g I.free (by simp)
 exact I.step (g':=s.gens) (d':=s.drawn) (ch:=[]) (λ_ z=>nomatch z) (λb o _ hb _ e n=>u.keep b o e n hb (by simp)) (λb o _ hb _ e n=>u.slot b o e n hb (by simp)) (λb o _ e n=>u.free b o e n (by simp)) (λb o _ e=>u.there b o e (by simp)) u.tups u.frzs u.tbls (λm' hm=>by
  obtain⟨v,c,d,a,h⟩:=hm;rw[g]at a;cases a
  exact⟨_,c,d,i,h⟩) f I.bare
theorem Inv.call{g':Array GenState}{t':Nat}{d':Drawn}{ch:List Addr}(I:Inv X pins σ H s)(u:Un (frs X.stack) ch H H' s.heap h')(j:HOk X.prog X.w H' h')(w:AllBare g')
  (f:∀ b ∈ ch,(b ∈ X.ex\/X.s₀.heap.objs.size<=b)/\b≠X.env.locals/\(∀ x c,X.env.cells.lookup x = some c->c≠b)/\∀ p ∈ X.pn ++ pins,p.1≠b) :
  Inv X pins σ H' { s with heap:=h',gens:=g',drawn:=d',toks:=t' }:=by
 obtain⟨m,⟨o,A,B,l,r⟩,_⟩:=id I.loc;obtain⟨C,i⟩:=u.any l I.free λz=>(f _ z).2.1 rfl
 exact I.step (ch:=ch) f (λb o i y a e n=>u.keep b o e n (λz=>(mem_cons.mp (I.stkSub b z)).elim i y) a) (λb o _ _ a e n=>u.any e n a) (λb o a e n=>u.free b o e n a) (λb o a e=>u.there b o e a) u.tups u.frzs u.tbls (λm' hm=>by
  obtain⟨D,g,h,d,v⟩:=hm;rw[l]at d;cases d
  exact⟨_,g,h,i,v⟩) j w
theorem Inv.turned{t':Nat}{a:Addr}(I:Inv X pins σ H s)(k:∀ b o,b≠a->s.heap.get? b = some o->h'.get? b = some o)(i:H a = none)(g:a≠X.env.locals)
  (h:a∈X.ex\/X.s₀.heap.objs.size<=a) (h2:∀ x c,X.env.cells.lookup x=some c->c≠a) (y:∀ p∈X.pn++pins,p.1≠a):Inv X pins σ H { s with heap:=h',toks:=t' }:=by
 have f:∀ b u,H b=some u->b≠a:=λb u e z=>by rw[z,i]at e;cases e
 refine I.step (g':=s.gens) (d':=s.drawn) (ch:=[a]) (λb A=>?_) (λb o _ _ d e _=>k b o (λz=>d (by simp[z])) e) (λb o _ _ d e _=>⟨o.slots,k b o (λz=>d (by simp[z])) e⟩) (λ_ _ _ _ n=>n)
  (λb o d e=>⟨o,k b o (λz=>d (by simp[z])) e⟩) (λ_ _ e=>e) (λ_ _ _ e=>e) (λb ps e=>⟨#[],by rw[e];simp⟩) (λm hm=>?_) (λb u e=>?_) I.bare
 .have e:b=a:=by simpa using A
  subst e;exact⟨h,g,h2,y⟩
 .obtain⟨o,l,j,w,r⟩:=hm
  exact⟨o,l,j,k _ o (Ne.symm g) w,r⟩
 .refine(I.hok b u e).stay (λc v d q=>k c v ?_ q) (λ_ q=>q) λ_ _ q=>q
  rcases d with z | z
  .rw[z];exact f b u e
  .exact f c _ z
theorem Inv.tok(I:Inv X pins σ H s)(t:Nat):Inv X pins σ H { s with toks:=t }:=I.un (h':=s.heap) (t':=t) Un.refl I.hok
theorem Inv.kept{t':Nat}(I:Inv X pins σ H s)(k:∀ b u,s.heap.get? b=some u->h'.get? b=some u):Inv X pins σ H { s with heap:=h',toks:=t' }:=I.un (Un.kept k) (I.hok.kept k)
theorem Inv.laid{a:Addr}{o:HO}{t':Nat}(I:Inv X pins σ H s)(k:∀ b u,s.heap.get? b=some u->h'.get? b=some u)(d:s.heap.objs.size<=a)(c:ObjOk X.prog X.w (upd H a o) h' a o) :
  Inv X pins σ (upd H a o) { s with heap:=h',toks:=t' }:=I.un (Un.laid k d (I.hok.fresh d)) (I.hok.laid k d c)
theorem Inv.write{x e:Addr}{o:HO}{t':Nat}(I:Inv X pins σ H s)(d:Mut (H x))(f:e=x\/H e=some (.own x))(k:∀ b u,b≠e->s.heap.get? b=some u->h'.get? b=some u)(a:∃ u,h'.get? e=some u)
  (c:ObjOk X.prog X.w (upd H x o) h' x o):Inv X pins σ (upd H x o) { s with heap:=h',toks:=t' }:=I.un (Un.write d f k a) (I.hok.write d f k a c)
theorem Inv.weak{a:List (Option V)}(I:Inv X pins σ H s)(d:a.length=σ.length)(w:∀(i:Nat) v,a[i]? = some (some v)->σ[i]? = some (some v)):Inv X pins a H s :=
 ⟨I.ok,I.os,I.bare,I.base,let ⟨m,hn,hl'⟩:=I.loc;⟨m,hn,λi x v c e b=>hl' i x v c (w i v e) b⟩,I.cell,I.free,I.freeC,I.pin,I.hok,d.trans I.len⟩
theorem Inv.pins_of{a:List (Addr×Obj)}(I:Inv X pins σ H s)(h:∀ p ∈ a,s.heap.get? p.1 = some p.2/\H p.1 = none/\p.1≠X.env.locals/\p.1 ∉ X.fs/\∀ v,p.2.data≠.cell v):Inv X a σ H s :=
 ⟨I.ok,I.os,I.bare,I.base,I.loc,I.cell,I.free,I.freeC,λp b=>(mem_append.mp b).elim (λz=>I.pin p (mem_append_left _ z)) (h p),I.hok,I.len⟩
theorem jR{N:List Str}(d:N.Nodup){i j:Nat}{x:Str}(a:N[i]? = some x)(b:N[j]? = some x):i=j:=by
 obtain⟨f,c⟩:=List.getElem?_eq_some_iff.mp a;obtain⟨g,e⟩:=List.getElem?_eq_some_iff.mp b;exact(List.getElem_inj d).mp (c.trans e.symm)
theorem kW{M:Model}{A:Around}{E:Value->Shared->Prop}{i:Nat}{x:Str}{v:V}{u:Value}{Q:Unit->Shared->Prop}(I:Inv X pins σ H s)(hN:X.N.Nodup)(O:X.N[i]? = some x)(w:Loc X.env.scope x)(r:RelV v u)
  (h:∀ s',Inv X pins (σ.set i (some v)) H s'->(∃ a,Heap.SameBut a s.heap s'.heap/\(a = X.env.locals\/X.env.cells.lookup x = some a))->Q () s') (hf:X.fn x = true\/X.env.scope.names.lookup x = some .local:=by first | exact .inl rfl | exact .inr rfl | assumption):wpAny M A (storeName X.env x u) Q E s:=by
 obtain⟨m,Y,hl⟩:=id I.loc;have R:(X.env.scope.kind == .class || (X.env.scope.kind == .module && X.env.locals != X.env.globals)) = false:=by rw[I.ok.kind];rfl
 have C:i<σ.length:=by rw[I.len];exact(List.getElem?_eq_some_iff.mp O).1
 have G:=I.cne
 have l:∀{a:Addr}{K:Heap},(∃ o,s.heap.get? a=some o/\H a=none)->Heap.SameBut a s.heap K->HOk X.prog X.w H K:=λ{a K} ha f b ob e=>by
  obtain⟨_,_,B⟩:=ha;refine(I.hok b ob e).stay (λc T hc q=>(f.2 c ?_).trans q) (λ_ q=>q) λ_ _ q=>q
  rintro rfl
  rcases hc with rfl | hc
  .rw[B]at e;cases e
  .rw[B]at hc;cases hc
 rcases w with hk | hk
 .refine wpAny_storeName_local hk Y (λK ab f=>?_) R
  obtain⟨oL,_,_,ad,_⟩:=id Y;refine h _ ⟨I.ok,I.os,I.bare,⟨λb o e n D w=>?_,λb o e n D w=>?_,I.base.free,λb o e w=>?_,I.base.tups,I.base.frzs,I.base.tbls⟩,⟨_,ab,λj y v' g e2 e3=>?_⟩,λy c e=>?_,I.free,I.freeC,λp hp=>?_,l ⟨oL,ad,I.free⟩ f,by simpa using I.len⟩ ⟨_,f,.inl rfl⟩
  .exact(f.2 b (Nat.ne_of_lt (Nat.lt_of_lt_of_le (Heap.lt_size e) I.ok.above))).trans (I.base.keep b o e n D w)
  .obtain⟨Z,g⟩:=I.base.slot b o e n D w
   exact⟨Z,(f.2 b (Nat.ne_of_lt (Nat.lt_of_lt_of_le (Heap.lt_size e) I.ok.above))).trans g⟩
  .obtain⟨o',g⟩:=I.base.there b o e w
   exact⟨o',(f.2 b (Nat.ne_of_lt (Nat.lt_of_lt_of_le (Heap.lt_size e) I.ok.above))).trans g⟩
  .by_cases hj:j=i
   .subst hj
    rw[O]at g;cases g;rw[List.getElem?_set_self C]at e2;cases e2;exact⟨u,r,.inl ⟨hk,by simp⟩⟩
   .rw[List.getElem?_set_ne (Ne.symm hj)]at e2
    obtain⟨u',r',q⟩:=hl j y v' g e2 e3;refine⟨u',r',?_⟩
    rcases q with⟨k,e⟩ | ⟨k,c,e,z⟩
    .refine .inl ⟨k,?_⟩
     have:y≠x:=λe=>hj (jR hN g (e ▸ O))
     simp[this,e]
    .exact .inr ⟨k,c,e,z.sameBut f (G y c e)⟩
  .obtain⟨T,z⟩:=I.cell y c e
   exact⟨T,z.sameBut f (G y c e)⟩
  .obtain⟨e,n,W,nf,d⟩:=I.pin p hp
   exact⟨(f.2 p.1 W).trans e,n,W,nf,d⟩
 .have F:X.fn x=true:=by
   rcases hf with z | z
   .exact z
   .rw[z]at hk;cases hk
  obtain⟨c,hc⟩:=I.ok.has x (.inl hk);obtain⟨T,z⟩:=I.cell x c hc;refine wpAny_storeName_cell I.ok.kind hk hc z (λK L f=>?_);obtain⟨oc,N,P⟩:=id z;refine h { s with heap:=K } ⟨I.ok,I.os,I.bare,⟨λb o e n D w=>?_,λb o e n D w=>?_,I.base.free,λb o e w=>?_,I.base.tups,I.base.frzs,I.base.tbls⟩,⟨m,Y.sameBut f (Ne.symm (G x c hc)),λj y v' g e2 e3=>?_⟩,λy S e=>?_,I.free,I.freeC,λp hp=>?_,l ⟨oc,N,I.freeC x c hc⟩ f,by simpa using I.len⟩ ⟨c,f,.inr hc⟩
  .exact(f.2 b (Nat.ne_of_lt (Nat.lt_of_lt_of_le (Heap.lt_size e) (I.ok.cab x c F hc)))).trans (I.base.keep b o e n D w)
  .obtain⟨Z,g⟩:=I.base.slot b o e n D w
   exact⟨Z,(f.2 b (Nat.ne_of_lt (Nat.lt_of_lt_of_le (Heap.lt_size e) (I.ok.cab x c F hc)))).trans g⟩
  .obtain⟨o',g⟩:=I.base.there b o e w
   exact⟨o',(f.2 b (Nat.ne_of_lt (Nat.lt_of_lt_of_le (Heap.lt_size e) (I.ok.cab x c F hc)))).trans g⟩
  .by_cases hj:j=i
   .subst hj
    rw[O]at g;cases g;rw[List.getElem?_set_self C]at e2;cases e2;exact⟨u,r,.inr ⟨.inl hk,c,hc,L⟩⟩
   .rw[List.getElem?_set_ne (Ne.symm hj)]at e2
    obtain⟨u',r',q⟩:=hl j y v' g e2 e3;refine⟨u',r',?_⟩
    rcases q with q | ⟨k,S,e,z'⟩
    .exact .inl q
    .refine .inr ⟨k,S,e,z'.sameBut f ?_⟩
     rintro rfl;exact hj (jR hN g (I.ok.inj _ _ _ e hc ▸ O))
  .by_cases hcc:S=c
   .subst hcc;exact⟨_,L⟩
   .obtain⟨w2,z2⟩:=I.cell y S e
    exact⟨w2,z2.sameBut f hcc⟩
  .obtain⟨e,n,W,nf,d⟩:=I.pin p hp
   refine⟨(f.2 p.1 ?_).trans e,n,W,nf,d⟩;intro q;rw[q,N]at e;have q':oc=p.2:=Option.some.inj e;exact d T (by rw[<- q'];exact P)
theorem gN{M:Model}{A:Around}{E:Value->Shared->Prop}{i:Nat}{x:Str}{v:V}{u:Value}{Q:Unit->Shared->Prop}(I:Inv X pins σ H s)(e:X.N.Nodup)(c:X.N[i]? = some x)(a:Loc X.env.scope x)(r:RelV v u)
  (h:∀ s',Inv X pins (σ.set i (some v)) H s'->Q () s') (b:X.fn x = true\/X.env.scope.names.lookup x = some .local:=by first | exact .inl rfl | exact .inr rfl | assumption):wpAny M A (storeName X.env x u) Q E s :=
 kW I e c a r (λs' d _=>h s' d) b
theorem Inv.call'{s':Shared}{ch:List Addr}(I:Inv X pins σ H s)(f:s'.os=s.os)(u:Un (frs X.stack) ch H H' s.heap s'.heap)(a:HOk X.prog X.w H' s'.heap)(g:AllBare s'.gens)
  (d:∀ b ∈ ch,(b ∈ X.ex\/X.s₀.heap.objs.size<=b)/\b≠X.env.locals/\(∀ x c,X.env.cells.lookup x = some c->c≠b)/\∀ p ∈ X.pn ++ pins,p.1≠b):Inv X pins σ H' s':=by
 obtain⟨i,g',d',t',h⟩:=s';have e:h=s.os:=f;subst e;exact I.call (g':=g') (t':=t') (d':=d') u a g d
end
abbrev XK:=Value->Option Addr->Hp->Prop
abbrev St:=List (Option V)
abbrev VK:=V->Hp->Prop
abbrev TE:=St->Hp->VK->Prop
abbrev TT:=St->Hp->(Bool->Hp->Prop)->Prop
abbrev TA:=St->Hp->(List V->Hp->Prop)->Prop
structure Ends where
 nx:St->Hp->Prop
 rt:VK
 bk:St->Hp->Prop:=λ_ _=>False
 ct:St->Hp->Prop:=λ_ _=>False
abbrev TS:=Ends->St->Hp->Prop
def EP(X:Cx)(pins:List (Addr×Obj))(σ:St)(Q:VK)(u:Value)(s':Shared):Prop:=∃ v H',Inv X pins σ H' s'/\RelV v u/\Q v H'
def TP(X:Cx)(pins:List (Addr×Obj))(σ:St)(Q:Bool->Hp->Prop)(b:Bool)(s':Shared):Prop:=∃ H',Inv X pins σ H' s'/\Q b H'
def AP(X:Cx)(pins:List (Addr×Obj))(σ:St)(Q:List V->Hp->Prop)(us:List Value)(s':Shared):Prop:=∃ vs H',Inv X pins σ H' s'/\Vals vs us/\Q vs H'
def SP(X:Cx)(pins:List (Addr×Obj))(D:Ends)(f:Flow)(s':Shared):Prop :=
 match f with
 | .next=>∃ σ' H',Inv X pins σ' H' s'/\D.nx σ' H'
 | .brk=>∃ σ' H',Inv X pins σ' H' s'/\D.bk σ' H'
 | .cont=>∃ σ' H',Inv X pins σ' H' s'/\D.ct σ' H'
 | .ret u=>∃ v σ' H',Inv X pins σ' H' s'/\RelV v u/\D.rt v H'
def PE(X:Cx)(e:Expr)(t:TE):Prop :=
 ∀(pins:List (Addr×Obj)) (s:Shared) (σ:St) (H:Hp) (Q:VK),Inv X pins σ H s->t σ H Q->wpAny (model X.prog X.w) X.A (eval e X.env) (EP X pins σ Q) X.xe s
def PT(X:Cx)(e:Expr)(t:TT):Prop :=
 ∀(pins:List (Addr×Obj)) (s:Shared) (σ:St) (H:Hp) (Q:Bool->Hp->Prop),Inv X pins σ H s->t σ H Q->wpAny (model X.prog X.w) X.A (isTrue e X.env (eval e X.env)) (TP X pins σ Q) X.xe s
def PW(X:Cx)(e:Expr)(t:TT):Prop :=
 ∀(whole:Sem Value) (pins:List (Addr×Obj)) (s:Shared) (σ:St) (H:Hp) (Q:Bool->Hp->Prop),Inv X pins σ H s->t σ H Q->wpAny (model X.prog X.w) X.A (isTrue e X.env whole) (TP X pins σ Q) X.xe s
theorem PW.pt{X:Cx}{e:Expr}{t:TT}(h:PW X e t):PT X e t:=h _
def PA(X:Cx)(es:List Expr)(t:TA):Prop :=
 ∀(pos:Pos) (pins:List (Addr×Obj)) (s:Shared) (σ:St) (H:Hp) (Q:List V->Hp->Prop),Inv X pins σ H s->t σ H Q->wpAny (model X.prog X.w) X.A (spliced (backTo pos (starEach es X.env))) (AP X pins σ Q) X.xe s
def PS(X:Cx)(st:Stmt)(t:TS):Prop :=
 ∀(pins:List (Addr×Obj)) (s:Shared) (σ:St) (H:Hp) (D:Ends),Inv X pins σ H s->t D σ H->wpAny (model X.prog X.w) X.A (exec st X.env) (SP X pins D) X.xe s
def PSs(X:Cx)(st:List Stmt)(t:TS):Prop :=
 ∀(pins:List (Addr×Obj)) (s:Shared) (σ:St) (H:Hp) (D:Ends),Inv X pins σ H s->t D σ H->wpAny (model X.prog X.w) X.A (execs st X.env) (SP X pins D) X.xe s
theorem thn{b:Type}{t:Sem b}{Q c:b->Shared->Prop}{M:Model}{A:Around}{E:Value->Shared->Prop}{s:Shared}(h:wpAny M A t Q E s)(d:∀ a s,Q a s->c a s):wpAny M A t c E s:=wpAny_mono h d λ_ _ x=>x
section
variable {X:Cx}
def ya(i:Nat):TE:=λσ H Q=>∃ v,σ[i]? = some (some v)/\Q v H
def tC(v:V):TE:=λ_ H Q=>Q v H
theorem wr{i:Nat}{x:Str}{f:Pos}(z:X.N[i]? = some x)(w:Vis X.env.scope x)(j:(x == ("__debug__" : Str))=false:=by decide)(g:(x == ("__classdict__" : Str))=false:=by decide):PE X (.Name x f) (ya i):=by
 intro d s A H Q I h;obtain⟨v,e,h⟩:=h;obtain⟨m,p,B⟩:=I.loc;obtain⟨u,r,l⟩:=B i x v z e w
 have b:EP X d A Q u s:=⟨v,H,I,r,h⟩
 rcases l with⟨hk,y⟩ | ⟨hk,c,o,a⟩
 .exact wpAny_Name (wpAny_loadName_local I.ok.kind hk p y b) j
 .rcases hk with hk | hk
  .exact wpAny_Name (wpAny_loadName_cell I.ok.kind hk o a b) j
  .exact wpAny_Name (wpAny_loadName_free I.ok.kind hk o a b g) j
theorem ag{i j pos}:PE X (.Constant (.int i) j pos) (tC (.int i)):=λ_ _ _ H _ I h=>wpAny_Constant_int ⟨.int i,H,I.tok _,⟨_,rfl⟩,h⟩
theorem iF{b j pos}:PE X (.Constant (.bool b) j pos) (tC (.bl b)):=λ_ _ _ H _ I h=>Constant_bool ⟨.bl b,H,I,rfl,h⟩
theorem nW{j pos}:PE X (.Constant .none j pos) (tC .non):=λ_ _ _ H _ I h=>Constant_none ⟨.non,H,I,rfl,h⟩
theorem aE{x j pos}:PE X (.Constant (.str x) j pos) (tC (.str x)):=λ_ _ _ H _ I h=>Calls.Constant_str ⟨.str x,H,I.tok _,⟨_,rfl⟩,h⟩
def Gl(X:Cx)(x:Str):Prop:=X.env.kindOf x=some .globalImplicit
theorem ib{E:Value->Shared->Prop}{a:List (Addr×Obj)}{s:Shared}{d:St}{H:Hp}{x:Str}{u:Value}{b:Pos}{Q:Value->Shared->Prop}(I:Inv X a d H s)(e:Gl X x)(c:X.mg x=some u)(h:Q u s)
  (f:(x == ("__debug__" : Str))=false:=by decide):wpAny (model X.prog X.w) X.A (eval (.Name x b) X.env) Q E s :=
 Calls.Name_function_global I.ok.kind e (Calls.loadGlobal_global (by rw[I.ok.glob];exact I.mod.glob.keeps I.bk) c h) f
theorem i4{E:Value->Shared->Prop}{a:List (Addr×Obj)}{s:Shared}{i:St}{H:Hp}{x:Str}{u:Value}{b:Pos}{Q:Value->Shared->Prop}(I:Inv X a i H s)(j:Gl X x)(g:X.mg x=none)(e:bootBuiltins x=some u)(h:Q u s)
  (d:x ≠ "__name__" := by decide) (l:(x == ("__debug__" : Str))=false:=by decide):wpAny (model X.prog X.w) X.A (eval (.Name x b) X.env) Q E s:=by
 obtain⟨o,c,f⟩:=I.mod.blt;exact Calls.Name_function_global I.ok.kind j (Calls.loadGlobal_builtin (by rw[I.ok.glob];exact I.mod.glob.keeps I.bk) g (by rw[I.ok.blt];exact c.keeps I.bk) ((f x d).trans e) h) l
theorem uc{x:Str}{v:V}{u:Value}{a:Pos}(d:Gl X x)(c:X.mg x=some u)(r:RelV v u)(b:(x == ("__debug__" : Str))=false:=by decide):PE X (.Name x a) (tC v) :=
 λ_ _ _ H _ I h=>ib I d c ⟨v,H,I,r,h⟩ b
theorem eB{x:Str}{v:V}{u:Value}{a:Pos}(e:Gl X x)(d:X.mg x=none)(c:bootBuiltins x=some u)(r:RelV v u)(b:x ≠ "__name__" := by decide)(f:(x == ("__debug__" : Str))=false:=by decide):PE X (.Name x a) (tC v) :=
 λ_ _ _ H _ I h=>i4 I e d c ⟨v,H,I,r,h⟩ b f
variable {a b:Expr}{ta tb:TE}{pos:Pos}
variable {tA tB':TT}{bM:List Expr}
def yO(t u:TT):TT:=λσ H Q=>t σ H λc H1=>if c=true then u σ H1 Q else Q false H1
def tOr(t u:TT):TT:=λσ H Q=>t σ H λc H1=>if c=true then Q true H1 else u σ H1 Q
def yK(t:TT):TT:=λσ H Q=>t σ H λc H1=>Q (!c) H1
theorem fJ(f:PT X a tA):PW X (.BoolOp .And [a] pos) tA:=by
 intro i b s d H Q I h;refine isTrue_and (thn (f b s d H Q I h) λc g e=>?_);cases c with
 | true=>exact isTrue_and_nil e
 | false=>exact e
theorem lJ(f:PT X a tA):PW X (.BoolOp .Or [a] pos) tA:=by
 intro i b s d H Q I h;refine isTrue_or (thn (f b s d H Q I h) λc g e=>?_);cases c with
 | false=>exact isTrue_or_nil e
 | true=>exact e
theorem gY(o:PT X a tA)(p:PW X (.BoolOp .And (b::bM) pos) tB'):PW X (.BoolOp .And (a::b::bM) pos) (yO tA tB'):=by
 intro l d s e H Q I h;refine isTrue_and (thn (o d s e H _ I h) λc j ⟨g,i,f⟩=>?_);cases c with
 | true=>exact p l d j e g Q i f
 | false=>exact⟨g,i,f⟩
theorem jr(o:PT X a tA)(p:PW X (.BoolOp .Or (b::bM) pos) tB'):PW X (.BoolOp .Or (a::b::bM) pos) (tOr tA tB'):=by
 intro l d s e H Q I h;refine isTrue_or (thn (o d s e H _ I h) λc j ⟨g,i,f⟩=>?_);cases c with
 | true=>exact⟨g,i,f⟩
 | false=>exact p l d j e g Q i f
theorem gU(f:PT X a tA):PT X (.UnaryOp .Not a pos) (yK tA):=by
 intro b s d H Q I h;exact isTrue_not (f b s d H (λc e=>Q (!c) e) I h)
theorem sX{op}{t:TE}(h:PE X a t):PE X (.BoolOp op [a] pos) t:=λb s d H Q I c=>BoolOp_one (h b s d H Q I c)
def tIf(t:TT)(ta tb:TE):TE:=λσ H Q=>t σ H λc H1=>if c=true then ta σ H1 Q else tb σ H1 Q
theorem gQ{c:Expr}(o:PT X c tA)(p:PE X a ta)(r:PE X b tb):PE X (.IfExp c a b pos) (tIf tA ta tb):=by
 intro e s f H Q I h;refine wpAny_IfExp (thn (o e s f H _ I h) λd g ⟨i,l,j⟩=>?_);cases d with
 | true=>exact p e g f i Q l j
 | false=>exact r e g f i Q l j
end
def SqL(K:Frag)(H:Hp)(a:Addr)(xs:List V):Prop :=
 Rd H a (.lst xs) \/
  ∃(o:Obj) (its:Array Value) (n:Nat),K.lookup a=some o/\o.cls=.type "list" /\ o.dict=none/\o.data=.seq its n/\its.size<=sizeLine/\Vals xs its.toList
def SqT(K:Frag)(H:Hp)(a:Addr)(xs:List V):Prop :=
 Rd H a (.tup xs) \/
  ∃(o:Obj) (its:Array Value) (n:Nat),K.lookup a=some o/\o.cls=.type "tuple" /\ o.data=.seq its n/\its.size<=sizeLine/\Vals xs its.toList
def yG:Value->Option V
 | .none=>some .non
 | .bool b=>some (.bl b)
 | .int i _=>some (.int i)
 | .str x _=>some (.str x)
 | .bytes b _=>some (.byt b)
 | .float b _=>some (.flt b)
 | .ref a=>some (.ref a)
 | .type n=>some (.ty n)
 | _=>none
theorem RelV.abs{x:V}{u:Value}(r:RelV x u):yG u=some x:=by
 cases x with
 | non=>cases r;rfl
 | bl _=>cases r;rfl
 | int _=>obtain⟨t,rfl⟩:=r;rfl
 | str _=>obtain⟨t,rfl⟩:=r;rfl
 | byt _=>obtain⟨t,rfl⟩:=r;rfl
 | flt _=>obtain⟨t,rfl⟩:=r;rfl
 | ref _=>cases r;rfl
 | ty _=>cases r;rfl
theorem RelV.inj{x y:V}{u:Value}(r:RelV x u)(q:RelV y u):x=y:=Option.some.inj (r.abs.symm.trans q.abs)
theorem Vals.inj:∀{xs ys:List V}{us:List Value},Vals xs us->Vals ys us->xs=ys
 | _,_,_,.nil,.nil=>rfl
 | _,_,_,.cons r t,.cons r' t'=>by rw[r.inj r',Vals.inj t t']
section
variable {X:Cx}{pins:List (Addr×Obj)}{σ:St}{H:Hp}{s:Shared}{a:Addr}{xs ys:List V}
theorem SqL.of{K:Frag}(h:H a=some (.lst xs)):SqL K H a xs:=.inl (.inl h)
theorem SqT.of{K:Frag}(h:H a=some (.tup xs)):SqT K H a xs:=.inl (.inl h)
theorem Inv.list(I:Inv X pins σ H s)(h:SqL X.K H a xs):∃ its:List Value,Vals xs its/\PlainL s.heap a its.toArray/\xs.length<=sizeLine:=by
 rcases h with h | ⟨o,its,n,b,c,d,f,g,r⟩
 .obtain⟨z,its,n,r,e⟩:=h.ok I.hok
  exact⟨its,r,⟨_,n,e,rfl,rfl,rfl⟩,z⟩
 .refine⟨its.toList,r,⟨o,n,I.kIn a o b,c,d,by simpa using f⟩,?_⟩
  have e:=r.length;simp only[Array.length_toList]at e;lia
theorem Inv.tuple(I:Inv X pins σ H s)(h:SqT X.K H a xs):∃ its:List Value,Vals xs its/\IsTup s.heap a its.toArray/\xs.length<=sizeLine:=by
 rcases h with h | ⟨o,its,n,c,d,b,f,r⟩
 .obtain⟨z,its,r,p⟩:=h.ok I.hok
  exact⟨its,r,p,z⟩
 .refine⟨its.toList,r,⟨o,I.kIn a o c,d,n,by simpa using b⟩,?_⟩
  have e:=r.length;simp only[Array.length_toList]at e;lia
theorem Inv.list_inj(I:Inv X pins σ H s)(h:SqL X.K H a xs)(h':SqL X.K H a ys):xs=ys:=by
 obtain⟨c,r,⟨o,n,e,_,_,d⟩,_⟩:=I.list h;obtain⟨b,i,⟨l,j,g,_,_,f⟩,_⟩:=I.list h';rw[e]at g;cases g;rw[d]at f;injection f with d1 _
 have:c=b:=by simpa using congrArg Array.toList d1
 subst this;exact r.inj i
theorem Inv.tuple_inj(I:Inv X pins σ H s)(h:SqT X.K H a xs)(h':SqT X.K H a ys):xs=ys:=by
 obtain⟨c,r,⟨o,e,_,n,d⟩,_⟩:=I.tuple h;obtain⟨b,i,⟨l,g,_,j,f⟩,_⟩:=I.tuple h';rw[e]at g;cases g;rw[d]at f;injection f with d1 _
 have:c=b:=by simpa using congrArg Array.toList d1
 subst this;exact r.inj i
end
abbrev Cx.wish(X:Cx)(E:Value->Shared->Prop):Cx:={ X with xe:=E }
abbrev Cx.nox(X:Cx):Cx:=X.wish λ_ _=>False
theorem Cx.Ok.wish{X:Cx}(a:X.Ok)(E:Value->Shared->Prop):(X.wish E).Ok :=
 ⟨a.mod,a.kind,a.glob,a.blt,a.above,a.inj,a.has,a.cab,a.hd,a.frames,a.stk,a.exf,a.bs,a.bsz,a.noex,a.exfs,a.funs,a.frf⟩
theorem Cx.Ok.unwish{X:Cx}{E:Value->Shared->Prop}(a:(X.wish E).Ok):X.Ok :=
 ⟨a.mod,a.kind,a.glob,a.blt,a.above,a.inj,a.has,a.cab,a.hd,a.frames,a.stk,a.exf,a.bs,a.bsz,a.noex,a.exfs,a.funs,a.frf⟩
section
variable {X:Cx}{pins:List (Addr×Obj)}{σ:St}{H:Hp}{s:Shared}{E:Value->Shared->Prop}
theorem Inv.wish(I:Inv X pins σ H s)(E:Value->Shared->Prop):Inv (X.wish E) pins σ H s:=⟨I.ok.wish E,I.os,I.bare,I.base,I.loc,I.cell,I.free,I.freeC,I.pin,I.hok,I.len⟩
theorem Inv.unwish(I:Inv (X.wish E) pins σ H s):Inv X pins σ H s:=⟨I.ok.unwish,I.os,I.bare,I.base,I.loc,I.cell,I.free,I.freeC,I.pin,I.hok,I.len⟩
theorem SP.unwish{D:Ends}{f:Flow}{s':Shared}(h:SP (X.wish E) pins D f s'):SP X pins D f s':=by
 cases f with
 | next=>obtain⟨a,b,I,q⟩:=h;exact⟨a,b,I.unwish,q⟩
 | brk=>obtain⟨a,b,I,q⟩:=h;exact⟨a,b,I.unwish,q⟩
 | cont=>obtain⟨a,b,I,q⟩:=h;exact⟨a,b,I.unwish,q⟩
 | ret u=>obtain⟨v,a,b,I,r,q⟩:=h;exact⟨v,a,b,I.unwish,r,q⟩
theorem PSs.nox{st:List Stmt}{t:TS}(h:PSs X.nox st t):PSs X st t:=λa s c H D I b =>
 wpAny_mono (h a s c H D (I.wish _) b) (λ_ _ q=>q.unwish) λ_ _ z=>False.elim z
end
section
variable {X:Cx}{st:Stmt}{bM:List Stmt}{t u:TS}{e:Expr}{te:TE}{pos:Pos}
def wT:TS:=λD σ H=>D.nx σ H
def bD(t u:TS):TS:=λD σ H=>t { D with nx:=u D } σ H
theorem aD:PSs X [] wT:=λ_ _ a H _ I h=>wpAny_execs_nil ⟨a,H,I,h⟩
theorem af(c:PS X st t)(h2:PSs X bM u):PSs X (st::bM) (bD t u):=by
 intro a s i H D I h;refine wpAny_execs_cons (thn (c a s i H { D with nx:=u D } I h) λf d q=>?_);cases f with
 | next =>
  obtain⟨b,g,e,q⟩:=q;exact h2 a d b g D e q
 | ret v=>exact q
 | brk=>exact q
 | cont=>exact q
theorem ah(c:PS X st t):PSs X [st] t:=by
 intro a s b H D I h;refine wpAny_execs_cons (thn (c a s b H D I h) λf d q=>?_);cases f with
 | next=>exact wpAny_execs_nil q
 | ret v=>exact q
 | brk=>exact q
 | cont=>exact q
def vV:TS:=λD σ H=>D.bk σ H
theorem sV:PS X (.Break pos) vV:=λ_ _ a H _ I h=>wpAny_Break ⟨a,H,I,h⟩
theorem Inv.quiet{a:List (Addr×Obj)}{b:St}{H:Hp}{s:Shared}(I:Inv X a b H s):interactive X.env=false:=by simp[interactive,I.ok.kind]
def wY(te:TE):TS:=λD σ H=>te σ H λ_ H1=>D.nx σ H1
theorem aV(c:PE X e te)(g:swapsWith e none pos.line X.env=pure false:=by rfl):PS X (.Expr e pos) (wY te):=by
 intro a s b H D I h;exact wpAny_Expr_any (thn (c a s b H _ I h) λv j ⟨x,f,i,l,d⟩=>⟨b,f,i,d⟩) I.quiet g
def xY(te:TE):TS:=λD σ H=>te σ H D.rt
theorem aw(c:PE X e te):PS X (.Return (some e) pos) (xY te):=by
 intro a s b H D I h;exact wpAny_Return_some (thn (c a s b H _ I h) λv j ⟨x,g,i,d,f⟩=>⟨x,b,g,i,d,f⟩)
def ye(c:TT)(t u:TS):TS:=λD σ H=>c σ H λb H1=>if b=true then t D σ H1 else u D σ H1
theorem aI{c:Expr}{a b:List Stmt}{i:TT}(p:PT X c i)(r:PSs X a t)(v:PSs X b u):PS X (.If c a b pos) (ye i t u):=by
 intro e s f H D I h;refine wpAny_If (thn (p e s f H _ I h) λd g ⟨j,o,l⟩=>?_);cases d with
 | true=>exact r e g f j D o l
 | false=>exact v e g f j D o l
def vI:TS:=λ_ _ _=>False
theorem dZ:PS X st vI:=λ_ _ _ _ _ _ h=>h.elim
end
abbrev TG:=V->St->Hp->(St->Hp->Prop)->Prop
abbrev TGs:=List V->St->Hp->(St->Hp->Prop)->Prop
def PG(X:Cx)(target:Expr)(t:TG):Prop :=
 ∀(pins:List (Addr×Obj)) (s:Shared) (σ:St) (H:Hp) (v:V) (u:Value) (Q:St->Hp->Prop),Inv X pins σ H s->RelV v u->t v σ H Q ->
  wpAny (model X.prog X.w) X.A (assign target X.env u) (λ_ s'=>∃ σ' H',Inv X pins σ' H' s'/\Q σ' H') X.xe s
def PGs(X:Cx)(ts:List Expr)(t:TGs):Prop :=
 ∀(pins:List (Addr×Obj)) (s:Shared) (σ:St) (H:Hp) (vs:List V) (us:List Value) (Q:St->Hp->Prop),Inv X pins σ H s->Vals vs us->t vs σ H Q ->
  wpAny (model X.prog X.w) X.A (assignInOrder ((assignEach ts X.env).map (·.2)) us) (λ_ s'=>∃ σ' H',Inv X pins σ' H' s'/\Q σ' H') X.xe s
abbrev TIp:=V->V->Hp->VK->Prop
def PIp(X:Cx)(op:Operator)(t:TIp):Prop :=
 ∀(pins:List (Addr×Obj)) (s:Shared) (σ:St) (H:Hp) (x y:V) (v u:Value) (Q:VK),Inv X pins σ H s->RelV x v->RelV y u->t x y H Q ->
  wpAny (model X.prog X.w) X.A (inplaceOp op v u) (EP X pins σ Q) X.xe s
section
variable {X:Cx}{pos:Pos}
def rq(i:Nat):TG:=λv σ H Q=>Q (σ.set i (some v)) H
theorem au{i:Nat}{x:Str}(f:X.N.Nodup)(d:X.N[i]? = some x)(b:Loc X.env.scope x)(c:X.fn x = true\/X.env.scope.names.lookup x = some .local:=by first | exact .inl rfl | exact .inr rfl | assumption):PG X (.Name x pos) (rq i):=by
 intro a s g H v u Q I r h;exact wpAny_assign_Name (gN I f d b r (λj e=>⟨_,H,e,h⟩) c)
def yd:TGs:=λvs σ H Q=>vs=[]/\Q σ H
inductive gCons(t:TG)(u:TGs)(vs:List V)(σ:St)(H:Hp)(Q:St->Hp->Prop):Prop
 | mk(v:V)(r:List V)(h0:vs=v::r)(h1:t v σ H λσ' H'=>u r σ' H' Q):gCons t u vs σ H Q
theorem aO:PGs X [] yd:=by
 intro a s b H c d Q I r h;obtain⟨e,h⟩:=h;subst e;cases r;exact assignInOrder_nil ⟨b,H,I,h⟩
theorem ax{e:Expr}{b:List Expr}{t:TG}{u:TGs}(d:PG X e t)(h2:PGs X b u)
  (l:(assignEach (e::b) X.env).map (·.2)=assign e X.env::(assignEach b X.env).map (·.2):=by rfl):PGs X (e::b) (gCons t u):=by
 intro a s i H w y Q I r h;obtain⟨v,x,g,h⟩:=h;subst g;cases r with
 | cons r rr =>
  rw[l];refine assignInOrder_cons (thn (d a s i H _ _ _ I r h) λ_ f ⟨c,o,p,j⟩=>?_);exact h2 a f c o _ _ Q p rr j
inductive gTup(K:Frag)(n:Nat)(t:TGs)(v:V)(σ:St)(H:Hp)(Q:St->Hp->Prop):Prop
 | mk(a:Addr)(xs:List V)(h0:v=.ref a)(h1:SqT K H a xs)(h2:xs.length=n)(h3:t xs σ H Q):gTup K n t v σ H Q
theorem bA{d:List Expr}{k:Nat}{t:TGs}{n:Nat}(D:X.calm=true)(h:PGs X d t)
  (w:(assignEach d X.env).length=n:=by rfl) (g:(assignEach d X.env).findIdx? (·.1)=none:=by rfl):PG X (.Tuple d k pos) (gTup X.K n t):=by
 intro c s j H v u Q I r f;obtain⟨a,y,A,l,E,f⟩:=f;subst A;cases r;obtain⟨p,i,B,F⟩:=I.tuple l;refine assign_Tuple_tuple (I.ok.hd D) B (by simp[w,<- E,i.length]) g λC x=>?_
 have z:Inv X c j H { s with heap:=C }:=I.kept (t':=s.toks) λb o e=>x b o (Nat.ne_of_lt (Heap.lt_size e)) e
 exact h c _ j H y _ Q z (by simpa using i) f
def vN(te:TE)(g:TG):TS:=λD σ H=>te σ H λx H1=>g x σ H1 D.nx
theorem d4{tg e:Expr}{b:TE}{g:TG}(i:PE X e b)(l:PG X tg g)(r:swapsWithSole [tg] e pos.line X.env=pure false:=by rfl)(u:swappedStores [tg] e X.env=pure none:=by rfl)
  (d:(assignEach [tg] X.env).map (·.2)=[assign tg X.env]:=by rfl):PS X (.Assign [tg] e pos) (vN b g):=by
 intro a s c H D I h;refine wpAny_Assign_stores (thn (i a s c H _ I h) λv f ⟨x,p,w,j,o⟩=>?_) r u;rw[d];exact thn (l a f c p x v _ w j o) λ_ y q=>q
theorem ay{i:Nat}{x:Str}{e:Expr}{c:TE}{a:Pos}(p:X.N.Nodup)(l:X.N[i]? = some x)(d:Loc X.env.scope x)(f:PE X e c)(z:swapsWith e (some (.Name x a)) pos.line X.env = pure false:=by rfl)(j:X.fn x = true\/X.env.scope.names.lookup x = some .local:=by first | exact .inl rfl | exact .inr rfl | assumption) :
  PS X (.Assign [.Name x a] e pos) (vN c (rq i)):=by
 intro b s r H D I h;refine wpAny_Assign_Name (thn (f b s r H _ I h) λv B ⟨y,w,A,o,u⟩=>?_) z;exact gN A p l d o (λC g=>⟨_,w,g,u⟩) j
def yN(i j:Nat)(ta:TA):TS:=λD σ H=>ta σ H λvs H1=>∃ v w,vs=[v,w]/\D.nx ((σ.set i (some v)).set j (some w)) H1
theorem j6{i j:Nat}{x y:Str}{a b:Expr}{E:TA}{g u r:Pos}{kt k2 pt2}(Y:X.calm=true)(K:X.N.Nodup)(R:X.N[i]? = some x)(Z:X.N[j]? = some y)(z:i≠j)
  (A:X.env.scope.names.lookup x = some .local) (B:X.env.scope.names.lookup y = some .local) (M:PA X [a,b] E)
  (Q:swappedStores [.Tuple [.Name x g,.Name y u] kt r] (.Tuple [a,b] k2 pt2) X.env=pure (some [x,y]))
  (P:swapsWithSole [.Tuple [.Name x g,.Name y u] kt r] (.Tuple [a,b] k2 pt2) pos.line X.env=pure false:=by rfl) :
  PS X (.Assign [.Tuple [.Name x g,.Name y u] kt r] (.Tuple [a,b] k2 pt2) pos) (yN i j E):=by
 intro c s F H D I h;rw[exec_Assign_arm];refine wpAny_bind (wpAny_standAt ?_);rw[P];refine wpAny_bind (wpAny_pure ?_);rw[if_neg (by decide)];refine wpAny_bind (Tuple_ (thn (M _ c s F H _ I h) λO d ⟨vs,G,I1,S,f⟩=>?_));obtain⟨v,w,L,f⟩:=f;subst L
 obtain⟨u1,u2,rfl,rv,rw'⟩:∃ u1 u2,O=[u1,u2]/\RelV v u1/\RelV w u2:=by
  cases S with
  | cons p q =>
   cases q with
   | cons p' q' =>
    cases q';exact⟨_,_,rfl,p,p'⟩
 refine wpAny_newObj_type ?_ (by show 2<=sizeLine;decide);have W:Inv X c F G { d with heap:=d.heap.push { cls:=.type "tuple",data:=.seq [u1,u2].toArray } }:=I1.kept (t':=d.toks) λb o e=>Heap.get?_push_of_some _ e
 rw[Q];refine wpAny_bind (wpAny_pure ?_);show wpAny (model X.prog X.w) X.A (do rule "assign.swapped-stores";let items <- unpackItems (.ref d.heap.objs.size) 2 none;assignInOrder [λv=>bindName X.env y v,λv=>bindName X.env x v] items.reverse;pure Flow.next) _ _ _;refine wpAny_bind (wpAny_rule (wpAny_bind (unpackItems_tuple (items:=#[u1,u2]) (I.ok.hd Y) (IsTup.new d.heap _) λh' l=>?_)));have N:=W.kept (h':=h') (t':=d.toks) λb o e=>l b o (Nat.ne_of_lt (Heap.lt_size e)) e
 show wpAny _ _ (assignInOrder [λv=>bindName X.env y v,λv=>bindName X.env x v] [u2,u1] >>= λ_=>pure Flow.next) _ _ _;refine wpAny_bind (assignInOrder_cons (wpAny_bindName (gN N K Z (.inl B) rw' (λs2 T=>?_) (.inr B))));refine assignInOrder_cons (wpAny_bindName (gN T K R (.inl A) rv (λs3 C=>assignInOrder_nil (wpAny_pure ?_)) (.inr A)));rw[List.set_comm _ _ (Ne.symm z)]at C;exact⟨_,G,C,f⟩
def yw(i:Nat)(te:TE)(ti:TIp):TS:=λD σ H=>∃ x,σ[i]? = some (some x)/\te σ H λy H1=>ti x y H1 λz H2=>D.nx (σ.set i (some z)) H2
theorem wJ{i:Nat}{x:Str}{e:Expr}{E:TE}{o:Operator}{p:TIp}{d:Pos}(hN:X.N.Nodup)(A:X.N[i]? = some x)(g:Loc X.env.scope x)(P:PE X e E)(ho:PIp X o p)(Y:X.fn x = true\/X.env.scope.names.lookup x = some .local:=by first | exact .inl rfl | exact .inr rfl | assumption) :
  PS X (.AugAssign (.Name x d) o e pos) (yw i E p):=by
 intro a s C H D I h;obtain⟨v,K,h⟩:=h;obtain⟨m,G,T⟩:=I.loc;have j:Vis X.env.scope x:=by rcases g with k | k;exact .inl k;exact .inr (.inl k)
 obtain⟨u,r,l⟩:=T i x v A K j;refine wpAny_AugAssign_Name ?_
 have B:wpAny (model X.prog X.w) X.A (eval e X.env) (λw f=>wpAny (model X.prog X.w) X.A (inplaceOp o u w) (λr s₃=>wpAny (model X.prog X.w) X.A (storeName X.env x r) (λ_=>SP X a D .next) X.xe s₃) X.xe f) X.xe s:=by
  refine thn (P a s C H _ I h) λw O ⟨y,S,I1,R,L⟩=>?_
  refine thn (ho a O C S v y u w _ I1 r R L) λz s2 ⟨zv,Q,W,r2,F⟩=>?_
  exact gN W hN A g r2 (λs3 M=>⟨_,Q,M,F⟩) Y
 rcases l with⟨hk,N⟩ | ⟨hk,c,Z,b⟩
 .exact wpAny_loadName_local I.ok.kind hk G N B
 .rcases hk with hk | hk
  .exact wpAny_loadName_cell I.ok.kind hk Z b B
  .rcases g with k | k
   .have:X.env.scope.names.lookup x=some .free:=hk
    rw[k]at this;cases this
   .have:X.env.scope.names.lookup x=some .free:=hk
    rw[k]at this;cases this
def ipI(f:Int->Int->Int):TIp:=λx y H Q=>∃ i j,x=.int i/\y=.int j/\Q (.int (f i j)) H
theorem vG:PIp X .Sub (ipI λi j=>i - j):=by
 intro a s g H x y v u Q I c d h;obtain⟨i,j,b,e,q⟩:=h;subst b;subst e;obtain⟨t,rfl⟩:=c;obtain⟨f,rfl⟩:=d;exact isub_int ⟨.int _,H,I.tok _,⟨_,rfl⟩,q⟩
end
section
variable {X:Cx}{pos:Pos}
def we(c:TT)(tb:TS):TS:=λD σ H=>∃ W:Nat->St->Hp->Prop,(∃ m,W m σ H)/\∀ m σ H,W m σ H ->
 c σ H λb H1=>if b=true then ∃ N:St->Hp->Prop,(∀ σ' H',N σ' H'->∃ m',m'<m/\W m' σ' H')/\tb { D with nx:=N,ct:=N,bk:=D.nx } σ H1 else D.nx σ H1
theorem fh{c:Expr}{body:List Stmt}{y:TT}{C:TS}(x:PassesOwn (model X.prog X.w) X.A X.env X.xe)(S:PT X c y)(L:PSs X body C):PS X (.While c body [] pos) (we y C):=by
 intro a s P H D I h;obtain⟨W,⟨Q,F⟩,i⟩:=h;refine wpAny_While (codeAny_whileLoop (λn M=>∃ σ' H',Inv X a σ' H' M/\W n σ' H') ?_ Q ⟨P,H,I,F⟩);rintro n O ⟨e,A,G,R⟩;refine wpAny_passesOwn x (thn (S a O e A _ G (i n e A R)) λb K ⟨z,B,j⟩=>?_);cases b with
 | true =>
  obtain⟨N,E,j⟩:=j;rw[if_pos rfl];refine wpAny_passesOwn x (thn (L a K e z _ B j) λf T l=>?_);cases f with
  | next =>
   obtain⟨d,g,p,o⟩:=l;obtain⟨u,r,w⟩:=E d g o;exact⟨u,r,d,g,p,w⟩
  | cont =>
   obtain⟨d,g,p,o⟩:=l;obtain⟨u,r,w⟩:=E d g o;exact⟨u,r,d,g,p,w⟩
  | brk=>exact l
  | ret v=>exact l
 | false =>
  rw[if_neg Bool.false_ne_true];exact wpAny_execs_nil ⟨e,z,B,j⟩
end
structure It where
 go:Nat->Hp->Prop
 yld:Nat->Hp->V->Hp->Prop
 stop:Nat->Hp->Prop
def io(X:Cx)(pins:List (Addr×Obj))(H:Hp)(b:Addr):Prop :=
 H b = none/\b≠X.env.locals/\b ∉ X.fs/\(b ∈ X.ex\/X.s₀.heap.objs.size<=b)/\(∀ x c,X.env.cells.lookup x = some c->c≠b)/\∀ p ∈ X.pn ++ pins,p.1≠b
theorem Inv.fpOk{X:Cx}{a:List (Addr×Obj)}{h:St}{H f:Hp}{s:Shared}{b:Addr}(I:Inv X a h H s)(d:s.heap.objs.size<=b)(g:f b=none):io X a f b:=by
 refine⟨g,Nat.ne_of_gt (Nat.lt_of_lt_of_le I.lt d),I.nofs d,.inr (Nat.le_trans I.sz d),λx c e z=>?_,λp hp z=>?_⟩
 .obtain⟨v,q⟩:=I.cell x c e
  exact absurd (Nat.lt_of_lt_of_le q.lt (by rw[z];exact d)) (Nat.lt_irrefl _)
 .exact absurd (Nat.lt_of_lt_of_le (Heap.lt_size (I.pin p hp).1) (by rw[z];exact d)) (Nat.lt_irrefl _)
structure Turn(P:Program)(w:World)(K:Frag)(tg:Expr)(J:It)(fp:List Addr)(it:Addr)(tn:Nat->Heap->Prop):Prop where
 mem:it∈fp
 obj:∀ i h,tn i h->∀ b∈fp,∃ o,h.get? b=some o/\∀ v,o.data≠.cell v
 keep:∀ i h h',tn i h->(∀ b∈fp,∀ o,h.get? b=some o->h'.get? b=some o)->tn i h'
 item:∀(X:Cx),X.prog=P->X.w=w->X.K=K->X.calm=true->∀(i:Nat) (pins:List (Addr×Obj)) (s:Shared) (σ:St) (H:Hp) (E:Value->Shared->Prop),Inv X pins σ H s->(∀ b∈fp,io X pins H b)->tn i s.heap->J.go i H ->
  wpAny (model P w) X.A (pyNext (.ref it)) (λr s1=>∃ u,r=some u /\
   wpAny (model P w) X.A (letOwnedTupleGo tg (.ref it) u) (λ_ s2=>∃ x H',Inv X pins σ H' s2/\RelV x u/\J.yld i H x H'/\tn (i+1) s2.heap/\∀ b∈fp,H' b=none) E s1) E s
 done:∀(X:Cx),X.prog=P->X.w=w->X.K=K->X.calm=true->∀(i:Nat) (pins:List (Addr×Obj)) (s:Shared) (σ:St) (H:Hp) (E:Value->Shared->Prop),Inv X pins σ H s->(∀ b∈fp,io X pins H b)->tn i s.heap->J.stop i H ->
  wpAny (model P w) X.A (pyNext (.ref it)) (λr s1=>r=none/\Inv X pins σ H s1) E s
 self:∀(A:Around) (i:Nat) (s:Shared) (Q:Value->Shared->Prop) (E:Value->Shared->Prop),tn i s.heap->Q (.ref it) s->wpAny (model P w) A (pyIter (.ref it)) Q E s
abbrev TI:=St->Hp->(It->Hp->Prop)->Prop
def PIE(X:Cx)(pins:List (Addr×Obj))(σ:St)(tg:Expr)(R:It->Hp->Prop)(itv:Value)(s2:Shared):Prop :=
 ∃(it:Addr) (fp:List Addr) (tn:Nat->Heap->Prop) (J:It) (H':Hp),itv=.ref it/\Inv X pins σ H' s2/\Turn X.prog X.w X.K tg J fp it tn/\tn 0 s2.heap/\(∀ b∈fp,io X pins H' b)/\R J H'
def PI(X:Cx)(tg iter:Expr)(wi:TI):Prop :=
 ∀(pins:List (Addr×Obj)) (s:Shared) (σ:St) (H:Hp) (R:It->Hp->Prop),Inv X pins σ H s->wi σ H R ->
  wpAny (model X.prog X.w) X.A (eval iter X.env) (λv s1=>wpAny (model X.prog X.w) X.A (pyIter v) (PIE X pins σ tg R) X.xe s1) X.xe s
theorem nH{M:Model}{A:Around}{E:Value->Shared->Prop}{s:Shared}{tg:Expr}{b:Addr}{u:Value}{o:Obj}{n:String}{vs:Array Value}{Q:Unit->Shared->Prop}(f:s.heap.get? b=some o)(d:o.cls=.type n)(e:o.data=.fields vs)
  (c:["enumerate","zip","dict_itemiterator","dict_reverseitemiterator","odict_iterator","itertools.zip_longest","itertools.pairwise"].contains n=false) (a:Q () s):wpAny M A (letOwnedTupleGo tg (.ref b) u) Q E s:=by
 unfold letOwnedTupleGo
 cases tg <;> first
  | exact wpAny_pure a
  | (cases u <;> first
    | exact wpAny_pure a
    | (refine wpAny_bind (wpAny_load f ?_)
       rw[d,e];show wpAny M A (if (["enumerate","zip","dict_itemiterator","dict_reverseitemiterator","odict_iterator","itertools.zip_longest","itertools.pairwise"].contains n && vs[0]? == some (rawInt _))=true then _ else _) Q E s;rw[if_neg (by intro h;rw[c,Bool.false_and]at h;cases h)]
       exact wpAny_pure a))
def Itl(K:Frag)(a:Addr):It :=
 ⟨λi H=>∃ xs x,SqL K H a xs/\xs[i]? = some x,λi H x H'=>H'=H/\∀ xs,SqL K H a xs->xs[i]? = some x,λi H=>∃ xs,SqL K H a xs/\xs.length<=i⟩
def Itt(K:Frag)(a:Addr):It :=
 ⟨λi H=>∃ xs x,SqT K H a xs/\xs[i]? = some x,λi H x H'=>H'=H/\∀ xs,SqT K H a xs->xs[i]? = some x,λi H=>∃ xs,SqT K H a xs/\xs.length<=i⟩
def Itr(lo:Int)(n:Nat):It:=⟨λi _=>i<n,λi H x H'=>H'=H/\x=.int (lo+i),λi _=>n<=i⟩
theorem qG{P:Program}{w:World}{K:Frag}{tg:Expr}(a l:Addr):Turn P w K tg (Itl K a) [l] l (λi h=>h.IsListIter l a i) where
 mem:=by simp
 obj:=λi h f b j=>by
  have e:b=l:=by simpa using j
  subst e;obtain⟨o,e,c,d⟩:=f;exact⟨o,e,λv z=>by rw[d]at z;cases z⟩
 keep:=λi h A f k=>f.at λo e=>k l (by simp) o e
 item:=by
  intro X T N F Y i g s W H E I B f R;subst T N F;obtain⟨xs,x,y,D⟩:=R;obtain⟨Q,G,p,hz⟩:=I.list y;obtain⟨u,hu,ru⟩:=G.get D;obtain⟨O,C,f2,L,S,M⟩:=B l (by simp);refine wpAny_pyNext_list_item f p.isList (x:=u) (by simpa using hu) λA r Z=>?_
  have I1:Inv X g W H { s with heap:=A }:=I.turned (t':=s.toks) (λb o j e=>(Z.2 b j).trans e) O C L S M;obtain⟨o,e,c,d⟩:=id r;exact⟨u,rfl,nH (s:={ s with heap:=A }) e c d (by decide) ⟨x,H,I1,ru,⟨rfl,λys hy=>by rw[I.list_inj hy y];exact D⟩,r,λb j=>(B b j).1⟩⟩
 done:=by
  intro X T N F Y i g s W H E I B f R;subst T N F;obtain⟨xs,y,D⟩:=R;obtain⟨Q,G,p,hz⟩:=I.list y;obtain⟨O,C,f2,L,S,M⟩:=B l (by simp);have hl:=G.length
  exact wpAny_pyNext_list_end (I.ok.hd Y) f p.isList (by simp;lia) λA eb=>⟨rfl,I.turned (t':=s.toks) (λb o j e=>eb b o j e) O C L S M⟩
 self:=λ_ _ _ _ _ f h=>wpAny_pyIter_listiter f h
theorem oY{P:Program}{w:World}{K:Frag}{tg:Expr}(a l:Addr):Turn P w K tg (Itt K a) [l] l (λi h=>h.IsTupleIter l a i) where
 mem:=by simp
 obj:=λi h f b j=>by
  have e:b=l:=by simpa using j
  subst e;obtain⟨o,e,c,d⟩:=f;exact⟨o,e,λv z=>by rw[d]at z;cases z⟩
 keep:=λi h B f k=>f.at λo e=>k l (by simp) o e
 item:=by
  intro X T O G Y i g s W H E I C f R;subst T O G;obtain⟨xs,x,A,F⟩:=R;obtain⟨r,L,p,hz⟩:=I.tuple A;obtain⟨u,hu,ru⟩:=L.get F;obtain⟨Q,D,f2,M,S,N⟩:=C l (by simp);refine wpAny_pyNext_tuple_item f (show s.heap.IsTuple a r.toArray from p) (x:=u) (by simpa using hu) λB y Z=>?_
  have I1:Inv X g W H { s with heap:=B }:=I.turned (t':=s.toks) (λb o j e=>(Z.2 b j).trans e) Q D M S N;obtain⟨o,e,c,d⟩:=id y;exact⟨u,rfl,nH (s:={ s with heap:=B }) e c d (by decide) ⟨x,H,I1,ru,⟨rfl,λys hy=>by rw[I.tuple_inj hy A];exact F⟩,y,λb j=>(C b j).1⟩⟩
 done:=by
  intro X T O G Y i g s W H E I C f R;subst T O G;obtain⟨xs,A,F⟩:=R;obtain⟨r,L,p,hz⟩:=I.tuple A;obtain⟨Q,D,f2,M,S,N⟩:=C l (by simp);have hl:=L.length
  exact wpAny_pyNext_tuple_end (I.ok.hd Y) f (show s.heap.IsTuple a r.toArray from p) (by simp;lia) λB eb=>⟨rfl,I.turned (t':=s.toks) (λb o j e=>eb b o j e) Q D M S N⟩
 self:=λ_ _ _ _ _ f h=>wpAny_pyIter_tupleiter f h
theorem oE{P:Program}{w:World}{K:Frag}{tg:Expr}(c:Addr)(lo:Int)(n:Nat):Turn P w K tg (Itr lo n) [c] c (λi h=>IsRangeIter h c (lo+(i:Nat)*1) ((n:Int) - (i:Nat)) 1) where
 mem:=by simp
 obj:=λi h a b f=>by
  have e:b=c:=by simpa using f
  subst e
  exact⟨_,a,λv z=>by
   have Q:Data.fields _=Data.cell v:=z
   cases Q⟩
 keep:=λi h j a k=>k c (by simp) _ a
 item:=by
  intro X F y r B i d s L H E I l a C;subst F y r;obtain⟨A,p,O,u,D,x⟩:=l c (by simp);have W:=Walks.range (prog:=X.prog) (w:=X.w) (I.ok.hd B) c lo 1 n;refine W.item i s _ _ C a λv j G R g M=>?_
  obtain⟨t,rfl⟩:=R;have S:Inv X d L H { s with heap:=j,toks:=G }:=I.turned (λb o f e=>M b o (by simpa using f) e) A p u D x;refine⟨_,rfl,nH (s:={ s with heap:=j,toks:=G }) (n := "range_iterator") g rfl rfl (by decide) ⟨.int (lo+i),H,S,⟨t,?_⟩,⟨rfl,rfl⟩,g,λb f=>(l b f).1⟩⟩;rw[Int.mul_one]
 done:=by
  intro X F y r B i d s L H E I l a C;subst F y r;obtain⟨A,p,O,u,D,x⟩:=l c (by simp)
  exact wpAny_pyNext_range_end (I.ok.hd B) a (by have:n<=i:=C;lia) λj N=>⟨rfl,I.turned (t':=s.toks) (λb o f e=>N b o f e) A p u D x⟩
 self:=λ_ _ _ _ _ a h=>wpAny_pyIter_rangeiter a h
section
variable {X:Cx}{tg:Expr}
theorem tq{c:List (Addr×Obj)}{f:St}{H:Hp}{s:Shared}{R:It->Hp->Prop}{E:Value->Shared->Prop}{lo a:Int}{t u v:Tok}{tk:Nat}(I:Inv X c f H s)(g:-(2 ^ 62)<=lo)(h2:lo<2 ^ 62)(l:-(2 ^ 62)<=a)(i:a<2 ^ 62)
  (q:R (Itr lo (a - lo).toNat) H):wpAny (model X.prog X.w) X.A (pyIter (.ref s.heap.objs.size)) (PIE X c f tg R) E { s with heap:=s.heap.push { cls:=.type "range",data:=.fields #[.int lo t,.int a u,.int 1 v] },toks:=tk }:=by
 refine wpAny_pyIter_range (IsRange.new ..) (small_one g h2 l i) ?_;have d:Inv X c f H { s with heap:=s.heap.push { cls:=.type "range",data:=.fields #[.int lo t,.int a u,.int 1 v] },toks:=tk }:=I.kept λb o e=>Heap.get?_push_of_some _ e
 refine⟨(s.heap.push { cls:=.type "range",data:=.fields #[.int lo t,.int a u,.int 1 v] }).objs.size,[(s.heap.push { cls:=.type "range",data:=.fields #[.int lo t,.int a u,.int 1 v] }).objs.size],_,_,H,rfl,
  d.kept (t':=tk) λb o e=>Heap.get?_push_of_some _ e,oE _ lo (a - lo).toNat,?_,λb hb=>?_,q⟩
 .have h:lo+((0:Nat):Int)*1=lo:=by simp
  have j:(((a - lo).toNat:Nat):Int) - ((0:Nat):Int)=Builtin.Range.rangeSize lo a 1:=by rw[rangeSize_one];split <;> lia
  show IsRangeIter _ _ (lo+((0:Nat):Int)*1) ((((a - lo).toNat:Nat):Int) - ((0:Nat):Int)) 1;rw[h,j];exact Heap.get?_push_size _ rfl
 .have e:b=(s.heap.push { cls:=.type "range",data:=.fields #[.int lo t,.int a u,.int 1 v] }).objs.size:=by simpa using hb
  subst e;exact d.fpOk (Nat.le_refl _) (d.hok.fresh (Nat.le_refl _))
def xJ(ta:TA):TI:=λσ H R=>ta σ H λvs H1=>∃ j:Int,vs=[.int j]/\-(2 ^ 62)<=j/\j<2 ^ 62/\R (Itr 0 j.toNat) H1
theorem cZ{a:Expr}{f:TA}{p b:Pos}(u:Gl X "range")(i:X.mg "range" = none)(v:PA X [a] f)(w:starEach [a] X.env=[(false,eval a X.env)]:=by rfl):PI X tg (.Call (.Name "range" p) [a] [] b) (xJ f):=by
 intro c s o H R I h;refine Call_ (i4 I u i boot_range (PyProof.Rows.callWith_type1 (thn (v b c s o H _ I h) λA z ⟨y,B,x,l,d⟩=>?_) w rfl));obtain⟨j,e,d,g,q⟩:=d;subst e;cases l with
 | cons r rr =>
  cases rr;obtain⟨t,rfl⟩:=r;exact call_range_1 (tq x (by lia) (by lia) d g (by simpa using q))
def yu(wi:TI)(g:TG)(tb:TS):TS:=λD σ H=>wi σ H λJ H1=>∃ W:Nat->Nat->St->Hp->Prop,(∃ m,W 0 m σ H1)/\∀ i m σ H,W i m σ H ->
 (J.stop i H/\D.nx σ H)\/(J.go i H/\∃ N:St->Hp->Prop,(∀ σ' H',N σ' H'->∃ m',m'<m/\W (i+1) m' σ' H')/\∀ x H',J.yld i H x H'->g x σ H' λσ2 H2=>tb { D with nx:=N,ct:=N,bk:=D.nx } σ2 H2)
def kj(fp:List Addr)(h:Heap):List (Addr×Obj):=fp.filterMap λb=>(h.get? b).map λo=>(b,o)
theorem gy{a:List Addr}{h:Heap}{b:Addr}{o:Obj}(c:b∈a)(e:h.get? b=some o):(b,o)∈kj a h:=List.mem_filterMap.mpr ⟨b,c,by rw[e];rfl⟩
theorem qF{a:List Addr}{h:Heap}{p:Addr×Obj}(f:p∈kj a h):p.1∈a/\h.get? p.1=some p.2:=by
 obtain⟨b,d,e⟩:=List.mem_filterMap.mp f;cases q:h.get? b with
 | none=>rw[q]at e;cases e
 | some o =>
  rw[q]at e;have c:(b,o)=p:=Option.some.inj e;subst c;exact⟨d,q⟩
theorem Inv.pinned{a:List (Addr×Obj)}{f:St}{H:Hp}{s:Shared}{c:List Addr}(I:Inv X a f H s)(r:∀ b∈c,io X a H b)(w:∀ b∈c,∃ o,s.heap.get? b=some o/\∀ v,o.data≠.cell v):Inv X (a++kj c s.heap) f H s :=
 I.pins_of λp j=>(mem_append.mp j).elim (λz=>I.pin p (mem_append_right _ z)) λz=>by
  obtain⟨h,e⟩:=qF z;obtain⟨u,i,l,_⟩:=r p.1 h;obtain⟨o,g,d⟩:=w p.1 h;rw[e]at g;cases g;exact⟨e,u,i,l,d⟩
theorem Inv.unpinned{a pl:List (Addr×Obj)}{b:St}{H:Hp}{s:Shared}(I:Inv X (a++pl) b H s):Inv X a b H s:=I.pins_of λp c=>I.pin p (mem_append_right _ (mem_append_left _ c))
theorem cb{A:Expr}{body:List Stmt}{wi:TI}{g:TG}{tb:TS}{R:Pos}(F:PassesOwn (model X.prog X.w) X.A X.env X.xe)(hc:X.calm=true)(hi:PI X tg A wi)(hg:PG X tg g)(l:PSs X body tb)
  (hs:∀ x,foldedSetIterable A X.env x=pure x:=by intro _;rfl):PS X (.For tg A body [] R) (yu wi g tb):=by
 intro a s σ H D I h;refine wpAny_For (thn (hi a s σ H _ I h) λv s1 h1=>thn h1 λitv s2 h2=>?_) hs;obtain⟨it,M,tn,J,H2,e,I2,T,Y,f2,W,⟨m0,w0⟩,K⟩:=h2;subst e
 have y:∀{H':Hp},(∀ b∈M,H' b=none)->∀ b∈M,io X a H' b:=λhn b l=>⟨hn b l,(f2 b l).2⟩
 refine codeAny_forLoop_any (λn s'=>∃ i σ' H',Inv X a σ' H' s'/\tn i s'.heap/\(∀ b∈M,H' b=none)/\W i n σ' H') ?_ m0 ⟨0,σ,H2,I2,Y,λb l=>(f2 b l).1,w0⟩;rintro n s3 ⟨i,w,Q,I3,P,G,w3⟩
 rcases K i n w Q w3 with⟨L,qn⟩ | ⟨go,N,hN,O⟩
 .refine wpAny_passesOwn F (thn (T.done X rfl rfl rfl hc i a s3 w Q X.xe I3 (y G) P L) λr s4 ⟨hr,I4⟩=>?_)
  subst hr;exact wpAny_execs_nil ⟨w,Q,I4,qn⟩
 .refine wpAny_passesOwn F (thn (T.item X rfl rfl rfl hc i a s3 w Q X.xe I3 (y G) P go) λr s4 ⟨u,hr,h4⟩=>?_)
  subst hr;refine wpAny_passesOwn F (thn h4 λ_ s5 ⟨x,H5,I5,r5,y5,C,ab⟩=>?_);have Z:=I5.pinned (y ab) (T.obj _ _ C);refine wpAny_passesOwn F (thn (hg _ s5 w H5 x u _ Z r5 (O x H5 y5)) λ_ s6 ⟨S,H6,I6,q6⟩=>?_);refine wpAny_passesOwn F (thn (l _ s6 S H6 _ I6 q6) λf s7 B=>?_)
  have z:∀{c:St}{p:Hp},Inv X (a++kj M s5.heap) c p s7->N c p->∃ m,m<n/\∃ i σ' H',Inv X a σ' H' s7/\tn i s7.heap/\(∀ b∈M,H' b=none)/\W i m σ' H':=λ{c p} j E=>by
   obtain⟨m',hm,w7⟩:=hN c p E;refine⟨m',hm,i+1,c,p,j.unpinned,T.keep _ _ _ C λb l o e=>(j.pin (b,o) (mem_append_right _ (mem_append_right _ (gy l e)))).1,λb l=>?_,w7⟩;obtain⟨o,e,d⟩:=T.obj _ _ C b l;exact(j.pin (b,o) (mem_append_right _ (mem_append_right _ (gy l e)))).2.1
  cases f with
  | next=>obtain⟨c,p,j,E⟩:=B;exact z j E
  | cont=>obtain⟨c,p,j,E⟩:=B;exact z j E
  | brk=>obtain⟨c,p,j,B⟩:=B;exact⟨c,p,j.unpinned,B⟩
  | ret v=>obtain⟨x7,c,p,j,r7,B⟩:=B;exact⟨x7,c,p,j.unpinned,r7,B⟩
end
theorem fg{K:Frag}{a:Addr}{xs:List V}{g:TG}{d:TS}{D:Ends}{b:St}{H:Hp}(c:Nat->St->Hp->Prop)(o:c 0 b H)(r:∀ i b H,i<=xs.length->c i b H->SqL K H a xs)
  (l:∀ i x b H,xs[i]? = some x->c i b H->g x b H λσ2 H2=>d { D with nx:=c (i+1),ct:=c (i+1),bk:=D.nx } σ2 H2) (j:∀ b H,c xs.length b H->D.nx b H) :
  ∃ W:Nat->Nat->St->Hp->Prop,(∃ m,W 0 m b H)/\∀ i m b H,W i m b H ->
   ((Itl K a).stop i H/\D.nx b H)\/((Itl K a).go i H/\∃ N:St->Hp->Prop,(∀ σ' H',N σ' H'->∃ m',m'<m/\W (i+1) m' σ' H')/\∀ x H',(Itl K a).yld i H x H'->g x b H' λσ2 H2=>d { D with nx:=N,ct:=N,bk:=D.nx } σ2 H2):=by
 refine⟨λi m b H=>m=xs.length - i/\i<=xs.length/\c i b H,⟨xs.length,by simp,Nat.zero_le _,o⟩,?_⟩;rintro i m b H ⟨rfl,h,p⟩;have q:=r i b H h p
 by_cases hlt:i<xs.length
 .refine .inr ⟨⟨xs,xs[i],q,by simp[hlt]⟩,c (i+1),λσ' H' f=>⟨xs.length - (i+1),by lia,rfl,hlt,f⟩,λx H' y=>?_⟩
  obtain⟨e,y⟩:=y;subst e;exact l i x b _ (y xs q) p
 .have e:i=xs.length:=by lia
  subst e;exact .inl ⟨⟨xs,q,Nat.le_refl _⟩,j b H p⟩
theorem fX{lo:Int}{n:Nat}{g:TG}{c:TS}{D:Ends}{a:St}{H:Hp}(b:Nat->St->Hp->Prop)(j:b 0 a H)
  (h:∀ i a H,i<n->b i a H->g (.int (lo+i)) a H λσ2 H2=>c { D with nx:=b (i+1),ct:=b (i+1),bk:=D.nx } σ2 H2) (f:∀ a H,b n a H->D.nx a H) :
  ∃ W:Nat->Nat->St->Hp->Prop,(∃ m,W 0 m a H)/\∀ i m a H,W i m a H ->
   ((Itr lo n).stop i H/\D.nx a H)\/((Itr lo n).go i H/\∃ N:St->Hp->Prop,(∀ σ' H',N σ' H'->∃ m',m'<m/\W (i+1) m' σ' H')/\∀ x H',(Itr lo n).yld i H x H'->g x a H' λσ2 H2=>c { D with nx:=N,ct:=N,bk:=D.nx } σ2 H2):=by
 refine⟨λi m a H=>m=n - i/\i<=n/\b i a H,⟨n,by simp,Nat.zero_le _,j⟩,?_⟩;rintro i m a H ⟨rfl,l,p⟩
 by_cases hlt:i<n
 .refine .inr ⟨hlt,b (i+1),λσ' H' d=>⟨n - (i+1),by lia,rfl,hlt,d⟩,λx H' y=>?_⟩
  obtain⟨e,y⟩:=y;subst e y;exact h i a _ hlt p
 .have e:i=n:=by lia
  subst e;exact .inl ⟨Nat.le_refl _,f a H p⟩
abbrev R2:=V->V->Hp->VK->Prop
def OpR(X:Cx)(f:Value->Value->Sem Value)(r:R2):Prop :=
 ∀(pins:List (Addr×Obj)) (s:Shared) (σ:St) (H:Hp) (x y:V) (v u:Value) (Q:VK),Inv X pins σ H s->RelV x v->RelV y u->r x y H Q ->
  wpAny (model X.prog X.w) X.A (f v u) (EP X pins σ Q) X.xe s
def UnR(X:Cx)(f:Value->Sem Value)(r:V->Hp->VK->Prop):Prop :=
 ∀(pins:List (Addr×Obj)) (s:Shared) (σ:St) (H:Hp) (x:V) (v:Value) (Q:VK),Inv X pins σ H s->RelV x v->r x H Q ->
  wpAny (model X.prog X.w) X.A (f v) (EP X pins σ Q) X.xe s
def CallR(X:Cx)(f:Value)(r:List V->Hp->VK->Prop):Prop :=
 ∀(pins:List (Addr×Obj)) (s:Shared) (σ:St) (H:Hp) (xs:List V) (us:List Value) (Q:VK),Inv X pins σ H s->Vals xs us->r xs H Q ->
  wpAny (model X.prog X.w) X.A (call f us) (EP X pins σ Q) X.xe s
def yA(X:Cx)(r:V->Hp->(Bool->Hp->Prop)->Prop):Prop :=
 ∀(pins:List (Addr×Obj)) (s:Shared) (σ:St) (H:Hp) (x:V) (v:Value) (Q:Bool->Hp->Prop),Inv X pins σ H s->RelV x v->r x H Q ->
  wpAny (model X.prog X.w) X.A (truthy v) (TP X pins σ Q) X.xe s
def tOp(r:R2)(ta tb:TE):TE:=λσ H Q=>ta σ H λx H1=>tb σ H1 λy H2=>r x y H2 Q
def tUn(r:V->Hp->VK->Prop)(ta:TE):TE:=λσ H Q=>ta σ H λx H1=>r x H1 Q
def rI(C:Int->Int->Prop)(g:Int->Int->V):R2:=λx y H Q=>∃ i j,x=.int i/\y=.int j/\C i j/\Q (g i j) H
def rI0(g:Int->Int->V):R2:=λx y H Q=>∃ i j,x=.int i/\y=.int j/\Q (g i j) H
def rU(g:Int->V):V->Hp->VK->Prop:=λx H Q=>∃ i,x=.int i/\Q (g i) H
section
variable {X:Cx}{a b c:Expr}{ta tb tc:TE}{pos:Pos}
theorem vW(r:PE X a ta)(z:PE X b tb){c:List (Addr×Obj)}{s:Shared}{d:St}{H:Hp}{R:V->V->Hp->Prop}(I:Inv X c d H s)
  (h:ta d H λx H1=>tb d H1 λy H2=>R x y H2){Q:Value->Shared->Prop}{f:Value->Value->Sem Value}
  (j:∀ v u s2 x y H2,Inv X c d H2 s2->RelV x v->RelV y u->R x y H2->wpAny (model X.prog X.w) X.A (f v u) Q X.xe s2) :
  wpAny (model X.prog X.w) X.A (eval a X.env) (λv s₁=>wpAny (model X.prog X.w) X.A (eval b X.env) (λu s₂=>wpAny (model X.prog X.w) X.A (f v u) Q X.xe s₂) X.xe s₁) X.xe s:=by
 refine thn (r c s d H _ I h) λv g ⟨x,H1,w,l,p⟩=>?_
 refine thn (z c g d H1 _ w p) λu s2 ⟨y,H2,i,o,e⟩=>?_
 exact j v u s2 x y H2 i l o e
theorem aA{d:Operator}{r:R2}(o:OpR X (binaryOp d) r)(l:PE X a ta)(w:PE X b tb):PE X (.BinOp a d b pos) (tOp r ta tb):=by
 intro c s j H Q I h;exact wpAny_BinOp (vW l w I h λv u p x y i f g e q=>o c p j i x y v u Q f g e q)
theorem ln{c:UnaryOp}{r:V->Hp->VK->Prop}(j:UnR X (unaryOp c) r)(i:PE X a ta):PE X (.UnaryOp c a pos) (tUn r ta):=by
 intro b s d H Q I h;exact UnaryOp_ (thn (i b s d H _ I h) λv e ⟨x,g,o,f,l⟩=>j b e d g x v Q o f l)
theorem opI{f:Value->Value->Sem Value}{C:Int->Int->Prop}{g:Int->Int->Int}
  (a:∀(i j:Int) (t u:Tok) (s:Shared) (Q:Value->Shared->Prop) (E:Value->Shared->Prop),C i j->Q (.int (g i j) s.toks) { s with toks:=s.toks+1 }->wpAny (model X.prog X.w) X.A (f (.int i t) (.int j u)) Q E s) :
  OpR X f (rI C λi j=>.int (g i j)):=by
 intro b s o H x y v u Q I e d h;obtain⟨i,j,rfl,rfl,l,q⟩:=h;obtain⟨t,rfl⟩:=e;obtain⟨c,rfl⟩:=d;exact a i j t c s _ _ l ⟨.int (g i j),H,I.tok _,⟨_,rfl⟩,q⟩
theorem xa{f:Value->Value->Sem Value}{g:Int->Int->Int}
  (a:∀(i j:Int) (t u:Tok) (s:Shared) (Q:Value->Shared->Prop) (E:Value->Shared->Prop),Q (.int (g i j) s.toks) { s with toks:=s.toks+1 }->wpAny (model X.prog X.w) X.A (f (.int i t) (.int j u)) Q E s) :
  OpR X f (rI0 λi j=>.int (g i j)):=by
 intro b s l H x y v u Q I e d h;obtain⟨i,j,rfl,rfl,q⟩:=h;obtain⟨t,rfl⟩:=e;obtain⟨c,rfl⟩:=d;exact a i j t c s _ _ ⟨.int (g i j),H,I.tok _,⟨_,rfl⟩,q⟩
theorem uU{f:Value->Value->Sem Value}{g:Int->Int->Bool}
  (a:∀(i j:Int) (t u:Tok) (s:Shared) (Q:Value->Shared->Prop) (E:Value->Shared->Prop),Q (.bool (g i j)) s->wpAny (model X.prog X.w) X.A (f (.int i t) (.int j u)) Q E s) :
  OpR X f (rI0 λi j=>.bl (g i j)):=by
 intro b s l H x y v u Q I e d h;obtain⟨i,j,rfl,rfl,q⟩:=h;obtain⟨t,rfl⟩:=e;obtain⟨c,rfl⟩:=d;exact a i j t c s _ _ ⟨.bl (g i j),H,I,rfl,q⟩
def xX(i j:Int):Prop:=0<j/\j<1073741824
def vU(i j:Int):Prop:=0<=j/\j<=1000000/\i.natAbs<2 ^ 64
def CMul(i j:Int):Prop:=(-(2 ^ 64)<i/\i<2 ^ 64)\/(-(2 ^ 64)<j/\j<2 ^ 64)
theorem CMul.ok{i j:Int}(h:CMul i j):IntMulOk i j:=by
 rcases h with⟨a,b⟩ | ⟨a,b⟩
 .exact .of_left (intBits_le_64 a b)
 .exact .of_right (intBits_le_64 a b)
theorem nX(k:Nat):(0:Int)<=2 ^ k:=by
 rw[two_pow_cast];exact Int.natCast_nonneg _
theorem op_add:OpR X (binaryOp .Add) (rI0 λi j=>.int (i+j)):=xa λ_ _ _ _ _ _ _ q=>add_int q
theorem op_sub:OpR X (binaryOp .Sub) (rI0 λi j=>.int (i - j)):=xa λ_ _ _ _ _ _ _ q=>sub_int q
theorem op_mod:OpR X (binaryOp .Mod) (rI (λ_ j=>0<j) λi j=>.int (i % j)):=opI λi j _ _ _ _ _ a q=>by
 have b:(0:Int)<j:=a;exact mod_int' (by lia) (by rw[Int.fmod_eq_emod_of_nonneg i (by lia)];exact q)
theorem op_pow:OpR X (binaryOp .Pow) (rI vU λi j=>.int (i ^ j.toNat)):=opI λ_ _ _ _ _ _ _ a q=>pow_int_small a.1 a.2.1 a.2.2 q
theorem op_shr:OpR X (binaryOp .RShift) (rI (λ_ j=>0<=j) λi j=>.int (i/2 ^ j.toNat)):=opI λi j _ _ _ _ _ a q =>
 rshift_int a (by rw[Int.fdiv_eq_ediv_of_nonneg i (nX _)];exact q)
theorem unI{f:Value->Sem Value}{g:Int->Int}
  (a:∀(i:Int) (t:Tok) (s:Shared) (Q:Value->Shared->Prop) (E:Value->Shared->Prop),Q (.int (g i) s.toks) { s with toks:=s.toks+1 }->wpAny (model X.prog X.w) X.A (f (.int i t)) Q E s) :
  UnR X f (rU λi=>.int (g i)):=by
 intro b s d H x v Q I c h;obtain⟨i,rfl,q⟩:=h;obtain⟨t,rfl⟩:=c;exact a i t s _ _ ⟨.int (g i),H,I.tok _,⟨_,rfl⟩,q⟩
theorem wz:UnR X (unaryOp .USub) (rU λi=>.int (-i)):=unI λ_ _ _ _ _ q=>neg_int q
end
def xy:V->V->Bool
 | .non,.non=>true | .non,.int _=>true | .int _,.non=>true | .non,.bl _=>true | .bl _,.non=>true | .non,.str _=>true | .str _,.non=>true
 | .int _,.int _=>true | .bl _,.bl _=>true | .str _,.str _=>true | .byt _,.byt _=>true
 | .int _,.str _=>true | .str _,.int _=>true | .bl _,.str _=>true | .str _,.bl _=>true
 | _,_=>false
def rEq:R2:=λx y H Q=>xy x y=true/\Q (.bl (decide (x=y))) H
def rNe:R2:=λx y H Q=>xy x y=true/\Q (.bl (!decide (x=y))) H
theorem jL{i j:Int}:decide (V.int i=V.int j)=(i == j):=by
 rw[Bool.eq_iff_iff];simp
theorem ma{i j:Bool}:decide (V.bl i=V.bl j)=(i == j):=by
 rw[Bool.eq_iff_iff];simp
theorem jG{i j:Str}:decide (V.str i=V.str j)=(i == j):=by
 rw[Bool.eq_iff_iff];simp
theorem o9{i j:Array UInt8}:decide (V.byt i=V.byt j)=(i.toList == j.toList):=by
 rw[Bool.eq_iff_iff];cases i;cases j;simp
section
variable {X:Cx}{a b c:Expr}{ta tb tc:TE}{pos:Pos}
theorem aW{a:List (Addr×Obj)}{b:St}{H:Hp}{s:Shared}{Q:VK}{k c:Bool}(I:Inv X a b H s)(q:Q (.bl k) H)(e:k=c):EP X a b Q (.bool c) s:=by
 subst e;exact⟨.bl k,H,I,rfl,q⟩
theorem op_eq:OpR X (compareOp .Eq) rEq:=by
 intro e s f H x y v u Q I d a h;obtain⟨c,q⟩:=h;cases x with
 | non =>
  cases d;cases y with
  | non=>cases a;exact PySem.EqNone.eq_none_none (aW I q (by simp))
  | bl j=>cases a;exact PySem.EqNone.eq_none_bool (aW I q (by simp))
  | int j=>obtain⟨b,rfl⟩:=a;exact PySem.EqNone.eq_none_int (aW I q (by simp))
  | str j=>obtain⟨b,rfl⟩:=a;exact PySem.EqNone.eq_none_str (aW I q (by simp))
  | _=>exact absurd (show false=true from c) Bool.false_ne_true
 | bl i =>
  cases d;cases y with
  | non=>cases a;exact PySem.EqNone.eq_bool_none (aW I q (by simp))
  | bl j=>cases a;exact eq_bool (aW I q ma)
  | str j=>obtain⟨b,rfl⟩:=a;exact PySem.EqMixed.eq_bool_str (aW I q (by simp))
  | _=>exact absurd (show false=true from c) Bool.false_ne_true
 | int i =>
  obtain⟨t,rfl⟩:=d;cases y with
  | non=>cases a;exact PySem.EqNone.eq_int_none (aW I q (by simp))
  | int j=>obtain⟨b,rfl⟩:=a;exact eq_int (aW I q jL)
  | str j=>obtain⟨b,rfl⟩:=a;exact PySem.EqMixed.eq_int_str (aW I q (by simp))
  | _=>exact absurd (show false=true from c) Bool.false_ne_true
 | str i =>
  obtain⟨t,rfl⟩:=d;cases y with
  | non=>cases a;exact PySem.EqNone.eq_str_none (aW I q (by simp))
  | bl j=>cases a;exact PySem.EqMixed.eq_str_bool (aW I q (by simp))
  | int j=>obtain⟨b,rfl⟩:=a;exact PySem.EqMixed.eq_str_int (aW I q (by simp))
  | str j=>obtain⟨b,rfl⟩:=a;exact eq_str (aW I q jG)
  | _=>exact absurd (show false=true from c) Bool.false_ne_true
 | byt i =>
  obtain⟨t,rfl⟩:=d;cases y with
  | byt j=>obtain⟨b,rfl⟩:=a;exact PySem.W.eq_bytes (aW I q o9)
  | _=>exact absurd (show false=true from c) Bool.false_ne_true
 | _=>cases y <;> exact absurd (show false=true from c) Bool.false_ne_true
theorem op_ne:OpR X (compareOp .NotEq) rNe:=by
 intro e s f H x y v u Q I d a h;obtain⟨c,q⟩:=h;cases x with
 | non =>
  cases d;cases y with
  | non=>cases a;exact PySem.EqNone.ne_none_none (aW I q (by simp))
  | bl j=>cases a;exact PySem.EqNone.ne_none_bool (aW I q (by simp))
  | int j=>obtain⟨b,rfl⟩:=a;exact PySem.EqNone.ne_none_int (aW I q (by simp))
  | str j=>obtain⟨b,rfl⟩:=a;exact PySem.EqNone.ne_none_str (aW I q (by simp))
  | _=>exact absurd (show false=true from c) Bool.false_ne_true
 | bl i =>
  cases d;cases y with
  | non=>cases a;exact PySem.EqNone.ne_bool_none (aW I q (by simp))
  | bl j=>cases a;exact ne_bool (aW I q (congrArg not ma))
  | str j=>obtain⟨b,rfl⟩:=a;exact PySem.EqMixed.ne_bool_str (aW I q (by simp))
  | _=>exact absurd (show false=true from c) Bool.false_ne_true
 | int i =>
  obtain⟨t,rfl⟩:=d;cases y with
  | non=>cases a;exact PySem.EqNone.ne_int_none (aW I q (by simp))
  | int j=>obtain⟨b,rfl⟩:=a;exact ne_int (aW I q (congrArg not jL))
  | str j=>obtain⟨b,rfl⟩:=a;exact PySem.EqMixed.ne_int_str (aW I q (by simp))
  | _=>exact absurd (show false=true from c) Bool.false_ne_true
 | str i =>
  obtain⟨t,rfl⟩:=d;cases y with
  | non=>cases a;exact PySem.EqNone.ne_str_none (aW I q (by simp))
  | bl j=>cases a;exact PySem.EqMixed.ne_str_bool (aW I q (by simp))
  | int j=>obtain⟨b,rfl⟩:=a;exact PySem.EqMixed.ne_str_int (aW I q (by simp))
  | str j=>obtain⟨b,rfl⟩:=a;exact ne_str (aW I q (congrArg not jG))
  | _=>exact absurd (show false=true from c) Bool.false_ne_true
 | byt i =>
  obtain⟨t,rfl⟩:=d;cases y with
  | byt j=>obtain⟨b,rfl⟩:=a;exact PySem.W.ne_bytes (aW I q (congrArg not o9))
  | _=>exact absurd (show false=true from c) Bool.false_ne_true
 | _=>cases y <;> exact absurd (show false=true from c) Bool.false_ne_true
theorem op_lt:OpR X (compareOp .Lt) (rI0 λi j=>.bl (decide (i<j))):=uU λ_ _ _ _ _ _ _ q=>lt_int q
theorem op_le:OpR X (compareOp .LtE) (rI0 λi j=>.bl (decide (i<=j))):=uU λ_ _ _ _ _ _ _ q=>le_int q
theorem op_gt:OpR X (compareOp .Gt) (rI0 λi j=>.bl (decide (j<i))):=uU λ_ _ _ _ _ _ _ q=>gt_int q
theorem op_ge:OpR X (compareOp .GtE) (rI0 λi j=>.bl (decide (j<=i))):=uU λ_ _ _ _ _ _ _ q=>ge_int q
theorem qY:OpR X (compareOp .Lt) (λx y H Q=>∃ i j,x=.str i/\y=.str j/\Q (.bl (decide (i.cps.toList<j.cps.toList))) H):=by
 intro a s e H x y v u Q I c b h;obtain⟨i,j,rfl,rfl,q⟩:=h;obtain⟨t,rfl⟩:=c;obtain⟨d,rfl⟩:=b;exact lt_str (aW I q rfl)
theorem op_in_str:OpR X (compareOp .In) (λx y H Q=>∃ i j,x=.str i/\y=.str j/\Q (.bl (!(Builtin.Str.occurrences j i 0 j.length 1).isEmpty)) H):=by
 intro a s e H x y v u Q I c b h;obtain⟨i,j,rfl,rfl,q⟩:=h;obtain⟨t,rfl⟩:=c;obtain⟨d,rfl⟩:=b;exact in_str (aW I q rfl)
theorem OpR.or{f:Value->Value->Sem Value}{r c:R2}(h:OpR X f r)(h':OpR X f c):OpR X f (λx y H Q=>r x y H Q\/c x y H Q):=by
 intro a s e H x y v u Q I d b q
 rcases q with q | q
 .exact h a s e H x y v u Q I d b q
 .exact h' a s e H x y v u Q I d b q
theorem aB(b:Expr){a:CmpOp}(h:a≠.In:=by decide)(h2:a≠.NotIn:=by decide):behindInMarks a b=false:=by
 have d:(a == CmpOp.In)=false:=by cases a <;> first | rfl | exact absurd rfl h
 have c:(a == CmpOp.NotIn)=false:=by cases a <;> first | rfl | exact absurd rfl h2
 cases b <;> simp[behindInMarks,d,c]
theorem iK{d:CmpOp}{r:R2}(p:OpR X (compareOp d) r)(o:PE X a ta)(z:PE X b tb)(i:behindInMarks d b=false):PE X (.Compare a [d] [b] pos) (tOp r ta tb):=by
 intro c s l H Q I h;exact wpAny_Compare1 (vW o z I h λv u w x y j f g e q=>p c w l j x y v u Q f g e q) i
def xV(K:Frag)(x:V)(H:Hp)(k:Bool):Prop :=
 match x with
 | .non=>k=false
 | .bl b=>k=b
 | .int i=>k=(i != 0)
 | .str y=>y.length<=sizeLine/\k=((y.length:Int) != 0)
 | .byt y=>y.size<=sizeLine/\k=((y.size:Int) != 0)
 | .ref p=>(∃ xs,SqL K H p xs/\k = !xs.isEmpty)\/(∃ xs,SqT K H p xs/\k = !xs.isEmpty)\/∃ kvs,H p=some (.dK kvs)/\k = !kvs.isEmpty
 | _=>False
theorem n6{b:Type}{a:List (b×V)}{vs:List (b×Value)}(r:KV a vs):(!vs.isEmpty) = !a.isEmpty:=by
 cases r <;> rfl
theorem km{xs:List V}{its:List Value}(r:Vals xs its):(!its.toArray.isEmpty) = !xs.isEmpty:=by
 cases r <;> simp
theorem jk:(sizeLine:Nat)<2 ^ 63:=by rw[sizeLine_eq];decide
theorem wC:yA X (λx H Q=>∃ k,xV X.K x H k/\Q k H):=by
 intro w s z H x v Q I g h;obtain⟨k,e,q⟩:=h;have B:=jk;have A:sizeLine=16777216:=sizeLine_eq;cases x with
 | non =>
  cases g;have a:k=false:=e;subst a;exact truthy_none ⟨H,I,q⟩
 | bl b =>
  cases g;have a:k=b:=e;subst a;exact wpAny_truthy_bool ⟨H,I,q⟩
 | int i =>
  obtain⟨t,rfl⟩:=g;have a:k=(i != 0):=e;subst a;exact PySem.P.truthy_int ⟨H,I,q⟩
 | str y =>
  obtain⟨t,rfl⟩:=g;obtain⟨hy,a⟩:y.length<=sizeLine/\k=((y.length:Int) != 0):=e;subst a;exact PySem.P.truthy_str (by lia) ⟨H,I.tok _,q⟩
 | byt y =>
  obtain⟨t,rfl⟩:=g;obtain⟨hy,a⟩:y.size<=sizeLine/\k=((y.size:Int) != 0):=e;subst a;exact PySem.W.truthy_bytes (by lia) ⟨H,I.tok _,q⟩
 | ref p =>
  cases g;have a:(∃ f,SqL X.K H p f/\k = !f.isEmpty)\/(∃ f,SqT X.K H p f/\k = !f.isEmpty)\/∃ c,H p=some (.dK c)/\k = !c.isEmpty:=e
  rcases a with⟨f,j,a⟩ | ⟨f,j,a⟩ | ⟨c,j,a⟩
  .subst a
   obtain⟨l,r,o,u⟩:=I.list j;have d:=r.length;exact wpAny_truthy_list o.isList (by simp only[size_toArray];lia) ⟨H,I.tok _,by rw[km r];exact q⟩
  .subst a
   obtain⟨l,r,o,u⟩:=I.tuple j;have d:=r.length;exact truthy_tuple o (by simp only[size_toArray];lia) ⟨H,I.tok _,by rw[km r];exact q⟩
  .subst a
   obtain⟨u,hS,vs,r,m⟩:c.length<=sizeLine/\(p == sysModules)=false/\∃ vs,KV c vs/\s.heap.DictOf (bq X.prog X.w) p vs:=I.hok p _ j;have d:c.length=vs.length:=Paired.length r;exact wpAny_truthy_dict hS m (by lia) ⟨H,I.tok _,by rw[n6 r];exact q⟩
 | _=>exact(show False from e).elim
theorem ko(g:PE X a ta)(d:∀ whole,isTrue a X.env whole=(do let v <- whole;standAt a.pos;holding [v] (truthy v))) :
  PT X a (λσ H Q=>ta σ H λx H'=>∃ k,xV X.K x H' k/\Q k H'):=by
 intro b s σ H Q I h;exact isTrue_plain (thn (g b s σ H _ I h) λv c ⟨x,i,j,e,f⟩=>wC b c σ i x v Q j e f) (d _)
theorem om:OpR X (binaryOp .Add) (λx y H Q=>∃ i j,x=.str i/\y=.str j/\i.length+j.length<=sizeLine/\Q (.str (i++j)) H):=by
 intro a s g H x y v u Q I e c h;obtain⟨i,j,rfl,rfl,d,q⟩:=h;obtain⟨t,rfl⟩:=e;obtain⟨b,rfl⟩:=c;exact add_str (λb f=>⟨.str (i++j),H,I.tok _,⟨_,rfl⟩,q⟩) d
theorem dw{x:V}{us:List Value}(r:Vals [x] us):∃ u,us=[u]/\RelV x u:=by
 cases r with
 | cons r1 r2=>cases r2;exact⟨_,rfl,r1⟩
theorem mO{x y:V}{us:List Value}(r:Vals [x,y] us):∃ u w',us=[u,w']/\RelV x u/\RelV y w':=by
 cases r with
 | cons r1 r2 =>
  cases r2 with
  | cons r3 r4=>cases r4;exact⟨_,_,rfl,r1,r3⟩
theorem rS:CallR X (.builtin "abs") (λxs H Q=>∃ i,xs=[.int i]/\Q (.int (if i<0 then -i else i)) H):=by
 intro a s b H xs d Q I r h;obtain⟨i,rfl,q⟩:=h;obtain⟨u,rfl,t,rfl⟩:=dw r
 exact call_abs_int λu c=>⟨.int (if i<0 then -i else i),H,I.tok _,⟨_,rfl⟩,q⟩
inductive rTwo(f:Int->Int->Int)(xs:List V)(H:Hp)(Q:VK):Prop
 | mk(i j:Int)(h0:xs=[.int i,.int j])(h1:Q (.int (f i j)) H):rTwo f xs H Q
theorem i9(b:X.calm=true):CallR X (.builtin "max") (rTwo λi j=>if j > i then j else i):=by
 intro a s g H e o Q I r h;obtain⟨i,j,rfl,q⟩:=h;obtain⟨u,l,rfl,⟨t,rfl⟩,⟨c,rfl⟩⟩:=mO r
 refine max_two_ints (I.ok.hd b) λf d k=>⟨_,H,I.kept k,?_,q⟩
 by_cases hj:j > i
 .rw[if_pos hj,if_pos hj];exact⟨_,rfl⟩
 .rw[if_neg hj,if_neg hj];exact⟨_,rfl⟩
theorem cY(b:X.calm=true):CallR X (.builtin "min") (rTwo λi j=>if j<i then j else i):=by
 intro a s g H e o Q I r h;obtain⟨i,j,rfl,q⟩:=h;obtain⟨u,l,rfl,⟨t,rfl⟩,⟨c,rfl⟩⟩:=mO r
 refine min_two_ints (I.ok.hd b) λf d k=>⟨_,H,I.kept k,?_,q⟩
 by_cases hj:j<i
 .rw[if_pos hj,if_pos hj];exact⟨_,rfl⟩
 .rw[if_neg hj,if_neg hj];exact⟨_,rfl⟩
theorem qL:CallR X (.type "int") (λxs H Q=>(∃ i,xs=[.int i]/\Q (.int i) H)\/∃ k,xs=[.bl k]/\Q (.int (if k then 1 else 0)) H):=by
 intro a s c H xs d Q I r h
 rcases h with⟨i,rfl,q⟩ | ⟨k,rfl,q⟩
 .obtain⟨u,rfl,t,rfl⟩:=dw r
  exact call_int_int ⟨.int i,H,I,⟨_,rfl⟩,q⟩
 .obtain⟨u,rfl,b⟩:=dw r
  cases b;exact call_int_bool ⟨.int (if k then 1 else 0),H,I.tok _,⟨_,rfl⟩,q⟩
end
structure ObjM(h:Heap)(x dx C:Addr)(mA:Str->Option Value):Prop where
 obj:h.get? x=some (instObj C dx)
 ns:h.Ns1 dx mA
 ne:dx≠x
theorem qc{h:Heap}{d:Addr}{f:Str->Option Value}(n:h.Ns1 d f):∃ od,h.get? d=some od/\∀ name,lookIn name od=some (f name):=by
 obtain⟨o,c,s,i,l,g,_,j⟩:=n;refine⟨o,i,λname=>?_⟩;have e:=j name;unfold nsFind findBy at e;rw[<- Array.find?_toList]at e;unfold lookIn;rw[l];dsimp only
 split
 .rename_i y q
  rw[q]at e;exact congrArg some e
 .rename_i q
  rw[q]at e
  have a:c.toList.any (·.refKey)=false:=by
   rw[List.any_eq_false];intro y r;obtain⟨z,t,b⟩:=g y (Array.mem_toList_iff.mp r);simp[DictEntry.refKey,b]
  have p:¬c.toList.any (·.refKey)=true:=by rw[a];exact Bool.false_ne_true
  rw[if_neg p];exact congrArg some e
theorem ObjM.look{h:Heap}{x b C:Addr}{a:Str->Option Value}(I:ObjM h x b C a):∃ od,InstAt h x (instObj C b) C (some od)/\∀ name,lookIn name od=some (a name) :=
 let ⟨od,ho,hl⟩:=qc I.ns
 ⟨od,⟨I.obj,rfl,rfl,ho⟩,hl⟩
section
variable {prog:Program}{w:World}{A:Around}{E:Value->Shared->Prop}{s:Shared}{K:Frag}{x dx C f:Addr}{mA:Str->Option Value}{name:Str}{v:Value}
theorem uk{a:Bool}{Q:Value->Shared->Prop}(X:K.In s.heap)(I:ObjM s.heap x dx C mA)(d:plainGet K C name=true)(e:hasDictIn K C=true)
  (f:findIn K (.ref C) name=some none) (c:mA name=some v) (b:handedIn v=true) (h:Q v { s with toks:=s.toks+1 }) :
  wpAny (model prog w) A (getAttr (.ref x) name a) Q E s:=by
 obtain⟨i,J,g⟩:=I.look;exact PySem.W.get_value X J (plainGet_of d).1 (PySem.W.findObj_own e f rfl (by rw[g,c])) b h
theorem sH{pl:Sem Bool}{Q:Value×List Value->Shared->Prop}(X:K.In s.heap)(I:ObjM s.heap x dx C mA)(a:plainGet K C name=true)
  (c:findIn K (.ref C) name=some (some (.ref f))) (d:isFn K (.ref f)=true) (b:mA name=none) (h:Q (.ref f,[.ref x]) s) :
  wpAny (model prog w) A (getMethod (.ref x) name pl) Q E s:=by
 obtain⟨e,J,g⟩:=I.look;exact PySem.W.method_fn X J (plainGet_of a).1 (plainGet_of a).2 c (beq_iff_eq.mp d) (by show(lookIn name e).map (·.isSome)=some false;rw[g,b];rfl) h
theorem uN{ns:List Str}{Q:Unit->Shared->Prop}(X:K.In s.heap)(I:ObjM s.heap x dx C mA)
  (z:findIn K (.ref C) "__setattr__" = some (some (.builtin "object.__setattr__"))) (o:plainOver K C=true) (u:takerIn K C name=some none) (D:hasDictIn K C=true)
  (B:PySem.Within mA ns) (hsz:ns.length<=sizeLine)
  (h:∀ h',ObjM h' x dx C (λy=>if y=name then some v else mA y)->Heap.SameBut dx s.heap h'->Q () { s with heap:=h',toks:=s.toks+2 }) :
  wpAny (model prog w) A (setAttr (.ref x) name v) Q E s:=by
 obtain⟨H,J,L⟩:=I.look;refine PySem.W.set_plain X J z (PySem.W.osa_open (s:={ s with toks:=s.toks+1 }) (r:=none) X J o u λb=>?_);obtain⟨M,F,g⟩:=any_some D;have j:s.heap.get? x=some ⟨.ref C,some dx,.plain,#[]⟩:=I.obj;refine wpAny_bind (wpAny_pure (wpAny_bind (wpAny_bind (wpAny_loadPart j (wpAny_bind (Looks.here (s:={ s with toks:=s.toks+1 }) (PySem.W.looks_clsIn X F) ?_))))));rw[g];refine wpAny_pure (a:=some dx) (wpAny_bind (wpAny_pure (wpAny_bind ?_)));refine wpAny_nsSet1 (s:={ s with toks:=s.toks+1 }) I.ns λh' d c=>?_
 obtain⟨G,p,l,e,f,i⟩:=d.count (PySem.Within.cons name v B);refine wpAny_bind (wpAny_lookBehind e (by rw[f];exact pastItsLine_dict (Nat.le_trans i (by rw[length_cons];lia))) ?_);exact wpAny_pure (h _ ⟨(c.2 _ (Ne.symm I.ne)).trans I.obj,d,I.ne⟩ c)
theorem sA{R:Result->Shared->Prop}{vs:List Value}{b:List (Str×Value)}(X:K.In s.heap)(i:makesIn K C=true)
  (e:findIn K (.ref C) "__init__" = some (some (.ref f))) (c:typeIn K (.ref f)=some (.type "function"))
  (h:codeAny (model prog w) (A.under (.builtin "type.__call__" ⟨.ref C::vs,b⟩)) (.call (.ref f) ⟨.ref (s.heap.objs.size+1)::vs,b⟩) (PySem.W.InitBack (s.heap.objs.size+1) R)
   { s with heap:=(s.heap.push emptyDict).push (instObj C s.heap.objs.size) }) :
  codeAny (model prog w) A (.call (.ref C) ⟨vs,b⟩) R s:=by
 obtain⟨l,g,d,t,j⟩:=s;exact PySem.W.make_core (PySem.W.makes_of X i) (PySem.W.looks_findIn X e) (λa=>PySem.W.bind_fn X a c) (.inl rfl) h
end
def ig(f:Str)(v:V):List (Str×V)->List (Str×V)
 | []=>[(f,v)]
 | (g,x)::r=>if g=f then (g,v)::r else (g,x)::ig f v r
theorem jp(f g:Str)(v:V):∀ fs:List (Str×V),(ig f v fs).lookup g=if g=f then some v else fs.lookup g
 | []=>by
  show List.lookup g [(f,v)]=_
  by_cases h:g=f
  .have a:(g == f)=true:=beq_iff_eq.mpr h
   simp only[List.lookup,a,if_pos h]
  .have a:(g == f)=false:=beq_eq_false_iff_ne.mpr h
   simp only[List.lookup,a,if_neg h]
 | (k,x)::r=>by
  have b:=jp f g v r;rw[show ig f v ((k,x)::r)=(if k=f then (k,v)::r else (k,x)::ig f v r) from rfl]
  by_cases hk:k=f
  .rw[if_pos hk]
   by_cases h:g=k
   .have a:(g == k)=true:=beq_iff_eq.mpr h
    simp only[List.lookup,a,if_pos (h.trans hk)]
   .have a:(g == k)=false:=beq_eq_false_iff_ne.mpr h
    simp only[List.lookup,a,if_neg (λe:g=f=>h (e.trans hk.symm))]
  .rw[if_neg hk]
   by_cases h:g=k
   .have a:(g == k)=true:=beq_iff_eq.mpr h
    simp only[List.lookup,a,if_neg (λe:g=f=>hk (h.symm.trans e))]
   .have a:(g == k)=false:=beq_eq_false_iff_ne.mpr h
    simp only[List.lookup,a];exact b
theorem jd(f:Str)(v:V):∀ fs:List (Str×V),f∈(ig f v fs).map (·.1)/\∀ g,g∈fs.map (·.1)->g∈(ig f v fs).map (·.1)
 | []=>⟨by simp[ig],λg h=>by simp at h⟩
 | (k,x)::r=>by
  obtain⟨b,a⟩:=jd f v r;rw[show ig f v ((k,x)::r)=(if k=f then (k,v)::r else (k,x)::ig f v r) from rfl]
  by_cases hk:k=f
  .rw[if_pos hk]
   subst hk;exact⟨by simp,λg h=>by simpa using h⟩
  .rw[if_neg hk]
   refine⟨?_,λg h=>?_⟩
   .rw[map_cons]
    exact mem_cons_of_mem _ b
   .rw[map_cons]at h ⊢
    rcases mem_cons.mp h with e | e
    .exact mem_cons.mpr (.inl e)
    .exact mem_cons_of_mem _ (a g e)
theorem jt(f:Str)(v:V):∀ fs:List (Str×V),(ig f v fs).length<=fs.length+1
 | []=>by simp[ig]
 | (k,x)::r=>by
  have a:=jt f v r;rw[show ig f v ((k,x)::r)=(if k=f then (k,v)::r else (k,x)::ig f v r) from rfl]
  by_cases hk:k=f
  .rw[if_pos hk,length_cons,length_cons];lia
  .rw[if_neg hk,length_cons,length_cons];lia
theorem RelO.some_of{v:V}{o:Option Value}(r:RelO (some v) o):∃ u,o=some u/\RelV v u:=by
 cases o with
 | none=>exact(show False from r).elim
 | some u=>exact⟨u,rfl,r⟩
theorem RelO.none_of{o:Option Value}(r:RelO none o):o=none:=by
 cases o with
 | none=>rfl
 | some u=>exact(show False from r).elim
theorem qP{v:V}{u:Value}(r:RelV v u):handedIn u=true:=by
 cases v with
 | non=>cases(show u=Value.none from r);rfl
 | bl b=>cases(show u=Value.bool b from r);rfl
 | int i=>obtain⟨t,e⟩:=(show ∃ t,u=Value.int i t from r);cases e;rfl
 | str x=>obtain⟨t,e⟩:=(show ∃ t,u=Value.str x t from r);cases e;rfl
 | byt b=>obtain⟨t,e⟩:=(show ∃ t,u=Value.bytes b t from r);cases e;rfl
 | flt b=>obtain⟨t,e⟩:=(show ∃ t,u=Value.float b t from r);cases e;rfl
 | ref a=>cases(show u=Value.ref a from r);rfl
 | ty n=>cases(show u=Value.type n from r);rfl
section
variable {P:Program}{w:World}{H H':Hp}{h h':Heap}{a C dx:Addr}{fs fs':List (Str×V)}
theorem jJ(b:HOk P w H h)(e:H a=some (.ins C dx fs)):∃ mA,ObjM h a dx C mA/\(∀ f,RelO (fs.lookup f) (mA f))/\PySem.Within mA (fs.map (·.1))/\fs.length<=1000/\H dx=some (.own a):=by
 obtain⟨d,z,g,c,mA,n,r,q⟩:=(show ObjOk P w H h a (.ins C dx fs) from b a _ e)
 exact⟨mA,⟨c,n,g⟩,r,q,z,d⟩
end
structure Cls(K:Frag)(C:Addr):Prop where
 pg:plainGet K C Str.empty=true
 hd:hasDictIn K C=true
 po:plainOver K C=true
 sa:findIn K (.ref C) "__setattr__" = some (some (.builtin "object.__setattr__"))
theorem Cls.get{K:Frag}{C:Addr}(c:Cls K C)(f:Str):plainGet K C f=true:=c.pg
def NoAttr(K:Frag)(C:Addr)(f:Str):Prop:=findIn K (.ref C) f=some none
theorem NoAttr.taker{K:Frag}{C:Addr}{f:Str}(n:NoAttr K C f):takerIn K C f=some none:=by
 unfold takerIn;rw[show findIn K (.ref C) f=some none from n];rfl
structure Meth(K:Frag)(C:Addr)(m:Str)(f:Addr):Prop where
 at_:findIn K (.ref C) m=some (some (.ref f))
 fn:isFn K (.ref f)=true
 kp:keepIn K (.ref f)=true
section
variable {X:Cx}{pins:List (Addr×Obj)}{σ:St}{H:Hp}{s:Shared}{a C dx:Addr}{fs:List (Str×V)}{f:Str}{v:V}{A:Around}{E:Value->Shared->Prop}
theorem oN{b:Bool}{Q:Value->Shared->Prop}(I:Inv X pins σ H s)(e:H a=some (.ins C dx fs))(c:Cls X.K C)(n:NoAttr X.K C f)(l:fs.lookup f=some v)
  (h:∀ u s',Inv X pins σ H s'->RelV v u->Q u s'):wpAny (model X.prog X.w) A (getAttr (.ref a) f b) Q E s:=by
 obtain⟨g,O,r,_,_,_⟩:=jJ I.hok e;obtain⟨u,i,d⟩:=RelO.some_of (v:=v) (o:=g f) (by rw[<- l];exact r f);exact uk I.kIn O (c.get f) c.hd n i (qP d) (h u _ (I.tok _) d)
theorem kc{m:Str}{g:Addr}{pl:Sem Bool}{Q:Value×List Value->Shared->Prop}(I:Inv X pins σ H s)(e:H a=some (.ins C dx fs))(c:Cls X.K C)(k:Meth X.K C m g)(l:fs.lookup m=none)
  (h:Q (.ref g,[.ref a]) s):wpAny (model X.prog X.w) A (getMethod (.ref a) m pl) Q E s:=by
 obtain⟨b,O,r,_,_,_⟩:=jJ I.hok e;have d:b m=none:=RelO.none_of (by rw[<- l];exact r m);exact sH I.kIn O (c.get m) k.at_ k.fn d h
theorem oB{y:V}{u:Value}{Q:Unit->Shared->Prop}(I:Inv X pins σ H s)(e:H a=some (.ins C dx fs))(c:Cls X.K C)(n:NoAttr X.K C f)(F:fs.length<1000)(p:RelV y u)
  (h:∀ s',Inv X pins σ (upd H a (.ins C dx (ig f y fs))) s'->Q () s'):wpAny (model X.prog X.w) A (setAttr (.ref a) f u) Q E s:=by
 obtain⟨l,O,r,i,_,j⟩:=jJ I.hok e;have v:(fs.map (·.1)).length<=sizeLine:=by rw[length_map,sizeLine_eq];lia
 refine uN I.kIn O c.sa c.po n.taker c.hd i v λB d w=>h _ ?_
 have D:∃ o,B.get? dx=some o:=let ⟨o,_,_,e',_⟩:=d.ns;⟨o,e'⟩;refine I.write (x:=a) (e:=dx) (by rw[e];exact True.intro) (.inr j) (λb q hb z=>(w.2 b hb).trans z) D ?_;refine⟨by rw[az O.ne];exact j,?_,O.ne,d.obj,_,d.ns,λg=>?_,λg hg=>?_⟩
 .have:=jt f y fs;lia
 .show RelO ((ig f y fs).lookup g) (if g=f then some u else l g)
  rw[jp]
  by_cases q:g=f
  .rw[if_pos q,if_pos q];exact p
  .rw[if_neg q,if_neg q];exact r g
 .by_cases q:g=f
  .rw[q];exact(jd f y fs).1
  .refine(jd f y fs).2 g (i g λz=>hg ?_)
   show(if g=f then some u else l g)=none;rw[if_neg q];exact z
theorem Inv.made(I:Inv X pins σ H s):Inv X pins σ (upd (upd H s.heap.objs.size (.own (s.heap.objs.size+1))) (s.heap.objs.size+1) (.ins C s.heap.objs.size []))
  { s with heap:=(s.heap.push emptyDict).push (instObj C s.heap.objs.size) }:=by
 have d:(s.heap.push emptyDict).get? s.heap.objs.size=some emptyDict:=Heap.get?_push_size s.heap rfl
 have g:((s.heap.push emptyDict).push (instObj C s.heap.objs.size)).get? (s.heap.objs.size+1)=some (instObj C s.heap.objs.size):=by
  have:=Heap.get?_push_size (s.heap.push emptyDict) (o:=instObj C s.heap.objs.size) rfl;rwa [Heap.size_push]at this
 have f:(s.heap.push emptyDict).Ns s.heap.objs.size (λ_=>none):=⟨emptyDict,#[],_,d,rfl,(λe he=>absurd he (by simp)),λ_=>rfl⟩
 have h:=I.laid (a:=s.heap.objs.size) (o:=.own (s.heap.objs.size+1)) (h':=s.heap.push emptyDict) (t':=s.toks) (λb u q=>Heap.get?_push_of_some _ q) (Nat.le_refl _) ⟨_,d⟩;refine h.laid (a:=s.heap.objs.size+1) (o:=.ins C s.heap.objs.size []) (t':=s.toks) (λb u q=>Heap.get?_push_of_some _ q) (Nat.le_of_eq (Heap.size_push _ _)) ?_;have c:s.heap.objs.size≠s.heap.objs.size+1:=Nat.ne_of_lt (Nat.lt_succ_self _);refine⟨by rw[az c,ae],Nat.zero_le _,c,g,λ_=>none,(Heap.Ns1.of_empty f).at λo q=>Heap.get?_push_of_some _ q,λ_=>True.intro,λy hy=>absurd rfl hy⟩
theorem uv{prog:Program}{w:World}{env:Env}{e:Expr}{f:Str}{a:Pos}{s:Shared}{Q:Value->Shared->Prop}(b:attributeBase e f env (eval e env)=eval e env)
  (h:wpAny (model prog w) A (eval e env) (λo s₁=>wpAny (model prog w) A (getAttr o f true) Q E s₁) E s):wpAny (model prog w) A (eval (.Attribute e f a) env) Q E s :=
 Attribute_any_ h (by rw[arm_eval_Attribute,b])
end
def xL(K:Frag)(ta:TE)(f:Str):TE:=λσ H Q=>ta σ H λx H1=>∃ a C dx fs v,x=.ref a/\H1 a=some (.ins C dx fs)/\Cls K C/\NoAttr K C f/\fs.lookup f=some v/\Q v H1
def yv(K:Frag)(ta tv:TE)(f:Str):TS:=λD σ H=>tv σ H λy H1=>ta σ H1 λx H2=>∃ a C dx fs,x=.ref a/\H2 a=some (.ins C dx fs)/\Cls K C/\NoAttr K C f/\fs.length<1000 /\
 D.nx σ (upd H2 a (.ins C dx (ig f y fs)))
section
variable {X:Cx}{o e value:Expr}{f:Str}{pos pos' tpos:Pos}{ta tv:TE}
theorem bb(i:PE X e ta)(z:attributeBase e f X.env (eval e X.env)=eval e X.env):PE X (.Attribute e f pos) (xL X.K ta f):=by
 intro b s r H Q I h;refine uv z (thn (i b s r H _ I h) λu A ⟨x,w,y,p,a,C,E,D,v,d,g,c,n,l,q⟩=>?_);subst d;obtain rfl:u=Value.ref a:=p
 exact oN y g c n l λB F o j=>⟨v,w,o,j,q⟩
theorem jg(r:PE X o ta)(i:PE X value tv)(v:swapsWith value (some (.Attribute o f pos')) pos.line X.env=pure false):PS X (.Assign [.Attribute o f pos'] value pos) (yv X.K ta tv f):=by
 intro b s d H D I h;refine plainObj_wpAny_Assign_Attribute (thn (i b s d H _ I h) λu g ⟨y,p,w,e,q⟩=>thn (r b g d p _ w q) λov s2 ⟨x,H2,I2,rx,a,C,dx,fs,ex,ea,c,n,l,q2⟩=>?_) v;subst ex;obtain rfl:ov=Value.ref a:=rx
 exact oB I2 ea c n l e λz j=>⟨d,_,j,q2⟩
end
section
variable {X:Cx}{pins:List (Addr×Obj)}{σ:St}{H:Hp}{s:Shared}{A:Around}{E:Value->Shared->Prop}{Q:Value->Shared->Prop}{c:Value}{b:Bool}
inductive TyOf(K:Frag)(H:Hp):V->Value->Prop where
 | non:TyOf K H .non (.type "NoneType")
 | bl (x:Bool):TyOf K H (.bl x) (.type "bool")
 | int (i:Int):TyOf K H (.int i) (.type "int")
 | str (x:Str):TyOf K H (.str x) (.type "str")
 | flt (x:UInt64):TyOf K H (.flt x) (.type "float")
 | lst {a:Addr}{xs:List V}(e:H a=some (.lst xs)):TyOf K H (.ref a) (.type "list")
 | frz {a:Addr}{o:Obj}{xs:List V}(e:H a=some (.frz o (.lst xs))):TyOf K H (.ref a) (.type "list")
 | tup {a:Addr}{xs:List V}(e:H a=some (.tup xs)):TyOf K H (.ref a) (.type "tuple")
 | dK {a:Addr}{kvs:List (Key×V)}(e:H a=some (.dK kvs)):TyOf K H (.ref a) (.type "dict")
 | dT {a:Addr}{kvs:List (List Key×V)}(e:H a=some (.dT kvs)):TyOf K H (.ref a) (.type "dict")
 | ins {a C dx:Addr}{fs:List (Str×V)}(e:H a=some (.ins C dx fs)) (cl:Cls K C) (ha:findIn K (.ref C) "__class__" = some (some (.builtin "object.__class__")))
   (hn:specialIn K (.builtin "object.__class__") "__get__" = some (some (.builtin "getset_descriptor.__get__"))) (htk:takesIn K (.builtin "object.__class__")=some true)
   (hm:mroIn K C (.type "object")=some true):TyOf K H (.ref a) (.ref C)
end
structure Room(k:Nat)(A:Around):Prop where
 hd:A.handled=none
 dp:A.depth+3*k+5<recursionLimit
 un:A.units+16*k+200<cLine
theorem Room.mono{j k:Nat}{A:Around}(r:Room k A)(h:j<=k):Room j A:=⟨r.hd,by have:=r.dp;lia,by have:=r.un;lia⟩
theorem Room.deeper{k:Nat}{A:Around}(r:Room (k+1) A)(env:Env):Room k (A.deeper env) :=
 ⟨r.hd,by have:=r.dp;show A.depth+1+3*k+5<_;lia,by have:=r.un;show A.units+3+16*k+200<_;lia⟩
theorem oa{A:Around}{C:Addr}{us:List Value}{a:List (Str×Value)}:(A.under (.builtin "type.__call__" ⟨.ref C::us,a⟩)).depth=A.depth+1:=by
 first | rfl | simp[Around.under,Code.weight,Code.isCreation,Code.isGuard,Code.isCaller,Code.frames,Code.isFrame,guardIds]
theorem oU{A:Around}{C:Addr}{us:List Value}{a:List (Str×Value)}:(A.under (.builtin "type.__call__" ⟨.ref C::us,a⟩)).units=A.units+1:=by
 first | rfl | simp[Around.under,Code.cUnits,Code.frames,Code.isFrame]
theorem Room.make{k:Nat}{A:Around}(r:Room (k+1) A)(C:Addr)(us:List Value)(a:List (Str×Value)):Room k (A.under (.builtin "type.__call__" ⟨.ref C::us,a⟩)) :=
 ⟨r.hd,by have:=r.dp;rw[oa];lia,by have:=r.un;rw[oU];lia⟩
theorem Room.depth{k:Nat}{A:Around}(r:Room k A):A.depth<recursionLimit:=by have:=r.dp;lia
theorem Room.units{k:Nat}{A:Around}(r:Room k A):A.units+64<cLine:=by have:=r.un;lia
def xc:TA:=λ_ H Q=>Q [] H
def vC(ta:TE)(tr:TA):TA:=λσ H Q=>ta σ H λx H1=>tr σ H1 λxs H2=>Q (x::xs) H2
section
variable {X:Cx}{e:Expr}{es:List Expr}{te:TE}{t:TA}{pos:Pos}
theorem ac:PA X [] xc:=λ_ _ _ _ H Q I h=>Calls.spliced_nil ⟨[],H,I,.nil,h⟩
theorem aa(v:PE X e te)(g:PA X es t)(w:starEach (e::es) X.env=(false,eval e X.env)::starEach es X.env:=by rfl):PA X (e::es) (vC te t):=by
 intro b a s c H Q I h;rw[w];show wpAny _ _ (spliced ((false,eval e X.env)::backTo b (starEach es X.env))) _ _ s;refine Calls.spliced_cons (thn (v a s c H _ I h) λu f ⟨x,y,z,o,r⟩=>?_)
 exact thn (g b a f c y _ z r) λA B ⟨i,l,j,p,d⟩=>⟨x::i,l,j,.cons o p,d⟩
def yI(t:TA):TE:=λσ H Q=>t σ H λxs H1=>xs.length<=sizeLine/\∀ p,H1 p=none->Q (.ref p) (upd H1 p (.tup xs))
def yx(t:TA):TE:=λσ H Q=>t σ H λxs H1=>xs.length<=sizeLine/\∀ p,H1 p=none->Q (.ref p) (upd H1 p (.lst xs))
theorem aK{x1}(h:PA X es t):PE X (.Tuple es x1 pos) (yI t):=by
 intro a s l H Q I g;refine wpAny_Tuple_spliced (thn (h pos a s l H _ I g) λo c ⟨i,d,f,r,z,q⟩=>⟨by rw[<- r.length];exact z,?_⟩);have j:d c.heap.objs.size=none:=f.hok.fresh (Nat.le_refl _);refine⟨.ref c.heap.objs.size,upd d c.heap.objs.size (.tup i),f.laid (t':=c.toks) (λb u e=>Heap.get?_push_of_some _ e) (Nat.le_refl _) ?_,rfl,q _ j⟩;exact⟨z,o,r,⟨_,Heap.get?_push_size _ rfl,rfl,_,rfl⟩⟩
theorem aZ(h:PA X es t):PE X (.List es pos) (yx t):=by
 intro a s l H Q I g;refine wpAny_List_spliced (thn (h pos a s l H _ I g) λo c ⟨i,d,f,r,z,q⟩=>⟨by rw[<- r.length];exact z,?_⟩);have j:d c.heap.objs.size=none:=f.hok.fresh (Nat.le_refl _);refine⟨.ref c.heap.objs.size,upd d c.heap.objs.size (.lst i),f.laid (t':=c.toks) (λb u e=>Heap.get?_push_of_some _ e) (Nat.le_refl _) ?_,rfl,q _ j⟩;exact⟨z,o,0,r,Heap.get?_push_size _ rfl⟩
end
abbrev Sp:=List V->Hp->VK->XK->Prop
abbrev CXT:=List Env->Hp->Shared->XK->Value->Shared->Prop
structure Env0(P:Program)(w:World)(K:Frag)(mg:Str->Option Value)(base:Heap)(A:Around)(outer:List Env)(s:Shared)(H:Hp):Prop where
 frames:A.frames=some outer
 mod:Mod K mg base
 bs:∀ b o,base.get? b=some o->s.heap.get? b=some o/\H b=none
 bsz:base.objs.size<=s.heap.objs.size
 funs:s.heap.FunFrames base outer
 frf:∀ b∈frs outer,H b=none
 hok:HOk P w H s.heap
 bare:AllBare s.gens
def CE(outer:List Env)(P:Program)(w:World)(H:Hp)(s:Shared)(Q:VK)(u:Value)(s':Shared):Prop :=
 ∃ v H',s'.os=s.os/\AllBare s'.gens/\Un (frs outer) [] H H' s.heap s'.heap/\HOk P w H' s'.heap/\RelV v u/\Q v H'
def CR(CX:CXT)(outer:List Env)(P:Program)(w:World)(H:Hp)(s:Shared)(Q:VK)(E:XK)(r:Result)(s':Shared):Prop :=
 match r with
 | .ok (.ret u)=>CE outer P w H s Q u s'
 | .ok _=>False
 | .error e=>CX outer H s E e s'
structure FnOk(P:Program)(w:World)(K:Frag)(mg:Str->Option Value)(base:Heap)(CX:CXT)(k:Nat)(f:Addr)(fd:FuncData)(ps:List Str)(sp:Sp):Prop where
 len:∀ vs H Q E,sp vs H Q E->vs.length=ps.length
 run:∀(A:Around) (outer:List Env) (s:Shared) (H:Hp) (args:Args) (us:List Value) (vs:List V) (Q:VK) (E:XK),Room k A->Env0 P w K mg base A outer s H->BindsTo s fd args (ps.zip us)->Vals vs us->sp vs H Q E ->
  codeAny (model P w) A (.call (.ref f) args) (CR CX outer P w H s Q E) s
theorem FnOk.mono{P:Program}{w:World}{K:Frag}{mg:Str->Option Value}{a:Heap}{CX:CXT}{j k:Nat}{f:Addr}{d:FuncData}{e:List Str}{sp:Sp}(F:FnOk P w K mg a CX j f d e sp)(h:j<=k) :
  FnOk P w K mg a CX k f d e sp:=⟨F.len,λA b s H c l g Q E i=>F.run A b s H c l g Q E (i.mono h)⟩
theorem FnOk.imp{P:Program}{w:World}{K:Frag}{mg:Str->Option Value}{a:Heap}{CX:CXT}{k:Nat}{f:Addr}{c:FuncData}{d:List Str}{sp b:Sp}(F:FnOk P w K mg a CX k f c d sp)
  (h:∀ vs H Q E,b vs H Q E->sp vs H Q E):FnOk P w K mg a CX k f c d b :=
 ⟨λvs H Q E q=>F.len vs H Q E (h _ _ _ _ q),λA outer s H args us vs Q E hr he hb hv hs=>F.run A outer s H args us vs Q E hr he hb hv (h _ _ _ _ hs)⟩
theorem Env0.make{P:Program}{w:World}{K:Frag}{mg:Str->Option Value}{b:Heap}{A:Around}{a:List Env}{s:Shared}{H:Hp}(e:Env0 P w K mg b A a s H)(C:Addr)(us:List Value)(c:List (Str×Value)) :
  Env0 P w K mg b (A.under (.builtin "type.__call__" ⟨.ref C::us,c⟩)) a s H:=⟨by first | exact e.frames | (simpa[Around.under,Code.envs,Code.isFrame,pushEnvs] using e.frames),e.mod,e.bs,e.bsz,e.funs,e.frf,e.hok,e.bare⟩
section
variable {X:Cx}{pins:List (Addr×Obj)}{σ:St}{H:Hp}{s s':Shared}
theorem Inv.env0(I:Inv X pins σ H s):Env0 X.prog X.w X.K X.mg X.base X.A X.stack s H :=
 ⟨I.ok.frames,I.ok.mod,I.bs,Nat.le_trans I.ok.bsz I.sz,I.stack,I.stkFree,I.hok,I.bare⟩
theorem Inv.after{Q:VK}{u:Value}(I:Inv X pins σ H s)(h:CE X.stack X.prog X.w H s Q u s'):EP X pins σ Q u s':=by
 obtain⟨v,i,f,a,l,e,r,q⟩:=h;obtain⟨j,g,d,t,c⟩:=s';obtain rfl:c=s.os:=f;exact⟨v,i,I.call (h':=j) (g':=g) (d':=d) (t':=t) (ch:=[]) l e a (λb z=>absurd z (by simp)),r,q⟩
end
def w5(sp:Sp)(dvs:List V)(E:XK)(t:TA):TE:=λσ H Q=>t σ H λvs H1=>sp (vs++dvs) H1 Q E
def vx(C:Addr)(m:Str)(sp:Sp)(dvs:List V)(E:XK)(ta:TE)(t:TA):TE:=λσ H Q=>ta σ H λx H1=>∃ a dx fs,x=.ref a/\H1 a=some (.ins C dx fs)/\fs.lookup m=none /\
 t σ H1 λvs H2=>sp (x::(vs++dvs)) H2 Q E
def xh(C:Addr)(sp:Sp)(dvs:List V)(E:XK)(t:TA):TE:=λσ H Q=>t σ H λvs H1=>∀ x dx,H1 x=none->H1 dx=none->dx≠x ->
 sp (.ref x::(vs++dvs)) (upd (upd H1 dx (.own x)) x (.ins C dx [])) (λv H2=>v=.non/\Q (.ref x) H2) E
def Binds(K:Frag)(fd:FuncData)(ps:List Str)(ds:List Value):Prop :=
 ∀(s:Shared) (us:List Value),K.In s.heap->(us++ds).length=ps.length->BindsTo s fd ⟨us,[]⟩ (ps.zip (us++ds))
theorem Binds.all{K:Frag}{c:FuncData}{a:List Str}(h:∀ us:List Value,us.length=a.length->bindArgs c ⟨us,[]⟩=pure (a.zip us)):Binds K c a []:=λs us _ b=>by
 rw[append_nil]at b ⊢;exact .of_eq (h us b)
def iu(CX:CXT)(X:Cx)(E:XK):Prop:=∀(pins:List (Addr×Obj)) (σ:St) (H:Hp) (s:Shared) (e:Value) (s':Shared),Inv X pins σ H s->CX X.stack H s E e s'->X.xe e s'
section
variable {X:Cx}{CX:CXT}{k:Nat}{f C:Addr}{fd:FuncData}{ps:List Str}{sp:Sp}{dvs:List V}{ds:List Value}{E:XK}{x m:Str}{p pos apos:Pos}{e o:Expr}{es:List Expr}{ta:TE}{t:TA}
theorem nU{a:List (Addr×Obj)}{c:St}{H:Hp}{s:Shared}{Q:VK}{us:List Value}{vs:List V}(F:FnOk X.prog X.w X.K X.mg X.base CX k f fd ps sp)(i:Room k X.A)(p:Binds X.K fd ps ds)(j:Vals dvs ds)(g:iu CX X E)
  (I:Inv X a c H s) (r:Vals vs us) (h:sp (vs++dvs) H Q E):wpAny (model X.prog X.w) X.A (call (.ref f) us) (EP X a c Q) X.xe s:=by
 have d:Vals (vs++dvs) (us++ds):=r.append j;have o:(us++ds).length=ps.length:=by rw[<- d.length];exact F.len _ _ _ _ h
 refine wpAny_call (codeAny_mono (F.run X.A X.stack s H ⟨us,[]⟩ (us++ds) (vs++dvs) Q E i I.env0 (p s us I.kIn o) d h) λr l b=>?_);cases r with
 | error e=>exact g a c H s e l I b
 | ok fl =>
  cases fl with
  | ret u=>exact I.after b
  | next=>exact False.elim b
  | brk=>exact False.elim b
  | cont=>exact False.elim b
theorem aj(F:FnOk X.prog X.w X.K X.mg X.base CX k f fd ps sp)(l:Room k X.A)(v:Gl X x)(o:X.mg x=some (.ref f))(g:keepIn X.K (.ref f)=true)(z:Binds X.K fd ps ds)(w:Vals dvs ds)(i:iu CX X E)
  (y:PA X (e::es) t) (c:(x == ("__debug__" : Str))=false:=by decide) (j:starEach (e::es) X.env=(false,eval e X.env)::starEach es X.env:=by rfl) (b:(backTo pos (starEach es X.env)).any (·.1)=false:=by rfl) :
  PE X (.Call (.Name x p) (e::es) [] pos) (w5 sp dvs E t):=by
 intro a s u H Q I h;refine wpAny_Call_Name_kw (ib I v o ?_ c);refine callWith_K (h₀:=X.base) I.ok.mod.kin g (thn (y pos a s u H _ I h) λC B ⟨A,D,d,r,q⟩=>⟨d.kIn,?_⟩) j b;exact nU F l z w i d r q
theorem aC{pl:Sem Bool}(N:PE X o ta)(c:Cls X.K C)(i:Meth X.K C m f)(F:FnOk X.prog X.w X.K X.mg X.base CX k f fd ps sp)(P:Room k X.A)(B:Binds X.K fd ps ds)(K:Vals dvs ds)(z:iu CX X E)(A:PA X (e::es) t)
  (d:starEach (e::es) X.env=(false,eval e X.env)::starEach es X.env:=by rfl) (g:(backTo pos (starEach es X.env)).any (·.1)=false:=by rfl)
  (G:eval (.Call (.Attribute o m apos) (e::es) [] pos) X.env=(do
   let ov <- eval o X.env
   standAt apos.atName
   let (f,first) <- holding [ov] (getMethod ov m pl)
   callWith pos f first (backTo pos (starEach (e::es) X.env)) (backToKw pos (keywordEach [] X.env))):=by rfl) :
  PE X (.Call (.Attribute o m apos) (e::es) [] pos) (vx C m sp dvs E ta t):=by
 intro b s j H Q I h;refine methodCall_KW (pl:=pl) (thn (N b s j H _ I h) λu M ⟨x,O,v,D,a,T,R,w,L,l,q⟩=>?_) G;subst w;obtain rfl:u=Value.ref a:=D;refine kc v L c i l ?_;refine callWith_K (first:=[.ref a]) (h₀:=X.base) I.ok.mod.kin i.kp (thn (A pos b M j O _ v q) λus S ⟨vs,W,p,r,y⟩=>⟨p.kIn,?_⟩) d g;exact nU (us:=.ref a::us) (vs:=.ref a::vs) F P B K z p (.cons rfl r) y
theorem du{pl:Sem Bool}(p:PE X o ta)(c:Cls X.K C)(e:Meth X.K C m f)(F:FnOk X.prog X.w X.K X.mg X.base CX k f fd ps sp)(r:Room k X.A)(A:Binds X.K fd ps ds)(z:Vals dvs ds)(j:iu CX X E)
  (w:eval (.Call (.Attribute o m apos) [] [] pos) X.env=(do
   let ov <- eval o X.env
   standAt apos.atName
   let (f,first) <- holding [ov] (getMethod ov m pl)
   callWith pos f first (backTo pos (starEach [] X.env)) (backToKw pos (keywordEach [] X.env))):=by rfl) :
  PE X (.Call (.Attribute o m apos) [] [] pos) (vx C m sp dvs E ta xc):=by
 intro b s y H Q I h;refine methodCall_KW (pl:=pl) (thn (p b s y H _ I h) λu B ⟨x,K,d,v,a,G,D,g,i,l,q⟩=>?_) w;subst g;obtain rfl:u=Value.ref a:=v;refine kc d i c e l ?_;exact PySem.W.callWith_K0 (first:=[.ref a]) d.kIn e.kp (nU (us:=[.ref a]) (vs:=[.ref a]) F r A z j d (.cons rfl .nil) q)
structure Mk(K:Frag)(C f:Addr):Prop where
 makes:makesIn K C=true
 init:findIn K (.ref C) "__init__" = some (some (.ref f))
 fn:isFn K (.ref f)=true
 kp:keepIn K (.ref C)=true
theorem tJ{b:List (Addr×Obj)}{d:St}{H:Hp}{s:Shared}{Q:VK}{us:List Value}{vs:List V}(M:Mk X.K C f)(F:FnOk X.prog X.w X.K X.mg X.base CX k f fd ps sp)(p:Room (k+1) X.A)(G:Binds X.K fd ps ds)(A:Vals dvs ds)
  (j:iu CX X E) (I:Inv X b d H s) (r:Vals vs us)
  (h:∀ x dx,H x=none->H dx=none->dx≠x->sp (.ref x::(vs++dvs)) (upd (upd H dx (.own x)) x (.ins C dx [])) (λv H2=>v=.non/\Q (.ref x) H2) E) :
  wpAny (model X.prog X.w) X.A (call (.ref C) us) (EP X b d Q) X.xe s:=by
 have g:=h (s.heap.objs.size+1) s.heap.objs.size (I.hok.fresh (Nat.le_succ _)) (I.hok.fresh (Nat.le_refl _)) (Nat.ne_of_lt (Nat.lt_succ_self _));have c:=Inv.made (C:=C) I;have i:Vals (V.ref (s.heap.objs.size+1)::(vs++dvs)) (Value.ref (s.heap.objs.size+1)::(us++ds)):=.cons rfl (r.append A)
 have D:(Value.ref (s.heap.objs.size+1)::us++ds).length=ps.length:=by
  have e:=i.length;rw[F.len _ _ _ _ g]at e;exact e.symm
 refine wpAny_call (sA (f:=f) I.kIn M.makes M.init (beq_iff_eq.mp M.fn) (codeAny_mono (F.run _ X.stack _ _ ⟨Value.ref (s.heap.objs.size+1)::us,[]⟩ (Value.ref (s.heap.objs.size+1)::(us++ds)) _ _ E (p.make C us [])
  (c.env0.make C us []) (G _ (Value.ref (s.heap.objs.size+1)::us) c.kIn D) i g) λr B a=>?_))
 cases r with
 | error e=>exact j b d _ _ e B c a
 | ok fl =>
  cases fl with
  | ret u =>
   obtain⟨v,w,l,y,o,z⟩:=c.after a;subst o;exact⟨y,⟨V.ref (s.heap.objs.size+1),w,l,rfl,z⟩⟩
  | next=>exact False.elim a
  | brk=>exact False.elim a
  | cont=>exact False.elim a
theorem bO(M:Mk X.K C f)(F:FnOk X.prog X.w X.K X.mg X.base CX k f fd ps sp)(j:Room (k+1) X.A)(u:Gl X x)(l:X.mg x=some (.ref C))(y:Binds X.K fd ps ds)(v:Vals dvs ds)(g:iu CX X E)
  (w:PA X (e::es) t) (c:(x == ("__debug__" : Str))=false:=by decide) (i:starEach (e::es) X.env=(false,eval e X.env)::starEach es X.env:=by rfl) (b:(backTo pos (starEach es X.env)).any (·.1)=false:=by rfl) :
  PE X (.Call (.Name x p) (e::es) [] pos) (xh C sp dvs E t):=by
 intro a s o H Q I h;refine wpAny_Call_Name_kw (ib I u l ?_ c);refine callWith_K (h₀:=X.base) I.ok.mod.kin M.kp (thn (w pos a s o H _ I h) λB A ⟨z,D,d,r,q⟩=>⟨d.kIn,?_⟩) i b;exact tJ M F j y v g d r q
end
section
variable {X:Cx}{CX:CXT}{k:Nat}{f C:Addr}{fd:FuncData}{ps ks:List Str}{sp:Sp}{E:XK}{x m:Str}{p pos apos kpos:Pos}{e o:Expr}{es:List Expr}{kws:List Keyword}{te ta:TE}{t tk:TA}{nm:Option Str}
variable {g:List Value->List Value->List Value}{gV:List V->List V->List V}
end
structure FnScope(N P:List Str)(sc:Scope):Prop where
 kind:sc.kind=.function
 co:sc.isCoroutine=false
 gen:sc.isGenerator=false
 nd:N.Nodup
 pre:N.take P.length=P
 par:∀ x ∈ P,sc.names.lookup x = some .local\/sc.names.lookup x = some .cell
 nofree:∀ y∈sc.names,y.2≠.free
theorem kT{a:Str->Option NameKind}{x:Str}:∀{binds:List (Str×Value)}{m:Str->Option Value},(∀ v,(x,v) ∉ binds)->bindL a binds m x=m x
 | [],_,_=>rfl
 | (n,v)::r,m,h=>by
  unfold bindL;rw[kT λw b=>h w (mem_cons_of_mem _ b)]
  split
  .have:x≠n:=by rintro rfl;exact h v mem_cons_self
   simp[this]
  .rfl
theorem lv{a:Str->Option NameKind}{x:Str}:∀{binds:List (Str×Value)}{m:Str->Option Value},(∀ v,(x,v) ∉ binds)->bindC a binds m x=m x
 | [],_,_=>rfl
 | (n,v)::r,m,h=>by
  unfold bindC;rw[lv λw b=>h w (mem_cons_of_mem _ b)]
  split
  .rfl
  .have:x≠n:=by rintro rfl;exact h v mem_cons_self
   simp[this]
theorem lq{a:Str->Option NameKind}{x:Str}{v:Value}:∀{P:List Str}{vs:List Value}{i:Nat}{m:Str->Option Value},P.Nodup->P[i]? = some x->vs[i]? = some v->a x = some .local ->
  bindL a (P.zip vs) m x=some v
 | [],_,_,_,_,h,_,_=>by simp at h
 | _::_,[],_,_,_,_,h,_=>by simp at h
 | p::P,w::vs,0,m,nd,h1,h2,hk=>by
  simp at h1 h2;subst h1;subst h2;show bindL a ((p,w)::P.zip vs) m p=_;unfold bindL;rw[kT λv b=>(nodup_cons.mp nd).1 (of_mem_zip b).1,if_pos hk];simp
 | p::P,w::vs,i+1,m,nd,h1,h2,hk=>by
  show bindL a ((p,w)::P.zip vs) m x=_;unfold bindL;exact lq (i:=i) (nodup_cons.mp nd).2 (by simpa using h1) (by simpa using h2) hk
theorem kP{a:Str->Option NameKind}{x:Str}{v:Value}:∀{P:List Str}{vs:List Value}{i:Nat}{m:Str->Option Value},P.Nodup->P[i]? = some x->vs[i]? = some v->a x≠some .local ->
  bindC a (P.zip vs) m x=some v
 | [],_,_,_,_,h,_,_=>by simp at h
 | _::_,[],_,_,_,_,h,_=>by simp at h
 | p::P,w::vs,0,m,nd,h1,h2,hk=>by
  simp at h1 h2;subst h1;subst h2;show bindC a ((p,w)::P.zip vs) m p=_;unfold bindC;rw[lv λv b=>(nodup_cons.mp nd).1 (of_mem_zip b).1,if_neg hk];simp
 | p::P,w::vs,i+1,m,nd,h1,h2,hk=>by
  show bindC a ((p,w)::P.zip vs) m x=_;unfold bindC;exact kP (i:=i) (nodup_cons.mp nd).2 (by simpa using h1) (by simpa using h2) hk
def start(N:List Str)(vs:List V):St:=vs.map some++List.replicate (N.length - vs.length) none
def gg(CX:CXT)(P:Program)(w:World)(K:Frag)(mg:Str->Option Value)(base:Heap)(N:List Str)(qual:Str)(scope:Scope)(f:Addr)(cd:Value)(A:Around)(outer:List Env)(s:Shared)(H:Hp)(E:XK):Cx where
 prog:=P
 w:=w
 K:=K
 mg:=mg
 base:=base
 A:=A.deeper (envOfC qual scope s.heap.objs.size f cd)
 N:=N
 s₀:=s
 H₀:=H
 env:=envOfC qual scope s.heap.objs.size f cd
 outer:=outer
 stack:=envOfC qual scope s.heap.objs.size f cd::outer
 ex:=[]
 calm:=true
 fn:=λ_=>true
 pn:=[]
 xe:=λe s'=>wpAny (model P w) (A.deeper (envOfC qual scope s.heap.objs.size f cd)) (leaving (envOfC qual scope s.heap.objs.size f cd) e) (λ_ s''=>CX outer H s E e s'') (λe' s''=>CX outer H s E e' s'') s'
theorem nI{a:Scope}{n:Nat}{x:Str}(h:a.names.lookup x=some .cell):∃ c,(cellsFrom n a.names []).lookup x=some c:=by
 have q:=cellsFrom_some a.names n [] (.inl h);exact Option.isSome_iff_exists.mp q
theorem kN{CX:CXT}{P:Program}{w:World}{K:Frag}{mg:Str->Option Value}{l:Heap}{N B:List Str}{g:Str}{scope:Scope}{f:Addr}{L:Value}{A:Around}{d:List Env}{s O:Shared}{H:Hp}{E:XK}{us:List Value}{vs:List V}
  (S:FnScope N B scope) (W:A.handled=none) (o:Env0 P w K mg l A d s H) (Z:vs.length=B.length) (r:Vals vs us)
  (x:InCallC s s.heap.objs.size (bindL (envOfC g scope s.heap.objs.size f L).kindOf (B.zip us) λ_=>none) (cellsFrom (s.heap.objs.size+1) scope.names []) (bindC (envOfC g scope s.heap.objs.size f L).kindOf (B.zip us) λ_=>none) O) :
  Inv (gg CX P w K mg l N g scope f L A d s H E) [] (start N vs) H O:=by
 have X:B.length<=N.length:=by have:=congrArg List.length S.pre;rw[length_take]at this;lia
 obtain⟨G,Y,rfl,Q⟩:=x.done;have C:∀ b:Addr,b ∉ (gg CX P w K mg l N g scope f L A d s H E).ex:=λb z=>absurd (show b∈([]:List Addr) from z) (by simp)
 refine⟨⟨o.mod,S.kind,rfl,rfl,Nat.le_refl _,λy z c G j=>?_,λy hy=>?_,λy c _ h=>?_,λ_=>W,Around.frames_deeper o.frames,.inr ⟨rfl,rfl⟩,λb z=>absurd z (C b),o.bs,o.bsz,λb _ _=>C b,λb z=>absurd z (C b),o.funs,o.frf⟩,
  rfl,o.bare,Un.kept Q,⟨_,x.toInCall.ns,λi y v G j h3=>?_⟩,λy c h=>⟨_,x.cell y c h⟩,o.hok.fresh (Nat.le_refl _),λy c h=>?_,λp F=>absurd (show p∈([]:List (Addr×Obj)) from F) (by simp),o.hok.kept Q,?_⟩
 .exact name_of_addr x.apart (PySem.mem_of_lookup G) (PySem.mem_of_lookup j)
 .have hy:scope.names.lookup y=some .cell\/scope.names.lookup y=some .free:=hy
  rcases hy with hy | hy
  .exact nI hy
  .exact absurd rfl (S.nofree _ (PySem.mem_of_lookup hy))
 .exact Nat.le_of_lt (x.above y c (PySem.mem_of_lookup h))
 .have I:i<vs.length:=by
   unfold start at j
   by_cases I:i<vs.length
   .exact I
   .rw[List.getElem?_append_right (by simpa using I)]at j
    rw[List.getElem?_replicate]at j
    split at j <;> cases j
  have T:vs[i]? = some v:=by
   unfold start at j;rw[List.getElem?_append_left (by simpa using I),List.getElem?_map]at j;cases e:vs[i]? with
   | none=>rw[e]at j;cases j
   | some a=>rw[e]at j;cases j;rfl
  obtain⟨u,M,R⟩:=r.get T
  have F:B[i]? = some y:=by
   rw[<- S.pre,List.getElem?_take_of_lt (by lia)];exact G
  have D:B.Nodup:=by rw[<- S.pre];exact S.nd.sublist (List.take_sublist _ _)
  refine⟨u,R,?_⟩
  rcases S.par y (List.mem_of_getElem? F) with k | k
  .exact .inl ⟨k,lq D F M k⟩
  .obtain⟨c,e⟩:=nI (n:=s.heap.objs.size+1) k
   refine .inr ⟨.inl k,c,e,?_⟩;have q:=x.cell y c e;rw[kP D F M (by show scope.names.lookup y≠_;rw[k];decide)]at q;exact q
 .exact o.hok.fresh (Nat.le_of_lt (x.above y c (PySem.mem_of_lookup h)))
 .unfold start
  show _=N.length;rw[length_append,length_map,List.length_replicate];lia
theorem wV{CX:CXT}{P:Program}{w:World}{K:Frag}{mg:Str->Option Value}{g:Heap}{k:Nat}{f:Addr}{name a:Str}{d:Arguments}{body:List Stmt}{scope:Scope}{dV kV z Z c W oc:Value}{Y od:Option Addr}
  {T:Array (Option Value)}{N F:List Str}{sp:Sp}(lk:K.lookup f=some ⟨oc,od,.func (fnOf name a d body scope dV kV z Z Y c W),T⟩) (L:codeIn K c a=true) (S:FnScope N F scope)
  (D:∀ vs H Q E,sp vs H Q E->vs.length=F.length)
  (j:∀(A:Around) (outer:List Env) (s:Shared) (H:Hp) (vs:List V) (Q:VK) (E:XK),Room k (A.deeper (envOfC a scope s.heap.objs.size f c))->sp vs H Q E ->
   ∃ t,PSs (gg CX P w K mg g N a scope f c A outer s H E) body t/\t { nx:=λ_ H'=>Q .non H',rt:=Q } (start N vs) H) :
  FnOk P w K mg g CX (k+1) f (fnOf name a d body scope dV kV z Z Y c W) F sp:=by
 refine⟨D,λA outer s H ab us vs Q E R B hb r C=>?_⟩;have hl:=D _ _ _ _ C;have X:K.In s.heap:=B.mod.kin.keeps λb o e=>(B.bs b o e).1
 have G:s.heap.NoLimit:=B.mod.nolimit.keeps λb o e=>(B.bs b o e).1
 have i:∀ y ∈ F.zip us,scope.names.lookup y.1 = some .local\/(scope.names.lookup y.1 = some .cell/\((cellsFrom (s.heap.objs.size + 1) scope.names []).lookup y.1).isSome = true):=λ⟨n,v⟩ hy=>by
  rcases S.par n (of_mem_zip hy).1 with q | q
  .exact .inl q
  .exact .inr ⟨q,cellsFrom_some _ _ _ (.inl q)⟩
 refine codeAny_call_function R.depth (X _ _ lk) rfl S.co S.gen rfl (codeRec_of X L) (hb _ _ _ _ ?_);refine wpAny_newFunctionEnv_cells S.kind i λad he s1 x=>?_
 subst he;refine⟨G.keeps x.toInCall.keep,codeAny_func ?_⟩;obtain⟨t,ht,hq⟩:=j A outer s H vs Q E (R.deeper _) C;have I:Inv (gg CX P w K mg g N a scope f c A outer s H E) [] (start N vs) H s1:=kN S R.hd B hl r x;refine wpAny_mono (ht [] s1 (start N vs) H _ I hq) (λfl O l=>?_) λe O l=>l
 have p:∀{h:St}{H':Hp}{v:V}{u:Value},Inv (gg CX P w K mg g N a scope f c A outer s H E) [] h H' O->RelV v u->Q v H'->CE outer P w H s Q u O :=
  λ{h H' v u} J M q=>⟨v,H',J.os,J.bare,J.base,J.hok,M,q⟩
 cases fl with
 | ret u =>
  obtain⟨v,h,H',J,M,q⟩:=l;exact p J M q
 | next =>
  obtain⟨h,H',J,q⟩:=l;exact p (v:=V.non) (u:=Value.none) J rfl q
 | brk =>
  obtain⟨_,_,_,q⟩:=l;exact False.elim q
 | cont =>
  obtain⟨_,_,_,q⟩:=l;exact False.elim q
section
variable {X:Cx}{x:Str}{p pos:Pos}{e:Expr}{es:List Expr}{t:TA}{id T:String}{r:List V->Hp->VK->Prop}
def tCB(r:List V->Hp->VK->Prop)(t:TA):TE:=λσ H Q=>t σ H λvs H1=>r vs H1 Q
theorem av(w:CallR X (.builtin id) r)(y:Gl X x)(o:X.mg x=none)(j:bootBuiltins x=some (.builtin id))(A:PA X (e::es) t)(g:x ≠ "__name__" := by decide)(c:(x == ("__debug__" : Str))=false:=by decide)
  (l:starEach (e::es) X.env=(false,eval e X.env)::starEach es X.env:=by rfl) (b:(backTo pos (starEach es X.env)).any (·.1)=false:=by rfl):PE X (.Call (.Name x p) (e::es) [] pos) (tCB r t):=by
 intro a s d H Q I h;refine wpAny_Call_Name_kw (i4 I y o j ?_ g c);exact PyProof.Rows.callWith_builtin1 (thn (A pos a s d H _ I h) λu i ⟨f,B,C,v,z⟩=>w a i d B f u Q C v z) l b
theorem b7(w:CallR X (.type T) r)(y:Gl X x)(o:X.mg x=none)(j:bootBuiltins x=some (.type T))(A:PA X (e::es) t)(g:x ≠ "__name__" := by decide)(c:(x == ("__debug__" : Str))=false:=by decide)
  (l:starEach (e::es) X.env=(false,eval e X.env)::starEach es X.env:=by rfl) (b:(backTo pos (starEach es X.env)).any (·.1)=false:=by rfl):PE X (.Call (.Name x p) (e::es) [] pos) (tCB r t):=by
 intro a s d H Q I h;refine wpAny_Call_Name_kw (i4 I y o j ?_ g c);exact PyProof.Rows.callWith_type1 (thn (A pos a s d H _ I h) λu i ⟨f,B,C,v,z⟩=>w a i d B f u Q C v z) l b
end
end L2
namespace HT
open PySem PyProof.Rows
section
open PySem.SeqAt
open PySem.AutoSeq1 (wpAny_loadPart')
open PySem.MeetsSeq PySem.MeetsSeq2 PySem.MeetsSeq3
end
section
variable {prog:Program}{w:World}{A:Around}{E:Value->Shared->Prop}{s:Shared}
def sIx(n d:Nat):Option Int->Nat
 | none=>d
 | some v=>if v<0 then (v+(n:Int)).toNat else min v.toNat n
theorem sIx_none(n d:Nat):sIx n d none=d:=rfl
theorem sIx_nat(n d k:Nat):sIx n d (some (k:Int))=min k n:=by
 show(if (k:Int)<0 then ((k:Int)+(n:Int)).toNat else min (k:Int).toNat n)=min k n;rw[if_neg (by lia),Int.toNat_natCast]
theorem sIx_le(n d:Nat)(a:d<=n)(o:Option Int):sIx n d o<=n:=by
 cases o with
 | none=>exact a
 | some v =>
  show(if v<0 then (v+(n:Int)).toNat else min v.toNat n)<=n
  by_cases hv:v<0
  .rw[if_pos hv];lia
  .rw[if_neg hv];exact Nat.min_le_right _ _
theorem pq(v:Int)(n d:Nat):(if v<0 then max (v+(n:Int)) 0 else min v (n:Int))=((sIx n d (some v):Nat):Int):=by
 show(if v<0 then max (v+(n:Int)) 0 else min v (n:Int))=(((if v<0 then (v+(n:Int)).toNat else min v.toNat n):Nat):Int)
 by_cases hv:v<0
 .simp only[if_pos hv];lia
 .simp only[if_neg hv];lia
theorem oJ(lo a:Option Int)(n:Nat):Builtin.Slice.sliceAdjust lo a 1 (n:Int)=(((sIx n 0 lo:Nat):Int),((sIx n n a:Nat):Int)):=by
 have b:¬((1:Int)<0):=by lia
 unfold Builtin.Slice.sliceAdjust;simp only[b,if_false];refine Prod.ext ?_ ?_
 .cases lo with
  | none=>rfl
  | some v=>exact pq v n 0
 .cases a with
  | none=>rfl
  | some v=>exact pq v n n
theorem nS(i j:Nat):Builtin.Slice.slicePlaces (i:Int) (j:Int) 1=j - i:=by
 unfold Builtin.Slice.slicePlaces;have a:(1:Int) > 0:=by lia
 simp only[a,if_true,Int.ediv_one]
 split <;> lia
theorem jN{v:Value}{o:Option Int}{Q:Option Int->Shared->Prop}(p:IsPart v o)(h:Q o s):wpAny (model prog w) A (Builtin.Slice.slicePartIndex v) Q E s:=by
 cases p with
 | none=>exact slicePart_none h
 | int i t=>exact slicePart_int h
theorem jm{f:Addr}{d e:Value}{lo a:Option Int}{n:Nat}{Q:Int×Int×Nat->Shared->Prop}(j:s.heap.IsSliceOf f d e .none)(pl:IsPart d lo)(g:IsPart e a)
  (h:Q (((sIx n 0 lo:Nat):Int),1,sIx n n a - sIx n 0 lo) s):wpAny (model prog w) A (Builtin.Slice.sliceApplied (.ref f) (pure (n:Int))) Q E s:=by
 obtain⟨l,b,i,c⟩:=id j;unfold Builtin.Slice.sliceApplied Builtin.Slice.sliceFields;refine wpAny_bind (wpAny_bind (wpAny_field b c (x:=d) rfl (wpAny_bind (wpAny_field b c (x:=e) rfl (wpAny_bind (wpAny_field b c (x:=.none) rfl (wpAny_pure ?_)))))));refine wpAny_bind (slicePart_none ?_);show wpAny _ _ (if ((1:Int) == 0)=true then _ else _) _ _ s;rw[if_neg (by decide)];refine wpAny_bind (jN pl (wpAny_bind (jN g (wpAny_bind (wpAny_pure ?_)))));show wpAny _ _ (match Builtin.Slice.sliceAdjust lo a 1 (n:Int) with | (lo,a)=>pure (lo,(1:Int),Builtin.Slice.slicePlaces lo a 1)) _ _ s;rw[oJ lo a n];show wpAny _ _ (pure (((sIx n 0 lo:Nat):Int),(1:Int),Builtin.Slice.slicePlaces ((sIx n 0 lo:Nat):Int) ((sIx n n a:Nat):Int) 1)) _ _ s;rw[nS];exact wpAny_pure h
theorem rN(xs:Array Value)(i k:Nat):((List.range k).filterMap λ(m:Nat)=>xs[((i:Int)+(m:Int)*1).toNat]?).toArray=((xs.toList.drop i).take k).toArray:=by
 have e:(λ(m:Nat)=>xs[((i:Int)+(m:Int)*1).toNat]?)=λm=>xs[i+m]?:=by
  funext m
  have:((i:Int)+(m:Int)*1).toNat=i+m:=by lia
  rw[this]
 rw[e];have:=pick_run xs i k;rw[List.filterMap_map]at this;have a:((λx=>xs[x]?) ∘ λx=>i+x)=λm=>xs[i+m]?:=rfl
 rw[a]at this;rw[this]
theorem getItem_tuple_cut{t f:Addr}{items:Array Value}{j l:Value}{lo b:Option Int}{Q:Value->Shared->Prop}(c:IsTup s.heap t items)(o:s.heap.IsSliceOf f j l .none)(pl:IsPart j lo)(r:IsPart l b)
  (v:¬(sIx items.size 0 lo=0/\sIx items.size items.size b=items.size))
  (h:Q (.ref s.heap.objs.size) { s with heap:=s.heap.push { cls:=.type "tuple",data:=.seq ((items.toList.drop (sIx items.size 0 lo)).take (sIx items.size items.size b - sIx items.size 0 lo)).toArray } })
  (hsz:items.size<=sizeLine):wpAny (model prog w) A (getItem (.ref t) (.ref f)) Q E s:=by
 have a:sizeOk (.seq ((items.toList.drop (sIx items.size 0 lo)).take (sIx items.size items.size b - sIx items.size 0 lo)).toArray):=by
  show((items.toList.drop (sIx items.size 0 lo)).take (sIx items.size items.size b - sIx items.size 0 lo)).toArray.size<=sizeLine;rw[size_toArray,length_take,length_drop,Array.length_toList];lia
 have y:sIx items.size items.size b<=items.size:=sIx_le _ _ (Nat.le_refl _) b;obtain⟨p,g,i,u⟩:=id o;have d:s.TypeIs (.ref f) "slice" := ⟨p,g,i⟩;unfold getItem
 try with_reducible refine wpAny_holding ?_
 first | refine wpAny_bind (wpAny_pure ?_) | skip
 refine wpAny_bind (wpAny_sequenceKey c.typeIs (by decide) ?_)
 refine wpAny_bind (wpAny_callSpecial?_slot (name:=Str.ofString "__getitem__") c.typeIs PyProof.Rows.slot_tuple_getitem
  (wpAny_call_entry PyProof.Rows.slot_tuple_getitem c.typeIs entry_tuple_getitem ?_ (args_tuple_getitem _ _)))
 show wpAny _ _ (Builtin.Tuple.tupleItemsOf (.ref t) >>= _) _ _ s;refine wpAny_bind (tupleItemsOf_ c ?_);refine wpAny_bind (wpAny_typeOf d ?_);rw[if_pos (by decide)];refine wpAny_bind (jm o pl r ?_)
 have e:¬((((sIx items.size 0 lo:Nat):Int) == 0 && (1:Int) == 1 && (sIx items.size items.size b - sIx items.size 0 lo) == items.size)=true):=by
  intro q;rw[Bool.and_eq_true,Bool.and_eq_true]at q;have z:((sIx items.size 0 lo:Nat):Int)=0:=eq_of_beq q.1.1;have x:sIx items.size items.size b - sIx items.size 0 lo=items.size:=eq_of_beq q.2;exact v ⟨by lia,by lia⟩
 show wpAny _ _ (if (((sIx items.size 0 lo:Nat):Int) == 0 && (1:Int) == 1 && (sIx items.size items.size b - sIx items.size 0 lo) == items.size)=true then _ else _) _ _ s;rw[if_neg e,rN]
 first
  | exact wpAny_bind (m:=Builtin.Tuple.tupleExact _) (wpAny_newObj_type (wpAny_pure ⟨_,rfl,wpAny_pure h⟩) a)
  | exact wpAny_bind (m:=Builtin.Tuple.tupleExact _) (wpAny_newObj_type (wpAny_bind (wpAny_pure (wpAny_pure ⟨_,rfl,wpAny_pure h⟩))) a)
  | exact wpAny_bind (wpAny_bind (m:=Builtin.Tuple.tupleExact _) (wpAny_newObj_type (wpAny_pure (wpAny_pure ⟨_,rfl,wpAny_pure h⟩)) a))
  | exact wpAny_bind (wpAny_bind (m:=Builtin.Tuple.tupleExact _) (wpAny_newObj_type (wpAny_pure ⟨_,rfl,wpAny_pure h⟩) a))
end
end HT
namespace L2
open PySem PySem.Spec PyProof.Rows
abbrev TO:=St->Hp->(Option Int->Hp->Prop)->Prop
def PO(X:Cx)(e:Option Expr)(t:TO):Prop :=
 ∀(pins:List (Addr×Obj)) (s:Shared) (σ:St) (H:Hp) (Q:Option Int->Hp->Prop),Inv X pins σ H s->t σ H Q ->
  wpAny (model X.prog X.w) X.A (evalPart e X.env) (λu s'=>∃ o H',Inv X pins σ H' s'/\IsPart u o/\Q o H') X.xe s
def uo:TO:=λ_ H Q=>Q none H
def w6(t:TE):TO:=λσ H Q=>t σ H λx H1=>∃ i,x=.int i/\Q (some i) H1
section
variable {X:Cx}{e:Expr}{te:TE}{lo hi:Option Expr}{tl th:TO}{pos p2:Pos}
theorem eC:PO X none uo:=by
 intro a s b H Q I h;rw[evalPart_none];exact wpAny_pure ⟨none,H,I,.none,h⟩
theorem eF(h:PE X e te):PO X (some e) (w6 te):=by
 intro a s c H Q I g;rw[evalPart_some];refine thn (h a s c H _ I g) λu l ⟨x,f,j,b,d⟩=>?_
 obtain⟨i,rfl,q⟩:=d;obtain⟨t,rfl⟩:=b;exact⟨some i,f,j,.int i t,q⟩
def SlR(X:Cx)(r:V->Option Int->Option Int->Hp->VK->Prop):Prop :=
 ∀(pins:List (Addr×Obj)) (s:Shared) (σ:St) (H:Hp) (x:V) (v vl vu:Value) (lo hi:Option Int) (sl:Addr) (Q:VK),Inv X pins σ H s->RelV x v->s.heap.IsSliceOf sl vl vu .none->IsPart vl lo->IsPart vu hi->r x lo hi H Q ->
  ∃ T id,typeLookup (.type T) "__getitem__" = pure (some (.builtin id))/\s.TypeIs v T/\wpAny (model X.prog X.w) X.A (getItem v (.ref sl)) (EP X pins σ Q) X.xe s
theorem SlR.or{r d:V->Option Int->Option Int->Hp->VK->Prop}(h:SlR X r)(h':SlR X d):SlR X (λx lo hi H Q=>r x lo hi H Q\/d x lo hi H Q):=by
 intro a s j H x v g i lo hi c Q I e l b f q
 rcases q with q | q
 .exact h a s j H x v g i lo hi c Q I e l b f q
 .exact h' a s j H x v g i lo hi c Q I e l b f q
def tSl(r:V->Option Int->Option Int->Hp->VK->Prop)(te:TE)(tl th:TO):TE:=λσ H Q=>te σ H λx H1=>tl σ H1 λl H2=>th σ H2 λu H3=>r x l u H3 Q
theorem dn{r:V->Option Int->Option Int->Hp->VK->Prop}(F:SlR X r)(y:PE X e te)(D:PO X lo tl)(o:PO X hi th):PE X (.Subscript e (.Slice lo hi none p2) pos) (tSl r te tl th):=by
 intro a s c H Q I h;refine Subscript_ (thn (y a s c H _ I h) λv w ⟨x,C,L,A,g⟩=>?_);refine wpAny_Slice (thn (D a w c C _ L g) λd i ⟨l,z,G,j,f⟩=>thn (o a i c z _ G f) λvu s3 ⟨u,H3,I3,pu,q3⟩=>?_);rw[evalPart_none];refine wpAny_pure ?_;have E:Inv X a c H3 { s3 with heap:=s3.heap.push { cls:=.type "slice",data:=.fields #[d,vu,.none] } }:=I3.kept (t':=s3.toks) λb N q=>Heap.get?_push_of_some _ q
 obtain⟨T,M,B,p,K⟩:=F a { s3 with heap:=s3.heap.push { cls:=.type "slice",data:=.fields #[d,vu,.none] } } c H3 x v d vu l u s3.heap.objs.size Q E A (Heap.IsSliceOf.new ..) j pu q3;show wpAny (model X.prog X.w) X.A (subscriptTail e (.Slice lo hi none p2) v (.ref s3.heap.objs.size)) (EP X a c Q) X.xe { s3 with heap:=s3.heap.push { cls:=.type "slice",data:=.fields #[d,vu,.none] } };exact tail_any (ops:=[.ref s3.heap.objs.size,v]) p B K (by with_unfolding_all rfl)
def fN(xs:List V)(lo hi:Option Int):List V:=(xs.drop (HT.sIx xs.length 0 lo)).take (HT.sIx xs.length xs.length hi - HT.sIx xs.length 0 lo)
theorem jn(xs:List V)(lo a:Option Int):(fN xs lo a).length<=xs.length:=by
 unfold fN;rw[length_take,length_drop];lia
def yJ(K:Frag):V->Option Int->Option Int->Hp->VK->Prop:=λx lo hi H Q=>∃ a xs,x=.ref a/\SqT K H a xs /\
 ¬(HT.sIx xs.length 0 lo=0/\HT.sIx xs.length xs.length hi=xs.length)/\∀ p,H p=none->Q (.ref p) (upd H p (.tup (fN xs lo hi)))
theorem sl_tup:SlR X (yJ X.K):=by
 intro j s E H x v D C e f B Q I w z u y h;obtain⟨a,d,rfl,p,A,q⟩:=h;cases w;obtain⟨g,r,i,l⟩:=I.tuple p;have c:g.toArray.size=d.length:=by rw[size_toArray];exact r.length.symm
 refine⟨"tuple",_,PyProof.Rows.slot_tuple_getitem.lookup,i.typeIs,?_⟩;refine HT.getItem_tuple_cut i z u y (by rw[c];exact A) ?_ (by rw[c];exact l);rw[c];refine⟨.ref s.heap.objs.size,_,I.laid (t':=s.toks) (o:=.tup (fN d e f)) (λb F q=>Heap.get?_push_of_some _ q) (Nat.le_refl _) ?_,rfl,q _ (I.hok.fresh (Nat.le_refl _))⟩;exact⟨Nat.le_trans (jn d e f) l,_,(r.drop (HT.sIx d.length 0 e)).take (HT.sIx d.length d.length f - HT.sIx d.length 0 e),IsTup.new _ _⟩
end
def ixN(n:Nat)(i:Int):Option Nat:=if 0<=i then (if i<n then some i.toNat else none) else if -(n:Int)<=i then some (i+n).toNat else none
def atI{α:Type}(xs:List α)(i:Int):Option α:=(ixN xs.length i).bind λj=>xs[j]?
theorem uP{n:Nat}{i:Int}{j:Nat}(h:ixN n i=some j):seqIndex? i n=some j/\j<n/\-(n:Int)<=i/\i<n:=by
 unfold ixN at h
 by_cases h0:0<=i
 .rw[if_pos h0]at h
  by_cases h1:i<n
  .rw[if_pos h1]at h
   have e:i.toNat=j:=Option.some.inj h;exact⟨by rw[seqIndex_of h0 h1,e],by lia,by lia,h1⟩
  .rw[if_neg h1]at h;cases h
 .rw[if_neg h0]at h
  by_cases h1:-(n:Int)<=i
  .rw[if_pos h1]at h
   have e:(i+n).toNat=j:=Option.some.inj h;exact⟨by rw[seqIndex_neg (by lia) h1,e],by lia,h1,by lia⟩
  .rw[if_neg h1]at h;cases h
theorem lO{a:Type}{xs:List a}{i:Int}{v:a}(h:atI xs i=some v):∃ j,seqIndex? i xs.length=some j/\xs[j]? = some v/\j<xs.length/\-(xs.length:Int)<=i/\i<xs.length:=by
 unfold atI at h;cases e:ixN xs.length i with
 | none=>rw[e]at h;cases h
 | some j =>
  rw[e]at h;obtain⟨b,c,f,d⟩:=uP e;exact⟨j,b,h,c,f,d⟩
theorem aU{a:Type}{xs:List a}{j:Nat}{v:a}(h:xs[j]? = some v):atI xs (j:Int)=some v:=by
 have b:j<xs.length:=(List.getElem?_eq_some_iff.mp h).1
 have e:ixN xs.length (j:Int)=some j:=by
  unfold ixN;rw[if_pos (by lia),if_pos (by lia)];simp
 unfold atI;rw[e];exact h
def uL(b:Expr):Prop:=∀ o i,subscripted b false o i=operate [o,i] (getItem o i)
def IxR(X:Cx)(r:R2):Prop :=
 ∀(value slice:Expr) (pins:List (Addr×Obj)) (s:Shared) (σ:St) (H:Hp) (x y:V) (v u:Value) (Q:VK),Inv X pins σ H s->RelV x v->RelV y u->r x y H Q ->
  subscripted slice false v u=operate [v,u] (getItem v u)->wpAny (model X.prog X.w) X.A (subscriptTail value slice v u) (EP X pins σ Q) X.xe s
def MtR(X:Cx)(id:String)(r:V->List V->Hp->VK->Prop):Prop :=
 ∀(pins:List (Addr×Obj)) (s:Shared) (σ:St) (H:Hp) (x:V) (xs:List V) (v:Value) (us:List Value) (Q:VK),Inv X pins σ H s->RelV x v->Vals xs us->r x xs H Q ->
  wpAny (model X.prog X.w) X.A (call (.builtin id) (v::us)) (EP X pins σ Q) X.xe s
section
variable {X:Cx}{a b:Expr}{ta tb:TE}{pos:Pos}
theorem IxR.or{r e:R2}(h:IxR X r)(h':IxR X e):IxR X (λx y H Q=>r x y H Q\/e x y H Q):=by
 intro b a c s g H x y v u Q I f d q i
 rcases q with q | q
 .exact h b a c s g H x y v u Q I f d q i
 .exact h' b a c s g H x y v u Q I f d q i
theorem aq{r:R2}(e:IxR X r)(l:PE X a ta)(w:PE X b tb)(o:uL b):PE X (.Subscript a b pos) (tOp r ta tb):=by
 intro c s j H Q I h;exact Subscript_ (vW l w I h λv u p x y i f g d q=>e a b c p j i x y v u Q f g d q (o _ _))
inductive rIxL(K:Frag)(x y:V)(H:Hp)(Q:VK):Prop
 | mk(p:Addr)(xs:List V)(i:Int)(v:V)(h0:x=.ref p)(h1:y=.int i)(h2:SqL K H p xs)(h3:atI xs i=some v)(h4:Q v H):rIxL K x y H Q
inductive rIxT(K:Frag)(x y:V)(H:Hp)(Q:VK):Prop
 | mk(p:Addr)(xs:List V)(i:Int)(v:V)(h0:x=.ref p)(h1:y=.int i)(h2:SqT K H p xs)(h3:atI xs i=some v)(h4:Q v H):rIxT K x y H Q
def wN:R2:=λx y H Q=>∃ z i c,x=.str z/\y=.int i/\z.length<=sizeLine/\atI z.cps.toList i=some c/\Q (.str ⟨#[c]⟩) H
theorem ix_list:IxR X (rIxL X.K):=by
 intro g e a s B H x y v u Q I G O h A;obtain⟨p,R,i,z,rfl,rfl,F,L,q⟩:=h;cases G;obtain⟨t,rfl⟩:=O;obtain⟨l,r,f,T⟩:=I.list F;obtain⟨j,c,M,S,E,D⟩:=lO L;obtain⟨w,C,d⟩:=r.get M;have N:=r.length;have P:=jk
 have b:EP X a B Q w s:=⟨z,H,I,d,q⟩
 by_cases h0:0<=i
 .have o:i.toNat=j:=by
   rw[seqIndex_of h0 D]at c;exact Option.some.inj c
  exact item_listR f.isList h0 (by lia) (by rw[o];simpa using C) b A
 .have o:(i+(l.toArray.size:Int)).toNat=j:=by
   rw[seqIndex_neg (by lia) E]at c;rw[size_toArray,<- N];exact Option.some.inj c
  exact subscriptTail_builtinR (x:=w) f.isList.typeIs slot_list_getitem.lookup
   (wpAny_getItem_list_neg (Q:=λr K=>r=w/\EP X a B Q r K) f.isList (by lia) (by rw[size_toArray] <;> lia) (by lia) (by rw[o];simpa using C) ⟨rfl,b⟩) A
theorem ix_tup:IxR X (rIxT X.K):=by
 intro e d a s g H x y v u Q I A G h C;obtain⟨p,P,i,z,rfl,rfl,l,D,q⟩:=h;cases A;obtain⟨t,rfl⟩:=G;obtain⟨K,r,f,S⟩:=I.tuple l;obtain⟨j,o,E,R,O,M⟩:=lO D;obtain⟨w,L,b⟩:=r.get E;have F:=r.length;have N:=jk
 have c:EP X a g Q w s:=⟨z,H,I,b,q⟩
 exact subscriptTail_builtinR (x:=w) f.typeIs slot_tuple_getitem.lookup
  (getItem_tuple (j:=j) (Q:=λr B=>r=w/\EP X a g Q r B) f (by lia) (by lia) (by rw[size_toArray,<- F];exact o) (by simpa using L) ⟨rfl,c⟩) C
theorem vM:IxR X wN:=by
 intro b a e s F H x y v u Q I p C h r;obtain⟨z,i,c,rfl,rfl,K,w,q⟩:=h;obtain⟨t,rfl⟩:=p;obtain⟨D,rfl⟩:=C;obtain⟨j,d,A,G,l,f⟩:=lO w;have B:z.cps.toList.length=z.length:=by simp[Str.length]
 rw[B]at d l f;have E:=jk
 exact tail_any (typeIs_str s z t) slot_str_getitem.lookup (getItem_str (c:=c) (by
  have g:decide (i < -(2 ^ 63:Int))=false:=decide_eq_false (by lia);have o:decide (i >= 2 ^ 63)=false:=decide_eq_false (by lia)
  rw[g,o,Bool.or_false]) (by rw[d];simpa using A) ⟨.str ⟨#[c]⟩,H,I.tok _,⟨_,rfl⟩,q⟩) r
def rIx(K:Frag):R2:=λx y H Q=>rIxL K x y H Q\/rIxT K x y H Q\/wN x y H Q
theorem am:IxR X (rIx X.K):=ix_list.or (ix_tup.or vM)
theorem mn(lo a:Option Int)(n:Nat):(sliceBounds lo a none n).1=((HT.sIx n 0 lo:Nat):Int)/\(sliceBounds lo a none n).2.1=((HT.sIx n n a:Nat):Int)/\(sliceBounds lo a none n).2.2=1:=by
 refine⟨?_,?_,rfl⟩
 .cases lo with
  | none=>simp[sliceBounds,HT.sIx]
  | some i =>
   simp only[sliceBounds,HT.sIx,Option.getD_none,show(1:Int) > 0 by decide,if_true]
   by_cases h:i<0
   .simp only[h,if_true] <;> lia
   .simp only[h,if_false] <;> lia
 .cases a with
  | none=>simp[sliceBounds,HT.sIx]
  | some i =>
   simp only[sliceBounds,HT.sIx,Option.getD_none,show(1:Int) > 0 by decide,if_true]
   by_cases h:i<0
   .simp only[h,if_true] <;> lia
   .simp only[h,if_false] <;> lia
theorem kD(its:List Value)(lo a:Option Int):slicePick its.toArray lo a none=((its.drop (HT.sIx its.length 0 lo)).take (HT.sIx its.length its.length a - HT.sIx its.length 0 lo)).toArray:=by
 obtain⟨b,c,d⟩:=mn lo a its.toArray.size;unfold slicePick;rw[b,c,d]
 simp only[sliceRange_one,pick_run,size_toArray] <;> rfl
def yy(K:Frag):V->Option Int->Option Int->Hp->VK->Prop:=λx lo hi H Q=>∃ a xs,x=.ref a/\SqL K H a xs/\∀ p,H p=none->Q (.ref p) (upd H p (.lst (fN xs lo hi)))
theorem sl_list:SlR X (yy X.K):=by
 intro i s D H x v B C e f A Q I w z l y h;obtain⟨a,c,rfl,u,q⟩:=h;cases w;obtain⟨j,r,g,p⟩:=I.list u;have d:=r.length;refine⟨"list",_,slot_list_getitem.lookup,g.isList.typeIs,?_⟩;refine wpAny_getItem_list_slice g.isList z l y .none (by simp) ?_ (by rw[size_toArray] <;> lia);rw[kD,<- d];refine⟨.ref s.heap.objs.size,_,I.laid (t':=s.toks) (o:=.lst (fN c e f)) (λb E q=>Heap.get?_push_of_some _ q) (Nat.le_refl _) ?_,rfl,q _ (I.hok.fresh (Nat.le_refl _))⟩;exact⟨Nat.le_trans (jn c e f) p,_,0,(r.drop (HT.sIx c.length 0 e)).take (HT.sIx c.length c.length f - HT.sIx c.length 0 e),Heap.get?_push_size _ rfl⟩
def il:V->Bool
 | .non=>true
 | .bl _=>true
 | .int _=>true
 | .str _=>true
 | _=>false
def eqV:V->V->Bool
 | .non,.non=>true
 | .bl a,.bl b=>a == b
 | .bl a,.int b=>(if a then 1 else 0) == b
 | .int a,.bl b=>a == (if b then 1 else 0)
 | .int a,.int b=>a == b
 | .str a,.str b=>a == b
 | _,_=>false
theorem wB{A:Around}{s:Shared}{y x:V}{u v:Value}(e:RelV y u)(c:RelV x v)(g:il y=true)(f:il x=true):SeqAt.EqAt A s u v (eqV y x):=by
 cases y with
 | non =>
  cases e;cases x with
  | non=>cases c;exact SeqAt.EqAt.same _
  | bl b=>cases c;exact SeqAt.EqAt.none_bool b
  | int b=>obtain⟨t,rfl⟩:=c;exact SeqAt.EqAt.none_int b t
  | str b=>obtain⟨t,rfl⟩:=c;exact SeqAt.EqAt.none_str b t
  | _=>exact absurd (show false=true from f) Bool.false_ne_true
 | bl a =>
  cases e;cases x with
  | non=>cases c;exact SeqAt.EqAt.bool_none a
  | bl b=>cases c;exact SeqAt.EqAt.bool_bool a b
  | int b=>obtain⟨t,rfl⟩:=c;exact SeqAt.EqAt.bool_int a b t
  | str b=>obtain⟨t,rfl⟩:=c;exact SeqAt.EqAt.bool_str a b t
  | _=>exact absurd (show false=true from f) Bool.false_ne_true
 | int a =>
  obtain⟨d,rfl⟩:=e;cases x with
  | non=>cases c;exact SeqAt.EqAt.int_none a d
  | bl b=>cases c;exact SeqAt.EqAt.int_bool a d b
  | int b=>obtain⟨t,rfl⟩:=c;exact SeqAt.EqAt.int_int a d b t
  | str b=>obtain⟨t,rfl⟩:=c;exact SeqAt.EqAt.int_str a d b t
  | _=>exact absurd (show false=true from f) Bool.false_ne_true
 | str a =>
  obtain⟨d,rfl⟩:=e;cases x with
  | non=>cases c;exact SeqAt.EqAt.str_none a d
  | bl b=>cases c;exact SeqAt.EqAt.str_bool a d b
  | int b=>obtain⟨t,rfl⟩:=c;exact SeqAt.EqAt.str_int a d b t
  | str b=>obtain⟨t,rfl⟩:=c;exact SeqAt.EqAt.str_str a d b t
  | _=>exact absurd (show false=true from f) Bool.false_ne_true
 | _=>exact absurd (show false=true from g) Bool.false_ne_true
def eqU(x:V)(u:Value):Bool:=match u with
 | .none=>eqV .non x
 | .bool b=>eqV (.bl b) x
 | .int i _=>eqV (.int i) x
 | .str z _=>eqV (.str z) x
 | _=>false
theorem rR{x y:V}{u:Value}(r:RelV y u)(f:il y=true):eqU x u=eqV y x:=by
 cases y with
 | non=>cases r;rfl
 | bl b=>cases r;rfl
 | int i=>obtain⟨t,rfl⟩:=r;rfl
 | str z=>obtain⟨t,rfl⟩:=r;rfl
 | _=>exact absurd (show false=true from f) Bool.false_ne_true
theorem iI{x:V}:∀{xs:List V}{us:List Value},Vals xs us->xs.all il=true->us.any (eqU x)=xs.any λy=>eqV y x
 | _,_,.nil,_=>rfl
 | y::xs,u::us,.cons r t,f=>by
  rw[all_cons,Bool.and_eq_true]at f;rw[any_cons,any_cons,rR r f.1,iI t f.2]
theorem gW{A:Around}{s:Shared}{x:V}{v:Value}(a:RelV x v)(b:il x=true):∀{xs:List V}{us:List Value},Vals xs us->xs.all il=true->∀ u∈us,SeqAt.EqAt A s u v (eqU x u)
 | _,_,.nil,_=>λu hu=>by cases hu
 | y::xs,u::us,.cons r t,f=>λc hu=>by
  rw[all_cons,Bool.and_eq_true]at f
  rcases mem_cons.mp hu with rfl | hu
  .rw[rR r f.1];exact wB r a f.1 b
  .exact gW a b t f.2 c hu
def inV(x:V)(xs:List V):Bool:=xs.any λy=>eqV y x
inductive rIn(K:Frag)(neg:Bool)(x y:V)(H:Hp)(Q:VK):Prop
 | mk(p:Addr)(xs:List V)(h0:y=.ref p)(h1:SqL K H p xs\/SqT K H p xs)(h2:il x=true)(h3:xs.all il=true)(h4:Q (.bl (if neg then !inV x xs else inV x xs)) H):rIn K neg x y H Q
theorem i8:OpR X (compareOp .In) (rIn X.K false):=by
 intro g s o H x y v u Q I e i h;obtain⟨p,l,rfl,hq,f,b,q⟩:=h;cases i
 rcases hq with hq | hq
 .obtain⟨a,r,c,j⟩:=I.list hq
  refine SeqAt.in_listAt (eqU x) c.isList (λw d=>gW e f r b w (by simpa using d)) ⟨.bl _,H,I,rfl,?_⟩;rw[show a.toArray.any (eqU x)=a.any (eqU x) by simp,iI r b];exact q
 .obtain⟨a,r,c,j⟩:=I.tuple hq
  refine SeqAt.in_tupleAt (eqU x) c (λw d=>gW e f r b w (by simpa using d)) ⟨.bl _,H,I,rfl,?_⟩;rw[show a.toArray.any (eqU x)=a.any (eqU x) by simp,iI r b];exact q
theorem iC:OpR X (compareOp .NotIn) (rIn X.K true):=by
 intro g s o H x y v u Q I e i h;obtain⟨p,l,rfl,hq,f,b,q⟩:=h;cases i
 rcases hq with hq | hq
 .obtain⟨a,r,c,j⟩:=I.list hq
  refine SeqAt.notIn_listAt (eqU x) c.isList (λw d=>gW e f r b w (by simpa using d)) ⟨.bl _,H,I,rfl,?_⟩;rw[show a.toArray.any (eqU x)=a.any (eqU x) by simp,iI r b];exact q
 .obtain⟨a,r,c,j⟩:=I.tuple hq
  refine SeqAt.notIn_tupleAt (eqU x) c (λw d=>gW e f r b w (by simpa using d)) ⟨.bl _,H,I,rfl,?_⟩;rw[show a.toArray.any (eqU x)=a.any (eqU x) by simp,iI r b];exact q
theorem mq:CallR X (.builtin "len") (λxs H Q=>∃ p ys,xs=[.ref p]/\(SqL X.K H p ys\/SqT X.K H p ys)/\Q (.int ys.length) H):=by
 intro e s j H xs l Q I r h;obtain⟨p,ys,rfl,hq,q⟩:=h;obtain⟨u,rfl,g⟩:=dw r;cases g;have i:=jk
 rcases hq with hq | hq
 .obtain⟨b,d,c,f⟩:=I.list hq
  have a:=d.length;exact Calls.call_len_list c.isList (by simp only[size_toArray] <;> lia) ⟨.int ys.length,H,I.tok _,⟨s.toks+1,by rw[size_toArray,a]⟩,q⟩
 .obtain⟨b,d,c,f⟩:=I.tuple hq
  have a:=d.length;exact len_tuple c (by simp only[size_toArray] <;> lia) ⟨.int ys.length,H,I.tok _,⟨s.toks+1,by rw[size_toArray,a]⟩,q⟩
theorem call_len_str:CallR X (.builtin "len") (λxs H Q=>∃ z,xs=[.str z]/\z.length<=sizeLine/\Q (.int z.length) H):=by
 intro a s d H xs e Q I r h;obtain⟨z,rfl,b,q⟩:=h;obtain⟨u,rfl,t,rfl⟩:=dw r;have c:=jk;exact len_str (by lia) ⟨.int z.length,H,I.tok _,⟨_,rfl⟩,q⟩
theorem CallR.or{f:Value}{r b:List V->Hp->VK->Prop}(h:CallR X f r)(h':CallR X f b):CallR X f (λxs H Q=>r xs H Q\/b xs H Q):=by
 intro a s c H xs e Q I d q
 rcases q with q | q
 .exact h a s c H xs e Q I d q
 .exact h' a s c H xs e Q I d q
inductive rListOf(K:Frag)(xs:List V)(H:Hp)(Q:VK):Prop
 | mk(p:Addr)(ys:List V)(h0:xs=[.ref p])(h1:SqL K H p ys\/SqT K H p ys)(h2:∀ l,H l=none->Q (.ref l) (upd H l (.lst ys))):rListOf K xs H Q
theorem dr:CallR X (.type "list") (rListOf X.K):=by
 intro v s C H D E Q I r h;obtain⟨p,x,rfl,hq,q⟩:=h;obtain⟨u,rfl,B⟩:=dw r;cases B
 have j:∀(a:List Value),Vals x a->x.length<=sizeLine->∀(c:Heap) (f:Nat),(∀ b o',s.heap.get? b=some o'->c.get? b=some o') ->
   c.get? s.heap.objs.size=some { cls:=.type "list",dict:=none,data:=.seq a.toArray f,slots:=#[] }->EP X v C Q (.ref s.heap.objs.size) { s with heap:=c }:=λa d i c f l e =>
  ⟨.ref s.heap.objs.size,_,I.laid (t':=s.toks) l (Nat.le_refl _) (show ObjOk X.prog X.w _ c _ (.lst x) from⟨i,a,f,d,e⟩),rfl,q _ (I.hok.fresh (Nat.le_refl _))⟩
 rcases hq with hq | hq
 .obtain⟨a,d,w,i⟩:=I.list hq
  have g:=d.length;obtain⟨o,A,y,n,z⟩:=w.isList;exact call_list_seq p (.inl rfl) A y z (λc f l e=>j a d i c f l e) (by simp only[size_toArray] <;> lia)
 .obtain⟨a,d,w,i⟩:=I.tuple hq
  have g:=d.length;obtain⟨o,A,y,n,z⟩:=w;exact call_list_seq p (.inr rfl) A y z (λc f l e=>j a d i c f l e) (by simp only[size_toArray] <;> lia)
theorem kI:CallR X (.type "tuple") (λxs H Q=>∃ p ys,xs=[.ref p]/\((SqL X.K H p ys/\∀ l,H l=none->Q (.ref l) (upd H l (.tup ys)))\/(SqT X.K H p ys/\Q (.ref p) H))):=by
 intro a s w H xs B Q I r h;obtain⟨p,ys,rfl,h⟩:=h;obtain⟨u,rfl,z⟩:=dw r;cases z
 rcases h with⟨f,q⟩ | ⟨f,q⟩
 .obtain⟨c,i,g,v⟩:=I.list f
  have j:=i.length;refine call_tuple_list g.isList (λd A=>?_) (by simp only[size_toArray] <;> lia);have x:Inv X a w H { s with heap:=d }:=I.kept (t':=s.toks) A
  have y:Inv X a w (upd H d.objs.size (.tup ys)) { s with heap:=d.push { cls:=.type "tuple",data:=.seq c.toArray } } :=
   x.laid (t':=s.toks) (λb o e=>Heap.get?_push_of_some _ e) (Nat.le_refl _) (show ObjOk X.prog X.w _ _ _ (.tup ys) from⟨v,c,i,IsTup.new _ _⟩)
  exact⟨.ref d.objs.size,_,y,rfl,q _ (x.hok.fresh (Nat.le_refl _))⟩
 .obtain⟨c,i,g,v⟩:=I.tuple f
  exact call_tuple_same g ⟨.ref p,H,I,rfl,q⟩
def tyV(K:Frag)(T:String)(x:V)(H:Hp):Prop:=match x with
 | .str _=>T = "str"
 | .int _=>T = "int"
 | .ref p=>(T = "list" /\ ∃ xs,SqL K H p xs)\/(T = "tuple" /\ ∃ o,K.lookup p=some o/\o.cls=.type "tuple" /\ o.dict=none) \/
   (T = "dict" /\ ((∃ kvs,H p=some (.dK kvs))\/∃ kvs,H p=some (.dT kvs)))\/(T = "set" /\ ∃ S n,H p=some (.set S n))
 | _=>False
theorem rB{f:List (Addr×Obj)}{A:St}{H:Hp}{s:Shared}{T:String}{x:V}{v:Value}(I:Inv X f A H s)(r:RelV x v)(ty:tyV X.K T x H) :
  s.TypeIs v T/\∀ a,v=.ref a->∃ ob,s.heap.get? a=some ob/\ob.dict=none:=by
 cases x with
 | str z =>
  obtain⟨t,rfl⟩:=r;cases(show T = "str" from ty);exact⟨typeIs_str s z t,λ_ e=>nomatch e⟩
 | int i =>
  obtain⟨t,rfl⟩:=r;cases(show T = "int" from ty);exact⟨typeIs_int s i t,λ_ e=>nomatch e⟩
 | ref p =>
  cases r
  rcases ty with⟨rfl,B,u⟩ | ⟨rfl,o,b,y,h⟩ | ⟨rfl,b⟩ | ⟨rfl,S,n,b⟩
  .obtain⟨w,_,l,_⟩:=I.list u
   refine⟨l.isList.typeIs,λa e=>?_⟩;cases e;obtain⟨o,n,e,c,h,_⟩:=l;exact⟨o,e,h⟩
  .refine⟨⟨o,I.kIn p o b,y⟩,λa e=>?_⟩
   cases e;exact⟨o,I.kIn _ o b,h⟩
  .have z:∃ o,s.heap.get? p=some o/\o.ExactDict:=by
    rcases b with⟨g,b⟩ | ⟨g,b⟩
    .obtain⟨_,_,_,_,o,_,_,e,d,_⟩:=I.hok p _ b
     exact⟨o,e,d⟩
    .obtain⟨_,_,_,_,o,_,_,e,d,_⟩:=I.hok p _ b
     exact⟨o,e,d⟩
   obtain⟨o,e,d⟩:=z;refine⟨⟨o,e,d.1⟩,λa j=>?_⟩;cases j;exact⟨o,e,d.2.1⟩
  .obtain⟨o,_,_,_,e,d,_⟩:=I.hok p _ b
   refine⟨⟨o,e,d.1⟩,λa j=>?_⟩;cases j;exact⟨o,e,d.2.1⟩
 | _=>exact False.elim ty
def uV(K:Frag)(T:String)(r:V->List V->Hp->VK->Prop)(to:TE):TE:=λσ H Q=>to σ H λx H1=>tyV K T x H1/\r x [] H1 Q
def tBM(K:Frag)(T:String)(r:V->List V->Hp->VK->Prop)(to:TE)(t:TA):TE:=λσ H Q=>to σ H λx H1=>tyV K T x H1/\t σ H1 λxs H2=>r x xs H2 Q
variable {o e:Expr}{es:List Expr}{to:TE}{t:TA}{name:Str}{apos cpos:Pos}{T id:String}{r:V->List V->Hp->VK->Prop}
theorem oy(j:PlainAttrs T)(d:Slot T name id)(e:typeOf (.builtin id)=pure (.type "method_descriptor"))(y:MtR X id r)(B:PE X o to)
  (b:attributeBase o name X.env (eval o X.env)=eval o X.env:=by rfl) (c:(apos.endLine == cpos.line)=true:=by rfl):PE X (.Call (.Attribute o name apos) [] [] cpos) (uV X.K T r to):=by
 intro a s i H Q I h;refine wpAny_Call_method0_late b c (thn (B a s i H _ I h) λv u ⟨x,A,f,g,l,z⟩=>?_);obtain⟨p,w⟩:=rB f g l;exact⟨T,id,j,d,e,p,w,Calls.callWith_builtin rfl (PySem.evalArgs_none (y a u i A x [] v [] Q f g .nil z))⟩
theorem j2(w:PlainAttrs T)(f:Slot T name id)(i:typeOf (.builtin id)=pure (.type "method_descriptor"))(F:MtR X id r)(S:PE X o to)(B:PA X (e::es) t)
  (d:attributeBase o name X.env (eval o X.env)=eval o X.env:=by rfl)
  (g:((backTo cpos (starEach (e::es) X.env)).all (λx=>!x.1) && (backToKw cpos (keywordEach [] X.env)).all (λx=>x.1.isSome)
   && decide ((e::es).length+([]:List Keyword).length+(if ([]:List Keyword).isEmpty then 0 else 1)<30))=true:=by rfl)
  (c:(apos.endLine == cpos.line)=true:=by rfl) (K:starEach (e::es) X.env=(false,eval e X.env)::starEach es X.env:=by rfl) (b:(backTo cpos (starEach es X.env)).any (·.1)=false:=by rfl) :
  PE X (.Call (.Attribute o name apos) (e::es) [] cpos) (tBM X.K T r to t):=by
 intro a s j H Q I h;refine wpAny_Call_method_late d g c rfl (thn (S a s j H _ I h) λv L ⟨x,O,u,p,y,A⟩=>?_);obtain⟨E,M⟩:=rB u p y;refine⟨T,id,w,f,i,E,M,?_⟩;have l:=B cpos a L j O _ u A;rw[K]at l ⊢;refine Calls.callWith_builtin (by show(false || (backTo cpos (starEach es X.env)).any (·.1))=false;rw[b] <;> rfl) (Calls.evalArgs_plain ?_);exact thn l λG C ⟨D,N,P,R,z⟩=>F a C j N x D v G Q P p R z
end
def MtM(X:Cx)(id:String)(r:V->List V->Hp->VK->Prop):Prop :=
 ∀(pins:List (Addr×Obj)) (s:Shared) (σ:St) (H:Hp) (x:V) (xs:List V) (v:Value) (us:List Value) (Q:VK),Inv X pins σ H s->RelV x v->Vals xs us->r x xs H Q ->
  wpAny (model X.prog X.w) X.A (call (.builtin id) (v::us)) (EP X pins σ Q) X.xe s
theorem Vals.one:∀{x:V}{us:List Value},Vals [x] us->∃ u,us=[u]/\RelV x u
 | _,_,.cons r .nil=>⟨_,rfl,r⟩
theorem Vals.zero:∀{us:List Value},Vals [] us->us=[]
 | _,.nil=>rfl
theorem Vals.dropLast{xs:List V}{us:List Value}(h:Vals xs us):Vals xs.dropLast us.dropLast:=by
 induction h with
 | nil=>exact .nil
 | cons r t ih =>
  cases t with
  | nil=>exact .nil
  | cons q t'=>exact .cons r ih
theorem Vals.rep{xs:List V}{us:List Value}(h:Vals xs us):∀ k:Nat,Vals (List.replicate k xs).flatten (List.replicate k us).flatten
 | 0=>.nil
 | k+1=>by
  rw[replicate_succ,replicate_succ,flatten_cons,flatten_cons];exact Vals.append h (Vals.rep h k)
theorem ol{c:Type}(l:List c):l.eraseIdx (l.length - 1)=l.dropLast:=by
 induction l with
 | nil=>rfl
 | cons a r ih =>
  cases r with
  | nil=>rfl
  | cons b r =>
   have e:(a::b::r).length - 1=((b::r).length - 1)+1:=by
    have d:(a::b::r).length=r.length+2:=rfl;have f:(b::r).length=r.length+1:=rfl;lia
   rw[e,List.eraseIdx_cons_succ,ih]
   all_goals rfl
theorem kQ(its:List Value):∀(k:Nat) (acc:List Value),
  List.foldl (λx1 x2=>x1++x2) acc.toArray (List.replicate k its.toArray)=(acc++(List.replicate k its).flatten).toArray
 | 0,acc=>by simp
 | k+1,acc=>by
  have e:acc.toArray++its.toArray=(acc++its).toArray:=by simp
  have a:(acc++its)++(List.replicate k its).flatten=acc++(List.replicate (k+1) its).flatten:=by
   rw[replicate_succ,flatten_cons,append_assoc]
  rw[<- a,<- kQ its k (acc++its),<- e,replicate_succ,foldl_cons]
section
variable {X:Cx}{pins:List (Addr×Obj)}{σ:St}{H:Hp}{s:Shared}{l b:Addr}{xs ys zs:List V}
theorem Inv.lset{its its':List Value}{n:Nat}{f:Array Value->Array Value}{t':Nat}(I:Inv X pins σ H s)(c:H l=some (.lst xs))
  (e:s.heap.get? l=some { cls:=.type "list",data:=.seq its.toArray n }) (b:f its.toArray=its'.toArray) (a:Vals ys its') (hz:ys.length<=sizeLine) :
  Inv X pins σ (upd H l (.lst ys)) { s with heap:=s.heap.update l (Obj.mapSeq f),toks:=t' }:=by
 have q:=PySem.IsL.update e f;rw[b]at q;refine I.write (x:=l) (e:=l) (by rw[c];exact trivial) (.inl rfl) (λh u g d=>(Heap.get?_update_other s.heap (Obj.mapSeq f) (Ne.symm g)).trans d) ⟨_,q⟩ ?_;exact⟨hz,its',_,a,q⟩
theorem Inv.lnew{its:List Value}{t':Nat}(I:Inv X pins σ H s)(a:Vals ys its)(hz:ys.length<=sizeLine) :
  Inv X pins σ (upd H s.heap.objs.size (.lst ys)) { s with heap:=s.heap.push { cls:=.type "list",data:=.seq its.toArray },toks:=t' } :=
 I.laid (λ_ _ q=>Heap.get?_push_of_some _ q) (Nat.le_refl _) ⟨hz,its,0,a,Heap.get?_push_size _ rfl⟩
theorem Inv.fresh(I:Inv X pins σ H s):H s.heap.objs.size=none:=I.hok.fresh (Nat.le_refl _)
theorem Inv.lstM(I:Inv X pins σ H s)(a:H l=some (.lst xs)):xs.length<=sizeLine/\∃(its:List Value) (n:Nat),Vals xs its/\xs.length=its.length/\s.heap.get? l=some { cls:=.type "list",data:=.seq its.toArray n }:=by
 obtain⟨z,its,n,r,e⟩:=I.hok l _ a;exact⟨z,its,n,r,r.length,e⟩
theorem nh{n:Nat}(h:n<=sizeLine):Builtin.List.listTooLong n=false:=by
 unfold Builtin.List.listTooLong;exact decide_eq_false (by lia)
end
section
variable {X:Cx}
inductive rAppend(x:V)(vs:List V)(H:Hp)(Q:VK):Prop
 | mk(l:Addr)(xs:List V)(y:V)(h0:x=.ref l)(h1:vs=[y])(h2:H l=some (.lst xs))(h3:xs.length<sizeLine)(h4:Q .non (upd H l (.lst (xs++[y])))):rAppend x vs H Q
theorem kK:MtM X "list.append" rAppend:=by
 intro c s p H x i v w Q I f g h;obtain⟨l,o,y,rfl,rfl,b,j,q⟩:=h;cases f;obtain⟨u,rfl,d⟩:=g.one;obtain⟨z,a,n,r,A,e⟩:=I.lstM b;refine call_meets F.slot_list_append ⟨_,e,rfl⟩ F.entry_list_append (F.args_list_append_2 _ _) (PySem.list_append l a.toArray n u (by rw[size_toArray];lia)) ⟨e,?_⟩;refine⟨.non,_,I.lset (its':=a++[u]) b e (by simp) (r.append (.cons d .nil)) ?_,rfl,q⟩;rw[length_append,List.length_singleton];lia
def pP:V->List V->Hp->VK->Prop:=λx vs H Q=>∃ l b xs zs,x=.ref l/\vs=[.ref b]/\H l=some (.lst xs)/\H b=some (.lst zs)/\xs.length+zs.length<=sizeLine/\Q .non (upd H l (.lst (xs++zs)))
theorem qw:MtM X "list.extend" pP:=by
 intro i s L H x D v E Q I w j h;obtain⟨l,b,K,G,rfl,rfl,g,A,O,q⟩:=h;cases w;obtain⟨u,rfl,p⟩:=j.one;cases p;obtain⟨z,c,n,r,M,e⟩:=I.lstM g;obtain⟨N,a,y,B,C,o⟩:=I.lstM A;have f:c.toArray.size+a.toArray.size<=sizeLine:=by rw[size_toArray,size_toArray];lia
 have d:¬(!c.toArray.isEmpty && Builtin.List.listTooLong (c.toArray.size+a.toArray.size))=true:=by
  rw[nh f,Bool.and_false];exact Bool.false_ne_true
 refine call_meets F.slot_list_extend ⟨_,e,rfl⟩ F.entry_list_extend (F.args_list_extend_2 _ _)
  (AutoSeq1.list_extend_list_list_0 l c.toArray n b a.toArray y d (by rw[size_toArray];lia) (by lia)) ⟨e,o,?_⟩
 refine⟨.non,_,I.lset (its':=c++a) g e (by simp) (r.append B) ?_,rfl,q⟩;rw[length_append];lia
def wU:V->List V->Hp->VK->Prop:=λx vs H Q=>∃ l xs y,x=.ref l/\vs=[]/\H l=some (.lst xs)/\xs[xs.length - 1]? = some y/\Q y (upd H l (.lst xs.dropLast))
theorem wI:MtM X "list.pop" wU:=by
 intro f s C H x A v D Q I i o h;obtain⟨l,B,y,rfl,rfl,d,p,q⟩:=h;cases i;have c:=o.zero;subst c;obtain⟨z,a,n,r,w,e⟩:=I.lstM d;obtain⟨u,j,g⟩:=r.get p
 have b:a.toArray[a.toArray.size - 1]? = some u:=by
  show a.toArray[a.length - 1]? = some u;rw[<- Array.getElem?_toList,<- w];exact j
 refine call_meets F.slot_list_pop ⟨_,e,rfl⟩ F.entry_list_pop (F.args_list_pop_1 _) (MeetsSeq.list_pop_last l a.toArray n u b (by rw[size_toArray];lia)) ⟨e,?_⟩;refine⟨y,_,I.lset (its':=a.dropLast) d e ?_ r.dropLast ?_,g,q⟩
 .show a.toArray.eraseIdxIfInBounds (a.toArray.size - 1)=a.dropLast.toArray
  rw[size_toArray,List.eraseIdxIfInBounds_toArray,ol]
 .rw[List.length_dropLast]
  lia
def si:V->List V->Hp->VK->Prop:=λx vs H Q=>∃ l xs,x=.ref l/\vs=[]/\H l=some (.lst xs)/\Q .non (upd H l (.lst []))
theorem rM:MtM X "list.clear" si:=by
 intro d s o H x i v p Q I f g h;obtain⟨l,j,rfl,rfl,c,q⟩:=h;cases f;have b:=g.zero;subst b;obtain⟨z,a,n,r,u,e⟩:=I.lstM c;refine call_meets F.slot_list_clear ⟨_,e,rfl⟩ F.entry_list_clear (F.args_list_clear_1 _) (AutoSeq1.list_clear_list_0 l a.toArray n (by rw[size_toArray];lia)) ⟨e,?_⟩;exact⟨.non,_,I.lset (its':=[]) (ys:=[]) c e rfl .nil (Nat.zero_le _),rfl,q⟩
inductive rCat(x y:V)(H:Hp)(Q:VK):Prop
 | mk(l b:Addr)(xs zs:List V)(h0:x=.ref l)(h1:y=.ref b)(h2:H l=some (.lst xs))(h3:H b=some (.lst zs))(h4:xs.length+zs.length<=sizeLine)(h5:∀ p,H p=none->Q (.ref p) (upd H p (.lst (xs++zs)))):rCat x y H Q
theorem vQ:OpR X (binaryOp .Add) rCat:=by
 intro d s G H x y v u Q I j g h;obtain⟨l,b,E,B,rfl,rfl,p,i,C,q⟩:=h;cases j;cases g;obtain⟨z,c,n,r,K,e⟩:=I.lstM p;obtain⟨D,a,F,w,o,A⟩:=I.lstM i;refine PySem.P.add_list e A ?_ (by rw[size_toArray,size_toArray];lia);have f:c.toArray++a.toArray=(c++a).toArray:=by simp
 rw[f];exact⟨.ref _,_,I.lnew (t':=s.toks) (r.append w) (by rw[length_append];lia),rfl,q _ I.fresh⟩
def yz:R2:=λx y H Q=>∃ l k xs,x=.ref l/\y=.int k/\H l=some (.lst xs)/\-(2 ^ 63)<=k/\k<2 ^ 63/\xs.length*k.toNat<=sizeLine /\
 ∀ p,H p=none->Q (.ref p) (upd H p (.lst (List.replicate k.toNat xs).flatten))
theorem tU{a:Type}(xs:List a)(k:Nat):(List.replicate k xs).flatten.length=k*xs.length:=by
 induction k with
 | zero=>simp
 | succ k ih=>rw[replicate_succ,flatten_cons,length_append,ih,Nat.succ_mul,Nat.add_comm]
theorem jX:OpR X (binaryOp .Mult) yz:=by
 intro p s N H x y v u Q I B L h;obtain⟨l,k,M,rfl,rfl,C,A,E,w,q⟩:=h;cases B;obtain⟨t,rfl⟩:=L;obtain⟨z,b,n,r,K,e⟩:=I.lstM C;have f:b.toArray.size*k.toNat<=sizeLine:=by rw[size_toArray,<- K];exact w
 have i:¬b.toArray.size*k.toNat > (2 ^ 63 - 1)/8:=by
  have:(sizeLine:Nat)<=(2 ^ 63 - 1)/8:=by decide
  lia
 have d:¬(!Builtin.List.listFitsIndex k)=true:=by
  rw[fitsIndex_both A E];exact Bool.false_ne_true
 have c:¬Builtin.List.listTooLong (b.toArray.size*k.toNat)=true:=by
  rw[nh f];exact Bool.false_ne_true
 have g:List.foldl (λo j=>o++j) #[] (List.replicate (if b.toArray.isEmpty=true then 0 else k.toNat) b.toArray)=(List.replicate k.toNat b).flatten.toArray:=by
  have G:∀ m:Nat,List.foldl (λo j=>o++j) #[] (List.replicate m b.toArray)=(List.replicate m b).flatten.toArray:=λm=>by
   have:=kQ b m [];rw[List.nil_append]at this;exact this
  rw[G];cases b with
  | nil=>simp
  | cons a r'=>rw[if_neg (by simp)]
 refine wpAny_binaryOp_repeat_ref (T := "list") (U := "int") (by decide) ⟨_,e,rfl⟩ (λD=>typeIs_int D k t) noFill_list_mul F.fills_int_mul F.slot_int_rmul repeat_list F.slot_int_index.lookup
  (call_meets F.slot_int_rmul (typeIs_int s k t) F.entry_int_rmul (F.args_int_rmul_2 _ _) (int___rmul___int_list k t l b.toArray n)
   ⟨e,rfl,⟨_,e,rfl⟩,call_meets F.slot_list_mul ⟨_,e,rfl⟩ F.entry_list_mul (F.args_list_mul_2 _ _) (AutoListH.list___mul___list_int_3 l b.toArray n k t d i c) ⟨e,?_⟩⟩)
 rw[g];exact⟨.ref _,_,I.lnew (t':=s.toks) (r.rep k.toNat) (by rw[tU,Nat.mul_comm];exact w),rfl,q _ I.fresh⟩
end
section
variable {prog:Program}{w:World}{A:Around}{E:Value->Shared->Prop}{s:Shared}
set_option maxRecDepth 100000 in
end
section
variable {X:Cx}
end
end L2
namespace Att
open PySem PySem.W PySem.Calls PyProof.Rows
theorem jx{P:Params}{h:Heap}:∀(ns:List Int) (vs:List Value),WellAll P h vs (ns.map WData.int)->IntsAre vs ns:=by
 intro ns
 induction ns with
 | nil =>
  intro vs w;rw[map_nil]at w;cases w;exact .nil
 | cons n ns ih =>
  intro vs w;rw[map_cons]at w;cases w with
  | cons a b =>
   cases a;exact .cons _ _ (ih _ b)
theorem qS{l:OpenLaw}{n:Nat}(p:l.most=some n){P:Params}{h:Heap}{args:List WData}{c:List Value}
  (b:l.row.toRowW.claim.pre args=true) (i:WellAll P h c args) :
  ∃ a vs ns,c=[Value.ref a]/\args=[WData.list (ns.map WData.int)]/\h.get? a=some { cls:=.type "list",data:=.seq vs.toArray }/\IntsAre vs ns/\ns.length<=n:=by
 have j:WShape.hasAll [] args [.list .int]=true:=(pre_splitW b).1;have o:l.pre.holds [] { args:=args }=true:=(pre_splitW b).2;obtain⟨d,r,rfl,s,u⟩:=hasAllW_cons j;obtain rfl:=hasAllW_nil u;obtain⟨x,rfl,w⟩:=hasW_list s;obtain⟨ns,rfl⟩:=items_int w
 have e:ns.length<=n:=by
  unfold OpenLaw.pre at o
  have g:(WTm.not (.lt (.lit (.int (n:Int))) (.len (.arg 0)))).holds [] { args:=[.list (ns.map .int)] }=true:=by
   have g:=(holds_andW o).1;rw[p]at g;exact g
  have f:=condW_of g (w_not (w_lt w_lit (w_len_list (w_arg rfl))));rw[length_map]at f;refine Nat.le_of_not_lt λq=>?_
  have v:(n:Int)<((ns.length:Nat):Int):=by lia
  first
   | (rw[decide_eq_true v]at f;exact absurd f (by decide))
   | (simp at f;lia)
 cases i with
 | cons w1 w2 =>
  cases w2;cases w1 with
  | list ho hall=>exact⟨_,_,ns,rfl,rfl,ho,jx ns _ hall,e⟩
theorem qa(l:OpenLaw)(args:List WData):l.row.toRowW.claim.post args (.bool true) args=true :=
 postW_of (r:=l.row.toRowW) (X:=(true == true))
  (show WShape.has [] (.bool true) .bool=true by first | rfl | decide | simp[WShape.has,WShape.arms,WShape.armsAll])
  (show(WTm.eq .res (.lit (.bool true))).value [] { args:=args,res:=some (.bool true),after:=args }=some (.bool (true == true)) from w_eq_bool (w_res rfl) w_lit) rfl
theorem attach_call{l:OpenLaw}{n:Nat}{q:Program}{b:List Str}{z:(Str->Option Value)->Heap->Prop}{x:World->Heap->Prop}{d:DefRec}
  (C:l.most=some n) (p:d.params.defaults=[])
  (i:∀(w:World) (s₀ s₁:Shared) (mg mb:Str->Option Value) (fa:Addr) (o:Obj) (pm cd doc:Value) (a:Addr) (vs:List Value) (ns:List Int),
   Ground q b [] z w s₀ mg mb s₁.heap->x w s₁.heap ->
   s₁.heap.get? fa=some o->o.data=.func (docDef d.name d.params d.body d.scope pm cd doc)->s₁.heap.CodeRec cd d.name->mg d.name=some (.ref fa) ->
   s₁.heap.get? a=some { cls:=.type "list",data:=.seq vs.toArray }->IntsAre vs ns->ns.length<=n->s₁.gens = #[] ->
   codeAny (model l.prog w) callerA (.call (.ref fa) ⟨[.ref a],[]⟩) (λr s'=>r=.ok (.ret (.bool true))/\OldK s₁.heap s'.heap/\s'.os=s₁.os/\AllBare s'.gens) s₁) :
  WalkO q b z x l.row.toRowW d [] (λf vs=>PySem.call f vs):=by
 intro w s₀ s₁ mg mb G Y fa o pm cd doc M K O H j A u N B y Q g v E s P;obtain rfl:M=.none:=Dflts.none A p;obtain rfl:K=.none:=Dflts.noKw A;obtain⟨a,vs,ns,rfl,rfl,h,c,e⟩:=qS C g s;refine enter_call (codeAny_mono (i w s₀ s₁ mg mb fa o pm cd doc a vs ns G Y O (fd_plain H) j u h c e N) λr s' F=>?_);obtain⟨rfl,I,L,D⟩:=F;exact⟨.inl ⟨.bool true,.bool true,[],rfl,λ_=>rfl,.bool true,qa l _,λ_=>⟨List.Pairwise.nil,λ_ hm=>(nomatch hm)⟩⟩,I,L,D⟩
section
variable {prog:Program}{w:World}{A:Around}{E:Value->Shared->Prop}{s:Shared}{K:Frag}
end
end Att
namespace L2
open PySem PySem.Spec PyProof.Rows
theorem kM:∀{vs:List Value}{ns:List Int},IntsAre vs ns->Vals (ns.map V.int) vs
 | _,_,.nil=>.nil
 | _,_,.cons n t h=>.cons ⟨t,rfl⟩ (kM h)
abbrev KOf{K:Frag}{h:Heap}(_:K.In h):Frag:=K
def ba(s:Stmt)(j:Nat):Stmt:=match s with
 | .ClassDef _ _ _ body _ _ _ _ _ _ _=>body.getD j (.Pass ⟨0,0,0,0⟩)
 | _=>.Pass ⟨0,0,0,0⟩
def iE(s:Stmt):Arguments:=match s with
 | .FunctionDef _ a _ _ _ _ _ _ _ _=>a
 | _=>{ posonlyargs:=[],args:=[],vararg:=none,kwonlyargs:=[],kw_defaults:=[],kwarg:=none,defaults:=[] }
def fF(s:Stmt):List Stmt:=match s with
 | .FunctionDef _ _ b _ _ _ _ _ _ _=>b
 | _=>[]
def ar(s:Stmt):Scope:=match s with
 | .FunctionDef _ _ _ _ _ _ sc _ _ _=>sc
 | _=>{ kind:=.function,names:=[],isGenerator:=false,isCoroutine:=false }
abbrev CX0:CXT:=λ_ _ _ _ _ _=>False
abbrev E0:XK:=λ_ _ _=>False
theorem ai{X:Cx}:iu CX0 X E0:=λ_ _ _ _ _ _ _ h=>h.elim
structure Fun(K:Frag)(x qual:Str)(st:Stmt)(f:Addr)(fd:FuncData):Prop where
 ex:∃(oc:Value) (od:Option Addr) (kV doc pm:Value) (an:Option Addr) (cdv ct:Value) (osl:Array (Option Value)),
  fd=fnOf x qual (iE st) (fF st) (ar st) .none kV doc pm an cdv ct/\K.lookup f=some ⟨oc,od,.func fd,osl⟩/\codeIn K cdv qual=true
 kp:keepIn K (.ref f)=true
section
variable {P:Program}{w:World}{K:Frag}{mg:Str->Option Value}{base:Heap}
theorem Fun.ok{x a:Str}{st:Stmt}{f:Addr}{i:FuncData}{N g:List Str}{k:Nat}{sp:Sp}(F:Fun K x a st f i)(S:FnScope N g (ar st))(d:∀ vs H Q E,sp vs H Q E->vs.length=g.length)
  (b:∀(cdv:Value) (A:Around) (outer:List Env) (s:Shared) (H:Hp) (vs:List V) (Q:VK) (E:XK),Room k (A.deeper (envOfC a (ar st) s.heap.objs.size f cdv))->sp vs H Q E ->
   ∃ t,PSs (gg CX0 P w K mg base N a (ar st) f cdv A outer s H E).nox (fF st) t/\t { nx:=λ_ H'=>Q .non H',rt:=Q } (start N vs) H):FnOk P w K mg base CX0 (k+1) f i g sp:=by
 obtain⟨u,z,B,p,v,y,cdv,r,o,rfl,j,c⟩:=F.ex;refine wV j c S d λA outer s H vs Q E l e=>?_
 obtain⟨t,h,q⟩:=b cdv A outer s H vs Q E l e;exact⟨t,h.nox,q⟩
theorem Fun.binds{x a:Str}{st:Stmt}{f:Addr}{c:FuncData}{b:List Str}(F:Fun K x a st f c)
  (h:∀(kV doc pm:Value) (an:Option Addr) (cdv ct:Value) (us:List Value),us.length=b.length->bindArgs (fnOf x a (iE st) (fF st) (ar st) .none kV doc pm an cdv ct) ⟨us,[]⟩=pure (b.zip us)):Binds K c b []:=by
 obtain⟨g,j,kV,doc,pm,an,cdv,ct,e,rfl,i,d⟩:=F.ex;exact .all (h kV doc pm an cdv ct)
theorem ao{x a:Str}{st:Stmt}{f:Addr}{o:Value}{p i:Option Addr}{e:Array (Option Value)}{j d h b g:Value}(l:K.lookup f=some ⟨o,p,.func (fnOf x a (iE st) (fF st) (ar st) .none j d h i b g),e⟩)
  (c:codeIn K b a=true) (k:keepIn K (.ref f)=true):Fun K x a st f (fnOf x a (iE st) (fF st) (ar st) .none j d h i b g):=⟨⟨o,p,j,d,h,i,b,g,e,rfl,l,c⟩,k⟩
end
theorem u8{A:Around}{k:Nat}(a:Room k A):A.units+1<cLine:=Nat.lt_of_le_of_lt (Nat.add_le_add_left (by decide:1<=64) _) a.units
section
variable {X:Cx}
end
theorem qp{A B:Prop}(h:B):if false=true then A else B:=by
 rw[if_neg Bool.false_ne_true];exact h
theorem xT{A B:Prop}(h:A):if true=true then A else B:=by
 rw[if_pos rfl];exact h
theorem rd{c A B:Prop}[Decidable c](a:c->A)(h2:¬c->B):if c then A else B:=by
 by_cases h:c
 .rw[if_pos h]
  exact a h
 .rw[if_neg h]
  exact h2 h
def Same(H H':Hp):Prop:=∀ b o,H b=some o->H' b=some o
theorem Same.refl(H:Hp):Same H H:=λ_ _ h=>h
theorem Same.trans{H e d:Hp}(a:Same H e)(b:Same e d):Same H d:=λc o h=>b c o (a c o h)
theorem Same.free{H a:Hp}(e:Same H a){l:Addr}(h:a l=Option.none):H l=Option.none:=by
 cases q:H l with
 | none=>rfl
 | some o =>
  rw[e l o q]at h;cases h
end L2
set_option maxHeartbeats 4000000
namespace L2
open PySem PySem.Spec PyProof.Rows
def Its(x:Str):It:=⟨λi _=>i<x.cps.size,λi H y H'=>H'=H/\∃ c,x.cps[i]? = some c/\y=.str ⟨#[c]⟩,λi _=>x.cps.size<=i⟩
theorem mS{P:Program}{w:World}{K:Frag}{tg:Expr}(x:Str)(u:Addr){ty:String}{t:Tok}(p:ty = "str_ascii_iterator" \/ ty = "str_iterator") :
  Turn P w K tg (Its x) [u] u (λi h=>h.IsStrIter u ty x t i) where
 mem:=by simp
 obj:=λi h f b a=>by
  have e:b=u:=by simpa using a
  subst e;obtain⟨o,e,c,d⟩:=f;exact⟨o,e,λv z=>by rw[d]at z;cases z⟩
 keep:=λi h l f k=>by
  obtain⟨o,e,r⟩:=f;exact⟨o,k u (by simp) o e,r⟩
 item:=by
  intro X W O M R i g s Q H E I F f S;subst W O M;have y:i<x.cps.size:=S;obtain⟨D,A,Y,B,G,C⟩:=F u (by simp)
  rcases p with rfl | rfl
  .refine wpAny_pyNext_ascii_item f (c:=x.cps[i]) (by simp[y]) λl j L=>?_
   have T:Inv X g Q H { s with heap:=l,toks:=s.toks+1 }:=I.turned (λb o a e=>(L.2 b a).trans e) D A B G C;obtain⟨o,e,c,d⟩:=id j;exact⟨_,rfl,nH (s:={ s with heap:=l,toks:=s.toks+1 }) e c d (by decide) ⟨.str ⟨#[x.cps[i]]⟩,H,T,⟨_,rfl⟩,⟨rfl,x.cps[i],by simp[y],rfl⟩,j,λb a=>(F b a).1⟩⟩
  .refine wpAny_pyNext_wide_item f (c:=x.cps[i]) (by simp[y]) λl j L=>?_
   have T:Inv X g Q H { s with heap:=l,toks:=s.toks+1 }:=I.turned (λb o a e=>(L.2 b a).trans e) D A B G C;obtain⟨o,e,c,d⟩:=id j;exact⟨_,rfl,nH (s:={ s with heap:=l,toks:=s.toks+1 }) e c d (by decide) ⟨.str ⟨#[x.cps[i]]⟩,H,T,⟨_,rfl⟩,⟨rfl,x.cps[i],by simp[y],rfl⟩,j,λb a=>(F b a).1⟩⟩
 done:=by
  intro X W O M R i g s Q H E I F f S;subst W O M;have y:x.cps.size<=i:=S;obtain⟨D,A,Y,B,G,C⟩:=F u (by simp)
  rcases p with rfl | rfl
  .exact wpAny_pyNext_ascii_end (I.ok.hd R) f (by simp[y]) λl N=>⟨rfl,I.turned (t':=s.toks) (λb o a e=>N b o a e) D A B G C⟩
  .exact wpAny_pyNext_wide_end (I.ok.hd R) f (by simp[y]) λl N=>⟨rfl,I.turned (t':=s.toks) (λb o a e=>N b o a e) D A B G C⟩
 self:=λ_ _ _ _ _ f h=>by
  rcases p with rfl | rfl
  .exact wpAny_pyIter_striter_ascii f h
  .exact wpAny_pyIter_striter_wide f h
def yt(tl:TE):TI:=λσ H R=>tl σ H λx H1=>∃ z,x=.str z/\R (Its z) H1
theorem wv{X:Cx}{tg l:Expr}{tl:TE}(p:PE X l tl):PI X tg l (yt tl):=by
 intro a s g H R I h;refine thn (p a s g H _ I h) λv c ⟨x,j,d,f,i⟩=>?_
 obtain⟨z,e,q⟩:=i;subst e;obtain⟨t,rfl⟩:=f;refine wpAny_pyIter_strU ?_;refine⟨c.heap.objs.size,[c.heap.objs.size],_,_,j,rfl,d.kept (t':=c.toks) λb o e=>Heap.get?_push_of_some _ e,mS (ty:=strIterType z) (t:=t) z _ ?_,⟨_,Heap.get?_push_size _ rfl,rfl,rfl⟩,λb hb=>?_,q⟩
 .unfold strIterType
  split
  .exact .inl rfl
  .exact .inr rfl
 .have e:b=c.heap.objs.size:=by simpa using hb
  subst e;exact d.fpOk (Nat.le_refl _) (d.hok.fresh (Nat.le_refl _))
def Wk:St->St->Prop
 | [],[]=>True
 | Option.none::r,_::q=>Wk r q
 | some a::r,b::q=>b=some a/\Wk r q
 | _,_=>False
theorem Wk.len:∀{a b:St},Wk a b->a.length=b.length
 | [],[],_=>rfl
 | Option.none::r,_::q,h=>congrArg (· + 1) (Wk.len (a:=r) (b:=q) h)
 | some _::r,_::q,h=>congrArg (· + 1) (Wk.len (a:=r) (b:=q) h.2)
 | [],_::_,h=>h.elim
 | Option.none::_,[],h=>h.elim
 | some _::_,[],h=>h.elim
theorem Wk.get:∀{a b:St},Wk a b->∀(i:Nat) v,a[i]? = some (some v)->b[i]? = some (some v)
 | [],[],_,i,v,e=>by simp at e
 | Option.none::r,y::q,h,0,v,e=>by simp at e
 | Option.none::r,y::q,h,i+1,v,e=>by simpa using Wk.get (a:=r) (b:=q) h i v (by simpa using e)
 | some x::r,y::q,h,0,v,e=>by
  have c:x=v:=by simpa using e
  rw[h.1,c] <;> simp
 | some x::r,y::q,h,i+1,v,e=>by simpa using Wk.get (a:=r) (b:=q) h.2 i v (by simpa using e)
 | [],_::_,h,_,_,_=>h.elim
 | Option.none::_,[],h,_,_,_=>h.elim
 | some _::_,[],h,_,_,_=>h.elim
def fm(cells:List (Str×Addr)):List (Str×NameKind)->List (Str×Addr)->List (Str×Addr)
 | [],acc=>acc
 | (n,k)::r,acc=>if k == .free then fm cells r ((n,(cells.lookup n).getD 0)::acc) else fm cells r acc
theorem gJ{d:Scope}{env:Env}(h:∀ y∈d.names,y.2=.free->∃ c,env.cells.lookup y.1=some c):closureFor d env=pure (fm env.cells d.names []):=by
 unfold closureFor
 have f:∀(l:List (Str×NameKind)) (b:List (Str×Addr)),(∀ y∈l,y.2=.free->∃ c,env.cells.lookup y.1=some c) ->
   (forIn l b λx r=>match x with | (name,kind)=>if (kind == .free)=true then do let a <- cellOf env name;pure (ForInStep.yield ((name,a)::r)) else pure (ForInStep.yield r):Sem (List (Str×Addr)))=pure (fm env.cells l b):=by
  intro l
  induction l with
  | nil=>intro b _;rfl
  | cons y r ih =>
   intro b j;obtain⟨n,k⟩:=y;have g:∀ y∈r,y.2=.free->∃ c,env.cells.lookup y.1=some c:=λy s=>j y (mem_cons_of_mem _ s)
   rw[forIn_cons]
   by_cases hk:k=.free
   .subst hk
    obtain⟨c,i⟩:=j (n,.free) mem_cons_self rfl;have p:cellOf env n=pure c:=by unfold cellOf;rw[i]
    have e:fm env.cells ((n,.free)::r) b=fm env.cells r ((n,c)::b):=by
     show(if (NameKind.free == NameKind.free)=true then fm env.cells r ((n,(env.cells.lookup n).getD 0)::b) else fm env.cells r b)=_;rw[if_pos (by decide),i];rfl
    rw[e,<- ih ((n,c)::b) g];show(do let x <- (if (NameKind.free == NameKind.free)=true then do let a <- cellOf env n;pure (ForInStep.yield ((n,a)::b)) else pure (ForInStep.yield b):Sem _);_)=_;rw[if_pos (by decide),p];rfl
   .have o:(k == NameKind.free)=false:=by simpa using hk
    have e:fm env.cells ((n,k)::r) b=fm env.cells r b:=by
     show(if (k == NameKind.free)=true then fm env.cells r ((n,(env.cells.lookup n).getD 0)::b) else fm env.cells r b)=_;rw[o];rfl
    rw[e,<- ih b g];show(do let x <- (if (k == NameKind.free)=true then do let a <- cellOf env n;pure (ForInStep.yield ((n,a)::b)) else pure (ForInStep.yield b):Sem _);_)=_;rw[o];rfl
 have:=f d.names [] h
 first | exact this | (rw[this];rfl) | simpa using this
theorem fH{a:List (Str×Addr)}:∀{l:List (Str×NameKind)}{acc:List (Str×Addr)}{n:Str}{c:Addr},(∀ y∈l,y.2=.free->∃ c,a.lookup y.1=some c)->(∀ n c,acc.lookup n=some c->a.lookup n=some c) ->
  (fm a l acc).lookup n=some c->a.lookup n=some c
 | [],acc,n,c,_,ha,e=>ha n c e
 | (m,k)::r,acc,n,c,hl,ha,e=>by
  have h:∀ y∈r,y.2=.free->∃ c,a.lookup y.1=some c:=λy i=>hl y (mem_cons_of_mem _ i)
  have b:(if (k == NameKind.free)=true then fm a r ((m,(a.lookup m).getD 0)::acc) else fm a r acc).lookup n=some c:=e
  by_cases hk:(k == NameKind.free)=true
  .rw[if_pos hk]at b
   refine fH h (λn c z=>?_) b;obtain⟨d,j⟩:=hl (m,k) mem_cons_self (by simpa using hk);rw[lookup_cons]at z
   by_cases hn:(n == m)=true
   .rw[hn]at z
    have:n=m:=by simpa using hn
    subst this;have g:a.lookup n=some d:=j;rw[g]at z ⊢;simpa using z
   .have f:(n == m)=false:=by simpa using hn
    rw[f]at z;exact ha n c z
  .rw[if_neg hk]at b
   exact fH h ha b
theorem hW{b:List (Str×Addr)}:∀{l:List (Str×NameKind)}{acc:List (Str×Addr)}{n:Str},((n,NameKind.free)∈l\/∃ c,acc.lookup n=some c)->∃ c,(fm b l acc).lookup n=some c
 | [],acc,n,h=>by
  rcases h with h | h
  .cases h
  .exact h
 | (m,k)::r,acc,n,h=>by
  show ∃ c,(if (k == NameKind.free)=true then fm b r ((m,(b.lookup m).getD 0)::acc) else fm b r acc).lookup n=some c
  have d:∀ a,n=m\/(∃ c,acc.lookup n=some c)->∃ c,((m,a)::acc).lookup n=some c:=λa z=>by
   rw[lookup_cons]
   by_cases hn:(n == m)=true
   .rw[hn];exact⟨_,rfl⟩
   .have f:(n == m)=false:=by simpa using hn
    rw[f]
    rcases z with z | z
    .exact absurd (by simpa using z) hn
    .exact z
  by_cases hk:(k == NameKind.free)=true
  .rw[if_pos hk]
   refine hW ?_
   rcases h with h | h
   .rcases mem_cons.mp h with e | h
    .exact .inr (d _ (.inl (congrArg Prod.fst e)))
    .exact .inl h
   .exact .inr (d _ (.inr h))
  .rw[if_neg hk]
   refine hW ?_
   rcases h with h | h
   .rcases mem_cons.mp h with e | h
    .have:k=.free:=(congrArg Prod.snd e).symm
     rw[this]at hk;exact absurd (by decide) hk
    .exact .inl h
   .exact .inr h
def rlb(env:Env)(p:Str×NameKind):Str×NameKind:=if (p.2 == NameKind.free && env.scope.kind == ScopeKind.function && env.kindOf p.1 == some NameKind.cell)=true then (p.1,NameKind.cell) else p
theorem kx(a:Scope)(env:Env):(relabel a env).names=a.names.map (rlb env):=rfl
theorem tX(env:Env)(p:Str×NameKind):(rlb env p).1=p.1:=by
 unfold rlb
 split <;> rfl
theorem rK{env:Env}{p:Str×NameKind}(h:p.2≠.cell)(h2:(rlb env p).2=.cell\/(rlb env p).2=.free):p.2=.free:=by
 unfold rlb at h2
 split at h2
 .rename_i q
  rw[Bool.and_eq_true,Bool.and_eq_true]at q;simpa using q.1.1
 .rcases h2 with h2 | h2
  .exact absurd h2 h
  .exact h2
theorem ij{env:Env}:∀{names:List (Str×NameKind)}{x:Str}{k:NameKind},(∀ y∈names,y.2≠.cell)->(k=.cell\/k=.free)->(names.map (rlb env)).lookup x=some k->(x,NameKind.free)∈names
 | [],x,k,_,_,e=>by simp at e
 | p::r,x,k,hc,hk,e=>by
  have b:∀ y∈r,y.2≠.cell:=λy c=>hc y (mem_cons_of_mem _ c)
  have f:rlb env p=(p.1,(rlb env p).2):=by rw[<- tX env p]
  rw[map_cons,f,lookup_cons]at e
  by_cases hx:x=p.1
  .have a:(x == p.1)=true:=by simpa using hx
   rw[a]at e;have g:(rlb env p).2=k:=Option.some.inj e;have d:=rK (env:=env) (hc p mem_cons_self) (by rw[g];exact hk);have:(x,NameKind.free)=p:=by rw[hx,<- d]
   rw[this];exact mem_cons_self
  .have a:(x == p.1)=false:=by simpa using hx
   rw[a]at e;exact mem_cons_of_mem _ (ij b hk e)
theorem gv{env:Env}{a:Scope}{x:Str}{k:NameKind}(c:∀ y∈a.names,y.2≠.cell)(b:k=.cell\/k=.free)(e:(relabel a env).names.lookup x=some k):(x,NameKind.free)∈a.names :=
 ij (env:=env) c b (by rw[<- kx];exact e)
def qN(ix:List (Option Nat))(σ:St):St:=ix.map λo=>o.bind λi=>(σ[i]?).join
def fk(env:Env)(y:Str):NameKind:=if env.kindOf y == some NameKind.free then .free else .cell
theorem xP(env:Env)(y:Str):fk env y=.cell\/fk env y=.free:=by unfold fk;split <;> simp
def FreeOkF(XN:List Str)(env:Env)(sc:Scope):List Str->List (Option Nat)->Prop
 | [],[]=>True
 | _::N,Option.none::ix=>FreeOkF XN env sc N ix
 | y::N,some i::ix=>XN[i]? = some y/\env.kindOf y=some (fk env y)/\(relabel sc env).names.lookup y=some (fk env y)/\FreeOkF XN env sc N ix
 | _,_=>False
theorem FreeOkF.len{a:List Str}{env:Env}{b:Scope}:∀{N:List Str}{ix:List (Option Nat)},FreeOkF a env b N ix->ix.length=N.length
 | [],[],_=>rfl
 | _::N,Option.none::ix,h=>congrArg (· + 1) (FreeOkF.len (N:=N) (ix:=ix) h)
 | _::N,some _::ix,h=>congrArg (· + 1) (FreeOkF.len (N:=N) (ix:=ix) h.2.2.2)
 | [],_::_,h=>h.elim
 | _::_,[],h=>h.elim
theorem FreeOkF.get{b:List Str}{env:Env}{c:Scope}:∀{N:List Str}{ix:List (Option Nat)},FreeOkF b env c N ix->∀(j:Nat) (y:Str) (i:Nat),N[j]? = some y->ix[j]? = some (some i) ->
  b[i]? = some y/\env.kindOf y=some (fk env y)/\(relabel c env).names.lookup y=some (fk env y)
 | [],[],_,j,y,i,e,_=>by simp at e
 | _::N,Option.none::ix,h,0,y,i,e,e2=>by simp at e2
 | _::N,Option.none::ix,h,j+1,y,i,e,e2=>FreeOkF.get (N:=N) (ix:=ix) h j y i (by simpa using e) (by simpa using e2)
 | z::N,some k::ix,h,0,y,i,e,e2=>by
  have d:z=y:=by simpa using e
  have a:k=i:=by simpa using e2
  subst d;subst a;exact⟨h.1,h.2.1,h.2.2.1⟩
 | _::N,some _::ix,h,j+1,y,i,e,e2=>FreeOkF.get (N:=N) (ix:=ix) h.2.2.2 j y i (by simpa using e) (by simpa using e2)
 | [],_::_,h,_,_,_,_,_=>h.elim
 | _::_,[],h,_,_,_,_,_=>h.elim
def cxB(X:Cx)(sc:Scope)(C:Addr)(N:List Str)(s₀:Shared)(H₀:Hp)(fp:List Addr):Cx :=
 { X with N:=N,s₀:=s₀,H₀:=H₀,env:=compEnvC sc (fm X.env.cells sc.names []) C X.env,outer:=X.stack,ex:=fp,fn:=λ_=>false,pn:=[],xe:=λ_ _=>False }
structure CompOk(X:Cx)(sc:Scope)(N:List Str)(ix:List (Option Nat)):Prop where
 kind:sc.kind=.function
 nocell:(sc.names.all λy=>y.2 != .cell)=true
 names:(sc.names.all λy=>y.2 != .local || sc.names.lookup y.1 == some .local) = true
 free:(sc.names.all λy=>y.2 != .free || (X.env.scope.names.lookup y.1 == some .cell || X.env.scope.names.lookup y.1 == some .free))=true
 fr:FreeOkF X.N X.env sc N ix
section
variable {X:Cx}{sc:Scope}{N:List Str}{ix:List (Option Nat)}{pins:List (Addr×Obj)}{σ:St}{H:Hp}{s:Shared}
theorem CompOk.cells(c:CompOk X sc N ix)(b:X.Ok):∀ y∈sc.names,y.2=.free->∃ c,X.env.cells.lookup y.1=some c:=λy d e=>by
 have h:=all_eq_true.mp c.free y d;rw[e]at h;have a:X.env.scope.names.lookup y.1=some .cell\/X.env.scope.names.lookup y.1=some .free:=by simpa using h
 exact b.has y.1 a
theorem CompOk.nc(c:CompOk X sc N ix):∀ y∈sc.names,y.2≠.cell:=λy a=>by simpa using all_eq_true.mp c.nocell y a
theorem CompOk.nm(c:CompOk X sc N ix):∀ y ∈ sc.names,y.2 = .local->sc.names.lookup y.1 = some .local:=λy a e=>by
 have h:=all_eq_true.mp c.names y a;rw[e]at h;simpa using h
theorem qg{C:Addr}{K:List Addr}{h₁:Heap}{t':Nat}(c:CompOk X sc N ix)(I:Inv X pins σ H s)(E:∀ b∈K,io X pins H b)(F:∀ b∈K,b<s.heap.objs.size)(G:s.heap.objs.size<=C)
  (O:h₁.Ns C (λ_=>none)) (h:∀ b o,s.heap.get? b=some o->h₁.get? b=some o):Inv (cxB X sc C N s H K) [] (qN ix σ) H { s with heap:=h₁,toks:=t' }:=by
 have f:=c.cells I.ok;have a:∀ n c,(fm X.env.cells sc.names []).lookup n=some c->X.env.cells.lookup n=some c:=λn c e=>fH f (λn c z=>by simp at z) e
 refine⟨⟨I.ok.mod,c.kind,I.ok.glob,I.ok.blt,G,λx y d Q T=>I.ok.inj x y d (a x d Q) (a y d T),λx hx=>?_,λx d z=>absurd z (by simp[cxB]),I.ok.hd,I.ok.frames,.inl rfl,λb hb=>⟨?_,λx d e=>?_⟩,I.bs,Nat.le_trans I.ok.bsz I.sz,λb o e hb=>?_,λb hb hs=>?_,I.stack,I.stkFree⟩,
  rfl,I.bare,Un.kept h,⟨_,O,λj y v P A e3=>?_⟩,λx d e=>?_,I.hok.fresh G,λx d e=>I.freeC x d (a x d e),λp hp=>absurd (show p∈([]:List (Addr×Obj)) from hp) (by simp),I.hok.kept h,?_⟩
 .refine hW (.inl ?_)
  rcases hx with hx | hx
  .exact gv c.nc (.inl rfl) (show(relabel sc X.env).names.lookup x=some .cell from hx)
  .exact gv c.nc (.inr rfl) (show(relabel sc X.env).names.lookup x=some .free from hx)
 .exact Nat.ne_of_lt (Nat.lt_of_lt_of_le (F b hb) G)
 .exact(E b hb).2.2.2.2.1 x d (a x d e)
 .rcases(E b hb).2.2.2.1 with z | z
  .exact I.ok.noex b o e z
  .exact absurd (Nat.lt_of_lt_of_le (Heap.lt_size e) (Nat.le_trans I.ok.bsz z)) (Nat.lt_irrefl _)
 .rcases mem_cons.mp (I.stkSub b hs) with z | z
  .exact(E b hb).2.1 z
  .exact(E b hb).2.2.1 z
 .have hj:∃ i,ix[j]? = some (some i)/\σ[i]? = some (some v):=by
   unfold qN at A;rw[List.getElem?_map]at A;cases q:ix[j]? with
   | none=>rw[q]at A;cases A
   | some o =>
    rw[q]at A;cases o with
    | none=>cases A
    | some i =>
     refine⟨i,rfl,?_⟩;have g:(σ[i]?).join=some v:=Option.some.inj A;cases q2:σ[i]? with
     | none=>rw[q2]at g;cases g
     | some w=>rw[q2]at g;exact congrArg some g
  obtain⟨i,W,S⟩:=hj;obtain⟨Z,M,D⟩:=c.fr.get j y i P W;obtain⟨m,hm,Y⟩:=I.loc;have L:=xP X.env y;have k9:X.env.kindOf y=some .cell\/X.env.kindOf y=some .free:=L.imp (λz=>by rw[<- z];exact M) λz=>by rw[<- z];exact M
  obtain⟨u,r,l⟩:=Y i y v Z S (.inr k9);refine⟨u,r,?_⟩
  rcases l with⟨z,_⟩ | ⟨_,d,R,B⟩
  .rcases k9 with k9 | k9 <;> (rw[k9]at z;cases z)
  .obtain⟨d',hd'⟩:∃ d',(fm X.env.cells sc.names []).lookup y=some d':=hW (.inl (gv c.nc L D))
   have:=a y d' hd';rw[R]at this;cases this;exact .inr ⟨L.imp (λz=>(by rw[z]at D;exact D)) (λz=>(by rw[z]at D;exact D)),d,hd',B.keeps h⟩
 .obtain⟨v,z⟩:=I.cell x d (a x d e)
  exact⟨v,z.keeps h⟩
 .show(qN ix σ).length=N.length
  unfold qN;rw[length_map,c.fr.len]
theorem ni{C:Addr}{d:List Addr}{a:List (Addr×Obj)}{c:St}{e:Hp}{s':Shared}(I:Inv X pins σ H s)(h:∀ b∈d,io X pins H b)(J:Inv (cxB X sc C N s H d) a c e s'):Inv X pins σ e s':=by
 refine I.call' (ch:=d) J.os J.base J.hok J.bare λb i=>?_
 obtain⟨p,f,o,j,l,g⟩:=h b i;exact⟨j,f,l,g⟩
end
def PTs(X:Cx)(ifs:List Expr)(t:TT):Prop :=
 ∀(pins:List (Addr×Obj)) (s:Shared) (σ:St) (H:Hp) (Q:Bool->Hp->Prop),Inv X pins σ H s->t σ H Q ->
  wpAny (model X.prog X.w) X.A (forIn ifs true λc r=>if r=true then do let ok <- isTrue c X.env (eval c X.env);pure (ForInStep.yield ok) else pure (ForInStep.yield r)) (TP X pins σ Q) X.xe s
def yk:TT:=λ_ H Q=>Q true H
theorem aN{X:Cx}:PTs X [] yk:=λ_ _ _ H _ I h=>wpAny_tests_nil ⟨H,I,h⟩
theorem iD{X:Cx}{c:Expr}{t:TT}(h:PT X c t):PTs X [c] t:=λa s d H Q I b=>wpAny_tests_one (h a s d H Q I b)
def j0(J:It)(D:Addr)(σb:St)(g:TG)(tt:TT)(te:TE)(Q:Hp->List V->Prop)(W:Nat->Nat->List V->Hp->Prop):Prop :=
 ∀ i m ys H,W i m ys H->H D=some (.lst ys)/\((J.stop i H/\Q H ys)\/(J.go i H/\∀ x H3,J.yld i H x H3->g x σb H3 λσ4 H4=>Wk σb σ4/\tt σ4 H4 λb H5 =>
  if b=true then te σ4 H5 λy H6=>H6 D=some (.lst ys)/\ys.length<sizeLine/\∃ m',m'<m/\W (i+1) m' (ys++[y]) (upd H6 D (.lst (ys++[y]))) else ∃ m',m'<m/\W (i+1) m' ys H5))
def vz(ix:List (Option Nat))(wi:TI)(g:TG)(tt:TT)(te:TE):TE:=λσ H Q=>wi σ H λJ H1=>∀ D,H1 D=none->∃ W,(∃ m,W 0 m [] (upd H1 D (.lst [])))/\j0 J D (qN ix σ) g tt te (λH _=>Q (.ref D) H) W
section
variable {X:Cx}{sc:Scope}{N:List Str}{ix:List (Option Nat)}{elt tg iter:Expr}{ifs:List Expr}{pos:Pos}{wi:TI}{g:TG}{tt:TT}{te:TE}
structure Blk(X:Cx)(sc:Scope)(N:List Str)(tg elt:Expr)(ifs:List Expr)(g:TG)(tt:TT)(te:TE):Prop where
 tg:∀ C s H fp,PG (cxB X sc C N s H fp) tg g
 tests:∀ C s H fp,PTs (cxB X sc C N s H fp) ifs tt
 elt:∀ C s H fp,PE (cxB X sc C N s H fp) elt te
theorem pY{J:It}{l:List Addr}{Y D:Addr}{I:Nat->Heap->Prop}{a:St}{Q:Hp->List V->Prop}{R:Result->Shared->Prop}{W:Nat->Nat->List V->Hp->Prop}
  (hc:X.calm=true) (al:X.xe=λ_ _=>False) (T:Turn X.prog X.w X.K tg J l Y I) (hg:PG X tg g) (ht:PTs X ifs tt) (he:PE X elt te) (A:j0 J D a g tt te Q W)
  (c:∀{H':Hp},(∀ b∈l,H' b=none)->∀ b∈l,io X [] H' b)
  (L:∀{σ':St}{H':Hp}{s':Shared}{ys:List V},Inv X [] σ' H' s'->Q H' ys->R (.ok .next) s')
  {m0 i0:Nat}{s:List V}{G:Hp}{s0:Shared}(I0:Inv X [] a G s0) (ab:I i0 s0.heap) (K:∀ b∈l,G b=none) (w0:W i0 m0 s G) :
  codeAny (model X.prog X.w) X.A (.compLoop (.ListComp elt [⟨tg,iter,ifs,0⟩] sc pos) 0 (.ref Y) (.ref D) X.env) R s0:=by
 have f:∀{E':Value->Shared->Prop}(e:Value) (s':Shared),X.xe e s'->E' e s':=λ{E'} e s' z=>by rw[al]at z;exact z.elim
 refine codeAny_loop rfl (λn s'=>∃ i ys H',Inv X [] a H' s'/\I i s'.heap/\(∀ b∈l,H' b=none)/\W i n ys H') ?_ m0 ⟨i0,s,G,I0,ab,K,w0⟩;rintro n M ⟨i,ys,P,I3,E,w,w3⟩;show wpAny _ X.A ((compTurn (.ListComp elt [⟨tg,iter,ifs,0⟩] sc pos) 0 (.ref Y) (.ref D) X.env).onRaise (λx=>do noteFrame x X.env;theTreesLotGoes x)) _ _ M;refine wpAny_noted ?_;rw[compTurn_list];refine wpAny_bind (wpAny_standAt (wpAny_bind ?_));obtain⟨ap,next⟩:=A i n ys P w3
 rcases next with⟨B,q⟩ | ⟨go,C⟩
 .refine thn (T.done X rfl rfl rfl hc i [] M a P _ I3 (c w) E B) λr s4 ⟨hr,I4⟩=>?_
  subst hr;exact wpAny_pure (L I4 q)
 .refine thn (T.item X rfl rfl rfl hc i [] M a P _ I3 (c w) E go) λr s4 ⟨u,hr,h4⟩=>?_
  subst hr;refine wpAny_bind (thn h4 λ_ s5 ⟨x,H5,I5,r5,y5,j,an⟩=>?_);have S:=I5.pinned (c an) (T.obj _ _ j)
  have tY:∀{σ':St}{H':Hp}{s':Shared},Inv X ([]++kj l s5.heap) σ' H' s'->Wk a σ'->Inv X [] a H' s'/\I (i+1) s'.heap/\∀ b∈l,H' b=none:=λ{σ' H' s'} p F=>by
   refine⟨(p.unpinned).weak F.len F.get,T.keep _ _ _ j λb H o e=>(p.pin (b,o) (mem_append_right _ (mem_append_right _ (gy H e)))).1,λb H=>?_⟩;obtain⟨o,e,d⟩:=T.obj _ _ j b H;exact(p.pin (b,o) (mem_append_right _ (mem_append_right _ (gy H e)))).2.1
  refine wpAny_bind (wpAny_mono (hg _ s5 a H5 x u _ S r5 (C x H5 y5)) (λ_ s6 ⟨h,H6,I6,F,q6⟩=>?_) f);refine wpAny_bind (wpAny_mono (ht _ s6 h H6 _ I6 q6) (λok s7 ⟨H7,p,q7⟩=>?_) f);cases ok with
  | false =>
   obtain⟨m',Z,w7⟩:=q7;obtain⟨b1,O,b3⟩:=tY p F;exact wpAny_pure ⟨rfl,m',Z,i+1,ys,H7,b1,O,b3,w7⟩
  | true =>
   refine wpAny_bind (wpAny_bind (wpAny_mono (he _ s7 h H7 _ p q7) (λv s8 ⟨y,H8,I8,r8,N,ad,m',Z,w8⟩=>?_) f));refine wpAny_bind (wpAny_mono (kK _ s8 h H8 (.ref D) [y] (.ref D) [v] (λ_ H9=>H9=upd H8 D (.lst (ys++[y]))) I8 rfl (.cons r8 .nil) ⟨D,ys,y,rfl,rfl,N,ad,rfl⟩) (λ_ s9 ⟨z,H9,I9,_,e9⟩=>?_) f);subst e9;obtain⟨b1,O,b3⟩:=tY I9 F;exact wpAny_pure (wpAny_pure ⟨rfl,m',Z,i+1,ys++[y],_,b1,O,b3,w8⟩)
theorem lj{a:List (Addr×Obj)}{M:St}{H:Hp}{s:Shared}{E:Value->Shared->Prop}{RR:Value->Addr->Result->Shared->Prop}{S:Addr}{i:List Addr}{K:Nat->Heap->Prop}{J:It}{Q:Addr->Hp->List V->Prop}
  (hc:X.calm=true) (c:CompOk X sc N ix) (B:Blk X sc N tg elt ifs g tt te) (I:Inv X a M H s) (T:Turn X.prog X.w X.K tg J i S K) (st:K 0 s.heap) (hf:∀ b∈i,io X a H b)
  (h:∀ D,H D=none->∃ W,(∃ m,W 0 m [] (upd H D (.lst [])))/\j0 J D (qN ix M) g tt te (Q D) W)
  (hR:∀ D C H' s' ys,Inv X a M H' s'->io X a H' C->(∃ m,s'.heap.Ns C m)->Q D H' ys->RR (.ref D) C (.ok .next) s') :
  wpAny (model X.prog X.w) X.A (newList []) (λacc s₃=>wpAny (model X.prog X.w) X.A (newFunctionEnv sc X.env.globals (fm X.env.cells sc.names []) [] X.env.qual none .none (some X.env)) (λcenv s₄ =>
   codeAny (model X.prog X.w) X.A (.compStart (.ListComp elt [⟨tg,iter,ifs,0⟩] sc pos) 0 (.ref S) acc { cenv with scope:=relabel sc X.env }) (RR acc cenv.locals) s₄) E s₃) E s:=by
 have Y:∀ b∈i,b<s.heap.objs.size:=λb f=>let ⟨o,e,_⟩:=T.obj _ _ st b f;Heap.lt_size e
 refine wpAny_newObj_type ?_ (by show 0<=sizeLine;exact Nat.zero_le _);have hD:H s.heap.objs.size=none:=I.hok.fresh (Nat.le_refl _);obtain⟨W,⟨m0,w0⟩,w⟩:=h s.heap.objs.size hD;have L:Inv X a M (upd H s.heap.objs.size (.lst [])) { s with heap:=s.heap.push { cls:=.type "list",data:=.seq ([]:List Value).toArray } }:=I.lnew (t':=s.toks) (its:=[]) .nil (Nat.zero_le _);have k1:∀ b o,s.heap.get? b=some o->(s.heap.push { cls:=.type "list",data:=.seq ([]:List Value).toArray }).get? b=some o:=λb o e=>Heap.get?_push_of_some _ e
 have R:∀ b∈i,b≠s.heap.objs.size:=λb f=>Nat.ne_of_lt (Y b f)
 have j:∀ b∈i,io X a (upd H s.heap.objs.size (.lst [])) b:=λb f=>⟨by rw[az (R b f)];exact(hf b f).1,(hf b f).2⟩
 have v:K 0 (s.heap.push { cls:=.type "list",data:=.seq ([]:List Value).toArray }):=T.keep _ _ _ st λb _ o e=>k1 b o e
 generalize hs1:({ s with heap:=s.heap.push { cls:=.type "list",data:=.seq ([]:List Value).toArray } }:Shared)=s1 at L;have l:s1.heap=s.heap.push { cls:=.type "list",data:=.seq ([]:List Value).toArray }:=by rw[<- hs1]
 generalize hDe:s.heap.objs.size=D at *;show wpAny _ _ _ _ _ s1;refine wpAny_newFunctionEnv c.nc (by intro y hy;simp at hy) (λh₁ hns₁ hsb₁=>?_) c.kind;have G:∀ b o,s1.heap.get? b=some o->h₁.get? b=some o:=λb o e=>(hsb₁.2 b (Nat.ne_of_lt (Heap.lt_size e))).trans (Heap.get?_push_of_some _ e)
 have u:∀ b∈i,b<s1.heap.objs.size:=λb f=>by
  obtain⟨o,e,_⟩:=T.obj _ _ v b f;rw[l];exact Heap.lt_size e
 have J0:=qg (h₁:=h₁) (t':=s1.toks+([]:List (Str×Value)).length) c L j u (Nat.le_refl _) (by simpa using hns₁) G;have F:K 0 h₁:=T.keep _ _ _ (by rw[l];exact v:K 0 s1.heap) λb _ o e=>G b o e
 have Z:∀{H':Hp},(∀ b∈i,H' b=none)->∀ b∈i,io (cxB X sc s1.heap.objs.size N s1 (upd H D (.lst [])) i) [] H' b:=λ{H'} O b f=>by
  obtain⟨f0,f1,f2,f3,f4,f5⟩:=j b f;refine⟨O b f,Nat.ne_of_lt (u b f),?_,.inl f,λx d e=>f4 x d (fH (c.cells I.ok) (λn c z=>by simp at z) e),λp hp=>absurd (show p∈([]:List (Addr×Obj)) from hp) (by simp)⟩;intro z
  rcases mem_cons.mp (L.stkSub b z) with q | q
  .exact f1 q
  .exact f2 q
 have P:∀{A:St}{H':Hp}{s':Shared}{ys:List V},Inv (cxB X sc s1.heap.objs.size N s1 (upd H D (.lst [])) i) [] A H' s'->Q D H' ys->RR (.ref D) s1.heap.objs.size (.ok .next) s':=λ{A H' s' ys} J q =>
  hR D _ H' s' ys (ni L j J) (L.fpOk (Nat.le_refl _) J.free) (let ⟨m,O,_⟩:=J.loc;⟨m,O⟩) q
 have r:codeAny (model X.prog X.w) X.A (.compLoop (.ListComp elt [⟨tg,iter,ifs,0⟩] sc pos) 0 (.ref S) (.ref D) (cxB X sc s1.heap.objs.size N s1 (upd H D (.lst [])) i).env) (RR (.ref D) s1.heap.objs.size) { s1 with heap:=h₁,toks:=s1.toks+([]:List (Str×Value)).length } :=
  pY (X:=cxB X sc s1.heap.objs.size N s1 (upd H D (.lst [])) i) hc rfl T (B.tg _ _ _ _) (B.tests _ _ _ _) (B.elt _ _ _ _) w Z P J0 F (λb f=>(j b f).1) w0
 exact codeAny_compStart_list r (T.self _ 0 _ _ _ F r)
theorem aT(R:X.calm=true)(c:CompOk X sc N ix)(K:PI X tg iter wi)(B:Blk X sc N tg elt ifs g tt te)(G:∀ x,foldedSetIterable iter X.env x=pure x:=by intro _;rfl):PE X (.ListComp elt [⟨tg,iter,ifs,0⟩] sc pos) (vz ix wi g tt te):=by
 intro a s p H Q I h;rw[eval_ListComp];refine wpAny_comprehension_free (use:=none) rfl G (gJ (c.cells I.ok)) c.kind c.nm (thn (K a s p H _ I h) λxv l d=>thn d λitv s₂ h₂=>?_);obtain⟨W,Z,tn,J,H2,e,M,T,f,j,r⟩:=h₂;subst e;refine lj (RR:=λi C=>compPost (model X.prog X.w) X.A X.xe none (EP X a p Q) i C) (Q:=λD H _=>Q (.ref D) H) R c B M T f j r ?_;intro D C w F ys O E P q;refine⟨_,P.choose_spec,λY v=>⟨.ref D,w,?_,rfl,q⟩⟩;obtain⟨L,u,j,y,S,A⟩:=E;exact O.turned (t':=F.toks) (λb o z e=>(v.2 b z).trans e) L u y S A
theorem dR{i:Nat}{y:Str}{j f:Pos}(hc:X.calm = true)(hN:X.N.Nodup)(hy:X.N[i]? = some y)(O:X.env.scope.names.lookup y = some .local)
  (r:swapsWith (.ListComp elt [⟨tg,iter,ifs,0⟩] sc pos) (some (.Name y j)) f.line X.env=pure true)
  (c:CompOk X sc N ix) (hi:PI X tg iter wi) (B:Blk X sc N tg elt ifs g tt te) (hs:∀ x,foldedSetIterable iter X.env x=pure x:=by intro _;rfl) :
  PS X (.Assign [.Name y j] (.ListComp elt [⟨tg,iter,ifs,0⟩] sc pos) f) (vN (vz ix wi g tt te) (rq i)):=by
 intro d s M H w I h;rw[exec_Assign_Name_used _ _ _ _ r];refine wpAny_bind (wpAny_standAt (wpAny_bind ?_));show wpAny _ X.A (do let _ <- comprehension (.ListComp elt [⟨tg,iter,ifs,0⟩] sc pos) sc X.env _ (newList []) false (eval iter X.env) (some (assign (.Name y j) X.env))) _ _ s
 refine wpAny_bind (wpAny_mono (wpAny_comprehension_free (use:=some (assign (.Name y j) X.env)) (Q:=λ_ l=>SP X d w .next l) rfl hs (gJ (c.cells I.ok)) c.kind c.nm
  (thn (hi d s M H _ I h) λxv L p=>thn p λitv s₂ h₂=>?_)) (λ_ l hq=>wpAny_pure (wpAny_pure hq)) λ_ _ e=>e)
 obtain⟨it,fp,tn,J,H2,e,I2,T,u,K,R⟩:=h₂;subst e;refine lj (RR:=λF C=>compPost (model X.prog X.w) X.A X.xe (some (assign (.Name y j) X.env)) (λ_ l=>SP X d w .next l) F C) (Q:=λD H _=>w.nx (M.set i (some (.ref D))) H) hc c B I2 T u K R ?_;intro D C Y l ys I' fC ns q;show wpAny _ X.A (assign (.Name y j) X.env (.ref D)) _ _ _;obtain⟨f0,G,K,f3,P,f5⟩:=fC;refine wpAny_assign_Name (kW I' hN hy (.inl O) (v:=.ref D) rfl (λs2 J2 ⟨a,W,Z⟩=>?_) (.inr O));obtain⟨m,S⟩:=ns
 have A:C≠a:=by
  rcases Z with z | z
  .rw[z];exact G
  .exact λe=>P y a z e.symm
 refine⟨m,S.sameBut W A,λh3 E=>⟨_,Y,?_,q⟩⟩;exact J2.turned (t':=s2.toks) (λb o hb e=>(E.2 b hb).trans e) f0 G f3 P f5
end
section
variable {κ:Type} [DecidableEq κ]
def cm(kvs:List (κ×V))(k:κ):Option V:=(kvs.find? λkv=>decide (kv.1=k)).map (·.2)
def gj(kvs:List (κ×V))(k:κ)(v:V):List (κ×V) :=
 if (kvs.any λkv=>decide (kv.1=k))=true then kvs.map (λkv=>if kv.1=k then (kv.1,v) else kv) else kvs++[(k,v)]
theorem bP{p:κ×V}{r:List (κ×V)}{k:κ}(e:p.1=k):cm (p::r) k=some p.2:=by simp[cm,List.find?_cons,e]
theorem bR{p:κ×V}{r:List (κ×V)}{k:κ}(e:¬p.1=k):cm (p::r) k=cm r k:=by simp[cm,List.find?_cons,e]
theorem fQ(k:κ):∀ kvs:List (κ×V),(kvs.any λkv=>decide (kv.1=k))=(cm kvs k).isSome
 | []=>rfl
 | p::r=>by
  rw[any_cons]
  by_cases e:p.1=k
  .simp only[bP e,decide_eq_true e,Bool.true_or,Option.isSome_some]
  .rw[bR e,decide_eq_false e,Bool.false_or];exact fQ k r
theorem nC(k j:κ)(y:V):∀ kvs:List (κ×V),cm (kvs.map λkv=>if kv.1=k then (kv.1,y) else kv) j=(cm kvs j).map λx=>if j=k then y else x
 | []=>rfl
 | p::r=>by
  have a:=nC k j y r;rw[map_cons]
  by_cases h:p.1=k
  .rw[if_pos h]
   by_cases e:p.1=j
   .rw[bP (p:=(p.1,y)) e,bP e,Option.map_some,if_pos (e.symm.trans h)]
   .rw[bR (p:=(p.1,y)) e,bR e,a]
  .rw[if_neg h]
   by_cases e:p.1=j
   .rw[bP (p:=p) e,bP e,Option.map_some,if_neg (λz=>h (e.trans z))]
   .rw[bR (p:=p) e,bR e,a]
theorem lx(k j:κ)(y:V):∀ kvs:List (κ×V),cm kvs k=none->cm (kvs++[(k,y)]) j=if j=k then some y else cm kvs j
 | [],_=>by
  by_cases e:k=j
  .rw[if_pos e.symm];exact bP (p:=(k,y)) e
  .rw[if_neg (λz=>e z.symm)];exact bR (p:=(k,y)) e
 | p::r,hn=>by
  rw[cons_append];have a:¬p.1=k:=λz=>by rw[bP z]at hn;cases hn
  rw[bR a]at hn;have b:=lx k j y r hn
  by_cases e:p.1=j
  .rw[bP e,bP e,if_neg (λz=>a (e.trans z))]
  .rw[bR e,bR e,b]
theorem j8(b:List (κ×V))(k j:κ)(y:V):cm (gj b k y) j=if j=k then some y else cm b j:=by
 unfold gj
 by_cases a:(b.any λc=>decide (c.1=k))=true
 .rw[if_pos a,nC]
  rw[fQ]at a
  by_cases e:j=k
  .obtain⟨x,d⟩:=Option.isSome_iff_exists.mp a
   rw[if_pos e,e,d,Option.map_some,if_pos rfl]
  .rw[if_neg e]
   cases cm b j with
   | none=>rfl
   | some x=>rw[Option.map_some,if_neg e]
 .rw[if_neg a]
  refine lx k j y b ?_;rw[fQ]at a;cases q:cm b k with
  | none=>rfl
  | some x=>rw[q]at a;exact(a rfl).elim
theorem ju(a:List (κ×V))(k:κ)(v:V):(gj a k v).length<=a.length+1:=by
 unfold gj
 split
 .rw[length_map];lia
 .rw[length_append,length_cons,length_nil];lia
theorem rA{a:List (κ×V)}{k:κ}(v:V)(h:cm a k=none):gj a k v=a++[(k,v)]:=by
 unfold gj;rw[fQ,h];exact if_neg (by decide)
theorem RelO.isSome_eq{o:Option V}{u:Option Value}(r:RelO o u):o.isSome=u.isSome:=by
 cases o with
 | none=>cases u with
  | none=>rfl
  | some _=>exact(show False from r).elim
 | some _=>cases u with
  | none=>exact(show False from r).elim
  | some _=>rfl
theorem KV.val{a:List (κ×V)}{vs:List (κ×Value)}(r:KV a vs)(k:κ):RelO (cm a k) (valueAt vs k):=by
 unfold KV at r
 induction r with
 | nil=>exact True.intro
 | @cons p q ps qs h t ih =>
  obtain⟨d,f⟩:=h
  by_cases e:p.1=k
  .have c:q.1=k:=d.symm.trans e
   have b:valueAt (q::qs) k=some q.2:=by simp[valueAt,List.find?_cons,c]
   rw[bP e,b];exact f
  .have c:¬q.1=k:=λz=>e (d.trans z)
   have b:valueAt (q::qs) k=valueAt qs k:=by simp[valueAt,List.find?_cons,c]
   rw[bR e,b];exact ih
theorem KV.any{a:List (κ×V)}{vs:List (κ×Value)}(r:KV a vs)(k:κ):(a.any λkv=>decide (kv.1=k))=vs.any λkv=>decide (kv.1=k):=by
 unfold KV at r
 induction r with
 | nil=>rfl
 | cons h t ih=>rw[any_cons,any_cons,ih,h.1]
theorem KV.repl{a:List (κ×V)}{vs:List (κ×Value)}(r:KV a vs)(k:κ){y:V}{u:Value}(c:RelV y u) :
  KV (a.map λkv=>if kv.1=k then (kv.1,y) else kv) (vs.map λkv=>if kv.1=k then (kv.1,u) else kv):=by
 unfold KV at r ⊢
 induction r with
 | nil=>exact .nil
 | @cons p q ps qs h t ih =>
  rw[map_cons,map_cons];refine .cons ?_ ih;obtain⟨b,d⟩:=h
  by_cases e:p.1=k
  .rw[if_pos e,if_pos (b.symm.trans e)];exact⟨b,c⟩
  .rw[if_neg e,if_neg (λz=>e (b.trans z))];exact⟨b,d⟩
theorem KV.put{a:List (κ×V)}{vs:List (κ×Value)}(r:KV a vs)(k:κ){y:V}{u:Value}(b:RelV y u):KV (gj a k y) (stored vs k u):=by
 unfold gj stored;rw[r.any k]
 by_cases e:(vs.any λc=>decide (c.1=k))=true
 .rw[if_pos e,if_pos e];exact r.repl k b
 .rw[if_neg e,if_neg e];exact Paired.snoc r ⟨rfl,b⟩
theorem KV.length{a:List (κ×V)}{vs:List (κ×Value)}(r:KV a vs):a.length=vs.length:=Paired.length r
end
theorem pC{P:Program}{w:World}{k:Key}{u:Value}(r:RelV (kV k) u):(bq P w).is k u=true:=by
 cases k with
 | inl i=>obtain⟨t,e⟩:=(show ∃ t,u=Value.int i t from r);subst e;exact m9 P w i t
 | inr x=>obtain⟨t,e⟩:=(show ∃ t,u=Value.str x t from r);subst e;exact nO P w x t
theorem lr{P:Program}{w:World}:∀{ks:List Key}{us:List Value},Vals (ks.map kV) us->ItemsAre (bq P w) ks us
 | [],_,r=>by rw[map_nil]at r;cases r;exact .nil
 | k::ks,_,r=>by
  rw[map_cons]at r;cases r with
  | cons h t=>exact .cons (pC h) (lr t)
abbrev KT(H:Hp):List (List Key×V)->List (List Key×Addr×Value)->Prop:=Paired λp q=>p.1=q.1/\H q.2.1=some (.tup (p.1.map kV))/\RelV p.2 q.2.2
theorem KT.val{H:Hp}{a:List (List Key×V)}{xs:List (List Key×Addr×Value)}(r:KT H a xs)(k:List Key):RelO (cm a k) ((atKey xs k).map (·.2)):=by
 induction r with
 | nil=>exact True.intro
 | @cons p q ps qs h t ih =>
  obtain⟨d,_,f⟩:=h
  by_cases e:p.1=k
  .have c:q.1=k:=d.symm.trans e
   have b:atKey (q::qs) k=some q.2:=by simp[atKey,List.find?_cons,c]
   rw[bP e,b];exact f
  .have c:¬q.1=k:=λz=>e (d.trans z)
   have b:atKey (q::qs) k=atKey qs k:=by simp[atKey,List.find?_cons,c]
   rw[bR e,b];exact ih
theorem KT.repl{H:Hp}{a:List (List Key×V)}{xs:List (List Key×Addr×Value)}(r:KT H a xs)(k:List Key){y:V}{u:Value}(d:RelV y u) :
  KT H (a.map λkv=>if kv.1=k then (kv.1,y) else kv) (xs.map (putAt k u)):=by
 induction r with
 | nil=>exact .nil
 | @cons p q ps qs h t ih =>
  rw[map_cons,map_cons];refine .cons ?_ ih;obtain⟨b,c,f⟩:=h;unfold putAt
  by_cases e:p.1=k
  .rw[if_pos e,if_pos (b.symm.trans e)];exact⟨b,c,d⟩
  .rw[if_neg e,if_neg (λz=>e (b.trans z))];exact⟨b,c,f⟩
theorem KT.put{H:Hp}{a:List (List Key×V)}{xs:List (List Key×Addr×Value)}(r:KT H a xs)(k:List Key){b:Addr}{y:V}{u:Value}(f:H b=some (.tup (k.map kV)))(c:RelV y u) :
  KT H (gj a k y) (storedH xs k b u):=by
 have e:(a.any λd=>decide (d.1=k))=(atKey xs k).isSome:=by
  rw[fQ,(r.val k).isSome_eq,Option.isSome_map]
 unfold gj storedH;rw[e]
 by_cases q:(atKey xs k).isSome=true
 .rw[if_pos q,if_pos q];exact r.repl k c
 .rw[if_neg q,if_neg q];exact Paired.snoc r ⟨rfl,f,c⟩
theorem KT.keeps{H c:Hp}{a:List (List Key×V)}{xs:List (List Key×Addr×Value)}(r:KT H a xs)(d:∀ b ys,H b=some (.tup ys)->c b=some (.tup ys)):KT c a xs :=
 Paired.mapP r λ_ _ z=>⟨z.1,d _ _ z.2.1,z.2.2⟩
section
variable {P:Program}{w:World}{H:Hp}{h:Heap}{a:Addr}
theorem u7{u:HO}(b:HOk P w H h)(e:Rd H a u):ObjOk P w H h a u:=e.ok b
theorem q0{b:List (Key×V)}(c:HOk P w H h)(e:Rd H a (.dK b)):b.length<=sizeLine/\(a == sysModules)=false/\∃ vs,KV b vs/\h.DictOf (bq P w) a vs :=
 show ObjOk P w H h a (.dK b) from u7 c e
theorem pe{b:List (Key×V)}(c:HOk P w H h)(e:H a=some (.dK b)):b.length<=sizeLine/\(a == sysModules)=false/\∃ vs,KV b vs/\h.DictOf (bq P w) a vs:=q0 c (.inl e)
theorem oS{c:List Key}(f:HOk P w H h)(e:H a=some (.tup (c.map kV))):(tupleKind (bq P w)).is h c a:=by
 obtain⟨_,b,r,o,d,g,n,i⟩:=(show ObjOk P w H h a (.tup (c.map kV)) from f a _ e)
 exact⟨o,b.toArray,n,d,g,i,by simpa using lr r⟩
theorem tu{b:List (List Key×V)}(d:HOk P w H h)(e:Rd H a (.dT b)):b.length<=sizeLine/\(a == sysModules)=false /\
  ∃ xs,KT H b xs/\h.DictOfH (tupleKind (bq P w)) a xs:=by
 obtain⟨z,y,xs,r,o,i,j,g,s,v,u,f⟩:=(show ObjOk P w H h a (.dT b) from u7 d e)
 refine⟨z,y,xs,r,o,i,j,g,s,v,u,λx hx=>?_,f⟩
 have c:∀{l:List (List Key×V)}{m:List (List Key×Addr×Value)},KT H l m->∀ x∈m,(tupleKind (bq P w)).is h x.1 x.2.1:=by
  intro l m q
  induction q with
  | nil=>intro x hx;exact nomatch hx
  | @cons p q ps qs hq t ih =>
   intro x hx
   rcases mem_cons.mp hx with e | hx
   .subst e
    exact oS d (by rw[<- hq.1];exact hq.2.1)
   .exact ih x hx
 exact c r x hx
theorem xM{b:List (List Key×V)}(c:HOk P w H h)(e:H a=some (.dT b)):b.length<=sizeLine/\(a == sysModules)=false /\
  ∃ xs,KT H b xs/\h.DictOfH (tupleKind (bq P w)) a xs:=tu c (.inl e)
end
def DGet(H:Hp)(a:Addr)(y:V)(r:Option V):Prop :=
 (∃ kvs k,Rd H a (.dK kvs)/\y=kV k/\r=cm kvs k)\/∃ kvs k b,Rd H a (.dT kvs)/\y=.ref b/\H b=some (.tup (k.map kV))/\r=cm kvs k
def DPut(H:Hp)(a:Addr)(y v:V)(H':Hp):Prop :=
 (∃ kvs k,H a=some (.dK kvs)/\y=kV k/\kvs.length<sizeLine/\H'=upd H a (.dK (gj kvs k v))) \/
 ∃ kvs k b,H a=some (.dT kvs)/\y=.ref b/\H b=some (.tup (k.map kV))/\kvs.length<sizeLine/\H'=upd H a (.dT (gj kvs k v))
theorem DGet.k{H:Hp}{a:Addr}{b:List (Key×V)}{k:Key}(e:H a=some (.dK b)):DGet H a (kV k) (cm b k):=.inl ⟨b,k,.inl e,rfl,rfl⟩
theorem DPut.k{H:Hp}{a:Addr}{b:List (Key×V)}{k:Key}{v:V}(e:H a=some (.dK b))(c:b.length<sizeLine):DPut H a (kV k) v (upd H a (.dK (gj b k v))):=.inl ⟨b,k,e,rfl,c,rfl⟩
section
variable {X:Cx}{pins:List (Addr×Obj)}{σ:St}{H:Hp}{s:Shared}{a:Addr}{y v:V}{u r:Value}{o:Option V}{A:Around}{E:Value->Shared->Prop}
theorem Inv.big(I:Inv X pins σ H s):sysModules<s.heap.objs.size:=by
 have h:mainGlobals<s.heap.objs.size:=(I.mod.glob.keeps I.bk).lt;exact Nat.lt_trans (by decide) h
theorem p4{Q:Value->Shared->Prop}(D:A.units+1<cLine)(I:Inv X pins σ H s)(g:DGet H a y (some v))(x:RelV y u)(h:∀ w' s',Inv X pins σ H s'->RelV v w'->Q w' s') :
  wpAny (model X.prog X.w) A (getItem (.ref a) u) Q E s:=by
 rcases g with⟨r,k,e,i,l⟩ | ⟨r,k,b,e,i,F,l⟩
 .subst i
  obtain⟨z,G,B,d,j⟩:=q0 I.hok e;obtain⟨w',w,c⟩:=RelO.some_of (v:=v) (o:=valueAt B k) (by rw[l];exact d.val k);exact wpAny_getItem_of (pC x) j.mapOf w (h w' _ (I.tok _) c)
 .subst i
  cases(show u=Value.ref b from x);obtain⟨z,G,C,d,j⟩:=tu I.hok e;obtain⟨w',w,c⟩:=RelO.some_of (v:=v) (o:=(atKey C k).map (·.2)) (by rw[l];exact d.val k);obtain⟨p,K,f⟩:=Option.map_eq_some_iff.mp w;refine wpAny_getItem_heap (tupleKind_room_in1 D) (oS I.hok F) j K ?_;rw[f];exact h w' _ (I.tok _) c
theorem lX{h':Heap}{t':Nat}{d:HO}(I:Inv X pins σ H s)(i:Mut (H a))(g:Heap.SameBut a s.heap h')(f:∃ q,h'.get? a=some q)(c:ObjOk X.prog X.w (upd H a d) h' a d) :
  Inv X pins σ (upd H a d) { s with heap:=h',toks:=t' } :=
 I.write (x:=a) (e:=a) i (.inl rfl) (λb q h z=>(g.2 b h).trans z) f c
theorem sB{P:Program}{w:World}{d:Hp}{h':Heap}{b:List (Key×V)}{vs:List (Key×Value)}(z:b.length<=sizeLine)(f:(a == sysModules)=false)(c:KV b vs)(e:h'.DictOf (bq P w) a vs) :
  ObjOk P w d h' a (.dK b):=⟨z,f,vs,c,e⟩
theorem qV{F:Hp}{Q:Unit->Shared->Prop}(T:A.units+1<cLine)(I:Inv X pins σ H s)(g:DPut H a y v F)(M:RelV y u)(G:RelV v r)(h:∀ s',Inv X pins σ F s'->Q () s') :
  wpAny (model X.prog X.w) A (setItem (.ref a) u r) Q E s:=by
 rcases g with⟨f,k,e,x,l,o⟩ | ⟨f,k,b,e,x,K,l,o⟩
 .subst x o
  obtain⟨z,p,S,d,B⟩:=pe I.hok e;have D:S.length<=sizeLine:=by rw[<- d.length];exact z
  have C:(gj f k v).length<=sizeLine:=by have:=ju f k v;lia
  refine wpAny_setItem_pairs (hsz:=D) (pC M) B λL i w=>h _ ?_
  have W:∃ q,L.get? a=some q:=let ⟨q,_,_,j,_⟩:=i;⟨q,j⟩;exact lX I (by rw[e];exact True.intro) w W (sB C p (d.put k G) i)
 .subst x o
  cases(show u=Value.ref b from M);obtain⟨z,p,Y,d,B⟩:=xM I.hok e;have D:Y.length<=sizeLine:=by rw[<- Paired.length d];exact z
  have C:(gj f k v).length<=sizeLine:=by have:=ju f k v;lia
  refine wpAny_setItem_heap (hsz:=D) (tupleKind_room_in1 T) (oS I.hok K) B λL i w=>h _ ?_
  obtain⟨q,O,P,j,Z,h3,R,_,N⟩:=i;refine lX I (by rw[e];exact True.intro) w ⟨q,j⟩ ⟨C,p,_,(d.put k K G).keeps λc ys ec=>?_,q,O,P,j,Z,h3,R,N⟩;rw[az (pH ec e (λz=>nomatch z))];exact ec
end
section
variable {X:Cx}{pins:List (Addr×Obj)}{σ:St}{H:Hp}{s:Shared}{a:Addr}{kvs:List (Key×V)}{k:Key}{u:Value}{A:Around}{E:Value->Shared->Prop}
end
def xK(i:Expr):Prop:=∀ ov iv,subscripted i false ov iv=operate [ov,iv] (getItem ov iv)
theorem tZ{prog:Program}{w:World}{A:Around}{E:Value->Shared->Prop}{s:Shared}{env:Env}{b a:Expr}{j:Pos}{T p:String}{Q:Value->Shared->Prop}
  (v:typeLookup (.type T) "__getitem__" = pure (some (.builtin p))) (u:xK a)
  (h:wpAny (model prog w) A (eval b env) (λo s₁=>wpAny (model prog w) A (eval a env) (λi s₂=>s₂.TypeIs o T/\wpAny (model prog w) A (getItem o i) Q E s₂) E s₁) E s) :
  wpAny (model prog w) A (eval (.Subscript b a j) env) Q E s:=by
 refine Subscript_ (wpAny_mono h (λo s₁ f=>wpAny_mono f (λi s₂ c=>?_) λ_ _ x=>x) λ_ _ x=>x);obtain⟨l,c⟩:=c;unfold subscriptTail;refine wpAny_bind ?_;rw[getitemInPython_of_ne l.not_modules];refine wpAny_bind (wpAny_specialOf l v ?_)
 have e:wpAny (model prog w) A (subscripted a false o i) (λr d=>wpAny (model prog w) A (letTemporaryGo b o r >>= λ_=>pure r) Q E d) E s₂:=by
  rw[u o i];exact wpAny_operating (wpAny_mono c (λr d g=>wpAny_bind (wpAny_letTemporaryGo (wpAny_pure g))) λ_ _ x=>x)
 first
  | exact wpAny_pure (wpAny_bind e)
  | exact wpAny_bind (wpAny_pure (wpAny_bind e))
  | exact wpAny_bind e
theorem mX{X:Cx}{c:List (Addr×Obj)}{h:St}{H:Hp}{s:Shared}{a:Addr}{y:V}{o:Option V}(I:Inv X c h H s)(g:DGet H a y o):s.TypeIs (.ref a) "dict" := by
 rcases g with⟨f,k,e,_,_⟩ | ⟨f,k,b,e,_,_,_⟩
 .obtain⟨_,_,i,_,d⟩:=q0 I.hok e
  exact d.typeIs
 .obtain⟨_,_,j,_,d⟩:=tu I.hok e
  exact d.typeIs
inductive rDGet(x y:V)(H:Hp)(Q:VK):Prop
 | mk(a:Addr)(v:V)(h0:x=.ref a)(h1:DGet H a y (some v))(h2:Q v H):rDGet x y H Q
def xO(td ty:TE):TE:=λσ H Q=>td σ H λx H1=>ty σ H1 λy H2=>rDGet x y H2 Q
def xx(td ty tv:TE):TS:=λD σ H=>tv σ H λv H1=>td σ H1 λx H2=>ty σ H2 λy H3=>∃ a H4,x=.ref a/\DPut H3 a y v H4/\D.nx σ H4
section
variable {X:Cx}{o i e value:Expr}{pos pos' tpos:Pos}{td ty tv:TE}
theorem ua(r:X.A.units+1<cLine)(f:PE X o td)(p:PE X i ty)(z:xK i):PE X (.Subscript o i pos) (xO td ty):=by
 intro b s d H Q I h;refine tZ PySem.F.slot_dict_getitem.lookup z (thn (f b s d H _ I h) λu e ⟨x,A,B,l,w⟩=>thn (p b e d A _ B w) λiv s2 ⟨y,H2,I2,ry,a,v,ex,g,q2⟩=>?_);subst ex;obtain rfl:u=Value.ref a:=l;exact⟨mX I2 g,p4 r I2 g ry λD C j c=>⟨v,H2,j,c,q2⟩⟩
theorem uB(p:X.A.units+1<cLine)(j:PE X o td)(l:PE X i ty)(f:PE X value tv)(B:swapsWith value (some (.Subscript o i pos')) pos.line X.env=pure false) :
  PS X (.Assign [.Subscript o i pos'] value pos) (xx td ty tv):=by
 intro b s c H D I h;refine wpAny_Assign_Subscript (thn (f b s c H _ I h) λr e ⟨v,A,C,w,z⟩=>thn (j b e c A _ C z) λu s2 ⟨x,H2,I2,rx,q2⟩=>thn (l b s2 c H2 _ I2 q2) λiv s3 ⟨y,H3,I3,ry,a,H4,ex,g,q3⟩=>?_) B;subst ex;obtain rfl:u=Value.ref a:=rx
 exact qV p I3 g ry w λE d=>⟨c,H4,d,q3⟩
end
theorem sy{P:Program}{w:World}{H:Hp}(h:Heap)(a:sysModules<h.objs.size):ObjOk P w H (h.push { cls:=.type "dict",data:=.dict #[] }) h.objs.size (.dK []) :=
 ⟨Nat.zero_le _,beq_eq_false_iff_ne.mpr (Ne.symm (Nat.ne_of_lt a)),[],.nil,Heap.DictOf.new h⟩
def vZ:TE:=λ_ H Q=>∀ p,H p=none->Q (.ref p) (upd H p (.dK []))
section
variable {X:Cx}{pos:Pos}
theorem ny:PE X (.Dict [] [] pos) vZ:=λb s c H Q I h =>
 wpAny_Dict_empty ⟨.ref s.heap.objs.size,_,I.laid (a:=s.heap.objs.size) (o:=.dK []) (t':=s.toks) (λ_ _ q=>Heap.get?_push_of_some _ q) (Nat.le_refl _) (sy s.heap I.big),rfl,h _ (I.hok.fresh (Nat.le_refl _))⟩
end
section
variable {X:Cx}{pins:List (Addr×Obj)}{σ:St}{H:Hp}{s:Shared}{a:Addr}{y d:V}{u r:Value}{o:Option V}{A:Around}{E:Value->Shared->Prop}
end
section
variable {X:Cx}{o e f:Expr}{apos cpos:Pos}{td ty tx:TE}
end
section
variable {X:Cx}{pins:List (Addr×Obj)}{σ:St}{H:Hp}{s:Shared}{a:Addr}{kvs:List (Key×V)}{A:Around}{E:Value->Shared->Prop}
end
section
variable {X:Cx}{pins:List (Addr×Obj)}{σ:St}{H:Hp}{s:Shared}{a:Addr}{y:V}{u:Value}{A:Around}{E:Value->Shared->Prop}
end
theorem OpR.imp{X:Cx}{f:Value->Value->Sem Value}{r b:R2}(h:OpR X f r)(i:∀ x y H Q,b x y H Q->r x y H Q):OpR X f b :=
 λa s e H x y v u Q I d c q=>h a s e H x y v u Q I d c (i x y H Q q)
theorem CallR.imp{X:Cx}{f:Value}{r b:List V->Hp->VK->Prop}(h:CallR X f r)(i:∀ xs H Q,b xs H Q->r xs H Q):CallR X f b :=
 λa s c H xs e Q I d q=>h a s c H xs e Q I d (i xs H Q q)
def tV(i:Nat):TE:=λσ H Q=>match σ[i]? with
 | some (some v)=>Q v H
 | _=>False
theorem vr{X:Cx}(i:Nat){x:Str}{b:Pos}(f:X.N[i]? = some x:=by rfl)(d:Vis X.env.scope x:=by first | exact Or.inl rfl | exact Or.inr (Or.inl rfl) | exact Or.inr (Or.inr rfl))(j:(x == ("__debug__" : Str))=false:=by decide)
  (c:(x == ("__classdict__" : Str))=false:=by decide):PE X (.Name x b) (tV i):=λa s g H Q I h=>by
 refine wr f d j c a s g H Q I ?_;unfold tV at h
 split at h
 .rename_i v e
  exact⟨v,e,h⟩
 .exact h.elim
def rI2(g:Int->Int->V):R2:=λx y H Q=>match x,y with
 | .int i,.int j=>Q (g i j) H
 | _,_=>False
def rIC(C:Int->Int->Prop)(g:Int->Int->V):R2:=λx y H Q=>match x,y with
 | .int i,.int j=>C i j/\Q (g i j) H
 | _,_=>False
theorem OpR.i2{X:Cx}{f:Value->Value->Sem Value}{g:Int->Int->V}(h:OpR X f (rI0 g)):OpR X f (rI2 g):=h.imp λx y H Q q=>by
 cases x <;> cases y <;> first | exact⟨_,_,rfl,rfl,q⟩ | exact(show False from q).elim
theorem OpR.ic{X:Cx}{f:Value->Value->Sem Value}{C:Int->Int->Prop}{g:Int->Int->V}(h:OpR X f (rI C g)):OpR X f (rIC C g):=h.imp λx y H Q q=>by
 cases x <;> cases y <;> first | exact⟨_,_,rfl,rfl,q.1,q.2⟩ | exact(show False from q).elim
section
variable {X:Cx}
def wO:R2:=λx y H Q=>match x,y with
 | .int i,.int j=>Q (.int (i+j)) H
 | .str i,.str j=>i.length+j.length<=sizeLine/\Q (.str (i++j)) H
 | _,_=>False
theorem bE:OpR X (binaryOp .Add) wO:=(op_add.or om).imp λx y H Q q=>by
 cases x <;> cases y <;> first | exact .inl ⟨_,_,rfl,rfl,q⟩ | exact .inr ⟨_,_,rfl,rfl,q.1,q.2⟩ | exact(show False from q).elim
theorem d9:OpR X (binaryOp .Sub) (rI2 λi j=>.int (i - j)):=op_sub.i2
def xF(i j:Int):Prop:=0<j
def CNn(i j:Int):Prop:=0<=j
theorem cp{i j:Int}(h:0<j:=by decide):xF i j:=h
theorem cn{i j:Int}(h:0<=j:=by decide):CNn i j:=h
theorem cd{i j:Int}(h:0<j:=by decide)(h2:j<1073741824:=by decide):xX i j:=⟨h,h2⟩
theorem cw{i j:Int}(h:0<=j:=by decide)(h2:j<=1000000:=by decide)(a:i.natAbs<2 ^ 64:=by decide):vU i j:=⟨h,h2,a⟩
theorem cl{i j:Int}(h:-(2 ^ 64)<i:=by decide)(h2:i<2 ^ 64:=by decide):CMul i j:=.inl ⟨h,h2⟩
theorem cr{i j:Int}(h:-(2 ^ 64)<j:=by decide)(h2:j<2 ^ 64:=by decide):CMul i j:=.inr ⟨h,h2⟩
theorem cP:OpR X (binaryOp .Mod) (rIC xF λi j=>.int (i % j)):=op_mod.ic
theorem nA:OpR X (binaryOp .Pow) (rIC vU λi j=>.int (i ^ j.toNat)):=op_pow.ic
theorem xz:OpR X (binaryOp .RShift) (rIC CNn λi j=>.int (i/2 ^ j.toNat)):=op_shr.ic
theorem qt:OpR X (compareOp .LtE) (λx y H Q=>∃ i j,x=.str i/\y=.str j/\Q (.bl (!decide (j.cps.toList<i.cps.toList))) H):=by
 intro a s e H x y v u Q I c b h;obtain⟨i,j,rfl,rfl,q⟩:=h;obtain⟨t,rfl⟩:=c;obtain⟨d,rfl⟩:=b;exact PySem.P.le_str (aW I q rfl)
def vy(f:Int->Int->Bool)(g:Str->Str->Bool):R2:=λx y H Q=>match x,y with
 | .int i,.int j=>Q (.bl (f i j)) H
 | .str i,.str j=>Q (.bl (g i j)) H
 | _,_=>False
theorem oQ:OpR X (compareOp .Lt) (vy (λi j=>decide (i<j)) λi j=>decide (i.cps.toList<j.cps.toList)):=(op_lt.or qY).imp λx y H Q q=>by
 cases x <;> cases y <;> first | exact .inl ⟨_,_,rfl,rfl,q⟩ | exact .inr ⟨_,_,rfl,rfl,q⟩ | exact(show False from q).elim
theorem n8:OpR X (compareOp .LtE) (vy (λi j=>decide (i<=j)) λi j=>!decide (j.cps.toList<i.cps.toList)):=(op_le.or qt).imp λx y H Q q=>by
 cases x <;> cases y <;> first | exact .inl ⟨_,_,rfl,rfl,q⟩ | exact .inr ⟨_,_,rfl,rfl,q⟩ | exact(show False from q).elim
theorem vT:OpR X (compareOp .Gt) (rI2 λi j=>.bl (decide (j<i))):=op_gt.i2
theorem xQ:OpR X (compareOp .GtE) (rI2 λi j=>.bl (decide (j<=i))):=op_ge.i2
def xo(neg:Bool):R2:=λx y H Q=>match x,y with
 | .int i,.int j=>Q (.bl (if neg then !decide (i=j) else decide (i=j))) H
 | .str i,.str j=>Q (.bl (if neg then !decide (i=j) else decide (i=j))) H
 | .bl i,.bl j=>Q (.bl (if neg then !decide (i=j) else decide (i=j))) H
 | .non,.non=>Q (.bl (!neg)) H
 | .non,.int _=>Q (.bl neg) H
 | .non,.str _=>Q (.bl neg) H
 | .non,.bl _=>Q (.bl neg) H
 | .int _,.non=>Q (.bl neg) H
 | .str _,.non=>Q (.bl neg) H
 | .bl _,.non=>Q (.bl neg) H
 | .int _,.str _=>Q (.bl neg) H
 | .str _,.int _=>Q (.bl neg) H
 | _,_=>False
theorem be:OpR X (compareOp .Eq) (xo false):=op_eq.imp λx y H Q q=>by
 cases x <;> cases y <;> first | exact(show False from q).elim | exact⟨rfl,q⟩ | exact⟨rfl,by rw[jL];exact q⟩ | exact⟨rfl,by rw[ma];exact q⟩ | exact⟨rfl,by rw[jG];exact q⟩
theorem nM:OpR X (compareOp .NotEq) (xo true):=op_ne.imp λx y H Q q=>by
 cases x <;> cases y <;> first | exact(show False from q).elim | exact⟨rfl,q⟩ | exact⟨rfl,by rw[jL];exact q⟩ | exact⟨rfl,by rw[ma];exact q⟩ | exact⟨rfl,by rw[jG];exact q⟩
def rU1(g:Int->V):V->Hp->VK->Prop:=λx H Q=>match x with
 | .int i=>Q (g i) H
 | _=>False
theorem kY:UnR X (unaryOp .USub) (rU1 λi=>.int (-i)):=λa s b H x v Q I r q=>wz a s b H x v Q I r (by
 cases x <;> first | exact⟨_,rfl,q⟩ | exact(show False from q).elim)
def yE(neg:Bool):R2:=λx y H Q=>match x,y with
 | .str i,.str j=>Q (.bl (if neg then (Builtin.Str.occurrences j i 0 j.length 1).isEmpty else !(Builtin.Str.occurrences j i 0 j.length 1).isEmpty)) H
 | _,_=>False
theorem wZ:OpR X (compareOp .In) (yE false):=op_in_str.imp λx y H Q q=>by
 cases x <;> cases y <;> first | exact⟨_,_,rfl,rfl,q⟩ | exact(show False from q).elim
def mB(Q:Bool->Hp->Prop):VK:=λx H=>match x with
 | .bl c=>Q c H
 | _=>False
variable {a b c:Expr}{ta tb tc:TE}{pos:Pos}{bM:List Expr}
def yQ(ta tb:TE):TE:=λσ H Q=>ta σ H (mB λc H1=>if c=true then tb σ H1 Q else Q (.bl false) H1)
def yM(ta:TE):TE:=λσ H Q=>ta σ H (mB λc H1=>Q (.bl (!c)) H1)
theorem iw{Q:Bool->Hp->Prop}{x:V}{H:Hp}(h:mB Q x H):∃ c,x=.bl c/\Q c H:=by
 cases x <;> first | exact⟨_,rfl,h⟩ | exact(show False from h).elim
theorem rY(o:PE X a ta)(p:PE X (.BoolOp .And (b::bM) pos) tb):PE X (.BoolOp .And (a::b::bM) pos) (yQ ta tb):=by
 intro d s f H Q I h;refine BoolOp_and (thn (o d s f H _ I h) λv j ⟨x,g,i,l,e⟩=>?_);obtain⟨c,rfl,e⟩:=iw e;cases l;refine wpAny_truthy_bool ?_;cases c with
 | true=>exact p d j f g Q i e
 | false=>exact⟨.bl false,g,i,rfl,e⟩
theorem wW(g:PE X a ta):PE X (.UnaryOp .Not a pos) (yM ta):=by
 intro b s f H Q I h;refine UnaryOp_ (thn (g b s f H _ I h) λv l ⟨x,i,j,e,d⟩=>?_);obtain⟨c,rfl,d⟩:=iw d;cases e;exact not_of (wpAny_truthy_bool ⟨.bl (!c),i,j,rfl,d⟩)
def mT(t:TE):TT:=λσ H Q=>t σ H (mB Q)
theorem dY(h:PE X a ta)(c:∀ whole,isTrue a X.env whole=(do let v <- whole;standAt a.pos;holding [v] (truthy v)):=by intro _;rfl):PT X a (mT ta):=by
 intro b s f H Q I j;refine isTrue_plain (thn (h b s f H _ I j) λv o ⟨x,i,l,e,g⟩=>?_) (c _);obtain⟨d,rfl,q⟩:=iw g;cases e;exact wpAny_truthy_bool ⟨i,l,q⟩
theorem aG{e:CmpOp}{r:R2}(j:OpR X (compareOp e) r)(C:PE X a ta)(F:PE X b tb)(w:behindInMarks e b=false):PT X (.Compare a [e] [b] pos) (mT (tOp r ta tb)):=by
 intro d s f H Q I h
 refine wpAny_isTrue_Compare1 (thn (C d s f H _ I h) λv i ⟨x,D,p,A,B⟩=>thn (F d i f D _ p B) λu s2 ⟨y,H2,I2,r2,q2⟩ =>
  thn (j d s2 f H2 x y v u _ I2 A r2 q2) λc G ⟨z,E,l,o,g⟩=>?_) w
 obtain⟨k,rfl,g⟩:=iw g;cases o;exact wpAny_truthy_bool ⟨E,l,g⟩
def rm(r r':R2)(ta tb tc:TE):TE:=λσ H Q=>ta σ H λx H1=>tb σ H1 λy H2=>r x y H2 (mB λk H3=>if k=true then tc σ H3 λw' H4=>r' y w' H4 Q else Q (.bl false) H3)
theorem pE{l f:CmpOp}{r w:R2}(Y:OpR X (compareOp l) r)(j:OpR X (compareOp f) w)(C:PE X a ta)(D:PE X b tb)(W:PE X c tc)
  (F:lastMarks [l,f] [b,c]=false:=by with_unfolding_all rfl):PE X (.Compare a [l,f] [b,c] pos) (rm r w ta tb tc):=by
 intro e s g H Q I h
 refine Compare_chain (thn (C e s g H _ I h) λv M ⟨x,S,Z,P,B⟩=>chain_link (thn (D e M g S _ Z B) λu s2 ⟨y,H2,I2,r2,q2⟩ =>
  thn (Y e s2 g H2 x y v u _ I2 P r2 q2) λd A ⟨z,o,p,N,i⟩=>?_)) F
 obtain⟨k,rfl,i⟩:=iw i;cases N;refine wpAny_truthy_bool ?_;cases k with
 | false=>exact ite_ff ⟨.bl false,o,p,rfl,i⟩
 | true=>exact ite_tt (chain_last (thn (W e A g o _ p i) λR O ⟨G,L,T,E,K⟩=>j e O g L y G u R Q T r2 E K))
theorem tP{o f:CmpOp}{r A:R2}(Z:OpR X (compareOp o) r)(l:OpR X (compareOp f) A)(D:PE X a ta)(E:PE X b tb)(Y:PE X c tc)
  (G:lastMarks [o,f] [b,c]=false:=by with_unfolding_all rfl):PT X (.Compare a [o,f] [b,c] pos) (mT (rm r A ta tb tc)):=by
 intro e s g H Q I h
 refine isTrue_chain (thn (D e s g H _ I h) λv N ⟨x,S,I1,R,C⟩=>test_link (thn (E e N g S _ I1 C) λu s2 ⟨y,H2,I2,r2,q2⟩ =>
  thn (Z e s2 g H2 x y v u _ I2 R r2 q2) λd B ⟨z,p,w,O,i⟩=>?_)) G
 obtain⟨k,rfl,i⟩:=iw i;cases O;refine wpAny_truthy_bool ?_;cases k with
 | false=>exact ite_ff ⟨p,w,i⟩
 | true =>
  refine ite_tt (test_last (thn (Y e B g p _ w i) λT P ⟨K,M,W,F,L⟩=>thn (l e P g M y K u T _ W r2 F L) λd' s5 ⟨z2,H5,I5,r5,j⟩=>?_));obtain⟨k2,rfl,j⟩:=iw j;cases r5;exact wpAny_truthy_bool ⟨H5,I5,j⟩
open PySem.W in
theorem rP{f:List (Addr×Obj)}{j:St}{H:Hp}{s:Shared}{x:V}{u t:Value}(I:Inv X f j H s)(b:RelV x u)(ty:TyOf X.K H x t) :
  ∃ Hh:Heap->Prop,KitX X.K u t Hh/\Hh s.heap/\u≠.builtin "__main__.__loader__#opaque" := by
 cases ty with
 | non=>cases(show u=Value.none from b);exact⟨_,PySem.W.kitx_none,True.intro,λz=>nomatch z⟩
 | bl y=>cases(show u=Value.bool y from b);exact⟨_,PySem.W.kitx_bool,True.intro,λz=>nomatch z⟩
 | int i=>obtain⟨t,q⟩:=(show ∃ t,u=Value.int i t from b);cases q;exact⟨_,PySem.W.kitx_int,True.intro,λz=>nomatch z⟩
 | str y=>obtain⟨t,q⟩:=(show ∃ t,u=Value.str y t from b);cases q;exact⟨_,PySem.W.kitx_str,True.intro,λz=>nomatch z⟩
 | flt y=>obtain⟨t,q⟩:=(show ∃ t,u=Value.float y t from b);cases q;exact⟨_,PySem.W.kitx_float,True.intro,λz=>nomatch z⟩
 | @lst a d ea =>
  cases(show u=Value.ref a from b)
  obtain⟨_,_,n,_,c⟩:=(show ObjOk X.prog X.w H s.heap a (.lst d) from I.hok a _ ea)
  exact⟨_,kitx_list,⟨_,c,rfl⟩,λz=>nomatch z⟩
 | @frz a ob d ea =>
  cases(show u=Value.ref a from b)
  obtain⟨_,_,_,n,_,c⟩:=(show ObjOk X.prog X.w H s.heap a (.frz ob (.lst d)) from I.hok a _ ea)
  exact⟨_,kitx_list,⟨_,c,rfl⟩,λz=>nomatch z⟩
 | @tup a d ea =>
  cases(show u=Value.ref a from b)
  obtain⟨_,_,_,p⟩:=(show ObjOk X.prog X.w H s.heap a (.tup d) from I.hok a _ ea)
  obtain⟨o,c,e,_⟩:=p;exact⟨_,kitx_tuple,⟨o,c,e⟩,λz=>nomatch z⟩
 | @dK a kvs ea =>
  cases(show u=Value.ref a from b)
  obtain⟨_,_,l,_,p⟩:=(show ObjOk X.prog X.w H s.heap a (.dK kvs) from I.hok a _ ea)
  obtain⟨o,g,h,c,e,_⟩:=p;exact⟨_,kitx_dict,⟨o,c,e.1⟩,λz=>nomatch z⟩
 | @dT a kvs ea =>
  cases(show u=Value.ref a from b)
  obtain⟨_,_,d,_,o,g,h,c,e,_⟩:=(show ObjOk X.prog X.w H s.heap a (.dT kvs) from I.hok a _ ea)
  exact⟨_,kitx_dict,⟨o,c,e.1⟩,λz=>nomatch z⟩
 | @ins a C dx fs ea cl ha hn htk hm =>
  cases(show u=Value.ref a from b);obtain⟨v,O,_⟩:=jJ I.hok ea;obtain⟨r,J,_⟩:=O.look;exact⟨_,PySem.W.kitx_own (cl.get _) cl.hd ha hn htk hm,J,λz=>nomatch z⟩
def wE:V->Value
 | .ty n=>.type n
 | .ref a=>.ref a
 | _=>.none
def tG:V->Bool
 | .ty _=>true
 | .ref _=>true
 | _=>false
theorem pb{c:V}{u:Value}(h:tG c=true)(r:RelV c u):u=wE c:=by
 cases c <;> first | exact r | exact absurd (show false=true from h) Bool.false_ne_true
inductive rIsi(K:Frag)(xs:List V)(H:Hp)(Q:VK):Prop
 | mk(x c:V)(t:_)(b:Bool)(h0:xs=[x,c])(h1:tG c=true)(h2:TyOf K H x t)(h3:kitOne K t (wE c)=some b)(h4:Q (.bl b) H):rIsi K xs H Q
theorem cV:CallR X (.builtin "isinstance") (rIsi X.K):=by
 intro a s v H o y Q I r h;obtain⟨x,c,t,b,rfl,j,d,e,q⟩:=h;obtain⟨u,w,rfl,i,l⟩:=mO r;cases pb j l;obtain⟨z,Z,p,g⟩:=rP I i d
 exact kia_one Z I.kIn p e g λf=>⟨.bl b,H,I.tok f,rfl,q⟩
theorem qx(C:X.calm=true):CallR X (.builtin "all") (λxs H Q=>∃(p:Addr) (ys:List V) (bs:List Bool),xs=[.ref p]/\SqL X.K H p ys/\ys=bs.map V.bl/\Q (.bl (bs.all id)) H):=by
 intro w s L H xs E Q I r h;obtain⟨p,ys,bs,rfl,y,rfl,q⟩:=h;obtain⟨u,rfl,B⟩:=dw r;cases B;obtain⟨a,c,d,M⟩:=I.list y;have f:p<s.heap.objs.size:=by obtain⟨_,_,e,_⟩:=d;exact Heap.lt_size e
 refine call_all_walk (wpAny_pyIter_list d.isList ?_)
 refine⟨s.heap.objs.size,[s.heap.objs.size,p],[s.heap.objs.size],a.toArray.size,_,_,λi=>(bs[i]?).getD true,rfl,Walks.list (A:=X.A.in1) (I.ok.hd C) _ p (Nat.ne_of_lt f) a.toArray,
  ⟨⟨_,Heap.get?_push_size _ rfl,rfl,rfl⟩,d.isList.push _⟩,λi v F K G D j=>?_,λh' tk hk=>?_⟩
 .have o:a[i]? = some v:=by simpa using D
  have g:i<(bs.map V.bl).length:=by rw[c.length];exact(List.getElem?_eq_some_iff.mp o).1
  obtain⟨b,hb⟩:∃ b,bs[i]? = some b:=⟨bs[i]'(by simpa using g),by simp at g;simp[g]⟩
  obtain⟨u,l,z⟩:=c.get (i:=i) (x:=V.bl b) (by rw[List.getElem?_map,hb];rfl);rw[o]at l;cases l;cases z;simp only[hb,Option.getD_some]at j;exact wpAny_truthy_bool j
 .have e:((List.range a.toArray.size).all λi=>(bs[i]?).getD true)=bs.all id:=by
   rw[size_toArray,<- c.length,length_map];exact LSm.range_all bs
  rw[e];exact⟨.bl _,H,I.kept (LSm.kept_iter hk),rfl,q⟩
end
theorem v7{Q:V->Prop}{p r:Prop}[Decidable p][Decidable r](q:Q (.bl (decide (p/\r)))):if decide p=true then Q (.bl (decide r)) else Q (.bl false):=by
 by_cases h:p
 .rw[if_pos (decide_eq_true h)]
  have e:decide (p/\r)=decide r:=by by_cases z:r <;> simp[h,z]
  rw[<- e];exact q
 .rw[if_neg (λz=>h (of_decide_eq_true z))]
  have e:decide (p/\r)=false:=decide_eq_false λz=>h z.1
  rw[<- e];exact q
theorem ifP{c:Prop}[Decidable c]{A B:Prop}(a:c)(h:A):if decide c=true then A else B:=by rw[if_pos (decide_eq_true a)];exact h
theorem ifN{c:Prop}[Decidable c]{A B:Prop}(a:¬c)(h:B):if decide c=true then A else B:=by rw[if_neg (λz=>a (of_decide_eq_true z))];exact h
theorem ifC{c:Prop}[Decidable c]{A B:Prop}(a:c->A)(h2:¬c->B):if decide c=true then A else B:=by
 by_cases h:c
 .exact ifP h (a h)
 .exact ifN h (h2 h)
theorem ifB{b:Bool}{A B:Prop}(a:b=true->A)(h2:b=false->B):if b=true then A else B:=by
 cases b with
 | true=>rw[if_pos rfl];exact a rfl
 | false=>rw[if_neg Bool.false_ne_true];exact h2 rfl
theorem aQ:bootBuiltins "len" = some (.builtin "len"):=by decide +kernel
theorem aX:bootBuiltins "isinstance" = some (.builtin "isinstance"):=by decide +kernel
theorem v8:bootBuiltins "all" = some (.builtin "all"):=by decide +kernel
theorem gS:bootBuiltins "min" = some (.builtin "min"):=by decide +kernel
theorem oC:bootBuiltins "max" = some (.builtin "max"):=by decide +kernel
theorem lE:bootBuiltins "enumerate" = some (.type "enumerate"):=by decide +kernel
theorem sM:bootBuiltins "range" = some (.type "range"):=by decide +kernel
theorem sS:bootBuiltins "str" = some (.type "str"):=by decide +kernel
theorem oZ:bootBuiltins "int" = some (.type "int"):=by decide +kernel
theorem mw:bootBuiltins "bool" = some (.type "bool"):=by decide +kernel
theorem eA:bootBuiltins "list" = some (.type "list"):=by decide +kernel
theorem mY:bootBuiltins "tuple" = some (.type "tuple"):=by decide +kernel
theorem dz{X:Cx}{x:Str}{v:V}{a:Pos}(b:Gl X x)(h:∃ u,X.mg x=some u/\RelV v u)(c:(x == ("__debug__" : Str))=false:=by decide):PE X (.Name x a) (tC v) :=
 let ⟨_,e,r⟩:=h
 uc b e r c
def wX(K:Frag)(tl:TE):TI:=λσ H R=>tl σ H λx H1=>match x with
 | .str z=>R (Its z) H1
 | .ref a=>((∃ xs,SqL K H1 a xs)/\R (Itl K a) H1)\/((∃ xs,SqT K H1 a xs)/\R (Itt K a) H1)
 | _=>False
theorem aP{X:Cx}{tg l:Expr}{tl:TE}(w:PE X l tl):PI X tg l (wX X.K tl):=by
 intro g s C H R I h;have D:PE X l tl:=w;refine thn (w g s C H _ I h) λv c ⟨x,r,d,u,j⟩=>?_
 cases x with
 | str z =>
  have:=wv (X:=X) (tg:=tg) (l:=l) (tl:=tC (.str z));obtain⟨t,rfl⟩:=u;refine wpAny_pyIter_strU ?_;refine⟨c.heap.objs.size,[c.heap.objs.size],_,_,r,rfl,d.kept (t':=c.toks) λb o e=>Heap.get?_push_of_some _ e,mS (ty:=strIterType z) (t:=t) z _ ?_,⟨_,Heap.get?_push_size _ rfl,rfl,rfl⟩,λb hb=>?_,j⟩
  .unfold strIterType
   split
   .exact .inl rfl
   .exact .inr rfl
  .have e:b=c.heap.objs.size:=by simpa using hb
   subst e;exact d.fpOk (Nat.le_refl _) (d.hok.fresh (Nat.le_refl _))
 | ref a =>
  cases u
  rcases j with⟨⟨A,i⟩,q⟩ | ⟨⟨A,i⟩,q⟩
  .obtain⟨f,B,p,y⟩:=d.list i
   refine wpAny_pyIter_list p.isList ?_;refine⟨c.heap.objs.size,[c.heap.objs.size],_,_,r,rfl,d.kept (t':=c.toks) λb o e=>Heap.get?_push_of_some _ e,qG a _,⟨_,Heap.get?_push_size _ rfl,rfl,rfl⟩,λb hb=>?_,q⟩;have e:b=c.heap.objs.size:=by simpa using hb
   subst e;exact d.fpOk (Nat.le_refl _) (d.hok.fresh (Nat.le_refl _))
  .obtain⟨f,B,p,y⟩:=d.tuple i
   refine wpAny_pyIter_tuple (show c.heap.IsTuple a f.toArray from p) ?_;refine⟨c.heap.objs.size,[c.heap.objs.size],_,_,r,rfl,d.kept (t':=c.toks) λb o e=>Heap.get?_push_of_some _ e,oY a _,⟨_,Heap.get?_push_size _ rfl,rfl,rfl⟩,λb hb=>?_,q⟩;have e:b=c.heap.objs.size:=by simpa using hb
   subst e;exact d.fpOk (Nat.le_refl _) (d.hok.fresh (Nat.le_refl _))
 | _=>exact(show False from j).elim
inductive rLenSq(K:Frag)(p:Addr)(H:Hp)(Q:VK):Prop
 | mk(ys:List V)(h0:SqL K H p ys\/SqT K H p ys)(h1:Q (.int ys.length) H):rLenSq K p H Q
theorem aF{X:Cx}:CallR X (.builtin "len") (λxs H Q=>match xs with
  | [.str z]=>z.length<=sizeLine/\Q (.int z.length) H
  | [.ref p]=>rLenSq X.K p H Q
  | _=>False):=(call_len_str.or mq).imp λxs H Q q=>by
 match xs,q with
 | [.str z],q=>exact .inl ⟨z,rfl,q.1,q.2⟩
 | [.ref p],q=>obtain⟨a,h,q⟩:=q;exact .inr ⟨p,a,rfl,h,q⟩
section
variable {D:Addr}{σb:St}{g:TG}{tt:TT}{te:TE}{Q:Hp->List V->Prop}{H:Hp}{K:Frag}
def pi(D:Addr)(σb:St)(g:TG)(tt:TT)(te:TE)(x:V)(ys:List V)(H:Hp)(P:List V->Hp->Prop):Prop :=
 g x σb H λσ4 H4=>Wk σb σ4/\tt σ4 H4 λb H5=>if b=true then te σ4 H5 λy H6=>H6 D=some (.lst ys)/\ys.length<sizeLine/\P (ys++[y]) (upd H6 D (.lst (ys++[y]))) else P ys H5
theorem sg{z:Str}(d:Nat->List V->Hp->Prop)(l:d 0 [] H)(o:∀ i ys H,d i ys H->H D=some (.lst ys))
  (j:∀(i c:Nat) ys H P,z.cps[i]? = some c->d i ys H->(∀ a b,d (i+1) a b->P a b)->pi D σb g tt te (.str ⟨#[c]⟩) ys H P) (h:∀ ys H,d z.cps.size ys H->Q H ys):∃ W,(∃ m,W 0 m [] H)/\j0 (Its z) D σb g tt te Q W:=by
 refine⟨λi m ys H=>m=z.cps.size - i/\i<=z.cps.size/\d i ys H,⟨_,rfl,Nat.zero_le _,l⟩,?_⟩;rintro i m ys H ⟨rfl,r,p⟩;refine⟨o i ys H p,?_⟩
 by_cases hlt:i<z.cps.size
 .refine .inr ⟨hlt,λx s y=>?_⟩
  obtain⟨rfl,c,f,rfl⟩:=y;exact j i c ys _ (λa b=>∃ m',m'<z.cps.size - i/\m'=z.cps.size - (i+1)/\i+1<=z.cps.size/\d (i+1) a b) f p (λa b q=>⟨z.cps.size - (i+1),by lia,rfl,hlt,q⟩)
 .have e:i=z.cps.size:=by lia
  subst e;exact .inl ⟨Nat.le_refl _,h ys H p⟩
theorem aM{a:Addr}{xs:List V}(c:Nat->List V->Hp->Prop)(j:c 0 [] H)(d:∀ i ys H,c i ys H->SqL K H a xs)(l:∀ i ys H,c i ys H->H D=some (.lst ys))
  (h:∀(i:Nat) x ys H P,xs[i]? = some x->c i ys H->(∀ a b,c (i+1) a b->P a b)->pi D σb g tt te x ys H P) (f:∀ ys H,c xs.length ys H->Q H ys):∃ W,(∃ m,W 0 m [] H)/\j0 (Itl K a) D σb g tt te Q W:=by
 refine⟨λi m ys H=>m=xs.length - i/\i<=xs.length/\c i ys H,⟨_,rfl,Nat.zero_le _,j⟩,?_⟩;rintro i m ys H ⟨rfl,o,p⟩;refine⟨l i ys H p,?_⟩;have q:=d i ys H p
 by_cases hlt:i<xs.length
 .refine .inr ⟨⟨xs,xs[i],q,by simp[hlt]⟩,λx r y=>?_⟩
  obtain⟨rfl,y⟩:=y;exact h i x ys _ (λa b=>∃ m',m'<xs.length - i/\m'=xs.length - (i+1)/\i+1<=xs.length/\c (i+1) a b) (y xs q) p (λa b q=>⟨xs.length - (i+1),by lia,rfl,hlt,q⟩)
 .have e:i=xs.length:=by lia
  subst e;exact .inl ⟨⟨xs,q,Nat.le_refl _⟩,f ys H p⟩
theorem kh{lo:Int}{n:Nat}(c:Nat->List V->Hp->Prop)(h:c 0 [] H)(j:∀ i ys H,c i ys H->H D=some (.lst ys))
  (f:∀(i:Nat) ys H P,i<n->c i ys H->(∀ a b,c (i+1) a b->P a b)->pi D σb g tt te (.int (lo+i)) ys H P) (d:∀ ys H,c n ys H->Q H ys):∃ W,(∃ m,W 0 m [] H)/\j0 (Itr lo n) D σb g tt te Q W:=by
 refine⟨λi m ys H=>m=n - i/\i<=n/\c i ys H,⟨_,rfl,Nat.zero_le _,h⟩,?_⟩;rintro i m ys H ⟨rfl,l,p⟩;refine⟨j i ys H p,?_⟩
 by_cases hlt:i<n
 .refine .inr ⟨hlt,λx o y=>?_⟩
  obtain⟨rfl,rfl⟩:=y;exact f i ys _ (λa b=>∃ m',m'<n - i/\m'=n - (i+1)/\i+1<=n/\c (i+1) a b) hlt p (λa b q=>⟨n - (i+1),by lia,rfl,hlt,q⟩)
 .have e:i=n:=by lia
  subst e;exact .inl ⟨Nat.le_refl _,d ys H p⟩
end
theorem Same.new{H:Hp}{p:Addr}{o:HO}(h:H p=none):Same H (upd H p o):=λb u e=>by rw[az (aJ e h)];exact e
mutual
def DV(K:Frag)(H:Hp):PyData->V->Prop
 | .none,x=>x=.non
 | .bool b,x=>x=.bl b
 | .int i,x=>x=.int i
 | .str z,x=>x=.str z
 | .list ds,x=>∃ a xs,x=.ref a/\SqL K H a xs/\DVs K H ds xs
 | .tuple ds,x=>∃ a xs,x=.ref a/\SqT K H a xs/\DVs K H ds xs
 | .dict _,_=>False
def DVs(K:Frag)(H:Hp):List PyData->List V->Prop
 | [],xs=>xs=[]
 | d::ds,xs=>∃ y ys,xs=y::ys/\DV K H d y/\DVs K H ds ys
end
section
variable {X:Cx}{pins:List (Addr×Obj)}{σ:St}{H:Hp}{s:Shared}
mutual
theorem DV.reads(I:Inv X pins σ H s):∀{d:PyData}{x:V}{u:Value},DV X.K H d x->RelV x u->∃ as,Reads s.heap u d as
 | .none,x,u,h,r=>by
  rw[DV]at h;subst h;cases r;exact⟨_,.none⟩
 | .bool b,x,u,h,r=>by
  rw[DV]at h;subst h;cases r;exact⟨_,.bool b⟩
 | .int i,x,u,h,r=>by
  rw[DV]at h;subst h;obtain⟨t,rfl⟩:=r;exact⟨_,.int i t⟩
 | .str z,x,u,h,r=>by
  rw[DV]at h;subst h;obtain⟨t,rfl⟩:=r;exact⟨_,.str z t⟩
 | .list ds,x,u,h,r=>by
  rw[DV]at h;obtain⟨a,p,rfl,g,l⟩:=h;cases r;obtain⟨f,j,⟨o,n,e,c,_,d⟩,_⟩:=I.list g;obtain⟨as,q⟩:=DVs.reads I l j;exact⟨_,.list e c d (by simpa using q)⟩
 | .tuple ds,x,u,h,r=>by
  rw[DV]at h;obtain⟨a,p,rfl,g,l⟩:=h;cases r;obtain⟨f,j,⟨o,e,c,n,d⟩,_⟩:=I.tuple g;obtain⟨as,q⟩:=DVs.reads I l j;exact⟨_,.tuple e c d (by simpa using q)⟩
 | .dict _,x,u,h,r=>by rw[DV]at h;exact h.elim
theorem DVs.reads(I:Inv X pins σ H s):∀{ds:List PyData}{xs:List V}{us:List Value},DVs X.K H ds xs->Vals xs us->∃ as,ReadsAll s.heap us ds as
 | [],xs,us,h,r=>by
  rw[DVs]at h;subst h;cases r;exact⟨_,.nil⟩
 | d::ds,xs,us,h,r=>by
  rw[DVs]at h;obtain⟨y,c,rfl,a,b⟩:=h;cases r with
  | cons r rs =>
   obtain⟨as,q⟩:=DV.reads I a r;obtain⟨e,p⟩:=DVs.reads I b rs;exact⟨_,.cons q p⟩
end
end
inductive rEqD(K:Frag)(neg:Bool)(x y:V)(H:Hp)(Q:VK):Prop
 | mk(d e:PyData)(h0:DV K H d x)(h1:DV K H e y)(h2:SeqAt.shaped d=true)(h3:SeqAt.shaped e=true)(h4:Q (.bl (if neg then !PyData.eqv d e else PyData.eqv d e)) H):rEqD K neg x y H Q
theorem jo{X:Cx}(l:X.A.units+64<cLine):OpR X (compareOp .NotEq) (rEqD X.K true):=by
 intro a s w H x y v u Q I g b h;obtain⟨d,e,c,j,f,o,q⟩:=h;obtain⟨r,p⟩:=c.reads I g;obtain⟨z,i⟩:=j.reads I b;exact ne_dataH p i f o l ⟨.bl _,H,I,rfl,q⟩
def kB(z:Str)(lo hi:Option Int):Str:=⟨((z.cps.toList.drop (HT.sIx z.cps.size 0 lo)).take (HT.sIx z.cps.size z.cps.size hi - HT.sIx z.cps.size 0 lo)).toArray⟩
theorem u6(n d:Nat)(v:Option Int):(match v with | none=>(d:Int) | some i=>max 0 (min (if i<0 then i+(n:Int) else i) (n:Int)))=((HT.sIx n d v:Nat):Int):=by
 cases v with
 | none=>rfl
 | some i =>
  show max 0 (min (if i<0 then i+(n:Int) else i) (n:Int))=(((if i<0 then (i+(n:Int)).toNat else min i.toNat n):Nat):Int)
  split <;> lia
theorem sI(lo a:Option Int)(n:Nat):Builtin.Str.strSliceIndices lo a 1 n=(List.range (HT.sIx n n a - HT.sIx n 0 lo)).map (HT.sIx n 0 lo + ·):=by
 have e:Builtin.Str.strSliceIndices lo a 1 n=sliceRange ((HT.sIx n 0 lo:Nat):Int) ((HT.sIx n n a:Nat):Int) 1:=by
  rw[<- u6 n 0 lo,<- u6 n n a];unfold Builtin.Str.strSliceIndices;simp only[show(1:Int) > 0 by decide,if_true]
  cases lo <;> cases a <;> rfl
 rw[e,sliceRange_one]
theorem pT(z:Str)(lo a:Option Int):Txt.slice z lo a=kB z lo a:=by
 have e:((Builtin.Str.strSliceIndices lo a 1 z.length).filterMap (z.cps[·]?))=(z.cps.toList.drop (HT.sIx z.cps.size 0 lo)).take (HT.sIx z.cps.size z.cps.size a - HT.sIx z.cps.size 0 lo):=by
  rw[sI];exact pick_run z.cps _ _
 unfold Txt.slice
 split
 .rename_i h
  have c:(Builtin.Str.strSliceIndices lo a 1 z.length).length=z.cps.size:=by
   rw[Bool.and_eq_true]at h;exact eq_of_beq h.2
  rw[sI,length_map,length_range]at c;have g:=HT.sIx_le z.cps.size z.cps.size (Nat.le_refl _) a;have b:HT.sIx z.cps.size z.cps.size a - HT.sIx z.cps.size 0 lo=z.cps.size:=c;unfold kB
  by_cases h0:z.cps.size=0
  .refine ext_toList ?_
   have d:z.cps.toList=[]:=List.length_eq_zero_iff.mp (by simpa using h0);show z.cps.toList=_;rw[d];simp
  .have f:HT.sIx z.cps.size 0 lo=0:=by lia
   rw[b,f,drop_zero,take_of_length_le (by simp)]
 .rw[e]
  rfl
theorem um(z:Str)(lo a:Option Int):(kB z lo a).cps.size<=z.cps.size:=by
 show((z.cps.toList.drop _).take _).toArray.size<=_;rw[size_toArray,length_take,length_drop];simp only[Array.length_toList];lia
section
variable {X:Cx}
def yr:V->Option Int->Option Int->Hp->VK->Prop:=λx lo hi H Q=>∃ z,x=.str z/\z.length<=sizeLine/\Q (.str (kB z lo hi)) H
theorem wn:SlR X yr:=by
 intro b s r H x v A B w p y Q I o d g f h;obtain⟨z,rfl,c,q⟩:=h;obtain⟨t,rfl⟩:=o;refine⟨"str",_,F.slot_str_getitem.lookup,typeIs_str _ _ _,?_⟩;rw[<- pT]at q
 have a:∀ e k,EP X b r Q (.str (Txt.slice z w p) e) { s with toks:=k }:=λe k=>⟨.str _,H,I.tok _,⟨_,rfl⟩,q⟩
 cases g with
 | none =>
  cases f with
  | none=>exact wpAny_getItem_str_slice (l:=none) (u:=none) (st:=none) d rfl (post_val_or_str ⟨Nat.le_trans (Txt.slice_le z _ _) c,a⟩)
  | int j uj=>exact wpAny_getItem_str_slice (l:=none) (u:=some (j,uj)) (st:=none) d rfl (post_val_or_str ⟨Nat.le_trans (Txt.slice_le z _ _) c,a⟩)
 | int i ui =>
  cases f with
  | none=>exact wpAny_getItem_str_slice (l:=some (i,ui)) (u:=none) (st:=none) d rfl (post_val_or_str ⟨Nat.le_trans (Txt.slice_le z _ _) c,a⟩)
  | int j uj=>exact wpAny_getItem_str_slice (l:=some (i,ui)) (u:=some (j,uj)) (st:=none) d rfl (post_val_or_str ⟨Nat.le_trans (Txt.slice_le z _ _) c,a⟩)
theorem SlR.imp{r b:V->Option Int->Option Int->Hp->VK->Prop}(h:SlR X r)(i:∀ x lo hi H Q,b x lo hi H Q->r x lo hi H Q):SlR X b :=
 λa s l H x v g j lo hi d Q I e o c f q=>h a s l H x v g j lo hi d Q I e o c f (i x lo hi H Q q)
theorem gG:SlR X (λx lo hi H Q=>match x with
  | .str z=>z.length<=sizeLine/\Q (.str (kB z lo hi)) H
  | .ref a=>(∃ xs,SqL X.K H a xs/\∀ p,H p=none->Q (.ref p) (upd H p (.lst (fN xs lo hi)))) \/
    ∃ xs,SqT X.K H a xs/\¬(HT.sIx xs.length 0 lo=0/\HT.sIx xs.length xs.length hi=xs.length)/\∀ p,H p=none->Q (.ref p) (upd H p (.tup (fN xs lo hi)))
  | _=>False):=(sl_list.or (sl_tup.or wn)).imp λx lo hi H Q q=>by
 cases x with
 | str z=>exact .inr (.inr ⟨z,rfl,q.1,q.2⟩)
 | ref a =>
  rcases q with⟨xs,b,c⟩ | ⟨xs,b,c,d⟩
  .exact .inl ⟨a,xs,rfl,b,c⟩
  .exact .inr (.inl ⟨a,xs,rfl,b,c,d⟩)
 | _=>exact(show False from q).elim
def pw:V->List V->Hp->VK->Prop:=λx xs H Q=>match x,xs with
 | .str z,[.str y]=>Q (.bl (Txt.startswith z y)) H
 | _,_=>False
theorem qJ:MtR X "str.startswith" pw:=by
 intro a s f H x b v g Q I c d q
 match x,b,q with
 | .str z,[.str y],q =>
  obtain⟨t,rfl⟩:=c;obtain⟨u,rfl,e,rfl⟩:=dw d;exact SC.startswith ⟨.bl _,H,I,rfl,q⟩
theorem qM:CallR X (.type "int") (λxs H Q=>match xs with
  | [.str z]=>∃ n,PySem.intText? z=some n/\z.length<=640/\Q (.int n) H
  | _=>False):=by
 intro a s c H xs d Q I r h
 match xs,h with
 | [.str z],h =>
  obtain⟨n,e,b,q⟩:=h;obtain⟨u,rfl,t,rfl⟩:=dw r;exact PySem.W.KIN.call_text e b ⟨.int n,H,I.tok _,⟨_,rfl⟩,q⟩
variable {o e:Expr}{es:List Expr}{to:TE}{t:TA}{apos cpos:Pos}
theorem pe_m.startswith(f:PE X o to)(g:PA X (e::es) t)
  (b:attributeBase o "startswith" X.env (eval o X.env)=eval o X.env:=by rfl)
  (d:((backTo cpos (starEach (e::es) X.env)).all (λx=>!x.1) && (backToKw cpos (keywordEach [] X.env)).all (λx=>x.1.isSome)
   && decide ((e::es).length+([]:List Keyword).length+(if ([]:List Keyword).isEmpty then 0 else 1)<30))=true:=by rfl)
  (c:(apos.endLine == cpos.line)=true:=by rfl) (h:starEach (e::es) X.env=(false,eval e X.env)::starEach es X.env:=by rfl) (a:(backTo cpos (starEach es X.env)).any (·.1)=false:=by rfl) :
  PE X (.Call (.Attribute o "startswith" apos) (e::es) [] cpos) (tBM X.K "str" pw to t):=j2 F.plainAttrs_str F.slot_str_startswith F.type_str_startswith qJ f g b d c h a
end
theorem gz(z:Str)(c:Nat):Txt.startswith z ⟨#[c]⟩=decide (z.cps.toList.head? = some c):=by
 obtain⟨⟨l⟩⟩:=z;cases l with
 | nil=>rfl
 | cons a l =>
  rw[Bool.eq_iff_iff,decide_eq_true_eq];simp[Txt.startswith,Builtin.Str.subAt,Str.length]
section
variable {X:Cx}{st:Stmt}{bM:List Stmt}{t u:TS}{e:Expr}{te:TE}{tt:TT}
def xD(t u:TS):TS:=λD σ H=>∃ M:St->Hp->Prop,t { D with nx:=M } σ H/\∀ σ' H',M σ' H'->u D σ' H'
theorem db(c:PS X st t)(h2:PSs X bM u):PSs X (st::bM) (xD t u):=by
 intro a s j H D I h;obtain⟨M,h,e⟩:=h;refine wpAny_execs_cons (thn (c a s j H { D with nx:=M } I h) λf d q=>?_);cases f with
 | next =>
  obtain⟨b,g,i,q⟩:=q;exact h2 a d b g D i (e _ _ q)
 | ret v=>exact q
 | brk=>exact q
 | cont=>exact q
def xp(t:TE):TE:=λσ H Q=>∃ M:VK,t σ H M/\∀ v H',M v H'->Q v H'
theorem wD(h:PE X e te):PE X e (xp te):=by
 intro a s f H Q I b;obtain⟨M,b,c⟩:=b
 exact thn (h a s f H M I b) λv l ⟨x,i,j,d,g⟩=>⟨x,i,j,d,c _ _ g⟩
end
end L2
namespace L2
abbrev PvS:=Nat->St->Hp->Prop
abbrev PvL:=Nat->List V->Hp->Prop
theorem cL{c b:TS}{D:Ends}{a:St}{H:Hp}:(let B2:TS:=b;bD c B2 D a H)->bD c b D a H:=λh=>h
theorem ii{d a c:TS}{D:Ends}{b:St}{H:Hp}:(let B3:TS:=c;let B2:TS:=bD a B3;bD d B2 D b H)->bD d (bD a c) D b H:=λh=>h
theorem nq{c b a e:TS}{D:Ends}{d:St}{H:Hp}:(let B4:TS:=e;let B3:TS:=bD a B4;let B2:TS:=bD b B3;bD c B2 D d H)->bD c (bD b (bD a e)) D d H:=λh=>h
theorem lu{c b a f e:TS}{D:Ends}{d:St}{H:Hp}:(let B5:TS:=e;let B4:TS:=bD f B5;let B3:TS:=bD a B4;let B2:TS:=bD b B3;bD c B2 D d H)->bD c (bD b (bD a (bD f e))) D d H:=λh=>h
theorem xR{d c a g f b:TS}{D:Ends}{e:St}{H:Hp}:(let B6:TS:=b;let B5:TS:=bD f B6;let B4:TS:=bD g B5;let B3:TS:=bD a B4;let B2:TS:=bD c B3;bD d B2 D e H)->bD d (bD c (bD a (bD g (bD f b)))) D e H:=λh=>h
theorem xG{e d a j i c b f:TS}{D:Ends}{g:St}{H:Hp}:(let B8:TS:=f;let B7:TS:=bD b B8;let B6:TS:=bD c B7;let B5:TS:=bD i B6;let B4:TS:=bD j B5;let B3:TS:=bD a B4;let B2:TS:=bD d B3;bD e B2 D g H)->bD e (bD d (bD a (bD j (bD i (bD c (bD b f)))))) D g H:=λh=>h
end L2
namespace L2
open PySem PySem.Spec PyProof.Rows
section
variable {X:Cx}{pins:List (Addr×Obj)}{σ:St}{H:Hp}{s:Shared}{h':Heap}
theorem Inv.turnedNew{t':Nat}{ch:List Addr}{a:Addr}{o:HO}(I:Inv X pins σ H s)(k:∀ b u,b ∉ ch->s.heap.get? b=some u->h'.get? b=some u)(j:∀ b∈ch,io X pins H b)
  (w:s.heap.objs.size<=a) (p:ObjOk X.prog X.w (upd H a o) h' a o):Inv X pins σ (upd H a o) { s with heap:=h',toks:=t' }:=by
 have i:H a=none:=I.hok.fresh w
 have g:∀ b u,H b=some u->b ∉ ch:=λb u e z=>by
  rw[(j b z).1]at e;cases e
 have d:∀ b u,H b=some u->b≠a:=λb u e z=>by
  rw[z,i]at e;cases e
 have l:∀ b u,s.heap.get? b=some u->b≠a:=λb u e=>Nat.ne_of_lt (Nat.lt_of_lt_of_le (Heap.lt_size e) w)
 refine I.step (g':=s.gens) (d':=s.drawn) (ch:=ch) (λb h=>?_) (λb u _ _ f e _=>k b u f e) (λb u _ _ f e _=>⟨u.slots,k b u f e⟩) (λb u _ e n=>?_) (λb u f e=>⟨u,k b u f e⟩)
  (λb C e=>?_) (λb u v e=>?_) (λb ps e=>⟨#[],?_⟩) (λm hm=>?_) (λb u e=>?_) I.bare
 .obtain⟨_,y,_,G,E,D⟩:=j b h
  exact⟨G,y,E,D⟩
 .rw[az (l b u e)];exact n
 .rw[az (d b _ e)];exact e
 .rw[az (d b _ e)];exact e
 .rw[az (d b _ e),e];simp
 .obtain⟨x,A,B,F,r⟩:=hm
  exact⟨x,A,B,k _ x (λz=>(j _ z).2.1 rfl) F,r⟩
 .by_cases h:b=a
  .subst h
   rw[ae]at e;cases e;exact p
  .rw[az h]at e
   refine(I.hok b u e).stay (λc v f q=>k c v ?_ q) (λc q=>?_) λc C q=>?_
   .rcases f with z | z
    .rw[z];exact g b u e
    .exact g c _ z
   .rw[az (d c _ q)];exact q
   .rw[az (d c _ q)];exact q
theorem Inv.turnedN{t':Nat}{ch:List Addr}(I:Inv X pins σ H s)(k:∀ b u,b ∉ ch->s.heap.get? b=some u->h'.get? b=some u)(f:∀ b∈ch,io X pins H b):Inv X pins σ H { s with heap:=h',toks:=t' }:=by
 have d:∀ b u,H b=some u->b ∉ ch:=λb u e z=>by
  rw[(f b z).1]at e;cases e
 refine I.step (g':=s.gens) (d':=s.drawn) (ch:=ch) (λb y=>?_) (λb u _ _ a e _=>k b u a e) (λb u _ _ a e _=>⟨u.slots,k b u a e⟩) (λb u _ e n=>n) (λb u a e=>⟨u,k b u a e⟩)
  (λb l e=>e) (λb u v e=>e) (λb ps e=>⟨#[],by rw[e];simp⟩) (λm hm=>?_) (λb u e=>?_) I.bare
 .obtain⟨_,h,_,x,w,o⟩:=f b y
  exact⟨x,h,w,o⟩
 .obtain⟨g,i,j,p,r⟩:=hm
  exact⟨g,i,j,k _ g (λz=>(f _ z).2.1 rfl) p,r⟩
 .refine(I.hok b u e).stay (λc v a q=>k c v ?_ q) (λc q=>q) λc l q=>q
  rcases a with z | z
  .rw[z];exact d b u e
  .exact d c _ z
end
def Ite(a:Addr):It:=⟨λi H=>∃ xs x,H a=some (.lst xs)/\xs[i]? = some x,
 λi H x H'=>∃ p y,H p=none/\x=.ref p/\(∀ xs,H a=some (.lst xs)->xs[i]? = some y)/\H'=upd H p (.tup [.int (i:Nat),y]),λi H=>∃ xs,H a=some (.lst xs)/\xs.length<=i⟩
theorem qz{P:Program}{w:World}{K:Frag}{es:List Expr}{k:Nat}{L:Pos}(a e c:Addr)(A:e≠c) :
  Turn P w K (.Tuple es k L) (Ite a) [e,c] e (λi h=>(∃ old,IsEnum h e c i old)/\h.IsListIter c a i) where
 mem:=by simp
 obj:=λi h f b hb=>by
  obtain⟨⟨old,d⟩,o,B,D,h3⟩:=f
  rcases mem_cons.mp hb with rfl | hb
  .exact⟨_,d,λv z=>by cases z⟩
  .rw[mem_singleton.mp hb]
   exact⟨o,B,λv z=>by rw[h3]at z;cases z⟩
 keep:=λi h h' f kp=>by
  obtain⟨⟨old,d⟩,o,B,r⟩:=f;exact⟨⟨old,kp e (by simp) _ d⟩,o,kp c (by simp) o B,r⟩
 item:=by
  intro X hP S O hc i j s σ H E I G f Y;subst hP S O;obtain⟨⟨old,d⟩,g⟩:=f;obtain⟨xs,x,F,M⟩:=Y;obtain⟨z,p,n,r,y,T⟩:=I.lstM F;obtain⟨u,hu,ru⟩:=Vals.get r M
  have l:s.heap.IsList a p.toArray:=⟨_,T,rfl,_,rfl⟩
  refine wpAny_pyNext_enum_item d g l (x:=u) (by simpa using hu) A λB e1 e2 e3 e4 e5=>?_
  refine⟨_,rfl,wpAny_letOwnedTupleGo_enum e1 λD e6 N=>?_⟩;have C:s.heap.objs.size≠e:=λq=>absurd (Heap.lt_size d) (by rw[<- q];exact Nat.lt_irrefl _)
  have Q:s.heap.objs.size≠c:=λq=>by
   obtain⟨o,ho,_⟩:=g;exact absurd (Heap.lt_size ho) (by rw[<- q];exact Nat.lt_irrefl _)
  have hn:H s.heap.objs.size=none:=I.hok.fresh (Nat.le_refl _);have W:D.get? s.heap.objs.size=some { cls:=.type "tuple",data:=.seq #[.int i s.toks,u] }:=(N.2 _ C).trans e3
  have J:Inv X j σ (upd H s.heap.objs.size (.tup [.int (i:Nat),x])) { s with heap:=D,toks:=s.toks+1 }:=by
   refine I.turnedNew (ch:=[e,c]) (λb o hb q=>?_) G (Nat.le_refl _) ⟨by rw[sizeLine_eq];show 2<=16777216;decide,[.int i s.toks,u],.cons ⟨_,rfl⟩ (.cons ru .nil),_,W,rfl,0,rfl⟩;have b1:b≠e:=λz=>hb (by simp[z])
   have b2:b≠c:=λz=>hb (by simp[z])
   exact(N.2 b b1).trans (e5 b o b1 b2 q)
  refine⟨.ref s.heap.objs.size,_,J,rfl,⟨s.heap.objs.size,x,hn,rfl,λys hy=>?_,rfl⟩,⟨⟨u,?_⟩,?_⟩,λb hb=>?_⟩
  .rw[F]at hy
   cases hy;exact M
  .have Z:IsEnum D e c ((i:Int)+1) u:=e6
   have e7:((i+1:Nat):Int)=(i:Int)+1:=by lia
   rw[e7];exact Z
  .obtain⟨o,ho,r⟩:=e2
   exact⟨o,(N.2 c (Ne.symm A)).trans ho,r⟩
  .have R:b≠s.heap.objs.size:=by
    rcases mem_cons.mp hb with rfl | hb
    .exact C.symm
    .rw[mem_singleton.mp hb];exact Q.symm
   rw[az R];exact(G b hb).1
 done:=by
  intro X hP S O hc i j s σ H E I G f Y;subst hP S O;obtain⟨⟨old,d⟩,g⟩:=f;obtain⟨xs,F,M⟩:=Y;obtain⟨z,p,n,r,y,T⟩:=I.lstM F
  have l:s.heap.IsList a p.toArray:=⟨_,T,rfl,_,rfl⟩
  refine wpAny_pyNext_enum_end (I.ok.hd hc) d g l (by simp;lia) λB eb=>⟨rfl,I.turnedN (ch:=[e,c]) (t':=s.toks) (λb o hb q=>eb b o (λz=>hb (by simp[z])) q) G⟩
 self:=λ_ _ _ _ _ f h=>by
  obtain⟨⟨old,d⟩,_⟩:=f;exact wpAny_pyIter_enum d h
def xA(ta:TA):TI:=λσ H R=>ta σ H λvs H1=>∃ a xs,vs=[.ref a]/\H1 a=some (.lst xs)/\R (Ite a) H1
theorem dX{X:Cx}{A:List Expr}{k:Nat}{g:Pos}{e:Expr}{w:TA}{p f:Pos}(Q:Gl X "enumerate")(E:X.mg "enumerate" = none)(B:PA X [e] w)(G:starEach [e] X.env=[(false,eval e X.env)]:=by rfl) :
  PI X (.Tuple A k g) (.Call (.Name "enumerate" p) [e] [] f) (xA w):=by
 intro d s x H R I h;refine wpAny_Call_Name_kw (i4 I Q E lE ?_ (by decide) (by decide));refine PyProof.Rows.callWith_type1 (thn (B f d s x H _ I h) λT c ⟨S,y,l,M,a,Y,j,N,q⟩=>?_) G rfl;subst j;obtain⟨u,rfl,D⟩:=dw M;cases D;obtain⟨z,O,n,r,v,K⟩:=l.lstM N;refine call_enumerate_1 (n:=n) K λL j C W F=>?_
 have P:Inv X d x y { c with heap:=L }:=l.kept (t':=c.toks) F;have o:c.heap.objs.size+1≠c.heap.objs.size:=Nat.succ_ne_self _;refine wpAny_pyIter_enum j ?_;refine⟨c.heap.objs.size+1,[c.heap.objs.size+1,c.heap.objs.size],_,_,y,rfl,P,qz a _ _ o,⟨⟨_,j⟩,C⟩,λb hb=>?_,q⟩
 have i:c.heap.objs.size<=b:=by
  rcases mem_cons.mp hb with rfl | hb
  .lia
  .rw[mem_singleton.mp hb]
   exact Nat.le_refl _
 exact l.fpOk i (l.hok.fresh i)
theorem gM{a:Addr}{xs:List V}{g:TG}{f:TS}{D:Ends}{c:St}{H:Hp}(d:Nat->St->Hp->Prop)(r:d 0 c H)(u:∀ i c H,d i c H->H a=some (.lst xs))
  (o:∀(i:Nat) x c H p,xs[i]? = some x->d i c H->H p=none->g (.ref p) c (upd H p (.tup [.int (i:Nat),x])) λσ2 H2=>f { D with nx:=d (i+1),ct:=d (i+1),bk:=D.nx } σ2 H2) (l:∀ c H,d xs.length c H->D.nx c H) :
  ∃ W:Nat->Nat->St->Hp->Prop,(∃ m,W 0 m c H)/\∀ i m c H,W i m c H ->
   ((Ite a).stop i H/\D.nx c H)\/((Ite a).go i H/\∃ N:St->Hp->Prop,(∀ σ' H',N σ' H'->∃ m',m'<m/\W (i+1) m' σ' H')/\∀ x H',(Ite a).yld i H x H'->g x c H' λσ2 H2=>f { D with nx:=N,ct:=N,bk:=D.nx } σ2 H2):=by
 refine⟨λi m c H=>m=xs.length - i/\i<=xs.length/\d i c H,⟨_,rfl,Nat.zero_le _,r⟩,?_⟩;rintro i m c H ⟨rfl,w,p⟩;have q:=u i c H p
 by_cases hlt:i<xs.length
 .refine .inr ⟨⟨xs,xs[i],q,by simp[hlt]⟩,d (i+1),λσ' H' j=>⟨_,by lia,rfl,hlt,j⟩,λx H' y=>?_⟩
  obtain⟨b,v,s,rfl,h,rfl⟩:=y;exact o i v c H b (h xs q) p s
 .have e:i=xs.length:=by lia
  subst e;exact .inl ⟨⟨xs,q,Nat.le_refl _⟩,l c H p⟩
theorem fR{D:Addr}{d:St}{g:TG}{h:TT}{f:TE}{Q:Hp->List V->Prop}{H:Hp}{a:Addr}{xs:List V}(c:Nat->List V->Hp->Prop)(u:c 0 [] H)(j:∀ i ys H,c i ys H->H a=some (.lst xs))(z:∀ i ys H,c i ys H->H D=some (.lst ys))
  (s:∀(i:Nat) x ys H p P,xs[i]? = some x->c i ys H->H p=none->(∀ a b,c (i+1) a b->P a b)->pi D d g h f (.ref p) ys (upd H p (.tup [.int (i:Nat),x])) P) (o:∀ ys H,c xs.length ys H->Q H ys):∃ W,(∃ m,W 0 m [] H)/\j0 (Ite a) D d g h f Q W:=by
 refine⟨λi m ys H=>m=xs.length - i/\i<=xs.length/\c i ys H,⟨_,rfl,Nat.zero_le _,u⟩,?_⟩;rintro i m ys H ⟨rfl,A,p⟩;refine⟨z i ys H p,?_⟩;have q:=j i ys H p
 by_cases hlt:i<xs.length
 .refine .inr ⟨⟨xs,xs[i],q,by simp[hlt]⟩,λx B y=>?_⟩
  obtain⟨b,v,w,rfl,l,rfl⟩:=y
  exact s i v ys H b (λa b=>∃ m',m'<xs.length - i/\m'=xs.length - (i+1)/\i+1<=xs.length/\c (i+1) a b) (l xs q) p w λa b r=>⟨_,by lia,rfl,hlt,r⟩
 .have e:i=xs.length:=by lia
  subst e;exact .inl ⟨⟨xs,q,Nat.le_refl _⟩,o ys H p⟩
end L2
namespace NumM
open PySem PySem.NumText
def digB(l:List Nat):Bool:=decide (1<=l.length/\l.length<=12) && l.all λc=>decide (48<=c/\c<=57)
def bareL(l:List Nat):List Nat:=if l.head? = some 45 then l.tail else l
def valS(l:List Nat):Int:=if l.head? = some 45 then -((digitsVal (bareL l):Nat):Int) else ((digitsVal (bareL l):Nat):Int)
def badZ(l:List Nat):Bool:=decide ((bareL l).head? = some 48) && decide (l≠[48])
def numO(l:List Nat):Option Int:=if (digB (bareL l) && !badZ l)=true then some (valS l) else none
def codesI(n:Int):List Nat:=(toString n:String).toList.map Char.toNat
theorem digB_all{l:List Nat}(h:digB l=true):AllDigits l/\1<=l.length/\l.length<=12:=by
 unfold digB at h;rw[Bool.and_eq_true,decide_eq_true_eq,all_eq_true]at h;exact⟨λc a=>by have:=h.2 c a;simpa using this,h.1⟩
theorem codes_nat(m:Nat):codesI (m:Int)=(Nat.toDigits 10 m).map Char.toNat:=by
 unfold codesI;show(Nat.repr m).toList.map Char.toNat=_;rw[Nat.toList_repr]
theorem codes_neg(m:Nat)(h:0<m):codesI (-(m:Int))=45::(Nat.toDigits 10 m).map Char.toNat:=by
 obtain⟨k,rfl⟩:∃ k,m=k+1:=⟨m - 1,by omega⟩
 have e:-((k+1:Nat):Int)=Int.negSucc k:=rfl;rw[e];unfold codesI;have a:(toString (Int.negSucc k):String) = "-" ++ Nat.repr (k+1):=rfl;rw[a,String.toList_append,Nat.toList_repr];rfl
theorem m8{c:Nat}(h:c<128):(Char.ofNat c).toNat=c:=by
 have:c.isValidChar:=Or.inl (by omega);simp[Char.ofNat,this,Char.toNat,Char.ofNatAux]
theorem tY{cs:List Nat}(h:AllDigits cs):(cs.map Char.ofNat).map Char.toNat=cs:=by
 rw[map_map]
 induction cs with
 | nil=>rfl
 | cons c cs ih =>
  rw[map_cons,ih h.tail];have:=h.head;show(Char.ofNat c).toNat::cs=_;rw[m8 (by omega)]
theorem sL{cs:List Nat}(h:AllDigits cs):AllDigits (cs.dropWhile (· == 48)):=by
 induction cs with
 | nil=>exact h
 | cons c cs ih =>
  rw[dropWhile_cons]
  split
  .exact ih h.tail
  .exact h
theorem qC{cs:List Nat}(h:AllDigits cs):(Nat.toDigits 10 (digitsVal cs)).map Char.toNat=if cs.dropWhile (· == 48)=[] then [48] else cs.dropWhile (· == 48):=by
 rw[toDigits_all cs h];have a:=sL h
 split
 .rename_i e
  rw[if_pos e];rfl
 .rename_i c r e
  rw[if_neg (by rw[e];exact cons_ne_nil _ _),e];rw[e]at a;exact tY a
theorem tI(cs:List Nat):(cs.dropWhile (· == 48)).length<=cs.length:=by
 induction cs with
 | nil=>exact Nat.le_refl _
 | cons c cs ih =>
  rw[dropWhile_cons]
  split
  .rw[length_cons];omega
  .exact Nat.le_refl _
theorem rh{cs:List Nat}(h:AllDigits cs)(b:1<=cs.length):(Nat.toDigits 10 (digitsVal cs)).map Char.toNat=cs↔¬(cs.head? = some 48/\cs≠[48]):=by
 rw[qC h]
 match cs,b with
 | c::r,_ =>
  by_cases hc:c=48
  .subst hc
   have e:(48::r).dropWhile (· == 48)=r.dropWhile (· == 48):=by rw[dropWhile_cons];rfl
   rw[e];have d:=tI r
   constructor
   .intro q z
    by_cases hn:r.dropWhile (· == 48)=[]
    .rw[if_pos hn]at q;exact z.2 q.symm
    .rw[if_neg hn]at q
     have:=congrArg List.length q;rw[length_cons]at this;omega
   .intro z
    have a:r=[]:=by
     by_cases a:r=[]
     .exact a
     .exact absurd ⟨rfl,by simpa using a⟩ z
    subst a;rfl
  .have e:(c::r).dropWhile (· == 48)=c::r:=by
    rw[dropWhile_cons,if_neg (by simpa using hc)]
   rw[e,if_neg (cons_ne_nil _ _)]
   constructor
   .intro _ z
    exact hc (by simpa using z.1)
   .intro _;rfl
theorem tF{cs:List Nat}(h:AllDigits cs)(a:1<=cs.length)(hz:digitsVal cs=0):cs.head? = some 48:=by
 match cs,a with
 | c::r,_ =>
  have b:=h.head
  by_cases e:c=48
  .rw[e];rfl
  .have:=digitsVal_pos (c:=c) (cs:=r) (by omega)
   omega
theorem str_back{l:List Nat}(h:digB (bareL l)=true):codesI (valS l)=l↔badZ l=false:=by
 obtain⟨b,a,o⟩:=digB_all h
 have j:badZ l=false↔¬((bareL l).head? = some 48/\l≠[48]):=by
  unfold badZ;rw[<- Bool.not_eq_true,Bool.and_eq_true,decide_eq_true_eq,decide_eq_true_eq]
 rw[j]
 by_cases hn:l.head? = some 45
 .obtain⟨r,rfl⟩:∃ r,l=45::r:=by
   cases l with
   | nil=>cases hn
   | cons c r=>exact⟨r,by rw[show c=45 by simpa using hn]⟩
  have d:bareL (45::r)=r:=rfl;have f:valS (45::r) = -((digitsVal r:Nat):Int):=rfl;rw[d]at b a ⊢;rw[f]
  by_cases hz:digitsVal r=0
  .rw[hz]
   have g:codesI (-((0:Nat):Int))=[48]:=by decide
   rw[g]
   constructor
   .intro z;cases z
   .intro z;exact absurd ⟨tF b a hz,by intro q;cases q⟩ z
  .rw[codes_neg _ (by omega)]
   have:=rh b a
   constructor
   .intro q z
    injection q with _ q
    have i:=this.mp q;refine i ⟨z.1,?_⟩;intro e;rw[e]at hz;exact hz (by decide)
   .intro z
    rw[this.mpr λq=>z ⟨q.1,by intro e;cases e⟩]
 .have d:bareL l=l:=by unfold bareL;rw[if_neg hn]
  have f:valS l=((digitsVal l:Nat):Int):=by unfold valS;rw[if_neg hn,d]
  rw[d]at b a ⊢;rw[f,codes_nat];exact rh b a
end NumM
namespace L2
open PySem PySem.Spec PyProof.Rows
def oK(ns:List Int)(k:Int):Int:=if k<ns.length then ns.getD k.toNat 0 else 7919*k+14
theorem qy{i:Int}(h:i.natAbs<2 ^ 64):i.natAbs.log2<1920:=by
 by_cases h0:i.natAbs=0
 .rw[h0];decide
 .have:=(Nat.log2_lt h0).mpr h
  omega
theorem gL(n:Int):((toString n:String):Str).cps.toList=NumM.codesI n:=signs_ofString _
theorem jH:∀(k m:Nat),m<10 ^ (k+1)->(Nat.toDigits 10 m).length<=k+1
 | 0,m,h=>by
  rw[Nat.toDigits_of_lt_base (by simpa using h)];exact Nat.le_refl _
 | k+1,m,h=>by
  by_cases hm:m<10
  .rw[Nat.toDigits_of_lt_base hm]
   simp
  .have a:m % 10<10:=Nat.mod_lt m (by decide)
   have t:Nat.toDigits 10 (m/10)++Nat.toDigits 10 (m % 10)=Nat.toDigits 10 (10*(m/10)+m % 10):=Nat.toDigits_append_toDigits (by decide) (by omega) a;rw[Nat.div_add_mod]at t;rw[<- t,length_append,Nat.toDigits_of_lt_base a];have:=jH k (m/10) (by rw[Nat.pow_succ]at h;omega);simp only[length_cons,length_nil];omega
theorem qU{k:Nat}{n:Int}(h:n.natAbs<10 ^ (k+1)):(NumM.codesI n).length<=k+2:=by
 by_cases h0:0<=n
 .obtain⟨m,rfl⟩:=Int.eq_ofNat_of_zero_le h0
  rw[NumM.codes_nat,length_map];have:=jH k m (by simpa using h);omega
 .obtain⟨m,rfl⟩:∃ m:Nat,n = -(m:Int):=⟨n.natAbs,by omega⟩
  rw[NumM.codes_neg m (by omega),length_cons,length_map];have:=jH k m (by simpa using h);omega
theorem jv{n:Int}{c:Nat}(h:c∈NumM.codesI n):c=45\/(48<=c/\c<=57):=by
 by_cases hc:c=45\/(48<=c/\c<=57)
 .exact hc
 .exact absurd (by rw[<- gL]at h;exact h) (int_text_free' c ⟨by omega,by omega⟩ n)
def oV:Option Int->V
 | none=>.non
 | some n=>.int n
def within(lo hi:Int):Option Int->Option Int
 | some n=>if lo<=n/\n<=hi then some n else none
 | none=>none
theorem oA(t:Str):(kB t (some 1) none).cps.toList=t.cps.toList.tail:=by
 unfold kB;rw[List.toList_toArray];have e:HT.sIx t.cps.size 0 (some 1)=min 1 t.cps.size:=HT.sIx_nat _ _ 1;have b:HT.sIx t.cps.size t.cps.size none=t.cps.size:=rfl;rw[e,b];obtain⟨⟨l⟩⟩:=t;cases l with
 | nil=>rfl
 | cons a l=>simp
def iO(t S:Str)(m:Int):Bool:=decide (1<=(t.cps.size:Int)/\(t.cps.size:Int)<=m) && t.cps.toList.all λc=>decide (c∈S.cps.toList)
theorem kG(c:Nat):c∈("0123456789" : Str).cps.toList↔48<=c/\c<=57:=by
 have e:("0123456789" : Str).cps.toList=List.range' 48 10:=by decide +kernel
 rw[e,List.mem_range'_1];omega
theorem nQ(t:Str):iO t "0123456789" 12=NumM.digB t.cps.toList:=by
 unfold iO NumM.digB
 have e:(λc=>decide (c∈("0123456789" : Str).cps.toList))=λc=>decide (48<=c/\c<=57):=by
  funext c
  rw[Bool.eq_iff_iff,decide_eq_true_eq,decide_eq_true_eq];exact kG c
 rw[e]
 congr 1
 rw[Bool.eq_iff_iff,decide_eq_true_eq,decide_eq_true_eq];simp only[Array.length_toList];omega
end L2
namespace SplM
open PySem
def splitC(c:Nat):List Nat->List (List Nat)
 | []=>[[]]
 | a::l=>if a=c then []::splitC c l else match splitC c l with
  | []=>[[a]]
  | p::r=>(a::p)::r
def joinC(c:Nat):List (List Nat)->List Nat
 | []=>[]
 | [p]=>p
 | p::q::r=>p++c::joinC c (q::r)
theorem joinC_cons(c:Nat)(p:List Nat){r:List (List Nat)}(h:r≠[]):joinC c (p::r)=p++c::joinC c r:=by
 cases r with
 | nil=>exact absurd rfl h
 | cons q r=>rfl
theorem lw(c:Nat):∀(p l:List Nat),c ∉ p->splitC c (p++c::l)=p::splitC c l
 | [],l,_=>by simp[splitC]
 | a::p,l,h=>by
  have d:a≠c:=λe=>h (by rw[e];exact mem_cons_self)
  have b:=lw c p l λz=>h (mem_cons_of_mem _ z)
  rw[cons_append,splitC,if_neg d,b]
theorem split_free(c:Nat):∀(p:List Nat),c ∉ p->splitC c p=[p]
 | [],_=>rfl
 | a::p,h=>by
  have b:a≠c:=λe=>h (by rw[e];exact mem_cons_self)
  unfold splitC;rw[if_neg b,split_free c p λz=>h (mem_cons_of_mem _ z)]
theorem split_join(c:Nat):∀(ps:List (List Nat)),ps≠[]->(∀ p∈ps,c ∉ p)->splitC c (joinC c ps)=ps
 | [],h,_=>absurd rfl h
 | [p],_,h=>split_free c p (h p mem_cons_self)
 | p::q::r,_,h=>by
  rw[joinC,lw c p _ (h p mem_cons_self),split_join c (q::r) (cons_ne_nil _ _) λx a=>h x (mem_cons_of_mem _ a)]
theorem split_len(c:Nat):∀ l,(splitC c l).length<=l.length+1
 | []=>Nat.le_refl _
 | a::l=>by
  have b:=split_len c l;unfold splitC
  split
  .simp only[length_cons];lia
  .cases hs:splitC c l with
   | nil=>simp
   | cons q r=>rw[hs]at b;simp only[length_cons]at b ⊢;lia
theorem kr(c:Nat):∀ ts:List Str,(Str.join ⟨#[c]⟩ ts).cps.toList=joinC c (ts.map λt=>t.cps.toList)
 | []=>rfl
 | [t]=>rfl
 | t::u::r=>by
  have a:=kr c (u::r);show(t++(⟨#[c]⟩:Str)++Str.join ⟨#[c]⟩ (u::r)).cps.toList=_;rw[Str.cps_append,Str.cps_append,Array.toList_append,Array.toList_append,a];show t.cps.toList++[c]++_=t.cps.toList++c::_;rw[append_assoc];rfl
theorem codes_split(x:Str)(c:Nat):(Txt.split x ⟨#[c]⟩).map (λt=>t.cps.toList)=splitC c x.cps.toList:=by
 have d:=StrLaws.join_split x ⟨#[c]⟩;have f:=StrLaws.split_free x c
 have a:Txt.split x ⟨#[c]⟩≠[]:=by
  unfold Txt.split
  split
  .exact cons_ne_nil _ _
  .split
   .exact cons_ne_nil _ _
   .rw[StrLaws.partsBetween_eq]
    obtain⟨p,r,e⟩:=StrLaws.partsFrom_ne x (⟨#[c]⟩:Str).length 0 (Builtin.Str.occurrences x ⟨#[c]⟩ 0 x.length (x.length+1));rw[e];exact cons_ne_nil _ _
 have b:=kr c (Txt.split x ⟨#[c]⟩);rw[d]at b;rw[b,split_join c _ (by simpa using a) ?_];intro p h;obtain⟨t,g,rfl⟩:=mem_map.mp h;exact f t g
end SplM
namespace L2
open PySem PySem.Spec PyProof.Rows
section
variable {X:Cx}
theorem iY:∀{ts:List Str}{us:List Value},Vals (ts.map V.str) us->StrsAre us ts
 | [],us,r=>by
  rw[map_nil]at r;cases r;exact .nil
 | t::ts,us,r=>by
  rw[map_cons]at r;cases r with
  | cons r1 r2 =>
   obtain⟨k,rfl⟩:=r1;exact .cons t k (iY r2)
def vv(K:Frag):V->List V->Hp->VK->Prop:=λx xs H Q=>∃(z:Str) (p:Addr) (ts:List Str),x=.str z/\xs=[.ref p]/\(SqL K H p (ts.map V.str)\/SqT K H p (ts.map V.str)) /\
 (ts.map (·.length)).sum+ts.length*z.length<=16777216/\Q (.str (Txt.join z ts)) H
theorem uW:MtR X "str.join" (vv X.K):=by
 intro d s o H x l v w Q I g i h;obtain⟨z,p,j,rfl,rfl,hp,c,q⟩:=h;obtain⟨t,rfl⟩:=g;obtain⟨u,rfl,f⟩:=dw i;cases f
 rcases hp with hp | hp
 .obtain⟨b,r,a,_⟩:=I.list hp
  exact join_list a.isList (by simpa using iY r) c λe k=>⟨.str _,H,I.tok _,⟨_,rfl⟩,q⟩
 .obtain⟨b,r,a,_⟩:=I.tuple hp
  exact join_tuple a (by simpa using iY r) c λe k=>⟨.str _,H,I.tok _,⟨_,rfl⟩,q⟩
theorem iT:∀(l:List (Str×Tok)),Vals ((l.map (·.1)).map V.str) (strValues l)
 | []=>.nil
 | p::l=>.cons ⟨p.2,rfl⟩ (iT l)
open Builtin.Str in
theorem qO{P:Program}{w:World}{A:Around}{E:Value->Shared->Prop}{s:Shared}{x y:Str}{t u:Tok}{Q:Value->Shared->Prop}(c:(y.length == 0)=false)(d:x.length<=sizeLine)
  (e:(partsBetween x (occurrences x y 0 x.length (x.length+1)) y.length).length<=sizeLine)
  (h:∀(l:List (Str×Tok)) (k:Nat),l.map (·.1)=Txt.split x y->Q (.ref s.heap.objs.size) { s with heap:=s.heap.push { cls:=.type "list",data:=.seq (strValues l).toArray },toks:=k }) :
  wpAny (model P w) A (call (.builtin "str.split") [.str x t,.str y u]) Q E s:=by
 by_cases h1:(decide (x.length<y.length) || decide (strKind x<strKind y))=true
 .refine call_meets F.slot_str_split (typeIs_str s x t) F.entry_str_split (F.args_str_split_2 _ _) (meets_str_split_cannot_occur x y t u h1) ?_
  exact h [(x,t)] s.toks (by unfold Txt.split;rw[if_pos h1];rfl)
 .have a:=eq_false_of_ne_true h1
  by_cases h2:(occurrences x y 0 x.length (x.length+1)).isEmpty=true
  .refine call_meets F.slot_str_split (typeIs_str s x t) F.entry_str_split (F.args_str_split_2 _ _) (meets_str_split_not_found x y t u a c h2) ?_
   exact h [(x,t)] s.toks (by unfold Txt.split;rw[if_neg h1,if_pos h2];rfl)
  .have b:=eq_false_of_ne_true h2
   refine call_meets F.slot_str_split (typeIs_str s x t) F.entry_str_split (F.args_str_split_2 _ _) (meets_str_split_sep x y t u a c b d e) ?_
   have:=h (numbered s.toks (partsBetween x (occurrences x y 0 x.length (x.length+1)) y.length)) (s.toks+(partsBetween x (occurrences x y 0 x.length (x.length+1)) y.length).length)
    ((numbered_texts _ _).trans (by unfold Txt.split;rw[if_neg h1,if_neg h2]))
   rw[<- strsFrom_eq]at this;exact this
def sk:V->List V->Hp->VK->Prop:=λx xs H Q=>∃(z:Str) (c:Nat),x=.str z/\xs=[.str ⟨#[c]⟩]/\z.cps.size+2<=sizeLine /\
 ∀(l:Addr) (ts:List Str),H l=none->ts.map (λt=>t.cps.toList)=SplM.splitC c z.cps.toList->Q (.ref l) (upd H l (.lst (ts.map V.str)))
theorem sG:MtR X "str.split" sk:=by
 intro i s B H x A v D Q I j p h;obtain⟨z,c,rfl,rfl,y,q⟩:=h;obtain⟨t,rfl⟩:=j;obtain⟨u,rfl,t',rfl⟩:=dw p
 have r:(Txt.split z ⟨#[c]⟩).length<=sizeLine:=by
  have g:=congrArg List.length (SplM.codes_split z c);have o:=SplM.split_len c z.cps.toList;rw[length_map]at g;simp only[Array.length_toList]at o;lia
 have f:(Builtin.Str.partsBetween z (Builtin.Str.occurrences z ⟨#[c]⟩ 0 z.length (z.length+1)) (⟨#[c]⟩:Str).length).length<=sizeLine:=by
  have g:=PySem.StrLaws.occ_length_le z ⟨#[c]⟩ 0 z.length (z.length+1);rw[PySem.StrLaws.partsBetween_eq]
  have w:∀(b:List Nat) (a:Nat),(PySem.StrLaws.partsFrom z (⟨#[c]⟩:Str).length a b).length=b.length+1:=by
   intro b
   induction b with
   | nil=>intro a;rfl
   | cons d b ih=>intro a;show(_::_).length=_;rw[length_cons,ih];rfl
  rw[w];have C:=PySem.StrLaws.occ_length_le_len z ⟨#[c]⟩ 0 z.length (z.length+1);have e:z.length=z.cps.size:=rfl;lia
 refine qO rfl (show z.cps.size<=sizeLine by lia) f λl k e=>?_
 refine⟨.ref s.heap.objs.size,_,I.lnew (t':=k) (ys:=(l.map (·.1)).map V.str) (iT l) (by rw[length_map,e];exact r),rfl,q _ _ (I.hok.fresh (Nat.le_refl _)) ?_⟩;rw[e];exact SplM.codes_split z c
abbrev TJ:=Str->St->Hp->(Str->Hp->Prop)->Prop
def PJ(X:Cx)(vs:List Expr)(t:TJ):Prop:=∀(pins:List (Addr×Obj)) (s:Shared) (σ:St) (H:Hp) (acc:Str) (Q:VK),Inv X pins σ H s->t acc σ H (λout H'=>Q (.str out) H') ->
 wpAny (model X.prog X.w) X.A (joinParts acc (evalEach vs X.env)) (EP X pins σ Q) X.xe s
def yP:TJ:=λacc _ H R=>acc.length<=sizeLine/\R acc H
def xS(te:TE)(tr:TJ):TJ:=λacc σ H R=>te σ H λx H1=>match x with
 | .str y=>(acc++y).length<=sizeLine/\tr (acc++y) σ H1 R
 | _=>False
theorem lI:PJ X [] yP:=λb s c H a Q I h=>joinParts_nil ⟨.str a,H,I.tok _,⟨_,rfl⟩,h.2⟩ h.1
theorem fG{e:Expr}{c:List Expr}{f:TE}{i:TJ}(l:PE X e f)(o:PJ X c i):PJ X (e::c) (xS f i):=by
 intro a s g H b Q I h;show wpAny _ _ (joinParts b (eval e X.env::evalEach c X.env)) _ _ s;refine joinParts_cons (thn (l a s g H _ I h) λv j ⟨x,r,u,p,d⟩=>?_);cases x with
 | str y =>
  obtain⟨t,rfl⟩:=p;exact⟨d.1,o a j g r (b++y) Q u d.2⟩
 | _=>exact(show False from d).elim
def xC(t:TJ):TE:=λσ H Q=>t Str.empty σ H λout H'=>Q (.str out) H'
theorem jM{e d:Expr}{c:List Expr}{b:Pos}{t:TJ}(h:PJ X (e::d::c) t):PE X (.JoinedStr (e::d::c) b) (xC t):=λa s f H Q I q=>JoinedStr_many (h a s f H Str.empty Q I q)
def yC(te:TE):TE:=λσ H Q=>te σ H λx H1=>match x with
 | .str y=>y.length<=sizeLine/\Q (.str y) H1
 | .int i=>i.natAbs.log2<1920/\Q (.str (toString i)) H1
 | _=>False
theorem mj{e:Expr}{d:TE}{c:Pos}(l:PE X e d):PE X (.FormattedValue e (-1) none c) (yC d):=by
 intro b s o H Q I h;refine FormattedValue_plain (thn (l b s o H _ I h) λv r ⟨x,g,j,f,a⟩=>?_);cases x with
 | str y =>
  obtain⟨t,rfl⟩:=f;exact formatField_str (λp u=>⟨.str y,g,j.tok _,⟨_,rfl⟩,a.2⟩) a.1
 | int i =>
  obtain⟨t,rfl⟩:=f;exact formatField_int_small a.1 ⟨.str _,g,j.tok _,⟨_,rfl⟩,a.2⟩
 | _=>exact(show False from a).elim
variable {o e:Expr}{es:List Expr}{to:TE}{t:TA}{apos cpos:Pos}
theorem pe_m.join(f:PE X o to)(g:PA X (e::es) t)(b:attributeBase o "join" X.env (eval o X.env)=eval o X.env:=by rfl)
  (d:((backTo cpos (starEach (e::es) X.env)).all (λx=>!x.1) && (backToKw cpos (keywordEach [] X.env)).all (λx=>x.1.isSome) && decide ((e::es).length+([]:List Keyword).length+(if ([]:List Keyword).isEmpty then 0 else 1)<30))=true:=by rfl)
  (c:(apos.endLine == cpos.line)=true:=by rfl) (h:starEach (e::es) X.env=(false,eval e X.env)::starEach es X.env:=by rfl) (a:(backTo cpos (starEach es X.env)).any (·.1)=false:=by rfl) :
  PE X (.Call (.Attribute o "join" apos) (e::es) [] cpos) (tBM X.K "str" (vv X.K) to t):=j2 F.plainAttrs_str F.slot_str_join F.type_str_join uW f g b d c h a
theorem pe_m.split(f:PE X o to)(g:PA X (e::es) t)(b:attributeBase o "split" X.env (eval o X.env)=eval o X.env:=by rfl)
  (d:((backTo cpos (starEach (e::es) X.env)).all (λx=>!x.1) && (backToKw cpos (keywordEach [] X.env)).all (λx=>x.1.isSome) && decide ((e::es).length+([]:List Keyword).length+(if ([]:List Keyword).isEmpty then 0 else 1)<30))=true:=by rfl)
  (c:(apos.endLine == cpos.line)=true:=by rfl) (h:starEach (e::es) X.env=(false,eval e X.env)::starEach es X.env:=by rfl) (a:(backTo cpos (starEach es X.env)).any (·.1)=false:=by rfl) :
  PE X (.Call (.Attribute o "split" apos) (e::es) [] cpos) (tBM X.K "str" sk to t):=j2 F.plainAttrs_str F.slot_str_split F.type_str_split sG f g b d c h a
theorem pe_m.append(f:PE X o to)(g:PA X (e::es) t)(b:attributeBase o "append" X.env (eval o X.env)=eval o X.env:=by rfl)
  (d:((backTo cpos (starEach (e::es) X.env)).all (λx=>!x.1) && (backToKw cpos (keywordEach [] X.env)).all (λx=>x.1.isSome) && decide ((e::es).length+([]:List Keyword).length+(if ([]:List Keyword).isEmpty then 0 else 1)<30))=true:=by rfl)
  (c:(apos.endLine == cpos.line)=true:=by rfl) (h:starEach (e::es) X.env=(false,eval e X.env)::starEach es X.env:=by rfl) (a:(backTo cpos (starEach es X.env)).any (·.1)=false:=by rfl) :
  PE X (.Call (.Attribute o "append" apos) (e::es) [] cpos) (tBM X.K "list" rAppend to t):=j2 F.plainAttrs_list F.slot_list_append F.type_list_append kK f g b d c h a
theorem pe_m.clear(c:PE X o to)(b:attributeBase o "clear" X.env (eval o X.env)=eval o X.env:=by rfl)(a:(apos.endLine == cpos.line)=true:=by rfl) :
  PE X (.Call (.Attribute o "clear" apos) [] [] cpos) (uV X.K "list" si to):=oy F.plainAttrs_list F.slot_list_clear F.type_list_clear rM c b a
theorem pe_m.pop(c:PE X o to)(b:attributeBase o "pop" X.env (eval o X.env)=eval o X.env:=by rfl)(a:(apos.endLine == cpos.line)=true:=by rfl) :
  PE X (.Call (.Attribute o "pop" apos) [] [] cpos) (uV X.K "list" wU to):=oy F.plainAttrs_list F.slot_list_pop F.type_list_pop wI c b a
end
def TK(H H':Hp):Prop:=∀ b xs,H b=some (.tup xs)->H' b=some (.tup xs)
theorem TK.trans{H e d:Hp}(a:TK H e)(b:TK e d):TK H d:=λc o h=>b c o (a c o h)
theorem Same.tk{H a:Hp}(e:Same H a):TK H a:=λb c h=>e b _ h
theorem TK.lst{H:Hp}{l:Addr}{xs ys:List V}(h:H l=some (.lst xs)):TK H (upd H l (.lst ys)):=λb a e=>by
 rw[az (pH e h (by intro z;cases z))];exact e
theorem Same.put{H a:Hp}{D:Addr}{o:HO}(e:Same H a)(h:H D=none):Same H (upd a D o):=λb u q=>by
 rw[az (aJ q h)];exact e b u q
theorem bj{a:Type}{xs:List a}{i:Int}{v:a}(k:Nat)(b:(k:Int)=i)(h:xs[k]? = some v):atI xs i=some v:=by rw[<- b];exact aU h
theorem i5(xs:List V)(k:Nat):fN xs (some (k:Int)) none=xs.drop k:=by
 unfold fN;rw[HT.sIx_nat,HT.sIx_none]
 by_cases h:k<=xs.length
 .rw[Nat.min_eq_left h,take_of_length_le (by simp)]
 .rw[Nat.min_eq_right (by lia),Nat.sub_self,take_zero,List.drop_of_length_le (by lia)]
theorem gO(n:Str):∀ ts:List Str,inV (.str n) (ts.map V.str)=decide (n∈ts)
 | []=>rfl
 | t::ts=>by
  have a:=gO n ts;unfold inV at a ⊢;rw[map_cons,any_cons,a]
  by_cases h:t=n
  .have e:eqV (V.str t) (V.str n)=true:=by rw[h];simp only[eqV,beq_self_eq_true]
   rw[e,Bool.true_or,decide_eq_true (by rw[h];exact mem_cons_self)]
  .have e:eqV (V.str t) (V.str n)=false:=by simp only[eqV];exact beq_false_of_ne h
   rw[e,Bool.false_or,Bool.eq_iff_iff,decide_eq_true_eq,decide_eq_true_eq,mem_cons];exact⟨.inr,λz=>z.elim (λq=>absurd q.symm h) id⟩
theorem ll:∀ ts:List Str,(ts.map V.str).all il=true
 | []=>rfl
 | t::ts=>by rw[map_cons,all_cons,ll ts];rfl
structure U where
 name:Str
 value:Int
 size:Int
 path:List Str
theorem oW:(" " : Str)=⟨#[32]⟩:=by decide +kernel
theorem mK:∀{ts us:List Str},ts.map (λt=>t.cps.toList)=us.map (λt=>t.cps.toList)->ts=us
 | [],[],_=>rfl
 | [],_::_,h=>by cases h
 | _::_,[],h=>by cases h
 | t::ts,u::us,h=>by
  rw[map_cons,map_cons]at h;injection h with h1 h2
  rw[ext_toList h1,mK h2]
theorem qX{n:Int}(h:n.natAbs<10 ^ 12):NumM.numO (NumM.codesI n)=some n:=by
 have g:NumM.valS (NumM.codesI n)=n/\NumM.digB (NumM.bareL (NumM.codesI n))=true:=by
  have f:∀ m:Nat,m<10 ^ 12->NumM.digB ((Nat.toDigits 10 m).map Char.toNat)=true:=λm i=>by
   have o:=jH 11 m i;have p:=toDigits_len_ge 10 m;unfold NumM.digB;rw[decide_eq_true (by rw[length_map];lia),Bool.true_and,all_eq_true];intro c j;have:c∈NumM.codesI (m:Int):=by rw[NumM.codes_nat];exact j
   have s:=jv this;obtain⟨l,b,e⟩:=mem_map.mp j;have r:=digit_range (Nat.isDigit_of_mem_toDigits (by decide) (by decide) b);rw[<- e];exact decide_eq_true r
  have a:∀ m:Nat,((Nat.toDigits 10 m).map Char.toNat).head?≠some 45:=λm z=>by
   have i:45∈(Nat.toDigits 10 m).map Char.toNat:=List.mem_of_mem_head? z;obtain⟨l,b,e⟩:=mem_map.mp i;have r:=digit_range (Nat.isDigit_of_mem_toDigits (by decide) (by decide) b);lia
  by_cases h0:0<=n
  .obtain⟨m,rfl⟩:=Int.eq_ofNat_of_zero_le h0
   rw[NumM.codes_nat];have d:NumM.bareL ((Nat.toDigits 10 m).map Char.toNat)=(Nat.toDigits 10 m).map Char.toNat:=by unfold NumM.bareL;rw[if_neg (a m)]
   refine⟨?_,by rw[d];exact f m (by simpa using h)⟩;unfold NumM.valS;rw[if_neg (a m),d,PySem.W.KIN.val_back]
  .obtain⟨m,rfl⟩:∃ m:Nat,n = -(m:Int):=⟨n.natAbs,by lia⟩
   rw[NumM.codes_neg m (by lia)];have d:NumM.bareL (45::(Nat.toDigits 10 m).map Char.toNat)=(Nat.toDigits 10 m).map Char.toNat:=rfl;refine⟨?_,by rw[d];exact f m (by simpa using h)⟩;unfold NumM.valS;rw[if_pos (show(45::(Nat.toDigits 10 m).map Char.toNat).head? = some 45 from rfl),d,PySem.W.KIN.val_back]
 unfold NumM.numO;rw[g.2,(NumM.str_back g.2).mp (by rw[g.1]),g.1];rfl
section
variable {X:Cx}{K:Frag}
theorem aY(h:X.K=K):IxR X (rIx K):=h ▸ am
theorem uZ(h:X.K=K):SlR X (λx lo hi H Q=>match x with
  | .str z=>z.length<=sizeLine/\Q (.str (kB z lo hi)) H
  | .ref a=>(∃ xs,SqL K H a xs/\∀ p,H p=none->Q (.ref p) (upd H p (.lst (fN xs lo hi)))) \/
    ∃ xs,SqT K H a xs/\¬(HT.sIx xs.length 0 lo=0/\HT.sIx xs.length xs.length hi=xs.length)/\∀ p,H p=none->Q (.ref p) (upd H p (.tup (fN xs lo hi)))
  | _=>False):=h ▸ gG
theorem oF(h:X.K=K):OpR X (compareOp .In) (rIn K false):=h ▸ i8
theorem fO(h:X.K=K):OpR X (compareOp .NotIn) (rIn K true):=h ▸ iC
theorem dU(h:X.K=K){a:List Expr}{k:Nat}{t:TGs}{n:Nat}{b:Pos}(e:X.calm=true)(f:PGs X a t)(d:(assignEach a X.env).length=n:=by rfl)(c:(assignEach a X.env).findIdx? (·.1)=none:=by rfl) :
  PG X (.Tuple a k b) (gTup K n t):=h ▸ bA e f d c
end
structure XCls(K:Frag)(D:Addr):Prop where
 ga:findIn K (.ref D) "__getattribute__" = some (some (.builtin "BaseException.__getattribute__"))
 gn:findIn K (.ref D) "__getattr__" = some none
 cl:findIn K (.ref D) "__class__" = some (some (.builtin "object.__class__"))
 mb:mroIn K D (.type "BaseException")=some true
 mo:mroIn K D (.type "object")=some true
 isc:(clsIn K D).isSome=true
section
variable {prog:Program}{w:World}{A:Around}{E:Value->Shared->Prop}{h:Heap}{g:Array GenState}{d:Drawn}{t:Nat}{os:OsState}{a D:Addr}{o:Obj}{K:Frag}
end
theorem ud{fs:List Addr}{g H:Hp}{f h h2:Heap}(u:Un fs [] g H f h)(k:∀ b o,(∃ o',f.get? b=some o')->b ∉ fs->h.get? b=some o->h2.get? b=some o)
  (i:∀ b o,b∈fs->h.get? b=some o->∃ l,h2.get? b=some { o with slots:=l }):Un fs [] g H f h2 where
 keep:=λb o q n a c=>k b o ⟨o,q⟩ a (u.keep b o q n a c)
 slot:=λb o q n a c=>by
  obtain⟨l,e⟩:=u.slot b o q n a c;obtain⟨j,d⟩:=i b _ a e;exact⟨j,d⟩
 free:=u.free
 there:=λb o q c=>by
  obtain⟨o',e⟩:=u.there b o q c
  by_cases a:b∈fs
  .obtain⟨l,d⟩:=i b o' a e
   exact⟨_,d⟩
  .exact⟨o',k b o' ⟨o,q⟩ a e⟩
 tups:=u.tups
 frzs:=u.frzs
 tbls:=u.tbls
theorem rG{P:Program}{w:World}{H:Hp}{h h2:Heap}(x:HOk P w H h)(k:∀ b o u,H b=some u->h.get? b=some o->h2.get? b=some o):HOk P w H h2:=λa o e =>
 (x a o e).stay (λb u c q=>by
  rcases c with z | z
  .rw[z]at q ⊢
   exact k a u o e q
  .exact k b u _ z q) (λ_ q=>q) λ_ _ q=>q
theorem ObjOk.isObj{P:Program}{w:World}{H:Hp}{h:Heap}{a:Addr}{o:HO}(x:ObjOk P w H h a o):∃ u,h.get? a=some u:=by
 cases o with
 | lst xs=>obtain⟨_,_,_,_,e⟩:=x;exact⟨_,e⟩
 | tup xs=>obtain⟨_,_,_,_,e,_⟩:=x;exact⟨_,e⟩
 | dK kvs=>obtain⟨_,_,_,_,o,_,_,e,_⟩:=x;exact⟨_,e⟩
 | dT kvs=>obtain⟨_,_,_,_,o,_,_,e,_⟩:=x;exact⟨_,e⟩
 | set S n=>obtain⟨o,_,_,_,e,_⟩:=x;exact⟨_,e⟩
 | ins C dx fs=>obtain⟨_,_,_,e,_⟩:=x;exact⟨_,e⟩
 | own y=>exact x
 | xd fs=>obtain⟨_,⟨_,_,_,e,_⟩,_⟩:=x;exact⟨_,e⟩
 | rng lo hi=>obtain⟨_,_,_,e⟩:=x;exact⟨_,e⟩
 | frz ob u=>exact⟨_,x.1⟩
 | tbl ps=>exact⟨_,x⟩
 | met f y=>exact⟨_,x⟩
 | ext φ=>exact x.2.1
section
variable {P:Program}{w:World}{outer:List Env}{H H':Hp}{s s':Shared}{x D:Addr}{a0:Value}{B:Heap}
end
section
variable {X:Cx}{pins:List (Addr×Obj)}{σ:St}{H H':Hp}{s s':Shared}{x D:Addr}{a0:Value}{B h2:Heap}
end
section
variable {P:Program}{w:World}{K:Frag}{mg:Str->Option Value}{base:Heap}{N:List Str}{qual:Str}{scope:Scope}{f:Addr}{cdv:Value}{A:Around}{outer:List Env}{s0:Shared}{H0:Hp}{E:XK}
end
section
variable {P:Program}{w:World}{K:Frag}{mg:Str->Option Value}{base:Heap}
end
structure XHd(K:Frag)(C:Addr):Prop where
 isc:(clsIn K C).isSome=true
 ty:typeIn K (.ref C)=some (.type "type")
 mb:mroIn K C (.type "BaseException")=some true
theorem my{K:Frag}{M:Model}{h:Heap}{C:Addr}(X:K.In h)(e:(clsIn K C).isSome=true):Looks M h (isType (.ref C)) true:=by
 obtain⟨b,a⟩:=Option.isSome_iff_exists.mp e;unfold clsIn at a
 split at a
 .rename_i c' d' cd' sl' ho
  intro f d c g k q;unfold isType loadHead;exact wpAny_bind (wpAny_loadPart (k _ _ (X _ _ ho)) (wpAny_pure q))
 .cases a
theorem pU{K:Frag}{M:Model}{h:Heap}{C D x:Addr}{b:Obj}(X:K.In h)(c:XHd K C)(f:h.get? x=some b)(j:b.cls=.ref D)(i:mroIn K D (.ref C)=some true) :
  Looks M h (excMatches (.ref x) (.ref C)) true:=by
 have d:Looks M h (typeOf (.ref C)) (.type "type"):=looks_typeIn X c.ty;have a:Looks M h (isSubtype (.type "type") (.type "tuple")) false:=Looks.of_pure tc_notTuple;have g:Looks M h (isInstance (.ref C) (.type "tuple")) false:=d.andThen a
 have o:Looks M h (isExcClass (.ref C)) true:=by
  unfold isExcClass;exact(my X c.isc).andThen (looks_mroIn X c.mb)
 have e:Looks M h (typeOf (.ref x)) (.ref D):=j ▸ (Looks.ld f).andThen .now;have l:Looks M h (isSubtype (.ref D) (.ref C)) true:=looks_mroIn X i;intro A Q E s k q;unfold excMatches;refine wpAny_bind (g A _ E s k ?_);rw[if_neg Bool.false_ne_true];refine wpAny_bind (wpAny_pure ?_);simp only[forIn_cons,List.forIn_nil,bind_assoc,pure_bind];refine wpAny_bind (o A _ E s k ?_);simp only[Bool.not_true,Bool.false_eq_true,if_false,pure_bind];refine wpAny_bind (e A _ E s k ?_);refine wpAny_bind (l A _ E s k ?_);simp only[if_true,pure_bind];exact wpAny_pure q
def Cx.inX(X:Cx)(x:Addr):Cx:={ X with A:=X.A.mark (some (.ref x)),calm:=false,xe:=λ_ _=>False }
section
variable {X:Cx}{pins:List (Addr×Obj)}{σ:St}{H H' H1:Hp}{s s' s1:Shared}{x D C:Addr}{a0:Value}{B h2:Heap}
theorem Inv.inX(I:Inv X pins σ H s)(x:Addr):Inv (X.inX x) pins σ H s :=
 ⟨⟨I.ok.mod,I.ok.kind,I.ok.glob,I.ok.blt,I.ok.above,I.ok.inj,I.ok.has,I.ok.cab,λz=>absurd (show false=true from z) Bool.false_ne_true,I.ok.frames,I.ok.stk,I.ok.exf,I.ok.bs,I.ok.bsz,I.ok.noex,I.ok.exfs,I.ok.funs,I.ok.frf⟩,
  I.os,I.bare,I.base,I.loc,I.cell,I.free,I.freeC,I.pin,I.hok,I.len⟩
theorem Inv.outX(a:X.calm=true->X.A.handled=none)(I:Inv (X.inX x) pins σ H s):Inv X pins σ H s :=
 ⟨⟨I.ok.mod,I.ok.kind,I.ok.glob,I.ok.blt,I.ok.above,I.ok.inj,I.ok.has,I.ok.cab,a,I.ok.frames,I.ok.stk,I.ok.exf,I.ok.bs,I.ok.bsz,I.ok.noex,I.ok.exfs,I.ok.funs,I.ok.frf⟩,
  I.os,I.bare,I.base,I.loc,I.cell,I.free,I.freeC,I.pin,I.hok,I.len⟩
end
section
variable {prog:Program}{w:World}{A:Around}{E:Value->Shared->Prop}{h:Heap}{g:Array GenState}{d:Drawn}{t:Nat}{os:OsState}{a D dx:Addr}{o:Obj}{vs:Array Value}{cd:ClassData}{K:Frag}{name:Str}{mA:Str->Option Value}{v:Value}
abbrev bmV:List Value:=[.type "ValueError",.type "Exception",.type "BaseException",.type "object"]
def yB:Value->Bool
 | .ref _=>true
 | _=>false
def vj(l:List Value):Bool:=l.dropWhile yB == bmV
structure XSet(K:Frag)(D:Addr)(name:Str)(cd:ClassData):Prop where
 k:clsIn K D=some cd
 dct:cd.hasDict=true
 mro:vj cd.mro=true
 mo:mroIn K D (.type "object")=some true
 sa:findIn K (.ref D) "__setattr__" = some (some (.builtin "object.__setattr__"))
 na:findIn K (.ref D) name=some none
end
section
variable {prog:Program}{w:World}{A:Around}{E:Value->Shared->Prop}{h:Heap}{g:Array GenState}{d:Drawn}{t:Nat}{os:OsState}
variable {nm q:Str}{C N fI:Addr}{bs bm bmB:List Value}{hdct:Bool}{sn:List Str}{sub:List Value}{ab:Bool}{col:Option Bool}{dd:Option Addr}{k0 k1 k2 k3 k5:Option Value}{B newId initId:String}{mN:Str->Option Value}{bM:List Value}{oI:Obj}
end
def xIn(K:Frag)(C:Addr)(fI:Option Value):Bool:=match K.lookup C with
 | some ⟨.type "type",_,.cls cd,sl⟩=>(match cd.mro,sl.toList with
  | .ref C'::bm,[_,_,_,_,some (.builtin n),_]=>C' == C && n == "ValueError.__new__" && !cd.hasDel && tailIn K bmV bm && nsOkIn K cd.ns && nsIn K cd.ns "__init__" == some fI
  | _,_=>false)
 | _=>false
def ox(K:Frag)(D:Addr):Bool:=findIn K (.ref D) "__getattribute__" == some (some (.builtin "BaseException.__getattribute__")) && findIn K (.ref D) "__getattr__" == some none &&
 findIn K (.ref D) "__class__" == some (some (.builtin "object.__class__")) && mroIn K D (.type "BaseException") == some true && mroIn K D (.type "object") == some true && (clsIn K D).isSome && typeIn K (.ref D) == some (.type "type")
theorem yS{K:Frag}{D:Addr}(h:ox K D=true):XCls K D:=by
 unfold ox at h;simp only[Bool.and_eq_true,beq_iff_eq]at h;obtain⟨⟨⟨⟨⟨⟨b,c⟩,e⟩,d⟩,a⟩,f⟩,g⟩:=h;exact⟨b,c,e,d,a,f⟩
theorem xq{K:Frag}{D:Addr}(h:ox K D=true):XHd K D:=by
 unfold ox at h;simp only[Bool.and_eq_true,beq_iff_eq]at h;obtain⟨⟨⟨⟨⟨⟨e,f⟩,g⟩,b⟩,d⟩,c⟩,a⟩:=h;exact⟨c,a,b⟩
def vE(K:Frag)(D:Addr)(name:Str):Bool:=((clsIn K D).any λcd=>cd.hasDict && vj cd.mro) && mroIn K D (.type "object") == some true &&
 findIn K (.ref D) "__setattr__" == some (some (.builtin "object.__setattr__")) && findIn K (.ref D) name == some none
theorem yR{K:Frag}{D:Addr}{name:Str}(h:vE K D name=true):∃ cd,XSet K D name cd:=by
 unfold vE at h;simp only[Bool.and_eq_true,beq_iff_eq]at h;obtain⟨⟨⟨b,c⟩,f⟩,d⟩:=h;obtain⟨cd,e,a⟩:=any_some b;rw[Bool.and_eq_true]at a;exact⟨cd,e,a.1,a.2,c,f,d⟩
section
variable {P:Program}{w:World}{K:Frag}{mg:Str->Option Value}{base:Heap}{N:List Str}{qual:Str}{scope:Scope}{f:Addr}{cdv:Value}{A:Around}{outer:List Env}{s0:Shared}{H0:Hp}{E:XK}
end
section
variable {X:Cx}{k:Nat}{f C:Addr}{fd:FuncData}{ps:List Str}{sp:Sp}{x:Str}{p pos:Pos}{e:Expr}{es:List Expr}{t:TA}
end
section
variable {prog:Program}{w:World}{KT:Type} [DecidableEq KT] {knd:KeyKind prog w KT}{A:Around}{E:Value->Shared->Prop}{s:Shared}{d:Addr}{kvs:List (KT×Value)}{k:KT}{key dflt:Value}
theorem wp{Q:Value->Shared->Prop}(c:knd.is k key=true)(K:s.heap.DictOf knd d kvs)(hz:kvs.length<=sizeLine)(j:valueAt kvs k=none)
  (h:∀ h',h'.DictOf knd d (kvs++[(k,dflt)])->Heap.SameBut d s.heap h'->Q dflt { s with heap:=h',toks:=s.toks+1 }):wpAny (model prog w) A (dictSetDefault d key dflt) Q E s:=by
 obtain⟨N,p,D,o,y,f,u,i,z⟩:=K
 have C:p.size<=sizeLine:=by
  have L:=i.length;have M:p.toList.length=p.size:=by simp
  lia
 have g:∀ q∈kvs,q.1≠k:=λq r v=>by
  unfold valueAt at j;rw[Option.map_eq_none_iff,List.find?_eq_none]at j;exact j q r (by simpa using v)
 have B:(p.findIdx? λe=>knd.is k e.key)=none:=by
  have F:(p.findIdx? λe=>knd.is k e.key)=kvs.findIdx? λq=>decide (q.1=k):=by
   rw[<- i.findIdx k];obtain⟨l⟩:=p;simp
  rw[F,List.findIdx?_eq_none_iff];intro q r;simpa using g q r
 unfold dictSetDefault;refine wpAny_holding (wpAny_bind (knd.pyHash c (wpAny_bind (wpAny_dictFind_of (s:={ s with toks:=s.toks+1 }) c o f u ?_))));rw[B]
 refine wpAny_bind (wpAny_rule (wpAny_bind (wpAny_updateDictKeys (hz:=C) (s:={ s with toks:=s.toks+1 }) o f (wpAny_pure (h _ ⟨_,_,D+1,Heap.get?_update_self _ o (Obj.isFreed_of_dict (Obj.data_mapDictKeys f _)),
  y.mapDictKeys _,Obj.data_mapDictKeys f _,u.push c _,?_,?_⟩ (Heap.SameBut.update ..))))))
 .have G:=i.append c (knd.hash k) dflt
  obtain⟨l⟩:=p;simpa using G
 .rw[map_append,nodup_append]
  refine⟨z,by simp,λa H b I=>?_⟩;obtain⟨q,r,rfl⟩:=mem_map.mp H;have x:b=k:=by simpa using I
  rw[x];exact g q r
theorem tD(b:knd.is k key=true)(u:(d == sysModules)=false)(a:Value):MeetsIn prog w (Builtin.«dict.setdefault» ⟨[.ref d,key,a],[]⟩) (λ_ R s=>∃ kvs,s.heap.DictOf knd d kvs/\kvs.length<=sizeLine /\
  (∀ v,valueAt kvs k=some v->R (.ok (.ret v)) { s with toks:=s.toks+1 })/\(valueAt kvs k=none->∀ h',h'.DictOf knd d (kvs++[(k,a)])->Heap.SameBut d s.heap h'->R (.ok (.ret a)) { s with heap:=h',toks:=s.toks+1 })) :=
 .of_wp λA R s ⟨kvs,c,hz,p,B⟩=>by
  have r:s.heap.DictLe d sizeLine:=by
   obtain⟨M,l,F,h,C,e,y,g,D⟩:=id c;intro H G L o j;rw[h]at o;cases o;rw[e]at j;cases j;have I:=g.length;have K:l.toList.length=l.size:=by simp
   lia
  unfold Builtin.«dict.setdefault»;refine wpAny_bind ?_;unfold Builtin.Dict.keyAndDefault;refine wpAny_bind (wpAny_notOrdered_dict c.typeIs (show wpAny _ _ (pure (d,key,some a)) _ _ s from wpAny_pure ?_));show wpAny _ _ (if (d == sysModules)=true then _ else (dictSetDefault d key a >>= _)) _ _ s;rw[if_neg (by rw[u];exact Bool.false_ne_true)];cases hv:valueAt kvs k with
  | some v=>exact wpAny_bind (wpAny_dictSetDefault_of (hz:=r) b c.mapOf (λi f=>wpAny_pure ⟨i,rfl,p i f⟩) λhn=>absurd hn (by rw[hv];exact λz=>nomatch z))
  | none=>exact wpAny_bind (wp b c hz hv λh' E x=>wpAny_pure ⟨a,rfl,B hv h' E x⟩)
end
def vB:V->List V->Hp->VK->Prop:=λx vs H Q=>∃(a:Addr) (kvs:List (Key×V)) (k:Key) (v:V),x=.ref a/\vs=[kV k,v]/\H a=some (.dK kvs)/\kvs.length<sizeLine /\
 (∀ y,cm kvs k=some y->Q y H)/\(cm kvs k=none->Q v (upd H a (.dK (kvs++[(k,v)]))))
section
variable {X:Cx}
theorem tQ:MtR X "dict.setdefault" vB:=by
 intro r s R H x d v O Q I D A h;obtain⟨a,c,k,y,rfl,rfl,e,l,C,G⟩:=h;cases D;obtain⟨P,f,rfl,K,u⟩:=mO A;obtain⟨z,i,d,b,j⟩:=pe I.hok e;have M:d.length<=sizeLine:=by rw[<- b.length];exact z
 refine call_meetsIn PySem.F.slot_dict_setdefault j.typeIs PySem.F.entry_dict_setdefault (PySem.F.args_dict_setdefault_3 _ _ _) (tD (knd:=bq X.prog X.w) (pC K) i f) ⟨d,j,M,λN g=>?_,λhn h' m' s'=>?_⟩
 .have:=b.val k
  rw[g]at this;cases q:cm c k with
  | none=>rw[q]at this;exact False.elim this
  | some y' =>
   rw[q]at this;exact⟨y',H,I.tok _,this,C y' q⟩
 .have:=b.val k
  rw[hn]at this
  have q:cm c k=none:=by
   cases q:cm c k with
   | none=>rfl
   | some y'=>rw[q]at this;exact False.elim this
  have B:KV (c++[(k,y)]) (d++[(k,f)]):=by
   have p:=b.put k u
   have E:stored d k f=d++[(k,f)]:=by
    unfold stored;rw[if_neg];intro w;have o:=(b.any k).trans w;rw[fQ,q]at o;cases o
   rw[rA y q,E]at p;exact p
  have L:(c++[(k,y)]).length<=sizeLine:=by rw[length_append];exact l
  have F:∃ ob,h'.get? a=some ob:=let ⟨ob,_,_,hq,_⟩:=m';⟨ob,hq⟩;exact⟨y,_,lX I (by rw[e];exact True.intro) s' F (sB L i B m'),u,G q⟩
end
theorem oM{b:Addr}{o:HO}:∀{l:List (Addr×HO)},l.lookup b=some o->(b,o)∈l
 | [],e=>by simp at e
 | (c,u)::r,e=>by
  rw[lookup_cons]at e
  by_cases h:b=c
  .rw[show(b == c)=true by simpa using h]at e
   cases e;rw[h];exact mem_cons_self
  .rw[show(b == c)=false by simpa using h]at e
   exact mem_cons_of_mem _ (oM e)
def IV(v d:Addr):Heap->Prop:=λh=>h.IsItemsView v d
def rC:V->List V->Hp->VK->Prop:=λx vs H Q=>∃(d:Addr) (kvs:List (Key×V)),x=.ref d/\vs=[]/\H d=some (.dK kvs)/\∀ v,H v=none->Q (.ref v) (upd H v (.ext (IV v d)))
section
variable {X:Cx}{o e:Expr}{es:List Expr}{to:TE}{t:TA}{apos cpos:Pos}
theorem sC:MtR X "dict.items" rC:=by
 intro f s F H x C v G Q I j p h;obtain⟨d,w,rfl,rfl,e,q⟩:=h;cases j;cases p;obtain⟨z,y,A,B,c⟩:=pe I.hok e;refine call_meetsIn PySem.F.slot_dict_items c.typeIs PySem.F.entry_dict_items (PySem.F.args_dict_items_1 _) (meets_dict_items (bq X.prog X.w) d y) ⟨⟨A,c⟩,?_⟩;refine⟨.ref s.heap.objs.size,_,I.laid (t':=s.toks) (a:=s.heap.objs.size) (o:=.ext (IV s.heap.objs.size d)) (λb u e=>Heap.get?_push_of_some _ e) (Nat.le_refl _) ?_,rfl,q _ (I.hok.fresh (Nat.le_refl _))⟩;have g:(s.heap.push { cls:=.type "dict_items",data:=.fields #[.ref d] }).get? s.heap.objs.size=some { cls:=.type "dict_items",data:=.fields #[.ref d] }:=Heap.get?_push_size _ rfl;exact⟨⟨_,g,rfl,rfl⟩,⟨_,g⟩,λD E ⟨i,l,r⟩ k=>⟨i,k i l,r⟩⟩
def vX:List V->Hp->VK->Prop:=λxs H Q=>∃(v d:Addr) (kvs:List (Key×V)),xs=[.ref v]/\H v=some (.ext (IV v d))/\H d=some (.dK kvs) /\
 ∀(l:Addr) (as:List Addr) (H':Hp),Same H H'->H l=none->H' l=some (.lst (as.map V.ref))->as.length=kvs.length ->
  (∀(j:Nat) (a:Addr) (k:Key) (y:V),as[j]? = some a->kvs[j]? = some (k,y)->H a=none/\H' a=some (.tup [kV k,y]))->Q (.ref l) H'
theorem rJ{P:Program}{w:World}{k:Key}{u:Value}(h:(bq P w).is k u=true):RelV (kV k) u:=by
 cases k with
 | inl i =>
  cases u <;> first | exact absurd h Bool.false_ne_true | (rename_i j t;have a:im (Sum.inl i) (Value.int j t)=true:=h;have:j=i:=(by simpa[im,Value.isInt] using a);exact(show ∃ t',Value.int j t=Value.int i t' from⟨t,by rw[this]⟩))
 | inr x =>
  cases u <;> first | exact absurd h Bool.false_ne_true | (rename_i j t;have a:im (Sum.inr x) (Value.str j t)=true:=h;have:j=x:=(by simpa[im,Value.isStrOf] using a);exact(show ∃ t',Value.str j t=Value.str x t' from⟨t,by rw[this]⟩))
theorem nZ(hc:X.calm=true):CallR X (.type "list") vX:=by
 intro ap s σ H xs us Q I r h;obtain⟨v,d,A,rfl,ev,ed,q⟩:=h;obtain⟨u,rfl,ru⟩:=dw r;cases ru;obtain⟨z,hd,ws,G,dd⟩:=pe I.hok ed;obtain⟨ob,en,ep,an⟩:=id dd;have hz:ws.length<=sizeLine:=by rw[<- G.length];exact z
 have hv:s.heap.IsItemsView v d:=(I.hok v _ ev).1
 have P:s.heap.DictAt (bq X.prog X.w) d ws ep:=⟨ob,en,an⟩
 refine PySem.W.kdx_call (knd:=bq X.prog X.w) (I.ok.hd hc) hv P hz λh' tk T c f hk hS hl hG N=>?_
 have i:f.length=A.length:=by rw[hl,G.length]
 have g:∀ b,s.heap.objs.size<=b->H b=none:=λb C=>I.hok.fresh C
 have aS:∀ a∈f,s.heap.objs.size<a:=hG.above;have Z:f.Nodup:=hG.rise.imp (λh=>Nat.ne_of_lt h)
 let tb:List (Addr×HO):=f.zip (A.map λp=>HO.tup [kV p.1,p.2])
 have a1:tb.length=f.length:=by simp[tb,i]
 let H':Hp:=λb=>if b=s.heap.objs.size then some (.lst (f.map V.ref)) else (tb.lookup b).or (H b)
 have ab:∀ b o,tb.lookup b=some o->b∈f:=λb o e=>by
  have m:=oM e;exact(of_mem_zip (show(b,o)∈f.zip (A.map λp=>HO.tup [kV p.1,p.2]) from m)).1
 have R:∀ b,b<s.heap.objs.size->H' b=H b:=λb C=>by
  show(if b=s.heap.objs.size then _ else _)=_;rw[if_neg (Nat.ne_of_lt C)];cases q:tb.lookup b with
  | none=>rfl
  | some o=>exact absurd (aS b (ab b o q)) (Nat.not_lt.mpr (Nat.le_of_lt C))
 have L:Same H H':=λb o e=>by
  have C:b<s.heap.objs.size:=Nat.lt_of_not_le λw=>by rw[g b w]at e;cases e
  rw[R b C];exact e
 have at_:∀(j:Nat) (a:Addr) (k:Key) (y:V),f[j]? = some a->A[j]? = some (k,y)->H' a=some (.tup [kV k,y]):=λj a k y E Y=>by
  have P:a∈f:=List.mem_of_getElem? E;show(if a=s.heap.objs.size then _ else _)=_;rw[if_neg (Nat.ne_of_gt (aS a P))]
  have e1:tb[j]? = some (a,.tup [kV k,y]):=by
   simp only[tb];rw[List.getElem?_zip_eq_some];refine⟨E,?_⟩;rw[List.getElem?_map,Y];rfl
  have O:tb.lookup a=some (.tup [kV k,y]):=by
   have D:∀(f:List Addr) (F:List HO) (j:Nat) (a:Addr) (o:HO),f.Nodup->f[j]? = some a->F[j]? = some o->(f.zip F).lookup a=some o:=by
    intro f
    induction f with
    | nil=>intro F j a o _ h;simp at h
    | cons x r ih =>
     intro F j a o Z h1 h2;cases F with
     | nil=>simp at h2
     | cons o0 F =>
      rw[List.zip_cons_cons,lookup_cons];cases j with
      | zero =>
       have e1:x=a:=by simpa using h1
       have O:o0=o:=by simpa using h2
       subst e1 O;simp
      | succ j =>
       have m:a∈r:=List.mem_of_getElem? (show r[j]? = some a by simpa using h1);have ne:a≠x:=λw=>(nodup_cons.mp Z).1 (w ▸ m)
       rw[show(a == x)=false by simpa using ne];exact ih F j a o (nodup_cons.mp Z).2 (by simpa using h1) (by simpa using h2)
   exact D f _ j a _ Z E (by rw[List.getElem?_map,Y];rfl)
  rw[O];rfl
 have al:HOk X.prog X.w H' h':=λb o e=>by
  by_cases C:b=s.heap.objs.size
  .subst C
   have K:some (HO.lst (f.map V.ref))=some o:=by
    rw[<- e];show _=if s.heap.objs.size=s.heap.objs.size then _ else _
    rw[if_pos rfl]
   cases K
   have S:Vals (f.map V.ref) T.toList:=by
    rw[N]
    have:∀(l:List Addr),Vals (l.map V.ref) (l.map Value.ref):=by
     intro l
     induction l with
     | nil=>exact .nil
     | cons a l ih=>exact .cons rfl ih
    exact this f
   refine⟨by rw[length_map,i];exact z,T.toList,c,S,?_⟩;rw[hS]
  .have K:(tb.lookup b).or (H b)=some o:=by
    have:=e;simp only[H',if_neg C]at this;exact this
   cases qb:tb.lookup b with
   | some o' =>
    rw[qb]at K;cases K;have P:=oM qb;obtain⟨j,hj⟩:=List.mem_iff_getElem?.mp P;simp only[tb]at hj;rw[List.getElem?_zip_eq_some]at hj;obtain⟨E,W⟩:=hj;rw[List.getElem?_map]at W;cases hkv:A[j]? with
    | none=>rw[hkv]at W;cases W
    | some p =>
     rw[hkv]at W;cases W;obtain⟨D,k,x,hx,ad,hg⟩:=hG.pairs j b E
     obtain⟨B,hq',e3,r3⟩:∃ B,ws[j]? = some B/\p.1=B.1/\RelV p.2 B.2:=by
      have:∀{a:List (Key×V)}{b:List (Key×Value)},KV a b->∀(j:Nat) (p:Key×V),a[j]? = some p->∃ B,b[j]? = some B/\p.1=B.1/\RelV p.2 B.2:=by
       intro a b r
       induction r with
       | nil=>intro j p h;simp at h
       | @cons a0 b0 l1 l2 h0 _ ih =>
        intro j p h;cases j with
        | zero =>
         have e0:a0=p:=by simpa using h
         subst e0;exact⟨b0,by simp,h0⟩
        | succ j=>exact ih j p (by simpa using h) |>.imp λB hq=>⟨by simpa using hq.1,hq.2⟩
      exact this G j p hkv
     rw[hx]at hq';cases hq'
     have rk:RelV (kV p.1) D:=by
      have:p.1=k:=e3;rw[this];exact rJ ad
     exact⟨(by decide:2<=sizeLine),[D,x],.cons rk (.cons r3 .nil),⟨_,hg,rfl,_,rfl⟩⟩
   | none =>
    rw[qb]at K;have O:H b=some o:=K;refine(I.hok b o O).stay (λb2 u _ M=>hk b2 u M) (λb2 M=>L _ _ M) λb2 xs M=>L _ _ M
 refine⟨.ref s.heap.objs.size,H',I.un (t':=tk) ⟨λb o e _ _ _=>hk b o e,λb o e _ _ _=>⟨o.slots,hk b o e⟩,λb o e n _=>?_,λb o e _=>⟨o,hk b o e⟩,λb xs e=>L _ _ e,λb o u e=>L _ _ e,λb ps e=>⟨#[],by rw[L _ _ e];simp⟩⟩ al,rfl,?_⟩
 .rw[R b (Heap.lt_size e)]
  exact n
 .refine q _ f H' L (g _ (Nat.le_refl _)) ?_ i λj a k y E Y=>⟨g a (Nat.le_of_lt (aS a (List.mem_of_getElem? E))),at_ j a k y E Y⟩
  show(if _ then _ else _)=_;rw[if_pos rfl]
end
section
variable {X:Cx}{o e:Expr}{es:List Expr}{to:TE}{t:TA}{apos cpos:Pos}
theorem pe_m.setdefault(f:PE X o to)(g:PA X (e::es) t)(b:attributeBase o "setdefault" X.env (eval o X.env)=eval o X.env:=by rfl)
  (d:((backTo cpos (starEach (e::es) X.env)).all (λx=>!x.1) && (backToKw cpos (keywordEach [] X.env)).all (λx=>x.1.isSome) && decide ((e::es).length+([]:List Keyword).length+(if ([]:List Keyword).isEmpty then 0 else 1)<30))=true:=by rfl)
  (c:(apos.endLine == cpos.line)=true:=by rfl) (h:starEach (e::es) X.env=(false,eval e X.env)::starEach es X.env:=by rfl) (a:(backTo cpos (starEach es X.env)).any (·.1)=false:=by rfl) :
  PE X (.Call (.Attribute o "setdefault" apos) (e::es) [] cpos) (tBM X.K "dict" vB to t):=j2 F.plainAttrs_dict F.slot_dict_setdefault F.type_dict_setdefault tQ f g b d c h a
theorem pe_m.items(c:PE X o to)(b:attributeBase o "items" X.env (eval o X.env)=eval o X.env:=by rfl)(a:(apos.endLine == cpos.line)=true:=by rfl) :
  PE X (.Call (.Attribute o "items" apos) [] [] cpos) (uV X.K "dict" rC to):=oy F.plainAttrs_dict F.slot_dict_items F.type_dict_items sC c b a
end
theorem pc:∀{xs:List V}{us:List Value},xs.length=us.length->(∀(i:Nat) x u,xs[i]? = some x->us[i]? = some u->RelV x u)->Vals xs us
 | [],[],_,_=>.nil
 | x::xs,u::us,h,r=>.cons (r 0 x u rfl rfl) (pc (by simpa using h) λi y w a b=>r (i+1) y w (by simpa using a) (by simpa using b))
 | [],_::_,h,_=>by cases h
 | _::_,[],h,_=>by cases h
section
variable {X:Cx}
theorem qo:CallR X (.type "range") (λxs H Q=>∃ b,xs=[.int b]/\∀ p,H p=none->Q (.ref p) (upd H p (.rng 0 b))):=by
 intro a s c H xs d Q I r h;obtain⟨b,rfl,q⟩:=h;obtain⟨u,rfl,⟨t,rfl⟩⟩:=dw r;refine call_range_1 ?_;exact⟨.ref s.heap.objs.size,_,I.laid (o:=.rng 0 b) (λb o e=>Heap.get?_push_of_some _ e) (Nat.le_refl _) ⟨_,_,_,Heap.get?_push_size _ rfl⟩,rfl,q _ (I.hok.fresh (Nat.le_refl _))⟩
end
def Fx(h:Heap)(e:Addr)(cls:Value)(dct:Option Addr)(fl:Value)(T:Addr):Prop :=
 ∃ ob fs oT ts,h.get? e=some ob/\ob.cls=cls/\ob.dict=dct/\ob.data=.fields fs/\fs[1]? = some (.ref T)/\T≠e/\h.get? T=some oT/\oT.data=.fields ts/\ts[3]? = some fl
theorem j3(f:Array Value->Array Value)(o:Obj):(Obj.mapFields f o).dict=o.dict:=by
 obtain⟨c,d,a,b⟩:=o
 cases a <;> rfl
theorem rO(f:Array Value->Array Value)(o:Obj):(Obj.mapFields f o).cls=o.cls:=Obj.cls_mapFields _ _
section
variable {M:Model}{A:Around}{E:Value->Shared->Prop}{s:Shared}{base:Heap}{env:Env}{outer:List Env}{L e:Addr}{ob:Obj}{fs:Array Value}{head:Value}{more:Bool}
theorem qZ{Q:Unit->Shared->Prop}(fr:A.frames=some (env::outer))(x:s.heap.FunFrames base (env::outer))(H:env.frame=some L)(C:s.heap.get? e=some ob)(j:ob.data=.fields fs)(z:1<fs.size)
  (h:∀ h' T,Fx h' e ob.cls ob.dict (rawInt L) T->s.heap.get? T=none->(∀ b o,b≠e->b ∉ frs (env::outer)->s.heap.get? b=some o->h'.get? b=some o) ->
   (∀ b o,b≠e->s.heap.get? b=some o->∃ sl,h'.get? b=some { o with slots:=sl })->Q () { s with heap:=h' }) :
  wpAny M A (do let a <- frameOf env;let pl <- entryPlaceOf L more;let b <- EntryCells.newEntry head a .none (rawInt L) .none pl;setField (.ref e) 1 b) Q E s:=by
 have l:e ∉ frs (env::outer):=λD=>by
  obtain⟨_,o,y,p⟩:=x.mem D;rw[C]at y;cases y;exact p fs j
 refine wpAny_bind (wpAny_frameOf_fun fr x H λc i=>?_);refine wpAny_bind (wpAny_entryPlaceOf λpl r=>?_);unfold EntryCells.newEntry newFields;refine wpAny_bind (wpAny_newObj_type ?_ (r.sizeOk5 _ _ _ _ _));have v:c.get? e=some ob:=(i.2.1 e l).trans C;have w:=Heap.get?_push_of_some (h:=c) { cls:=.type "traceback",dict:=none,data:=.fields ([head,.ref L,.none,rawInt L,.none]++(if pl.isEmpty then List.replicate 6 Value.none else pl)).toArray } v;have u:c.objs.size≠e:=Nat.ne_of_gt (Heap.lt_size v);have B:=Obj.data_mapFields j (·.setIfInBounds 1 (Value.ref c.objs.size));have F:=Heap.get?_update_self (Obj.mapFields (·.setIfInBounds 1 (Value.ref c.objs.size))) w (Obj.isFreed_of_fields B)
 have d:∀ b o,b≠e->c.get? b=some o->((c.push { cls:=.type "traceback",dict:=none,data:=.fields ([head,.ref L,.none,rawInt L,.none]++(if pl.isEmpty then List.replicate 6 Value.none else pl)).toArray }).update e (Obj.mapFields (·.setIfInBounds 1 (Value.ref c.objs.size)))).get? b=some o :=
  λb o g f=>(Heap.get?_update_other _ _ (Ne.symm g)).trans (Heap.get?_push_of_some _ f)
 refine wpAny_setField w j z (h _ c.objs.size ⟨_,_,_,_,F,rO _ _,j3 _ _,B,by simp[z],u,(Heap.get?_update_other _ _ (Ne.symm u)).trans (Heap.get?_push_size _ rfl),rfl,?_⟩ ?_ (λb o g p f=>d b o g ((i.2.1 b p).trans f)) λb o g f=>?_)
 .simp
 .have:s.heap.objs.size=c.objs.size:=i.1.symm
  rw[<- this];exact Heap.get?_none_of_le (Nat.le_refl _)
 .obtain⟨sl,G⟩:=i.2.2 b o f
  exact⟨sl,d b _ g G⟩
end
section
variable {M:Model}{A:Around}{E:Value->Shared->Prop}{s:Shared}{base:Heap}{env:Env}{outer:List Env}{L e T:Addr}{ob:Obj}{fs:Array Value}{cls fl:Value}{dct:Option Addr}
def KeptBut(xs fr:List Addr)(h h':Heap):Prop :=
 (∀ b o,b ∉ xs->b ∉ fr->h.get? b=some o->h'.get? b=some o)/\∀ b o,b ∉ xs->h.get? b=some o->∃ sl,h'.get? b=some { o with slots:=sl }
theorem KeptBut.trans{xs ys fr:List Addr}{h d h2:Heap}(a:KeptBut xs fr h d)(b:KeptBut ys fr d h2):KeptBut (xs++ys) fr h h2 :=
 ⟨λc o n f g=>b.1 c o (λz=>n (mem_append_right _ z)) f (a.1 c o (λz=>n (mem_append_left _ z)) f g),λc o n g=>by
  obtain⟨l,e⟩:=a.2 c o (λz=>n (mem_append_left _ z)) g;obtain⟨j,i⟩:=b.2 c _ (λz=>n (mem_append_right _ z)) e
  exact⟨j,i⟩⟩
theorem ug{Q:Unit->Shared->Prop}(fr:A.frames=some (env::outer))(H:s.heap.FunFrames base (env::outer))(D:env.frame=some L)(x:Fx s.heap e cls dct .none T)
  (h:∀ h' T',Fx h' e cls dct (rawInt L) T'->s.heap.get? T'=none->KeptBut [T,e] (frs (env::outer)) s.heap h'->Q () { s with heap:=h' }):wpAny M A (noteFrame (.ref e) env) Q E s:=by
 obtain⟨O,K,N,F,B,rfl,rfl,y,w,G,l,j,C⟩:=x;unfold noteFrame;simp only[D];refine wpAny_bind (wpAny_field B y w ?_);rw[if_pos (show(Value.ref T != Value.none)=true from by simp)];refine wpAny_bind (wpAny_field l j C ?_);rw[if_neg (show ¬((Value.none == rawInt L)=true) from by simp[rawInt])];refine wpAny_bind (wpAny_setField l j (Array.getElem?_eq_some_iff.mp C).1 ?_);have a:∀ b,b≠T->(s.heap.update T (Obj.mapFields (·.setIfInBounds 3 Value.none))).get? b=s.heap.get? b:=λb I=>Heap.get?_update_other _ _ (Ne.symm I)
 have d:∀ b o,s.heap.get? b=some o->(∀ vs,o.data≠.fields vs)->b≠T:=λb o i u z=>by
  rw[z,l]at i;cases i;exact u F j
 have v:=Heap.get?_update_self (Obj.mapFields (·.setIfInBounds 3 Value.none)) l (Obj.isFreed_of_fields (Obj.data_mapFields j _));refine qZ fr (H.of_keeps λb o i u=>⟨o,(a b (d b o i u)).trans i,rfl⟩) D ((a e G.symm).trans B) y (Array.getElem?_eq_some_iff.mp w).1 λh' T' x' nT' k1 k2=>h h' T' x' ?_ ⟨λb o n f g=>?_,λb o n g=>?_⟩
 .cases q:s.heap.get? T' with
  | none=>rfl
  | some o =>
   by_cases z:T'=T
   .rw[z,v]at nT'
    cases nT'
   .have c:=nT'
    rw[a T' z,q]at c;cases c
 .have r:b≠T:=λz=>n (by rw[z];exact mem_cons_self)
  have p:b≠e:=λz=>n (by rw[z];simp)
  exact k1 b o p f ((a b r).trans g)
 .have r:b≠T:=λz=>n (by rw[z];exact mem_cons_self)
  have p:b≠e:=λz=>n (by rw[z];simp)
  exact k2 b o p ((a b r).trans g)
theorem lA{Q:Unit->Shared->Prop}{fr:List Addr}(x:Fx s.heap e cls dct fl T)(h:∀ h',Fx h' e cls dct .none T->KeptBut [T] fr s.heap h'->Q () { s with heap:=h' }):wpAny M A (setFlight (.ref e) none) Q E s:=by
 obtain⟨y,v,z,u,l,rfl,rfl,i,d,j,r,c,w⟩:=x;have p:3<u.size:=(Array.getElem?_eq_some_iff.mp w).1;have a:∀ b,b≠T->(s.heap.update T (Obj.mapFields (·.setIfInBounds 3 ((none:Option Addr).elim Value.none λf=>rawInt f)))).get? b=s.heap.get? b:=λb nb=>Heap.get?_update_other _ _ (Ne.symm nb)
 unfold setFlight;refine wpAny_bind (wpAny_field l i d ?_);rw[if_pos (show(Value.ref T != Value.none)=true from by simp)];refine wpAny_setField r c p (h _ ⟨y,v,_,_,(a e j.symm).trans l,rfl,rfl,i,d,j,Heap.get?_update_self _ r (Obj.isFreed_of_fields (Obj.data_mapFields c _)),Obj.data_mapFields c _,by simp[p]⟩ ⟨λb o n _ g=>?_,λb o n g=>?_⟩)
 .exact(a b (by simpa using n)).trans g
 .exact⟨o.slots,(a b (by simpa using n)).trans g⟩
end
structure XG(P:Program)(w:World)(outer:List Env)(H:Hp)(s:Shared)(x D:Addr)(dct:Option Addr)(T:Addr)(H':Hp)(s':Shared):Prop where
 os:s'.os=s.os
 bare:AllBare s'.gens
 un:Un (frs outer) [] H H' s.heap s'.heap
 hok:HOk P w H' s'.heap
 fx:Fx s'.heap x (.ref D) dct .none T
 nx:s.heap.get? x=none
 nT:s.heap.get? T=none
 ux:H' x=none
 uT:H' T=none
def CXG(P:Program)(w:World):CXT:=λouter H s E e s'=>∃ x D dct T H',e=.ref x/\XG P w outer H s x D dct T H' s'/\E (.ref D) dct H'
theorem kz{fs:List Addr}{H a:Hp}{h h':Heap}{b:Addr}(u:Un fs [] H a h h')(n:h'.get? b=none):h.get? b=none:=by
 cases q:h.get? b with
 | none=>rfl
 | some o =>
  obtain⟨c,e⟩:=u.there b o q (by simp);rw[n]at e;cases e
section
variable {P:Program}{w:World}{K:Frag}{mg:Str->Option Value}{base:Heap}{N:List Str}{qual:Str}{scope:Scope}{f:Addr}{cdv:Value}{A:Around}{outer:List Env}{s0:Shared}{H0:Hp}{E:XK}
end
section
variable {P:Program}{w:World}{K:Frag}{mg:Str->Option Value}{base:Heap}
end
def gA(H:Hp)(x:Addr):Hp:=λb=>if b=x then none else H b
theorem dk{H:Hp}{x b:Addr}(h:b≠x):gA H x b=H b:=by unfold gA;rw[if_neg h]
theorem dg{H:Hp}{x:Addr}:gA H x x=none:=by unfold gA;rw[if_pos rfl]
section
variable {P:Program}{w:World}{K:Frag}{mg:Str->Option Value}{base:Heap}{N:List Str}{qual:Str}{scope:Scope}{f:Addr}{cdv:Value}{A:Around}{outer:List Env}{s0:Shared}{H0:Hp}{E:XK}
end
def XCt(a D:Addr)(dct:Option Addr):Heap->Prop:=λh=>∃ o vs,h.get? a=some o/\o.cls=.ref D/\o.data=.fields vs/\o.dict=dct
section
variable {X:Cx}{pins:List (Addr×Obj)}{σ:St}{H H':Hp}{s s':Shared}{x D C T T2:Addr}{dct:Option Addr}{fl:Value}{h2:Heap}{xs:List Addr}
theorem vq(I:Inv X pins σ H s)(G:XG X.prog X.w X.stack H s x D dct T H' s')(k:KeptBut xs (frs X.stack) s'.heap h2)(f:∀ b∈xs,s.heap.get? b=none/\H' b=none/\b ∉ frs X.stack)(M:Fx h2 x (.ref D) dct fl T2) :
  Inv X pins σ (upd H' x (.ext (XCt x D dct))) { s' with heap:=h2 }:=by
 have c:∀ b u,H' b=some u->b≠x:=λb u e z=>by rw[z,G.ux]at e;cases e
 have p:∀ b u,H' b=some u->b ∉ frs X.stack:=λb u e w=>by
  obtain⟨_,o,P,_⟩:=I.stack.mem w;rw[G.un.free b o P (I.stkFree b w) (by simp)]at e;cases e
 have g:Un (frs X.stack) [] H H' s.heap h2:=ud G.un (λb o K v e=>k.1 b o (λz=>by obtain⟨o0,e0⟩:=K;rw[(f b z).1]at e0;cases e0) v e) (λb o v e=>k.2 b o (λz=>(f b z).2.2 v) e);have l:HOk X.prog X.w H' h2:=rG G.hok (λb o u j e=>k.1 b o (λz=>by rw[(f b z).2.1]at j;cases j) (p b u j) e);obtain⟨y,E,_,_,A,F,N,O,_⟩:=M;refine I.call' (ch:=[]) (s':={ s' with heap:=h2 }) G.os ⟨g.keep,g.slot,λb o e n i=>?_,g.there,λb xs e=>?_,λb o u e=>?_,λb ps e=>?_⟩ (λa o e=>?_) G.bare (by simp)
 .have:b≠x:=λz=>by rw[z,G.nx]at e;cases e
  rw[az this];exact g.free b o e n i
 .have d:=g.tups b xs e
  rw[az (c b _ d)];exact d
 .have d:=g.frzs b o u e
  rw[az (c b _ d)];exact d
 .obtain⟨h,d⟩:=g.tbls b ps e
  exact⟨h,by rw[az (c b _ d)];exact d⟩
 .by_cases ha:a=x
  .subst ha
   rw[ae]at e;cases e;exact⟨⟨y,E,A,F,O,N⟩,⟨y,A⟩,λQ R ⟨o,L,B,r⟩ C=>⟨o,L,C o B,r⟩⟩
  .rw[az ha]at e
   exact(l a o e).stay (λ_ _ _ q=>q) (λb q=>by rw[az (c b _ q)];exact q) λb xs q=>by rw[az (c b _ q)];exact q
end
section
variable {X:Cx}{pins:List (Addr×Obj)}{σ:St}{H H':Hp}{s s':Shared}{x D C T:Addr}{dct:Option Addr}{cn en:Str}{ie:Nat}{b₀:Stmt}{suite:List Stmt}{cp hp:Pos}{ts:TS}{DE:Ends}
end
end L2
namespace FrM
theorem nF(x y:Int):Int.gcd y (x % y)=Int.gcd x y:=by
 have e:x=x % y+y*(x/y):=(Int.emod_add_mul_ediv x y).symm;rw[Int.gcd_comm x y]
 conv=>rhs;rw[e]
 rw[Int.gcd_add_mul_left_right]
def Bt(n:Nat)(i:Int):Prop:=i.natAbs<2 ^ n
theorem Bt.mono{m n:Nat}{i:Int}(h:Bt m i)(l:m<=n):Bt n i:=Nat.lt_of_lt_of_le h (Nat.pow_le_pow_right (by decide) l)
theorem Bt.le{n:Nat}{i j:Int}(h:Bt n i)(l:j.natAbs<=i.natAbs):Bt n j:=Nat.lt_of_le_of_lt l h
theorem Bt.mul{m n:Nat}{i j:Int}(h:Bt m i)(h':Bt n j):Bt (m+n) (i*j):=by
 unfold Bt at *;rw[Int.natAbs_mul,Nat.pow_add];exact Nat.mul_lt_mul_of_le_of_lt (Nat.le_of_lt h) h' (Nat.lt_of_le_of_lt (Nat.zero_le _) h)
structure Low(T B t b:Int):Prop where
 pos:1<=b
 cop:Int.gcd t b=1
 eq:t*B=T*b
theorem low(t b:Int)(g:0<b):0<(Int.gcd t b:Int)/\(Int.gcd t b:Int)<=b/\Low t b (t/(Int.gcd t b:Int)) (b/(Int.gcd t b:Int))/\(t/(Int.gcd t b:Int)).natAbs<=t.natAbs/\(b/(Int.gcd t b:Int)).natAbs<=b.natAbs:=by
 have d:0<Int.gcd t b:=Int.gcd_pos_iff.mpr (.inr (by omega));have e:0<(Int.gcd t b:Int):=by omega
 have f:=Int.gcd_dvd_left t b;have a:=Int.gcd_dvd_right t b;have h:=Int.ediv_mul_cancel f;have i:=Int.ediv_mul_cancel a;have c:(Int.gcd t b:Int)<=b:=Int.le_of_dvd g a;refine⟨e,c,⟨?_,Int.gcd_ediv_gcd_ediv_gcd d,?_⟩,?_,?_⟩
 .have:=Int.ediv_pos_of_pos_of_dvd g (by omega) a
  omega
 .rw[<- Int.mul_ediv_assoc _ a,Int.mul_comm,<- Int.mul_ediv_assoc _ f,Int.mul_comm]
 .have:=congrArg Int.natAbs h
  rw[Int.natAbs_mul]at this;rw[<- this];exact Nat.le_mul_of_pos_right _ (by simpa using d)
 .have:=congrArg Int.natAbs i
  rw[Int.natAbs_mul]at this;rw[<- this];exact Nat.le_mul_of_pos_right _ (by simpa using d)
theorem lP{b t a:Int}(c:Int.gcd t b=1)(h:b ∣ t*a):b ∣ a:=by
 rw[<- Int.natAbs_dvd_natAbs]at *;rw[Int.natAbs_mul]at h;exact Nat.Coprime.dvd_of_dvd_mul_left (by rw[Nat.coprime_comm];exact c) h
theorem Low.uniq{T B t b t' a:Int}(d:B≠0)(h:Low T B t b)(h':Low T B t' a):t=t'/\b=a:=by
 have e:t*a=t'*b:=by
  have:(t*a)*B=(t'*b)*B:=by
   rw[Int.mul_assoc,Int.mul_comm a B,<- Int.mul_assoc,h.eq,Int.mul_assoc t' b B,Int.mul_comm b B,<- Int.mul_assoc,h'.eq,Int.mul_assoc,Int.mul_assoc,Int.mul_comm b a]
  exact Int.eq_of_mul_eq_mul_right d this
 have g:b ∣ a:=by
  have:b ∣ t*a:=⟨t',by rw[e,Int.mul_comm]⟩
  exact lP h.cop this
 have f:a ∣ b:=by
  have:a ∣ t'*b:=⟨t,by rw[<- e,Int.mul_comm]⟩
  exact lP h'.cop this
 have c:b=a:=Int.dvd_antisymm (by have:=h.pos;omega) (by have:=h'.pos;omega) g f;refine⟨?_,c⟩;rw[c]at e;exact Int.eq_of_mul_eq_mul_right (by have:=h'.pos;omega) e
end FrM
namespace L2
open PySem PySem.Spec PyProof.Rows FrM
section
variable {X:Cx}
def CMulB(i j:Int):Prop:=(Bt 8000 i/\Bt 8000 j)\/CMul i j
theorem CMulB.ok{i j:Int}(h:CMulB i j):IntMulOk i j:=by
 rcases h with⟨a,b⟩ | h
 .exact IntMulOk.of_le (m:=8000) (n:=8000) (intBits_le_iff.mpr a) (intBits_le_iff.mpr b) (by decide)
 .exact h.ok
def CDivB(i j:Int):Prop:=0<j/\Bt 8000 j
theorem CDivB.no{i j:Int}(h:CDivB i j):Builtin.divisionGoesByPylong i j=false:=by
 refine PyProof.noPylong_of_log2 ?_;have a:j.natAbs<2 ^ 8000:=h.2
 by_cases h0:j.natAbs=0
 .rw[h0];decide +kernel
 .have:j.natAbs.log2<8000:=(Nat.log2_lt h0).mpr a
  lia
theorem op_mulB:OpR X (binaryOp .Mult) (rI CMulB λi j=>.int (i*j)):=opI λ_ _ _ _ _ _ _ a q=>mul_int q a.ok
theorem op_fdivB:OpR X (binaryOp .FloorDiv) (rI CDivB λi j=>.int (i/j)):=opI λi j _ _ _ _ _ a q=>by
 have b:(0:Int)<j:=a.1;exact floordiv_int (by lia) (by rw[Int.fdiv_eq_ediv_of_nonneg i (by lia)];exact q) (.inl a.no)
theorem bF:OpR X (binaryOp .Mult) (rIC CMulB λi j=>.int (i*j)):=op_mulB.ic
theorem bn:OpR X (binaryOp .FloorDiv) (rIC CDivB λi j=>.int (i/j)):=op_fdivB.ic
theorem cmB{i j:Int}{m n:Nat}(h:Bt m i)(h':Bt n j)(b:m<=8000:=by decide)(a:n<=8000:=by decide):CMulB i j:=.inl ⟨h.mono b,h'.mono a⟩
theorem clB{i j:Int}(h:-(2 ^ 64)<i:=by decide)(h2:i<2 ^ 64:=by decide):CMulB i j:=.inr (cl h h2)
theorem crB{i j:Int}(h:-(2 ^ 64)<j:=by decide)(h2:j<2 ^ 64:=by decide):CMulB i j:=.inr (cr h h2)
theorem cdB{i j:Int}{n:Nat}(h:0<j)(h':Bt n j)(a:n<=8000:=by decide):CDivB i j:=⟨h,h'.mono a⟩
theorem vH:bootBuiltins "abs" = some (.builtin "abs"):=by decide +kernel
end
end L2
namespace L2
open PySem PySem.Spec PyProof.Rows
def xH:Expr->Bool
 | .Starred ..=>true
 | _=>false
theorem qd{e:Expr}{a:List Expr}{env:Env}(h:xH e=false):starEach (e::a) env=(false,eval e env)::starEach a env:=by
 cases e <;> first | rfl | cases h
theorem cQ{X:Cx}{e:Expr}{b:List Expr}{a:TE}{t:TA}(c:PE X e a)(d:PA X b t)(h:xH e=false:=by rfl):PA X (e::b) (vC a t):=aa c d (qd h)
@[irreducible] def PSq(X:Cx)(sts:List Stmt)(t:TS):Prop:=PSs X sts t
theorem wL{X:Cx}{st:Stmt}{a:List Stmt}{t u:TS}(b:PS X st t)(h2:PSq X a u):PSs X (st::a) (bD t u):=by
 unfold PSq at h2;exact af b h2
section
variable {X:Cx}{k ie ir:Nat}{f C:Addr}{fd:FuncData}{ps:List Str}{sp:Sp}{dvs:List V}{ds:List Value}{fx cn en rn:Str}{p pos p2 p3 cp hp tp:Pos}{e:Expr}{es:List Expr}{t:TA}{b₀:Stmt}{suite:List Stmt}{ts:TS}
end
structure LamD where
 qual:Str
 params:Arguments
 body:Expr
 scope:Scope
def ji(f:Addr)(d:LamD)(clos:List (Str×Addr))(c:Addr):Heap->Prop:=λh=>∃ pm ctv,h.get? f=some (kla_obj "<lambda>" d.qual d.params d.body d.scope clos pm c ctv)
def fc(c:Addr)(v:V):Heap->Prop:=λh=>∃ o u,h.get? c=some o/\o.data=.cell (some u)/\RelV v u
def ik(c:Addr)(q:Str):Heap->Prop:=λh=>∃ o vs t,h.get? c=some o/\o.data=.fields vs/\vs[1]? = some (.str q t)
section
variable {P:Program}{w:World}{H:Hp}{h:Heap}
theorem pQ{f:Addr}{d:LamD}{b:List (Str×Addr)}{c:Addr}{g a:Value}(e:h.get? f=some (kla_obj "<lambda>" d.qual d.params d.body d.scope b g c a)):ObjOk P w H h f (.ext (ji f d b c)) :=
 ⟨⟨g,a,e⟩,⟨_,e⟩,λj l ⟨g,a,i⟩ k=>⟨g,a,k _ i⟩⟩
theorem m7{c:Addr}{v:V}(x:fc c v h):ObjOk P w H h c (.ext (fc c v)) :=
 ⟨x,let ⟨o,_,e,_⟩:=x;⟨o,e⟩,λb d ⟨o,u,a,r⟩ k=>⟨o,u,k _ a,r⟩⟩
theorem r6{c:Addr}{q:Str}(x:ik c q h):ObjOk P w H h c (.ext (ik c q)) :=
 ⟨x,let ⟨o,_,_,e,_⟩:=x;⟨o,e⟩,λd f ⟨o,a,t,b,r⟩ k=>⟨o,a,t,k _ b,r⟩⟩
end
def xU:HO->Bool
 | .tbl _=>false
 | _=>true
def SameT(H H':Hp):Prop:=∀ b o,H b=some o->(xU o=true->H' b=some o)/\∃ o',H' b=some o'
theorem SameT.refl{H:Hp}:SameT H H:=λb o e=>⟨λ_=>e,o,e⟩
theorem SameT.trans{H h d:Hp}(a:SameT H h)(b:SameT h d):SameT H d:=λc o e=>by
 obtain⟨f,j,i⟩:=a c o e;obtain⟨g,p,l⟩:=b c j i;exact⟨λn=>(b c o (f n)).1 n,p,l⟩
theorem Same.t{H a:Hp}(s:Same H a):SameT H a:=λb o e=>⟨λ_=>s b o e,o,s b o e⟩
theorem SameT.at{H b:Hp}(s:SameT H b){a:Addr}{o:HO}(e:H a=some o)(n:xU o=true:=by rfl):b a=some o:=(s a o e).1 n
theorem SameT.free{H c:Hp}(s:SameT H c){a:Addr}(e:c a=none):H a=none:=by
 cases q:H a with
 | none=>rfl
 | some o=>obtain⟨_,d,b⟩:=s a o q;rw[e]at b;cases b
theorem SameT.put{H c:Hp}(s:SameT H c){a:Addr}{o:HO}(e:H a=none):SameT H (upd c a o):=λb u q=>by
 have n:b≠a:=λz=>by rw[z,e]at q;cases q
 rw[az n];exact s b u q
def wP(H:Hp)(P:Addr)(ls:List (Pos×Str)):Prop:=∃ ps,H P=some (.tbl ps)/\TriplesOk ps.toList/\∀ l∈ls,codeAmong l.1 ps.toList=none\/∃ c,codeAmong l.1 ps.toList=some (.ref c)/\H c=some (.ext (ik c l.2))
abbrev oR:=List (Addr×List (Pos×Str))
def TabsOk(tabs:oR)(H:Hp):Prop:=∀ q∈tabs,wP H q.1 q.2
theorem TabsOk.same{d:oR}{H e:Hp}(t:TabsOk d H)(s:Same H e):TabsOk d e:=λq f=>by
 obtain⟨i,h,o,g⟩:=t q f;exact⟨i,s _ _ h,o,λl j=>(g l j).imp id λ⟨c,a,b⟩=>⟨c,a,s _ _ b⟩⟩
theorem TabsOk.put{d:oR}{H:Hp}{r:Addr}{o:HO}(t:TabsOk d H)(g:∀ ps,H r≠some (.tbl ps))(h2:∀ φ,H r≠some (.ext φ)):TabsOk d (upd H r o):=λq f=>by
 obtain⟨ps,e,j,h⟩:=t q f;refine⟨ps,?_,j,λl i=>(h l i).imp id λ⟨c,a,b⟩=>⟨c,a,?_⟩⟩
 .rw[az λz=>g ps (by rw[<- z];exact e)];exact e
 .rw[az λz=>h2 _ (by rw[<- z];exact b)];exact b
theorem nL{p d:Pos}{c:Value}(l:List Value)(h:TriplesOk l)(e:¬(p.line=d.line/\p.col=d.col)):codeAmong d (l++[rawInt p.line,rawInt p.col,c])=codeAmong d l:=by
 fun_induction TriplesOk l with
 | case1 =>
  simp only[List.nil_append,codeAmong,rawInt];rw[if_neg];intro z;rw[Bool.and_eq_true,beq_iff_eq,beq_iff_eq]at z;exact e ⟨by lia,by lia⟩
 | case2 a t b u x bM ih =>
  simp only[cons_append,codeAmong];rw[ih h]
 | case3=>exact h.elim
theorem lB{p:Pos}{c:Value}(l:List Value)(h:TriplesOk l):TriplesOk (l++[rawInt p.line,rawInt p.col,c]):=by
 fun_induction TriplesOk l with
 | case1=>simp[TriplesOk,rawInt]
 | case2 a t b u x bM ih=>exact ih h
 | case3=>exact h.elim
def Bm(mg:Str->Option Value)(base:Heap):Prop:=∃ bm ob,mg "__builtins__" = some (.ref bm)/\base.get? bm=some ob/\ob.cls=.type "module" /\ ob.dict=some builtinsNs/\ob.data=.plain
def yf(tabs:oR)(d:LamD)(clos:List (Str×Addr)):TE:=λσ H Q=>TabsOk tabs H/\∀ f c H1,SameT H H1->TabsOk tabs H1->H f=none->H1 f=some (.ext (ji f d clos c))->H1 c=some (.ext (ik c d.qual))->Q (.ref f) H1
theorem lM{b c:Type}:∀{l:List (b×c)},(l.map (·.1)).Nodup->∀ x∈l,∀ y∈l,x.1=y.1->x=y
 | [],_,x,hx,_,_,_=>by cases hx
 | a::r,nd,x,hx,y,hy,e=>by
  rw[map_cons,nodup_cons]at nd
  rcases mem_cons.mp hx with rfl | hx' <;> rcases mem_cons.mp hy with rfl | hy'
  .rfl
  .exact absurd (mem_map.mpr ⟨y,hy',e.symm⟩) nd.1
  .exact absurd (mem_map.mpr ⟨x,hx',e⟩) nd.1
  .exact lM nd.2 x hx' y hy' e
theorem pr:∀{l:List (Pos×Str)},(l.Pairwise λx y=>¬(x.1.line=y.1.line/\x.1.col=y.1.col))->∀ x∈l,∀ y∈l,(x.1.line=y.1.line/\x.1.col=y.1.col)->x=y
 | [],_,x,hx,_,_,_=>by cases hx
 | a::r,nd,x,hx,y,hy,e=>by
  rw[List.pairwise_cons]at nd
  rcases mem_cons.mp hx with rfl | hx' <;> rcases mem_cons.mp hy with rfl | hy'
  .rfl
  .exact absurd e (nd.1 y hy')
  .exact absurd ⟨e.1.symm,e.2.symm⟩ (nd.1 x hx')
  .exact pr nd.2 x hx' y hy' e
section
variable {X:Cx}{tabs:oR}{P c:Addr}{ls:List (Pos×Str)}{d:LamD}{clos:List (Str×Addr)}{pos:Pos}
theorem jQ(O:X.env.code=.ref c)(hC:codeHdIn X.K c P=true)(hB:Bm X.mg X.base)(hq:X.env.qual ++ "<lambda>" = d.qual)(ad:closureFor d.scope X.env=pure clos)(an:defaultsOf d.params X.env=([],[]))
  (hm:(P,ls)∈tabs) (hl:(pos,d.qual)∈ls) (a9:(tabs.map (·.1)).Nodup) (as:ls.Pairwise λx y=>¬(x.1.line=y.1.line/\x.1.col=y.1.col)):PE X (.Lambda d.params d.body d.scope pos) (yf tabs d clos):=by
 intro bN s σ H Q I h;obtain⟨hT,hQ⟩:=h;refine PySem.W.kla_eval an ?_;rw[hq];obtain⟨L,B,p,al⟩:=hT _ hm;have v:s.heap.Ns mainGlobals X.mg:=I.mod.glob.keeps I.bk;have C:CodeHd s.heap c P:=codeHd_of_K I.kIn hC;have r:s.heap.get? P=some (tabObj L):=I.hok P _ B
 have a6:mainGlobals≠P:=λq=>by
  obtain⟨o,es,ep,e,hd,_⟩:=v;rw[q,r]at e;cases e;cases hd
 obtain⟨bm,ob,b1,b2,b3,b4,b5⟩:=hB;have Y:=I.bk _ _ b2
 have a2:bm≠P:=λq=>by
  rw[q,r]at Y;cases Y;cases b3
 have a8:bm≠mainGlobals:=λq=>by
  obtain⟨o,es,ep,e,hd,_⟩:=v;rw[q,e]at Y;cases Y;rw[hd]at b5;cases b5
 have a0:bm≠builtinsNs:=λq=>by
  obtain⟨mb,⟨o,es,ep,e,hd,_⟩,_⟩:=I.mod.blt;rw[q,e]at b2;cases b2;rw[hd]at b5;cases b5
 have BA:s.heap.BuiltinsAt X.mg P:=⟨bm,ob,b1,a0,a8,a2,Y,b3,b4,b5⟩
 rcases al _ hl with hn | ⟨i,hc,a7⟩
 .refine PySem.W.kla_makeFunction (mg:=X.mg) ad I.ok.glob v O C r p hn a6 BA λi T h' tk hx A F R bl=>?_
  have Z:H i=none:=I.hok.fresh A;have j:H h'.objs.size=none:=I.hok.fresh (Nat.le_trans A (Nat.le_of_lt F));have S:i≠h'.objs.size:=Nat.ne_of_lt F;have a3:P≠i:=aJ B Z;have ab:P≠h'.objs.size:=aJ B j
  obtain⟨f,hf⟩:∃ f,f=h'.objs.size:=⟨_,rfl⟩
  obtain⟨ob',hob⟩:∃ o,o=kla_obj "<lambda>" d.qual d.params d.body d.scope clos ((X.mg "__name__").getD .none) i T:=⟨_,rfl⟩
  have a4:(h'.push ob').get? f=some ob':=by rw[hf,hob];exact Heap.get?_push_size _ rfl
  have l:∀ b o,b≠P->s.heap.get? b=some o->(h'.push ob').get? b=some o:=λb o n e=>Heap.get?_push_of_some _ (hx b o n e)
  have D:(h'.push ob').get? P=some (tabObj (L ++ #[rawInt pos.line,rawInt pos.col,.ref i])):=Heap.get?_push_of_some _ bl
  have ap:ik i d.qual (h'.push ob'):=by
   obtain⟨E,oc,vs,t,e2,a',a5,hv⟩:=R;cases e2;exact⟨oc,vs,t,Heap.get?_push_of_some _ a',a5,hv⟩
  rw[<- hf]at j S ab ⊢;rw[<- hob]
  obtain⟨H1,hH1⟩:∃ H1,H1=upd (upd (upd H P (.tbl (L ++ #[rawInt pos.line,rawInt pos.col,.ref i]))) i (.ext (ik i d.qual))) f (.ext (ji f d clos i)):=⟨_,rfl⟩
  have gf:H1 f=some (.ext (ji f d clos i)):=by rw[hH1];exact ae
  have gc:H1 i=some (.ext (ik i d.qual)):=by rw[hH1,az S];exact ae
  have gP:H1 P=some (.tbl (L ++ #[rawInt pos.line,rawInt pos.col,.ref i])):=by rw[hH1,az ab,az a3];exact ae
  have go:∀ b,b≠P->b≠i->b≠f->H1 b=H b:=λb h1 h2 N=>by rw[hH1,az N,az h2,az h1]
  have g:∀ b o,b≠P->H b=some o->H1 b=some o:=λb o n e=>by rw[go b n (aJ e Z) (aJ e j)];exact e
  have G:∀ b o,H b=some o->(∀ qs,o≠.tbl qs)->b≠P:=λb o e n z=>by rw[z,B]at e;cases e;exact n L rfl
  have un:Un X.fs [] H H1 s.heap (h'.push ob'):=by
   refine⟨λb o e n _ _=>l b o (λz=>by rw[z,B]at n;cases n) e,λb o e n _ _=>⟨o.slots,l b o (λz=>by rw[z,B]at n;cases n) e⟩,λb o e n _=>?_,λb o e _=>?_,λb xs e=>g b _ (G b _ e λ_ z=>nomatch z) e,λb o u e=>g b _ (G b _ e λ_ z=>nomatch z) e,λb qs e=>?_⟩
   .have hb:b<s.heap.objs.size:=Heap.lt_size e
    rw[go b (λz=>by rw[z,B]at n;cases n) (Nat.ne_of_lt (Nat.lt_of_lt_of_le hb A)) (by rw[hf];exact Nat.ne_of_lt (Nat.lt_of_lt_of_le hb (Nat.le_trans A (Nat.le_of_lt F))))];exact n
   .by_cases hb:b=P
    .rw[hb];exact⟨_,D⟩
    .exact⟨o,l b o hb e⟩
   .by_cases hb:b=P
    .rw[hb,B]at e
     cases e;rw[hb];exact⟨_,gP⟩
    .exact⟨#[],by rw[g b _ hb e];simp⟩
  have a1:HOk X.prog X.w H1 (h'.push ob'):=λa o e=>by
   by_cases h1:a=f
   .subst h1;rw[gf]at e;cases e;exact pQ (by rw[a4,hob])
   by_cases h2:a=i
   .subst h2;rw[gc]at e;cases e;exact r6 ap
   by_cases N:a=P
   .subst N;rw[gP]at e;cases e;exact D
   rw[go a N h2 h1]at e;refine(I.hok a o e).stay (λb u hb q=>l b u ?_ q) (λb q=>g b _ (G b _ q λ_ z=>nomatch z) q) λb xs q=>g b _ (G b _ q λ_ z=>nomatch z) q
   rcases hb with rfl | hb
   .exact N
   .exact G b _ hb λ_ z=>nomatch z
  refine⟨.ref f,H1,I.un (h':=h'.push ob') (t':=tk) un a1,rfl,hQ f i H1 (λb o e=>?_) (λq hq'=>?_) j gf gc⟩
  .by_cases hb:b=P
   .subst hb
    rw[B]at e;cases e;exact⟨λz=>(Bool.false_ne_true z).elim,_,gP⟩
   .exact⟨λ_=>g b o hb e,o,g b o hb e⟩
  .by_cases hqP:q.1=P
   .have aS:q=(P,ls):=lM a9 q hq' (P,ls) hm hqP
    subst aS;refine⟨_,gP,by rw[Array.toList_append];exact lB _ p,λK w=>?_⟩;rw[Array.toList_append]
    by_cases hp:pos.line=K.1.line/\pos.col=K.1.col
    .have:=pr as (pos,d.qual) hl K w hp
     subst this;exact .inr ⟨i,codeAmong_snoc _ p hn,gc⟩
    .have eo:=nL (c:=.ref i) L.toList p hp
     rcases al K w with z | ⟨E,z1,W⟩
     .exact .inl (eo.trans z)
     .exact .inr ⟨E,eo.trans z1,g E _ (G E _ W λ_ z=>nomatch z) W⟩
   .obtain⟨qs,e1,e2,e3⟩:=hT q hq'
    exact⟨qs,g _ _ hqP e1,e2,λK w=>(e3 K w).imp id λ⟨E,z1,W⟩=>⟨E,z1,g E _ (G E _ W λ_ z=>nomatch z) W⟩⟩
 .refine PySem.W.kla_makeFunctionHit (mg:=X.mg) ad I.ok.glob v O C r p hc BA λT h' tk hk M=>?_
  have j:H h'.objs.size=none:=I.hok.fresh M;have sm:Same H (upd H h'.objs.size (.ext (ji h'.objs.size d clos i))):=Same.new j;refine⟨.ref h'.objs.size,_,I.laid (a:=h'.objs.size) (o:=.ext (ji h'.objs.size d clos i)) (t':=tk) (λb u e=>Heap.get?_push_of_some _ (hk b u e)) M (pQ (Heap.get?_push_size _ rfl)),rfl,hQ _ i _ sm.t (hT.same sm) j ae (sm _ _ a7)⟩
end
def fA(H:Hp)(cs:List Addr):Hp:=λb=>if b∈cs then none else H b
theorem iM{H:Hp}{cs:List Addr}{b:Addr}(h:b∈cs):fA H cs b=none:=by unfold fA;rw[if_pos h]
theorem i6{H:Hp}{cs:List Addr}{b:Addr}(h:b ∉ cs):fA H cs b=H b:=by unfold fA;rw[if_neg h]
theorem dH{H:Hp}{cs:List Addr}{b:Addr}(h:H b=none):fA H cs b=none:=by unfold fA;split <;> first | rfl | exact h
abbrev CellsAt(H:Hp):List (Str×Addr)->List V->Prop:=Paired λ(p:Str×Addr) (v:V)=>H p.2=some (.ext (fc p.2 v))
theorem CellsAt.mem{H:Hp}:∀{clos:List (Str×Addr)}{vals:List V},CellsAt H clos vals->∀ p∈clos,∃ v,H p.2=some (.ext (fc p.2 v))
 | _,_,.nil,p,h=>by cases h
 | _,_,.cons r t,p,h=>by
  rcases mem_cons.mp h with rfl | h
  .exact⟨_,r⟩
  .exact CellsAt.mem t p h
theorem CellsAt.get{H:Hp}:∀{clos:List (Str×Addr)}{vals:List V}{i:Nat}{v:V},CellsAt H clos vals->vals[i]? = some v->∃ p,clos[i]? = some p/\H p.2=some (.ext (fc p.2 v))
 | _,_,_,_,.nil,h=>by cases h
 | _,_,0,_,.cons r t,h=>by cases h;exact⟨_,rfl,r⟩
 | _,_,i+1,_,.cons r t,h=>CellsAt.get (i:=i) t h
theorem CellsAt.at{H:Hp}{a:List (Str×Addr)}{c:List V}(d:CellsAt H a c){b:Addr}(e:b∈a.map (·.2)):∃ v,H b=some (.ext (fc b v)):=by
 obtain⟨p,f,rfl⟩:=mem_map.mp e;exact d.mem p f
theorem fU{H:Hp}{a:List (Str×Addr)}{c:List V}{b:Addr}{o:HO}(d:CellsAt H a c)(h:H b=some o)(n:∀ v,o≠.ext (fc b v)):fA H (a.map (·.2)) b=some o:=by
 rw[i6 λz=>?_]
 .exact h
 .obtain⟨v,e⟩:=d.at z
  rw[h]at e;exact n v (Option.some.inj e)
theorem dS{a:Type}:∀{l:List (Str×a)}{x:Str}{u:a},(l.map (·.1)).Nodup->(x,u)∈l->l.lookup x=some u
 | [],_,_,_,h=>by cases h
 | (y,w)::r,x,u,nd,h=>by
  rw[map_cons,nodup_cons]at nd
  rcases mem_cons.mp h with e | h
  .cases e;simp[List.lookup]
  .have:x≠y:=λz=>nd.1 (mem_map.mpr ⟨(x,u),h,z⟩)
   rw[lookup_cons,beq_eq_false_iff_ne.mpr this];exact dS nd.2 h
theorem qD{a:Type}{l:List a}(h:l.Nodup):l.reverse.Nodup:=by
 unfold List.Nodup at h ⊢;rw[List.pairwise_reverse];exact h.imp λn z=>n z.symm
def jl(d:LamD)(L f c:Addr)(clos:List (Str×Addr)):Env:={ scope:=d.scope,locals:=L,globals:=mainGlobals,cells:=clos,qual:=d.qual ++ ".<locals>.",func:=some f,code:=.ref c,frame:=some L,builtins:=builtinsNs }
def cxL(P:Program)(w:World)(K:Frag)(mg:Str->Option Value)(base:Heap)(N:List Str)(d:LamD)(clos:List (Str×Addr))(f c:Addr)(A:Around)(outer:List Env)(s:Shared)(H:Hp):Cx where
 prog:=P
 w:=w
 K:=K
 mg:=mg
 base:=base
 A:=A.deeper (jl d s.heap.objs.size f c clos)
 N:=N
 s₀:=s
 H₀:=fA H (clos.map (·.2))
 env:=jl d s.heap.objs.size f c clos
 outer:=outer
 stack:=jl d s.heap.objs.size f c clos::outer
 ex:=[]
 calm:=true
 fn:=λ_=>false
 pn:=[]
 xe:=λ_ _=>False
def nY(P:Program)(w:World)(K:Frag)(mg:Str->Option Value)(base:Heap)(k:Nat)(d:LamD)(fv ps:List Str)(sp:List (Str×Addr)->List V->Sp):Prop :=
 ∀(A:Around) (outer:List Env) (s:Shared) (H:Hp) (f c:Addr) (clos:List (Str×Addr)) (us:List Value) (vs vals:List V) (Q:VK) (E:XK),Room k A->Env0 P w K mg base A outer s H->H f=some (.ext (ji f d clos c))->H c=some (.ext (ik c d.qual)) ->
  clos.map (·.1)=fv->(clos.map (·.2)).Nodup->CellsAt H clos vals->Vals vs us->sp clos vals vs H Q E->codeAny (model P w) A (.call (.ref f) ⟨us,[]⟩) (CR CX0 outer P w H s Q E) s
def gI(P:Program)(w:World)(K:Frag)(mg:Str->Option Value)(base:Heap)(k:Nat)(d:LamD)(fv ps:List Str)(sp:List V->Sp):Prop:=nY P w K mg base k d fv ps λ_=>sp
structure LamScope(d:LamD)(fv ps:List Str):Prop where
 kind:d.scope.kind=.function
 co:d.scope.isCoroutine=false
 gen:d.scope.isGenerator=false
 nocell:∀ x∈d.scope.names,x.2≠.cell
 par:∀ x ∈ ps,d.scope.names.lookup x = some .local
 free:∀ x∈d.scope.names,x.2=.free->x.1∈fv
 fr:∀ x∈fv,d.scope.names.lookup x=some .free
 nd:(ps++fv).Nodup
theorem cq{a b:Type}[BEq a][LawfulBEq a]:∀{l:List (a×b)}{x:a}{u:b},l.lookup x=some u->(x,u)∈l
 | [],_,_,h=>by cases h
 | (y,w)::r,x,u,h=>by
  rw[lookup_cons]at h;cases e:x == y with
  | true=>rw[e]at h;cases h;rw[eq_of_beq e];exact mem_cons_self ..
  | false=>rw[e]at h;exact mem_cons_of_mem _ (cq h)
theorem oP{P:Program}{w:World}{K:Frag}{mg:Str->Option Value}{G:Heap}{d:LamD}{N l:List Str}{a:List (Str×Addr)}{f c:Addr}{A:Around}{j:List Env}{s:Shared}{H:Hp}{us:List Value}{vs g:List V}{M:Heap}{tk:Nat}
  (S:LamScope d N l) (hd:A.handled=none) (F:Env0 P w K mg G A j s H) (hl:vs.length=l.length) (r:Vals vs us) (E:a.map (·.1)=N) (ab:(a.map (·.2)).Nodup) (T:CellsAt H a g)
  (an:M.Ns s.heap.objs.size (λx=>(l.zip us).reverse.lookup x)) (hk:∀ b o,s.heap.get? b=some o->M.get? b=some o) :
  Inv (cxL P w K mg G (l++N) d a f c A j s H) [] ((vs++g).map some) (fA H (a.map (·.2))) { s with heap:=M,toks:=tk }:=by
 have W:(a.map (·.1)).Nodup:=by rw[E];exact(nodup_append.mp S.nd).2.1
 have Y:l.Nodup:=(nodup_append.mp S.nd).1;have aS:us.length=l.length:=by rw[<- r.length];exact hl
 have X:∀ x B,a.lookup x=some B->B∈a.map (·.2):=λx B e=>mem_map.mpr ⟨(x,B),cq e,rfl⟩
 have C:∀ b v,H b=some (.ext (fc b v))->∃ u,RelV v u/\M.IsCell b (some u):=λb v e=>by
  obtain⟨⟨o,u,I,D,g3⟩,_⟩:=F.hok b _ e;exact⟨u,g3,o,hk _ _ I,D⟩
 have Q:∀ b:Addr,b ∉ (cxL P w K mg G (l++N) d a f c A j s H).ex:=λb z=>absurd (show b∈([]:List Addr) from z) (by simp)
 have ap:a.length=N.length:=by rw[<- E,length_map]
 have as:g.length=a.length:=(Paired.length T).symm
 refine⟨⟨F.mod,S.kind,rfl,rfl,Nat.le_refl _,λy z B M h2=>?_,λy hy=>?_,λy B h=>(Bool.false_ne_true h).elim,λ_=>hd,Around.frames_deeper F.frames,.inr ⟨rfl,rfl⟩,λb z=>absurd z (Q b),λb o e=>⟨(F.bs b o e).1,dH (F.bs b o e).2⟩,F.bsz,λb _ _=>Q b,λb z=>absurd z (Q b),F.funs,λb hb=>dH (F.frf b hb)⟩,
  rfl,F.bare,Un.kept hk,⟨_,an,λi y v I D g3=>?_⟩,λy B h=>?_,dH (F.hok.fresh (Nat.le_refl _)),λy B h=>iM (X y B h),λp R=>absurd (show p∈([]:List (Addr×Obj)) from R) (by simp),λb u e=>?_,?_⟩
 .have M:a.lookup y=some B:=M
  have h2:a.lookup z=some B:=h2;have e1:=cq M;have e2:=cq h2;have ad:((a.map λp=>(p.2,p.1)).map (·.1)).Nodup:=by rw[map_map];exact ab
  have:=lM ad (B,y) (mem_map.mpr ⟨_,e1,rfl⟩) (B,z) (mem_map.mpr ⟨_,e2,rfl⟩) rfl;exact congrArg Prod.snd this
 .have hy:d.scope.names.lookup y=some .cell\/d.scope.names.lookup y=some .free:=hy
  rcases hy with hy | hy
  .exact absurd rfl (S.nocell _ (cq hy))
  .have:=S.free _ (cq hy) rfl
   rw[<- E]at this;obtain⟨p,R,e⟩:=mem_map.mp this;have e':p.1=y:=e;exact⟨p.2,dS W (by show(y,p.2)∈a;rw[<- e'];exact R)⟩
 .have I:(l++N)[i]? = some y:=I
  by_cases hi:i<l.length
  .rw[List.getElem?_append_left hi]at I
   rw[List.getElem?_map,List.getElem?_append_left (by lia)]at D
   have O:vs[i]? = some v:=by
    cases q:vs[i]? with
    | none=>rw[q]at D;cases D
    | some x=>rw[q]at D;cases D;rfl
   obtain⟨u,hu,Z⟩:=r.get O;refine⟨u,Z,.inl ⟨S.par y (List.mem_of_getElem? I),?_⟩⟩;have al:(y,u)∈l.zip us:=List.mem_of_getElem? (i:=i) (by rw[List.getElem?_zip_eq_some];exact⟨I,hu⟩);refine dS ?_ (List.mem_reverse.mpr al);rw[List.map_reverse];refine qD ?_;have:(l.zip us).map (·.1)=l:=by rw[List.map_fst_zip];lia
   rw[this];exact Y
  .rw[List.getElem?_append_right (by lia)]at I
   rw[List.getElem?_map,List.getElem?_append_right (by lia)]at D
   have O:g[i - l.length]? = some v:=by
    rw[hl]at D;cases q:g[i - l.length]? with
    | none=>rw[q]at D;cases D
    | some x=>rw[q]at D;cases D;rfl
   obtain⟨p,R,e⟩:=T.get O;rw[<- E,List.getElem?_map,R]at I;cases I;obtain⟨u,Z,ic⟩:=C _ _ e;have L:=List.mem_of_getElem? R;refine⟨u,Z,.inr ⟨.inr (S.fr p.1 ?_),p.2,dS W L,ic⟩⟩;rw[<- E];exact mem_map.mpr ⟨p,L,rfl⟩
 .obtain⟨v,e⟩:=T.at (X y B h)
  obtain⟨u,_,ic⟩:=C _ _ e;exact⟨_,ic⟩
 .by_cases hb:b∈a.map (·.2)
  .rw[iM hb]at e;cases e
  .rw[i6 hb]at e
   refine(F.hok b u e).stay (λb' u' _ q=>hk b' u' q) (λb' q=>?_) λb' xs q=>?_
   .exact fU T q λv z=>nomatch z
   .exact fU T q λv z=>nomatch z
 .show((vs++g).map some).length=(l++N).length
  rw[length_map,length_append,length_append];lia
section
variable {P:Program}{w:World}{K:Frag}{mg:Str->Option Value}{base:Heap}
theorem ut{d:LamD}{O i:List Str}{k:Nat}{sp:List (Str×Addr)->List V->Sp}(S:LamScope d O i)
  (C:∀(pm ctv:Value) (clos:List (Str×Addr)) (c:Addr) (us:List Value),us.length=i.length->bindArgs (kla_fn "<lambda>" d.qual d.params d.body d.scope clos pm (.ref c) ctv) ⟨us,[]⟩=pure (i.zip us))
  (Z:∀ clos vals vs H Q E,sp clos vals vs H Q E->vs.length=i.length)
  (D:∀(A:Around) (outer:List Env) (s:Shared) (H:Hp) (f c:Addr) (clos:List (Str×Addr)) (vals vs:List V) (Q:VK) (E:XK),Room k (A.deeper (jl d s.heap.objs.size f c clos))->clos.map (·.1)=O->CellsAt H clos vals->sp clos vals vs H Q E ->
   ∃ t,PE (cxL P w K mg base (i++O) d clos f c A outer s H) d.body t/\t ((vs++vals).map some) (fA H (clos.map (·.2))) (λv H'=>∀ H3,Same H' H3->(∀ p∈clos,H3 p.2=H p.2)->Q v H3)) :
  nY P w K mg base (k+1) d O i sp:=by
 intro A outer s H f c clos us vs vals Q E hr j hf hc L X x r N;have hl:=Z _ _ _ _ _ _ N;have Y:us.length=i.length:=by rw[<- r.length];exact hl
 obtain⟨⟨pm,ctv,ef⟩,_,_⟩:=j.hok f _ hf;obtain⟨⟨oc,T,ct,ec,ed,ev⟩,_,_⟩:=j.hok c _ hc;have R:s.heap.NoLimit:=j.mod.nolimit.keeps λb o e=>(j.bs b o e).1
 obtain⟨t,ht,hq⟩:=D A outer s H f c clos vals vs Q E (hr.deeper _) L x N;refine PySem.W.kla_callFunE (body:=d.body) hr.depth ef rfl S.co S.gen rfl ⟨c,oc,T,ct,rfl,ec,ed,ev⟩ ?_;rw[C pm ctv clos c us Y];refine wpAny_pure (wpAny_newFunctionEnv S.nocell (λy hy=>S.par y.1 (of_mem_zip hy).1) (λh1 hns hsb=>?_) S.kind);have hk:∀ b o,s.heap.get? b=some o->h1.get? b=some o:=λb o e=>hsb.extBut b o (Nat.ne_of_lt (Heap.lt_size e)) (Heap.get?_push_of_some _ e)
 refine⟨R.fresh _ hsb,?_⟩;show codeAny _ _ (.expr d.body (jl d s.heap.objs.size f c clos)) _ _;have I:=oP (f:=f) (c:=c) (tk:=s.toks+(i.zip us).length) S hr.hd j hl r L X x hns hk;refine PySem.W.kla_codeExpr (wpAny_mono (ht [] _ _ _ _ I hq) (λu s' hs=>?_) λe s' z=>False.elim z);obtain⟨v,H',J,rv,q⟩:=hs
 obtain⟨cs,hcs⟩:∃ cs,cs=clos.map (·.2):=⟨_,rfl⟩
 have h:Un (frs outer) [] (fA H (clos.map (·.2))) H' s.heap s'.heap:=J.base
 have B:∀ b,b∈clos.map (·.2)->∃ o v,s.heap.get? b=some o/\H b=some (.ext (fc b v)):=λb a=>by
  obtain⟨v,e⟩:=x.at a;obtain⟨⟨o,_,g,_⟩,_⟩:=j.hok b _ e;exact⟨o,v,g,e⟩
 have W:∀ b∈clos.map (·.2),H' b=none:=λb a=>by
  obtain⟨o,v,g,_⟩:=B b a;exact h.free b o g (iM a) (by simp)
 let H3:Hp:=λb=>if b∈clos.map (·.2) then H b else H' b
 have g1:∀ b,b∈clos.map (·.2)->H3 b=H b:=λb a=>if_pos a
 have g2:∀ b,b ∉ clos.map (·.2)->H3 b=H' b:=λb a=>if_neg a
 have F:Same H' H3:=λb o e=>by
  rw[g2 b λz=>by rw[W b z]at e;cases e];exact e
 have up:∀ b o,H b=some o->(∀ v,o≠.ext (fc b v))->b ∉ clos.map (·.2):=λb o e n z=>by
  obtain⟨v,l⟩:=x.at z;rw[e]at l;exact n v (Option.some.inj l)
 refine⟨v,H3,J.os,J.bare,⟨λb o e n a G=>h.keep b o e (dH n) a G,λb o e n a G=>h.slot b o e (dH n) a G,λb o e n G=>?_,h.there,λb xs e=>?_,λb o u e=>?_,λb ps' e=>?_⟩,λb o e=>?_,rv,q H3 F λp hp=>g1 p.2 (mem_map.mpr ⟨p,hp,rfl⟩)⟩
 .rw[g2 b λz=>by obtain⟨_,v,_,l⟩:=B b z;rw[n]at l;cases l]
  exact h.free b o e (dH n) G
 .exact F _ _ (h.tups b xs (fU x e λv z=>nomatch z))
 .exact F _ _ (h.frzs b o u (fU x e λv z=>nomatch z))
 .obtain⟨M,z⟩:=h.tbls b ps' (fU x e λv z=>nomatch z)
  exact⟨M,F _ _ z⟩
 .by_cases a:b∈clos.map (·.2)
  .rw[g1 b a]at e
   obtain⟨o',v',g,l⟩:=B b a;rw[e]at l;cases l;obtain⟨⟨o2,u2,k1,k2,k3⟩,_⟩:=j.hok b _ e;refine m7 ⟨o2,u2,h.keep b o2 k1 (iM a) (λz=>?_) (by simp),k2,k3⟩;rw[j.frf b z]at e;cases e
  .rw[g2 b a]at e
   refine(J.hok b o e).stay (λb' u' _ q=>q) (λb' q=>F _ _ q) λb' xs q=>F _ _ q
theorem ki{d:LamD}{g e:List Str}{k:Nat}{sp:List V->Sp}(S:LamScope d g e)
  (b:∀(pm ctv:Value) (clos:List (Str×Addr)) (c:Addr) (us:List Value),us.length=e.length->bindArgs (kla_fn "<lambda>" d.qual d.params d.body d.scope clos pm (.ref c) ctv) ⟨us,[]⟩=pure (e.zip us))
  (h:∀ vals vs H Q E,sp vals vs H Q E->vs.length=e.length)
  (a:∀(A:Around) (outer:List Env) (s:Shared) (H:Hp) (f c:Addr) (clos:List (Str×Addr)) (vals vs:List V) (Q:VK) (E:XK),Room k (A.deeper (jl d s.heap.objs.size f c clos))->clos.map (·.1)=g->CellsAt H clos vals->sp vals vs H Q E ->
   ∃ t,PE (cxL P w K mg base (e++g) d clos f c A outer s H) d.body t/\t ((vs++vals).map some) (fA H (clos.map (·.2))) (λv H'=>∀ H3,Same H' H3->(∀ p∈clos,H3 p.2=H p.2)->Q v H3)) :
  gI P w K mg base (k+1) d g e sp:=ut (sp:=λ_=>sp) S b (λ_=>h) a
end
theorem PE.or{X:Cx}{e:Expr}{t t':TE}(h:PE X e t)(h':PE X e t'):PE X e (λσ H Q=>t σ H Q\/t' σ H Q):=λa s σ H Q I q=>q.elim (h a s σ H Q I) (h' a s σ H Q I)
def vk(d:LamD)(fv:List Str)(sp:List (Str×Addr)->List V->Sp):V->List V->Hp->VK->Prop:=λv vs H Q=>∃ f c clos vals,v=.ref f/\H f=some (.ext (ji f d clos c))/\H c=some (.ext (ik c d.qual))/\clos.map (·.1)=fv/\(clos.map (·.2)).Nodup/\CellsAt H clos vals/\sp clos vals vs H Q λ_ _ _=>False
def yL(d:LamD)(fv:List Str)(sp:List V->Sp):V->List V->Hp->VK->Prop:=vk d fv λ_=>sp
def wu(d:LamD)(fv:List Str)(sp:List V->Sp)(tf:TE)(t:TA):TE:=λσ H Q=>tf σ H λv H1=>(∃ f d' clos c,v=.ref f/\H1 f=some (.ext (ji f d' clos c)))/\t σ H1 λvs H2=>(∀ f d' clos c,v=.ref f->H1 f=some (.ext (ji f d' clos c))->H2 f=some (.ext (ji f d' clos c)))/\yL d fv sp v vs H2 Q
section
variable {X:Cx}{d:LamD}{fv ps:List Str}{k:Nat}{sp:List V->Sp}{x:Str}{p pos:Pos}{tf:TE}{t:TA}{e:Expr}{es:List Expr}
theorem tM{sp:List (Str×Addr)->List V->Sp}{a:List (Addr×Obj)}{j:St}{H:Hp}{s:Shared}{Q:VK}{us:List Value}{vs:List V}{v:V}{u:Value}(L:nY X.prog X.w X.K X.mg X.base k d fv ps sp)(o:Room k X.A)(I:Inv X a j H s)(y:RelV v u)(r:Vals vs us)(h:vk d fv sp v vs H Q) :
  wpAny (model X.prog X.w) X.A (call u us) (EP X a j Q) X.xe s:=by
 obtain⟨f,c,g,i,rfl,p,x,l,w,A,z⟩:=h;obtain rfl:u=Value.ref f:=y;refine wpAny_call (codeAny_mono (L X.A X.stack s H f c g us vs i Q _ o I.env0 p x l w A r z) λr B b=>?_);cases r with
 | error e=>exact False.elim b
 | ok fl =>
  cases fl with
  | ret u=>exact I.after b
  | next=>exact False.elim b
  | brk=>exact False.elim b
  | cont=>exact False.elim b
theorem pK{H:Hp}{s:Shared}{P:Program}{w:World}{f c:Addr}{d:LamD}{a:List (Str×Addr)}(g:HOk P w H s.heap)(e:H f=some (.ext (ji f d a c))):FnAt f s.heap:=by
 obtain⟨⟨i,b,h⟩,_,_⟩:=g f _ e;exact⟨_,_,_,_,h⟩
theorem gR(y:PE X (.Name x p) tf)(L:gI X.prog X.w X.K X.mg X.base k d fv ps sp)(F:Room k X.A)(A:PA X (e::es) t)
  (D:starEach (e::es) X.env=(false,eval e X.env)::starEach es X.env:=by rfl) (b:(backTo pos (starEach es X.env)).any (·.1)=false:=by rfl):PE X (.Call (.Name x p) (e::es) [] pos) (wu d fv sp tf t):=by
 intro a s j H Q I h;refine wpAny_Call_Name_kw (thn (y a s j H _ I h) λu C ⟨v,E,w,z,⟨f,G,i,c,B,o⟩,q⟩=>?_);subst B;obtain rfl:u=Value.ref f:=z;refine PySem.W.callWith_F (pK w.hok o) (thn (A pos a C j E _ w q) λN K ⟨M,O,l,r,g⟩=>⟨pK l.hok (g.1 _ _ _ _ rfl o),?_⟩) D b;exact tM L F l (v:=.ref f) rfl r g.2
end
abbrev TR:=VK->(V->St->Hp->Prop)->St->Hp->Prop
def PR(X:Cx)(sts:List Stmt)(t:TR):Prop :=
 ∀(pins:List (Addr×Obj)) (s:Shared) (σ:St) (H:Hp) (R:VK) (Z:V->St->Hp->Prop),Inv X pins σ H s->t R Z σ H ->
  wpAny (model X.prog X.w) X.A (execs sts X.env) (λf s'=>∃ u,f=.ret u/\((∃ v σ' H',Inv X pins σ' H' s'/\RelV v u/\(R v H'\/Z v σ' H'))\/∃ v H',s'.os=X.s₀.os/\AllBare s'.gens/\Un X.fs X.ex X.H₀ H' X.s₀.heap s'.heap/\HOk X.prog X.w H' s'.heap/\RelV v u/\R v H')) X.xe s
section
variable {X:Cx}{e:Expr}{te:TE}{pos:Pos}{st:Stmt}{bM:List Stmt}{t:TS}{u:TR}
theorem wy(b:PE X e te):PR X [.Return (some e) pos] (λ_ Z σ H=>te σ H λv H'=>Z v σ H'):=by
 intro a s σ H R Z I h;refine wpAny_execs_cons (wpAny_Return_some (thn (b a s σ H _ I h) λv i ⟨x,f,g,c,d⟩=>?_));exact⟨v,rfl,.inl ⟨x,σ,f,g,c,.inr d⟩⟩
theorem fB(e:PS X st t)(h2:PR X bM u):PR X (st::bM) (λR Z σ H=>t { nx:=u R Z,rt:=R } σ H):=by
 intro a s σ H R Z I h;refine wpAny_execs_cons (thn (e a s σ H { nx:=u R Z,rt:=R } I h) λf g q=>?_);cases f with
 | next =>
  obtain⟨b,d,c,q⟩:=q;exact h2 a g b d R Z c q
 | ret v =>
  obtain⟨i,b,d,c,r,q⟩:=q;exact⟨v,rfl,.inl ⟨i,b,d,c,r,.inl q⟩⟩
 | brk=>obtain⟨_,_,_,q⟩:=q;exact False.elim q
 | cont=>obtain⟨_,_,_,q⟩:=q;exact False.elim q
end
def lG(cells:List (Str×Addr))(N:List Str)(σ:St)(H3:Hp):Prop:=∀(i:Nat) (y:Str) (v:V) (c:Addr),N[i]? = some y->σ[i]? = some (some v)->cells.lookup y=some c->H3 c=some (.ext (fc c v))
theorem iV{y:Str}{c:Addr}:∀(names:List (Str×NameKind)) (n:Nat) (acc:List (Str×Addr)),(y,c)∈cellsFrom n names acc->(y,c)∈acc\/(y,NameKind.cell)∈names
 | [],n,acc,h=>.inl h
 | (x,k)::r,n,acc,h=>by
  unfold cellsFrom at h
  split at h
  .rename_i hk
   rcases iV r (n+1) ((x,n)::acc) h with z | z
   .rcases mem_cons.mp z with e | z
    .cases e
     rw[eq_of_beq hk];exact .inr (mem_cons_self ..)
    .exact .inl z
   .exact .inr (mem_cons_of_mem _ z)
  .rcases iV r n acc h with z | z
   .exact .inl z
   .exact .inr (mem_cons_of_mem _ z)
section
variable {P:Program}{w:World}{K:Frag}{mg:Str->Option Value}{base:Heap}
theorem vh{CX:CXT}{N:List Str}{C:Str}{scope:Scope}{f:Addr}{cd:Value}{A:Around}{a:List Env}{s s':Shared}{H B:Hp}{E:XK}{W:St}(hN:N.Nodup)(T:∀ p∈scope.names,p.2=.cell->scope.names.lookup p.1=some .cell)
  {L:List (Addr×Obj)}(J:Inv (gg CX P w K mg base N C scope f cd A a s H E) L W B s') :
  ∃ H3,Same B H3/\lG (cellsFrom (s.heap.objs.size+1) scope.names []) N W H3/\(∀ b,B b=none->H3 b≠none->∃ y,(cellsFrom (s.heap.objs.size+1) scope.names []).lookup y=some b)/\Un (frs a) [] H H3 s.heap s'.heap/\HOk P w H3 s'.heap:=by
 have x:∀ y c,(cellsFrom (s.heap.objs.size+1) scope.names []).lookup y=some c->scope.names.lookup y=some .cell:=λy c e=>by
  rcases iV _ _ _ (cq e) with z | z
  .cases z
  .exact T _ z rfl
 obtain⟨cells,hcells⟩:∃ l,l=cellsFrom (s.heap.objs.size+1) scope.names []:=⟨_,rfl⟩
 rw[<- hcells]at x ⊢;have d:(gg CX P w K mg base N C scope f cd A a s H E).env.cells=cells:=hcells.symm
 let G:Addr->V->Prop:=λb v=>∃(i:Nat) (y:Str),N[i]? = some y/\W[i]? = some (some v)/\cells.lookup y=some b
 have G1:∀ b v S,G b v->G b S->v=S:=by
  rintro b v S ⟨i,y,M,O,g⟩ ⟨j,z,b1,Y,b3⟩;have:y=z:=J.ok.inj y z b (by rw[d];exact g) (by rw[d];exact b3);subst this;have:i=j:=jR hN M b1;subst this;rw[O]at Y;cases Y;rfl
 have X:∀ b v,G b v->B b=none/\s.heap.objs.size<=b/\fc b v s'.heap:=by
  rintro b v ⟨i,y,M,O,g⟩;refine⟨J.freeC y b (by rw[d];exact g),J.ok.cab y b rfl (by rw[d];exact g),?_⟩;obtain⟨m,hn,hl⟩:=J.loc;obtain⟨u,r,l⟩:=hl i y v M O (.inr (.inl (x y b g)))
  rcases l with⟨k,_⟩ | ⟨k,c,e,o,ho,hd⟩
  .exfalso
   have k:scope.names.lookup y = some .local:=k;rw[x y b g]at k;cases k
  .have e:cells.lookup y=some c:=by rw[<- d];exact e
   rw[g]at e;cases e;exact⟨o,u,ho,hd,r⟩
 classical
 let H3:Hp:=λb=>if h:∃ v,G b v then some (.ext (fc b (Classical.choose h))) else B b
 have g1:∀ b v,G b v->H3 b=some (.ext (fc b v)):=λb v h=>by
  have Q:∃ v,G b v:=⟨v,h⟩
  show(if h:∃ v,G b v then some (.ext (fc b (Classical.choose h))) else B b)=_;rw[dif_pos Q,G1 b _ v (Classical.choose_spec Q) h]
 have R:∀ b,(¬∃ v,G b v)->H3 b=B b:=λb h=>dif_neg h
 have F:Same B H3:=λb o e=>by
  rw[R b λ⟨v,z⟩=>by rw[(X b v z).1]at e;cases e];exact e
 have D:Un (frs a) [] H B s.heap s'.heap:=J.base;refine⟨H3,F,λi y v c M O g=>g1 c v ⟨i,y,M,O,g⟩,(λb n1 n2=>?_),⟨D.keep,D.slot,λb o e n Q=>?_,D.there,λb xs e=>F _ _ (D.tups b xs e),λb o u e=>F _ _ (D.frzs b o u e),λb ps e=>?_⟩,λb o e=>?_⟩
 .by_cases h:∃ v,G b v
  .obtain⟨v,i,y,_,_,g⟩:=h
   exact⟨y,g⟩
  .rw[R b h]at n2
   exact absurd n1 n2
 .rw[R b λ⟨v,z⟩=>absurd (Nat.lt_of_lt_of_le (Heap.lt_size e) (X b v z).2.1) (Nat.lt_irrefl _)]
  exact D.free b o e n Q
 .obtain⟨I,z⟩:=D.tbls b ps e
  exact⟨I,F _ _ z⟩
 .by_cases h:∃ v,G b v
  .obtain⟨v,h⟩:=h
   rw[g1 b v h]at e;cases e;exact m7 (X b v h).2.2
  .rw[R b h]at e
   exact(J.hok b o e).stay (λZ u' _ q=>q) (λZ q=>F _ _ q) λZ xs q=>F _ _ q
theorem jK{N:List Str}{c:Str}{scope:Scope}{f:Addr}{j:Value}{A:Around}{a:List Env}{s:Shared}{H:Hp}{E:XK}{k:Nat}{g:Addr}{fd:FuncData}{ps:List Str}{sp:Sp}{S:List Value}{C:List V}{x:Str}{p G rp:Pos}{e:Expr}{Q:List Expr}{t:TA}
  (hN:N.Nodup) (an:∀ p∈scope.names,p.2=.cell->scope.names.lookup p.1=some .cell)
  (F:FnOk P w K mg base CX0 k g fd ps sp) (hr:Room k (gg CX0 P w K mg base N c scope f j A a s H E).nox.A) (hg:Gl (gg CX0 P w K mg base N c scope f j A a s H E).nox x) (hm:mg x=some (.ref g)) (hk:keepIn K (.ref g)=true) (l:Binds K fd ps S) (hd:Vals C S)
  (ha:PA (gg CX0 P w K mg base N c scope f j A a s H E).nox (e::Q) t) (ab:(x == ("__debug__" : Str))=false:=by decide)
  (he:starEach (e::Q) (gg CX0 P w K mg base N c scope f j A a s H E).nox.env=(false,eval e (gg CX0 P w K mg base N c scope f j A a s H E).nox.env)::starEach Q (gg CX0 P w K mg base N c scope f j A a s H E).nox.env:=by rfl)
  (ap:(backTo G (starEach Q (gg CX0 P w K mg base N c scope f j A a s H E).nox.env)).any (·.1)=false:=by rfl) :
  PR (gg CX0 P w K mg base N c scope f j A a s H E).nox [.Return (some (.Call (.Name x p) (e::Q) [] G)) rp]
   (λR _ σ H'=>t σ H' λvs H1=>∀ H3,Same H1 H3->lG (cellsFrom (s.heap.objs.size+1) scope.names []) N σ H3->sp (vs++C) H3 R λ_ _ _=>False):=by
 intro D s1 σ H1 R Z I h;refine wpAny_execs_cons (wpAny_Return_some ?_);refine wpAny_Call_Name_kw (ib I hg hm ?_ ab);refine callWith_K (h₀:=base) I.ok.mod.kin hk (thn (ha G D s1 σ H1 _ I h) λX s2 ⟨vs,H2,I2,r,q⟩=>⟨I2.kIn,?_⟩) he ap;have J:Inv (gg CX0 P w K mg base N c scope f j A a s H E) D σ H2 s2:=I2.unwish;obtain⟨H3,sm,hc,W,B,ad⟩:=vh hN an J;have r2:Vals (vs++C) (X++S):=r.append hd;have q':=q H3 sm hc;have hl:(X++S).length=ps.length:=by rw[<- r2.length];exact F.len _ _ _ _ q'
 have hL:∀ b∈frs (envOfC c scope s.heap.objs.size f j::a),b=s.heap.objs.size\/b∈frs a:=λb l=>by
  have:b∈s.heap.objs.size::frs a:=l;exact mem_cons.mp this
 have e0:Env0 P w K mg base (gg CX0 P w K mg base N c scope f j A a s H E).A (envOfC c scope s.heap.objs.size f j::a) s2 H3:=by
  have z:=J.env0;refine⟨z.frames,z.mod,λb o e=>⟨(z.bs b o e).1,B.free b o (J.ok.bs b o e).1 (J.ok.bs b o e).2 (by simp)⟩,z.bsz,z.funs,λb l=>?_,ad,z.bare⟩;cases q3:H3 b with
  | none=>rfl
  | some o =>
   obtain⟨y,hy⟩:=W b (z.frf b l) (by rw[q3];simp)
   rcases hL b l with rfl | hb'
   .exact absurd rfl (J.cne y _ hy)
   .obtain⟨_,o',as,_⟩:=J.ok.funs.mem hb'
    have:=J.ok.cab y b rfl hy;exact absurd (Nat.lt_of_lt_of_le (Heap.lt_size as) this) (Nat.lt_irrefl _)
 refine wpAny_call (codeAny_mono (F.run _ _ s2 H3 ⟨X,[]⟩ (X++S) (vs++C) R _ hr e0 (l s2 X J.kIn hl) r2 q') λrr s' T=>?_);cases rr with
 | error e=>exact False.elim T
 | ok fl =>
  cases fl with
  | ret u =>
   obtain⟨v,H4,os,Y,d,O,rv,qq⟩:=T
   have M:∀ b o,s.heap.get? b=some o->b ∉ frs a->b ∉ frs (envOfC c scope s.heap.objs.size f j::a):=λb o e n z=>by
    rcases hL b z with rfl | z
    .exact absurd (Heap.lt_size e) (Nat.lt_irrefl _)
    .exact n z
   have aS:∀ b,b∈frs a->b∈frs (envOfC c scope s.heap.objs.size f j::a):=λb z=>by
    show b∈s.heap.objs.size::frs a;exact mem_cons_of_mem _ z
   refine⟨u,rfl,.inr ⟨v,H4,os.trans J.os,Y,⟨λb o e n l i=>d.keep b o (B.keep b o e n l i) (B.free b o e n i) (M b o e l) i,λb o e n l i=>?_,λb o e n i=>?_,λb o e i=>?_,λb xs e=>d.tups b xs (B.tups b xs e),λb o u e=>d.frzs b o u (B.frzs b o u e),λb qs e=>?_⟩,O,rv,qq⟩⟩
   .obtain⟨sl,L⟩:=B.slot b o e n l i
    obtain⟨al,e2⟩:=d.slot b _ L (B.free b o e n i) (aS b l) i;exact⟨al,e2⟩
   .obtain⟨o',L⟩:=B.there b o e i
    exact d.free b o' L (B.free b o e n i) i
   .obtain⟨o',L⟩:=B.there b o e i
    exact d.there b o' L i
   .obtain⟨m1,L⟩:=B.tbls b qs e
    obtain⟨m2,e2⟩:=d.tbls b _ L;exact⟨m1++m2,by rw[e2,Array.append_assoc]⟩
  | next=>exact False.elim T
  | brk=>exact False.elim T
  | cont=>exact False.elim T
theorem Fun.okL{x a:Str}{st:Stmt}{f c:Addr}{D:FuncData}{N z:List Str}{k:Nat}{sp:Sp}(F:Fun K x a st f D)(hc:D.code=.ref c)(S:FnScope N z (ar st))(L:∀ p∈(ar st).names,p.2=.cell->(ar st).names.lookup p.1=some .cell)
  (j:∀ vs H Q E,sp vs H Q E->vs.length=z.length)
  (g:∀(A:Around) (outer:List Env) (s:Shared) (H:Hp) (vs:List V) (Q:VK) (E:XK),Room k (A.deeper (envOfC a (ar st) s.heap.objs.size f (.ref c)))->sp vs H Q E ->
   ∃ t,PR (gg CX0 P w K mg base N a (ar st) f (.ref c) A outer s H E).nox (fF st) t/\t Q (λv σ H'=>∀ H3,Same H' H3->lG (cellsFrom (s.heap.objs.size+1) (ar st).names []) N σ H3->Q v H3) (start N vs) H):FnOk P w K mg base CX0 (k+1) f D z sp:=by
 obtain⟨oc,od,kV,Y,pm,an,M,ct,al,rfl,X,C⟩:=F.ex;obtain rfl:M=.ref c:=hc;refine⟨j,λA outer s H W us vs Q E O h hb r i=>?_⟩;have hl:=j _ _ _ _ i;have R:K.In s.heap:=h.mod.kin.keeps λb o e=>(h.bs b o e).1
 have B:s.heap.NoLimit:=h.mod.nolimit.keeps λb o e=>(h.bs b o e).1
 have d:∀ y ∈ z.zip us,(ar st).names.lookup y.1 = some .local\/((ar st).names.lookup y.1 = some .cell/\((cellsFrom (s.heap.objs.size + 1) (ar st).names []).lookup y.1).isSome = true):=λ⟨n,v⟩ hy=>by
  rcases S.par n (of_mem_zip hy).1 with q | q
  .exact .inl q
  .exact .inr ⟨q,cellsFrom_some _ _ _ (.inl q)⟩
 refine codeAny_call_function O.depth (R _ _ X) rfl S.co S.gen rfl (codeRec_of R C) (hb _ _ _ _ ?_);refine wpAny_newFunctionEnv_cells S.kind d λad he T x=>?_
 subst he;refine⟨B.keeps x.toInCall.keep,codeAny_func ?_⟩;obtain⟨t,ht,hq⟩:=g A outer s H vs Q E (O.deeper _) i;have I:Inv (gg CX0 P w K mg base N a (ar st) f (.ref c) A outer s H E) [] (start N vs) H T:=kN S O.hd h hl r x;refine wpAny_mono (ht [] T (start N vs) H Q _ (I.wish _) hq) (λfl s' G=>?_) λe s' G=>False.elim G
 obtain⟨u,rfl,⟨v,ab,H',J,l,q⟩ | ⟨v,H',g1,g2,Z,g4,l,q⟩⟩:=G
 .have J:=J.unwish
  rcases q with q | q
  .exact⟨v,H',J.os,J.bare,J.base,J.hok,l,q⟩
  .obtain⟨H3,h1,h2,_,h3,h4⟩:=vh S.nd L J
   exact⟨v,H3,J.os,J.bare,h3,h4,l,q H3 h1 h2⟩
 .exact⟨v,H',g1,g2,Z,g4,l,q⟩
end
theorem qm{P:Program}{w:World}{K:Frag}{mg mb:Str->Option Value}{CX:CXT}{k:Nat}{fa a:Addr}{fd:FuncData}{x:Str}{sp:Sp}{f:Shared}{vs:List Value}{ns:List Int}{p:List Addr}
  (KX:K.In f.heap) (X:f.heap.Ns mainGlobals mg) (g:f.heap.Ns builtinsNs mb) (ab:∀ x:Str,x ≠ "__name__" -> mb x=bootBuiltins x) (N:f.heap.NoLimit) (hg:f.gens = #[])
  (G:f.heap.get? a=some { cls:=.type "list",data:=.seq vs.toArray }) (hi:IntsAre vs ns) (hl:ns.length<=sizeLine) (hr:Room k callerA) (a1:Bm mg f.heap)
  (l:∀ P∈p,f.heap.get? P=some (tabObj #[])) (ad:∀ P∈p,∃ c,codeHdIn K c P=true) (a0:∀ P∈p,K.lookup P=none)
  (F:∀ base:Heap,K.In base->base.Ns mainGlobals mg->Bm mg base->FnOk P w K mg base CX k fa fd [x] sp) (E:∀(s:Shared) (u:Value),BindsTo s fd ⟨[u],[]⟩ [(x,u)])
  (as:∀ H:Hp,(∀ P∈p,H P=some (.tbl #[]))->SqL K H a (ns.map V.int)->sp [.ref a] H (λv _=>v=.bl true) λ_ _ _=>False)
  (al:∀ H e s',CX [] H f (λ_ _ _=>False) e s'->False) :
  codeAny (model P w) callerA (.call (.ref fa) ⟨[.ref a],[]⟩) (λr s'=>r=.ok (.ret (.bool true))/\OldK f.heap s'.heap/\s'.os=f.os/\AllBare s'.gens) f:=by
 have rv:=kM hi;have M:=hi.length;have R:a ∉ p:=λz=>by have:=l a z;rw[G]at this;cases this
 have D:∀ H:Hp,(∀ P∈p,H P=some (.tbl #[]))->SqL K H a (ns.map V.int)->HOk P w H f.heap->(∀ b u,H b=some u->(b=a/\∃ o xs,u=.frz o (.lst xs))\/(b∈p/\u=.tbl #[]))->(H a≠none->K.lookup a=none) ->
   codeAny (model P w) callerA (.call (.ref fa) ⟨[.ref a],[]⟩) (λr s'=>r=.ok (.ret (.bool true))/\OldK f.heap s'.heap/\s'.os=f.os/\AllBare s'.gens) f:=by
  intro H hT hS Q Y hK;have j:∀{b:Addr}{o:Obj},f.heap.get? b=some o->H b=none->(kC f.heap H).get? b=some o:=λe n=>sP e n
  have ap:∀{b:Addr}{o:Obj},f.heap.get? b=some o->o.cls≠.none->(∀ W n,o.data≠.seq W n)->H b=none:=λ{b o} e d1 d2=>by
   cases q:H b with
   | none=>rfl
   | some u =>
    rcases Y b u q with⟨rfl,_⟩ | ⟨g,_⟩
    .rw[G]at e;cases e;exact(d2 _ _ rfl).elim
    .rw[l b g]at e;cases e;exact(d1 rfl).elim
  have aS:∀{b:Addr}{o:Obj}{I:Array DictEntry}{L:Nat},f.heap.get? b=some o->o.data=.dict I L->H b=none:=λ{b o I L} e d=>by
   cases q:H b with
   | none=>rfl
   | some u =>
    rcases Y b u q with⟨rfl,_⟩ | ⟨g,_⟩
    .rw[G]at e;cases e
     have d':Data.seq vs.toArray _=Data.dict I L:=d;cases d'
    .rw[l b g]at e;cases e;cases d
  have y:∀{b:Addr}{m:Str->Option Value},f.heap.Ns b m->(kC f.heap H).Ns b m:=λ{b m} ⟨o,I,L,e,d,r⟩=>⟨o,I,L,j e (aS e d),d,r⟩
  have O:K.In (kC f.heap H):=λb o e=>j (KX b o e) (by
   cases q:H b with
   | none=>rfl
   | some u =>
    rcases Y b u q with⟨rfl,_⟩ | ⟨g,_⟩
    .rw[hK (by rw[q];simp)]at e;cases e
    .rw[a0 b g]at e;cases e)
  have hM:Mod K mg (kC f.heap H):=⟨O,y X,⟨mb,y g,ab⟩,let ⟨mc,h1,h2⟩:=N;⟨mc,y h1,h2⟩⟩
  have hB:Bm mg (kC f.heap H):=by
   obtain⟨bm,ob,b1,b2,b3,b4,b5⟩:=a1;exact⟨bm,ob,b1,j b2 (ap b2 (by rw[b3];simp) (λW n=>by rw[b5];intro z;cases z)),b3,b4,b5⟩
  have e0:Env0 P w K mg (kC f.heap H) callerA [] f H:=⟨rfl,hM,λb o e=>uQ e,Nat.le_of_eq (qh _ _),trivial,λb g=>absurd (show b∈([]:List Addr) from g) (by simp),Q,.of_eq hg⟩
  refine codeAny_mono ((F _ O (y X) hB).run callerA [] f H ⟨[.ref a],[]⟩ [.ref a] [.ref a] _ _ hr e0 (E f (.ref a)) (.cons rfl .nil) (as H hT hS)) λr s' h=>?_
  cases r with
  | error e=>exact(al H e s' h).elim
  | ok fl =>
   cases fl with
   | next=>exact False.elim h
   | brk=>exact False.elim h
   | cont=>exact False.elim h
   | ret u =>
    obtain⟨v,H',os,S,Z,B,r',q⟩:=h;have q':v=.bl true:=q;subst q';obtain rfl:u=Value.bool true:=r';refine⟨rfl,⟨λb o e=>?_,λb o e=>Z.there b o e (by simp)⟩,os,S⟩;cases q:H b with
    | none=>exact .inl (Z.keep b o e q (by intro z;exact absurd (show b∈([]:List Addr) from z) (by simp)) (by simp))
    | some u =>
     rcases Y b u q with⟨_,ob,xs,rfl⟩ | ⟨g,rfl⟩
     .have z2:=Z.frzs b ob _ q
      obtain⟨e1,_⟩:=Q b _ q;obtain⟨e2,_⟩:=B b _ z2;rw[e]at e1;cases e1;exact .inl e2
     .obtain⟨c,hc⟩:=ad b g
      have C:=codeHd_of_K KX hc;obtain⟨A,z⟩:=Z.tbls b _ q;have z2:s'.heap.get? b=some (tabObj (#[]++A)):=B b _ z;rw[l b g]at e;cases e;exact .inr (.inl ⟨(C.tab (l b g)).isCodeTable,rfl,#[],A,rfl,z2⟩)
 let T:Hp:=λb=>if b∈p then some (.tbl #[]) else none
 cases hk:K.lookup a with
 | some o =>
  have e:=KX a o hk;rw[G]at e;cases e;refine D T (λP hP=>if_pos hP) (.inr ⟨_,vs.toArray,_,hk,rfl,rfl,rfl,by rw[size_toArray,M];exact hl,by simpa using rv⟩) (λb u z=>?_) (λb u z=>?_) λz=>absurd (if_neg R) z
  .by_cases g:b∈p
   .have i:=(if_pos g).symm.trans z
    cases i;exact l b g
   .have i:=(if_neg g).symm.trans z
    cases i
  .by_cases g:b∈p
   .have i:=(if_pos g).symm.trans z
    cases i;exact .inr ⟨g,rfl⟩
   .have i:=(if_neg g).symm.trans z
    cases i
 | none =>
  refine D (λb=>if b=a then some (.frz { cls:=.type "list",data:=.seq vs.toArray } (.lst (ns.map V.int))) else T b) (λP hP=>?_) (.inl (.inr ⟨{ cls:=.type "list",data:=.seq vs.toArray },if_pos rfl⟩)) (λb u z=>?_) (λb u z=>?_) λ_=>hk
  .have an:P≠a:=λz=>R (by rw[<- z];exact hP)
   exact(if_neg an).trans (if_pos hP)
  .by_cases g:b=a
   .have i:=(if_pos g).symm.trans z
    cases i;subst g;exact⟨G,by rw[length_map];exact hl,vs,_,rv,G⟩
   .have i:=(if_neg g).symm.trans z
    by_cases g:b∈p
    .have i:=(if_pos g).symm.trans i
     cases i;exact l b g
    .have i:=(if_neg g).symm.trans i
     cases i
  .by_cases g:b=a
   .have i:=(if_pos g).symm.trans z
    cases i;exact .inl ⟨g,_,_,rfl⟩
   .have i:=(if_neg g).symm.trans z
    by_cases g:b∈p
    .have i:=(if_pos g).symm.trans i
     cases i;exact .inr ⟨g,rfl⟩
    .have i:=(if_neg g).symm.trans i
     cases i
theorem walk_ofT{l:PySem.W.OpenLaw}{n k:Nat}{q:Program}{j:List Str}{Z:(Str->Option Value)->Heap->Prop}{L:World->Heap->Prop}{d:DefRec}{K:Params->Frag}{CX:CXT}{sp:Frag->List Addr->Sp}{x:Str}{g:List Addr}
  (O:l.most=some n) (I:n<=sizeLine) (z:d.params.defaults=[]) (hr:Room k callerA)
  (hY:∀(w:World) (h:Heap),L w h->(K w.params).In h/\∀ P∈g,h.get? P=some (tabObj #[]))
  (F:∀(ts':List Addr),ts'=g->∀(w:World) (mg:Str->Option Value) (fa:Addr) (h:Heap),(K w.params).In h->h.Ns mainGlobals mg->mg d.name=some (.ref fa) ->
   ∃ fd:FuncData,(∀(s:Shared) (u:Value),BindsTo s fd ⟨[u],[]⟩ [(x,u)])/\(∀ P∈g,∃ c,codeHdIn (K w.params) c P=true)/\(∀ P∈g,(K w.params).lookup P=none) /\
    ∀ base:Heap,(K w.params).In base->base.Ns mainGlobals mg->Bm mg base->FnOk l.prog w (K w.params) mg base CX k fa fd [x] (sp (K w.params) g))
  (B:∀(K:Frag) (H:Hp) (a:Addr) (ns:List Int),ns.length<=n->(∀ P∈g,H P=some (.tbl #[]))->SqL K H a (ns.map V.int)->sp K g [.ref a] H (λv _=>v=.bl true) λ_ _ _=>False)
  (A:∀(H:Hp) (s:Shared) (e:Value) (s':Shared),CX [] H s (λ_ _ _=>False) e s'->False) :
  PySem.W.WalkO q j Z L l.row.toRowW d [] (λf vs=>PySem.call f vs):=by
 refine Att.attach_call O z λw N i mg mb fa o pm cd R a vs ns G Y ho hd Q C r p b hg=>?_
 obtain⟨M,hT⟩:=hY w _ Y;obtain⟨fd,T,y,D,S⟩:=F g rfl w mg fa _ M G.T.g C;have E:Bm mg i.heap:=let ⟨bm,ob,b1,_,b3,b4,b5,b6⟩:=G.T.bmain;⟨bm,ob,b1,b3,b4,b5,b6⟩;exact qm M G.T.g G.T.b G.T.builtins G.T.nolimit hg r p (Nat.le_trans b I) hr E hT y D S T (λH X W=>B (K w.params) H a ns b X W) λH e s'=>A H i e s'
end L2
namespace FrM
def gB(t b:Int):Int×Int:=(t/(Int.gcd t b:Int),b/(Int.gcd t b:Int))
theorem j9{t b:Int}(a:0<b):Low t b (gB t b).1 (gB t b).2:=(low t b a).2.2.1
theorem vJ{T B t b:Int}(c:0<B)(h:Low T B t b):(t,b)=gB T B:=by
 obtain⟨d,a⟩:=h.uniq (by lia) (j9 c);rw[d,a]
def sz(z:List Int)(k:Nat):Int:=z.getD k 0
def aR(z:List Int)(l:List Nat):Int:=(l.map (sz z)).sum
def stay(z:List Int)(l:List Nat)(w:Int):List Nat:=l.filter λk=>decide (sz z k*w<aR z l)
theorem iB(z:List Int)(l:List Nat)(w:Int):(stay z l w).length<=l.length:=length_filter_le _ _
def fin(z:List Int)(l:List Nat)(w:Int):List Nat×Int :=
 if (stay z l w).length=l.length then (l,w) else fin z (stay z l w) (w - ((l.length:Int) - ((stay z l w).length:Int)))
termination_by l.length
decreasing_by
 have:=iB z l w;lia
theorem iJ{z:List Int}{l:List Nat}{w:Int}(h:(stay z l w).length=l.length):fin z l w=(l,w):=by
 rw[fin,if_pos h]
theorem lZ{z:List Int}{l:List Nat}{w:Int}(h:(stay z l w).length≠l.length):fin z l w=fin z (stay z l w) (w - ((l.length:Int) - ((stay z l w).length:Int))):=by
 rw[fin,if_neg h]
theorem fq(z:List Int):∀(l:List Nat),(∀ k∈l,1<=sz z k)->(l.length:Int)<=aR z l
 | [],_=>by simp[aR]
 | a::l,h=>by
  have:=fq z l (λk b=>h k (mem_cons_of_mem _ b));have c:=h a mem_cons_self;unfold aR at *;rw[map_cons,sum_cons,length_cons];lia
theorem jI(z:List Int)(M:Int):∀(l:List Nat),(∀ k∈l,sz z k<=M)->aR z l<=(l.length:Int)*M
 | [],_=>by simp[aR]
 | a::l,h=>by
  have:=jI z M l (λk b=>h k (mem_cons_of_mem _ b));have c:=h a mem_cons_self;unfold aR at *;rw[map_cons,sum_cons,length_cons];have e:((l.length+1:Nat):Int)*M=(l.length:Int)*M+M:=by rw[Int.natCast_add,Int.add_mul];simp
  rw[e];lia
theorem gE(z:List Int)(w S:Int):∀(l:List Nat),(∀ k∈l,S<=sz z k*w)->(l.length:Int)*S<=aR z l*w
 | [],_=>by simp[aR]
 | a::l,h=>by
  have:=gE z w S l (λk b=>h k (mem_cons_of_mem _ b));have c:=h a mem_cons_self;unfold aR at *;rw[map_cons,sum_cons,length_cons,Int.add_mul];have e:((l.length+1:Nat):Int)*S=(l.length:Int)*S+S:=by rw[Int.natCast_add,Int.add_mul];simp
  rw[e];lia
theorem mJ{z:List Int}{l:List Nat}{w:Int}(hz:∀ k∈l,1<=sz z k)(i:w<l.length)(g:0<l.length):0<(stay z l w).length:=by
 by_cases h:0<(stay z l w).length
 .exact h
 .exfalso
  have e:stay z l w=[]:=List.length_eq_zero_iff.mp (by lia)
  have a:∀ k∈l,aR z l<=sz z k*w:=λk c=>by
   have:=(List.filter_eq_nil_iff.mp e) k c;simp at this;exact this
  have b:=gE z w (aR z l) l a;have f:=fq z l hz;have d:0<aR z l:=by lia
  rw[Int.mul_comm (aR z l) w]at b;have:=Int.le_of_mul_le_mul_right b d;lia
structure Rnd(z:List Int)(n:Nat)(m:Int)(l:List Nat)(w:Int):Prop where
 pos:0<l.length
 sub:∀ k∈l,k<n
 lt:w<l.length
 dif:w - l.length=m - n
 fil:l=(List.range n).filter λk=>decide (k∈l)
theorem Rnd.len{z:List Int}{n:Nat}{m:Int}{l:List Nat}{w:Int}(h:Rnd z n m l w):l.length<=n:=by
 have e:=congrArg List.length h.fil;have:=length_filter_le (λk=>decide (k∈l)) (List.range n);rw[length_range]at this;lia
theorem Rnd.start{z:List Int}{n:Nat}{m:Int}(b:0<n)(c:m<n):Rnd z n m (List.range n) m:=by
 refine⟨by rw[length_range];exact b,λk a=>mem_range.mp a,by rw[length_range];exact c,by rw[length_range],?_⟩;rw[List.filter_eq_self.mpr];intro k a;exact decide_eq_true a
theorem Rnd.step{z:List Int}{n:Nat}{m:Int}{l:List Nat}{w:Int}(hz:∀ k,k<n->1<=sz z k)(h:Rnd z n m l w):Rnd z n m (stay z l w) (w - ((l.length:Int) - ((stay z l w).length:Int))):=by
 have b:=mJ (λk a=>hz k (h.sub k a)) h.lt h.pos;refine⟨b,λk a=>h.sub k (mem_filter.mp a).1,by have:=h.lt;lia,by have:=h.dif;lia,?_⟩
 have e:(List.range n).filter (λk=>decide (k∈stay z l w))=((List.range n).filter λk=>decide (k∈l)).filter λk=>decide (sz z k*w<aR z l):=by
  rw[List.filter_filter];refine List.filter_congr λk _=>?_
  rw[Bool.eq_iff_iff];simp[stay];exact And.comm
 rw[e,<- h.fil];rfl
theorem Rnd.fin{z:List Int}{n:Nat}{m:Int}(hz:∀ k,k<n->1<=sz z k):∀(c:Nat) (l:List Nat) (w:Int),l.length<=c->Rnd z n m l w->Rnd z n m (fin z l w).1 (fin z l w).2
 | 0,l,w,hc,h=>absurd h.pos (by lia)
 | c+1,l,w,hc,h=>by
  by_cases e:(stay z l w).length=l.length
  .rw[iJ e];exact h
  .rw[lZ e]
   have:=iB z l w;exact Rnd.fin hz c _ _ (by lia) (h.step hz)
theorem vL{N S t b:Int}(i:0<S)(h:Low N S t b):b<=S/\t.natAbs<=N.natAbs:=by
 have j:=h.pos;have d:b ∣ S:=lP h.cop ⟨N,by rw[h.eq,Int.mul_comm]⟩;have a:=Int.le_of_dvd i d;refine⟨a,?_⟩;have e:=congrArg Int.natAbs h.eq;rw[Int.natAbs_mul,Int.natAbs_mul]at e;have f:b.natAbs<=S.natAbs:=by lia
 have g:0<S.natAbs:=by lia
 have c:N.natAbs*b.natAbs<=N.natAbs*S.natAbs:=Nat.mul_le_mul_left _ f;rw[<- e]at c;exact Nat.le_of_mul_le_mul_right c g
def due(z:List Int)(m:Int):List (Int×Int) :=
 if (z.length:Int)<=m then z.map λ_=>(1,1) else if m=0 then z.map λ_=>(0,1)
 else (List.range z.length).map λk=>if decide (k∈(fin z (List.range z.length) m).1)=true then gB (sz z k*(fin z (List.range z.length) m).2) (aR z (fin z (List.range z.length) m).1) else (1,1)
theorem cI(z:List Int)(m:Int):(due z m).length=z.length:=by
 unfold due
 split
 .simp
 .split <;> simp
end FrM
namespace L2
open PySem PySem.Spec PyProof.Rows
def lV:List V->List Value->Bool
 | [],[]=>true
 | .int i::xs,.int j _::us=>decide (i=j) && lV xs us
 | _,_=>false
theorem js:∀{xs:List V}{us:List Value},lV xs us=true->Vals xs us
 | [],[],_=>.nil
 | .int i::xs,.int j t::us,h=>by
  have h:(decide (i=j) && lV xs us)=true:=h;rw[Bool.and_eq_true]at h;have e:=of_decide_eq_true h.1;exact .cons ⟨t,by rw[e]⟩ (js h.2)
def jq(K:Frag)(a:Addr)(xs:List V):Bool :=
 match K.lookup a with
 | some o =>
  (match o.cls with
  | .type t=>t == "tuple"
  | _=>false) &&
  (match o.data with
  | .seq its _=>decide (its.size<=1000) && lV xs its.toList
  | _=>false)
 | none=>false
theorem ow{K:Frag}{H:Hp}{a:Addr}{xs:List V}(h:jq K a xs=true):SqT K H a xs:=by
 unfold jq at h
 split at h
 .rename_i o e
  rw[Bool.and_eq_true]at h;obtain⟨c,b⟩:=h
  split at c
  .rename_i t ec
   split at b
   .rename_i its n ed
    rw[Bool.and_eq_true]at b;refine .inr ⟨o,its,n,e,by rw[ec,beq_iff_eq.mp c],ed,?_,js b.2⟩;have:=of_decide_eq_true b.1;have:sizeLine=16777216:=sizeLine_eq;lia
   .cases b
  .cases c
 .cases h
def TyS(K:Frag)(H:Hp)(x:V)(t:Value):Prop:=TyOf K H x t\/∃ a xs,x=.ref a/\t=.type "tuple" /\ SqT K H a xs
section
variable {X:Cx}
open PySem.W in
theorem uy{b:List (Addr×Obj)}{h:St}{H:Hp}{s:Shared}{x:V}{u t:Value}(I:Inv X b h H s)(d:RelV x u)(ty:TyS X.K H x t) :
  ∃ Hh:Heap->Prop,KitX X.K u t Hh/\Hh s.heap/\u≠.builtin "__main__.__loader__#opaque" := by
 rcases ty with ty | ⟨a,j,rfl,rfl,f⟩
 .exact rP I d ty
 .cases(show u=Value.ref a from d)
  obtain⟨g,l,p,i⟩:=I.tuple f;exact⟨_,kitx_tuple,let ⟨o,e,c,_⟩:=p;⟨o,e,c⟩,λz=>nomatch z⟩
def ym(K:Frag):List V->Hp->VK->Prop:=λxs H Q=>∃ x c t b,xs=[x,c]/\tG c=true/\TyS K H x t/\kitOne K t (wE c)=some b/\Q (.bl b) H
theorem sr:CallR X (.builtin "isinstance") (ym X.K):=by
 intro a s v H o y Q I r h;obtain⟨x,c,t,b,rfl,j,d,e,q⟩:=h;obtain⟨u,w,rfl,i,l⟩:=mO r;cases pb j l;obtain⟨z,Z,p,g⟩:=uy I i d
 exact kia_one Z I.kIn p e g λf=>⟨.bl b,H,I.tok f,rfl,q⟩
theorem dI:bootBuiltins "sum" = some (.builtin "sum"):=by decide +kernel
theorem iN:∀{ns:List Int}{us:List Value},Vals (ns.map V.int) us->IntsAre us ns
 | [],_,.nil=>.nil
 | n::ns,_,.cons r t=>by
  obtain⟨a,rfl⟩:=r;exact .cons _ _ (iN t)
inductive rSumI(K:Frag)(xs:List V)(H:Hp)(Q:VK):Prop
 | mk(p:Addr)(ns:List Int)(h0:xs=[.ref p])(h1:SqL K H p (ns.map V.int))(h2:Q (.int ns.sum) H):rSumI K xs H Q
theorem bH(w:X.calm=true):CallR X (.builtin "sum") (rSumI X.K):=by
 intro e s B H xs A Q I r h;obtain⟨p,b,rfl,i,q⟩:=h;obtain⟨u,rfl,l⟩:=dw r;cases l;obtain⟨a,f,j,C⟩:=I.list i;have d:=iN f;obtain⟨xs,c⟩:=d.allInts.items;have g:(numsOf a)=b:=d.numsOf;refine sum_intListG (I.ok.hd w) (xs:=xs) (by rw[<- c];exact j.isList) λz y x v=>?_
 have o:preSum (numAt xs) xs.size=b.sum:=by
  rw[preSum_eq,take_of_length_le (by simp),<- g,<- nums_intItems,<- c]
 rw[o];exact⟨.int b.sum,H,I.kept v,⟨_,rfl⟩,q⟩
theorem mf(E:X.calm=true):CallR X (.type "list") (λxs H Q=>∃(p:Addr) (n:Nat),xs=[.ref p]/\n<=1000/\H p=some (.rng 0 (n:Int))/\∀ l,H l=none->Q (.ref l) (upd H l (.lst ((List.range n).map λ(i:Nat)=>V.int (i:Int))))):=by
 intro f s N H xs L Q I r h;obtain⟨p,n,rfl,G,e,q⟩:=h;obtain⟨u,rfl,v⟩:=dw r;cases v
 obtain⟨t,M,O,F⟩:=(show ObjOk X.prog X.w H s.heap p (.rng 0 (n:Int)) from I.hok p _ e)
 refine call_list_range (n:=n) (I.ok.hd E) F (small_one (by decide) (by decide) (by lia) (by lia)) (by rw[rangeSize_one];split <;> lia) (by lia) λK j d c D g z=>?_
 refine⟨.ref s.heap.objs.size,_,I.laid (t':=j) (o:=.lst ((List.range n).map λ(i:Nat)=>V.int (i:Int))) D (Nat.le_refl _) ?_,rfl,q _ (I.hok.fresh (Nat.le_refl _))⟩;obtain⟨y,C⟩:=z;refine⟨by rw[length_map,length_range,sizeLine_eq];lia,d.toList,c,pc (by rw[length_map,length_range];simpa using y.symm) λi x u a w=>?_,g⟩;rw[List.getElem?_map]at a
 have b:i<n:=by
  by_cases b:i<n
  .exact b
  .rw[List.getElem?_eq_none (by rw[length_range];lia)]at a
   cases a
 rw[List.getElem?_range b]at a;cases a;obtain⟨B,A⟩:=C i u (by simpa using w);refine(show ∃ t',u=Value.int (i:Int) t' from⟨B,?_⟩);rw[A]
 congr 1
 lia
end
def dE:Expr:=.Name "" ⟨0,0,0,0⟩
def tB(st:Stmt)(i:Nat):Stmt:=(fF st).getD i (.Pass ⟨0,0,0,0⟩)
def ur:Stmt->Expr
 | .Return (some e) _=>e
 | _=>dE
def rT:Expr->Nat->Expr
 | .Call _ es _ _,i=>es.getD i dE
 | _,_=>dE
def mQ(q:Str):Expr->LamD
 | .Lambda p b s _=>⟨q,p,b,s⟩
 | _=>⟨q,default,dE,default⟩
def ri:Expr->Pos
 | .Lambda _ _ _ p=>p
 | _=>⟨0,0,0,0⟩
theorem eM:bootBuiltins "sorted" = some (.builtin "sorted"):=by decide +kernel
theorem gF:∀{us:List Value}{ns:List Int},IntsAre us ns->Vals (ns.map V.int) us
 | _,_,.nil=>.nil
 | _,_,.cons n t h=>.cons ⟨_,rfl⟩ (gF h)
theorem dq{X:Cx}:CallR X (.builtin "sorted") (λxs H Q=>∃(p:Addr) (ns:List Int),xs=[.ref p]/\SqL X.K H p (ns.map V.int)/\ns.length<64/\∀ q (ns':List Int),ns'.Perm ns->ns'.Pairwise (·<=·)->H q=none->Q (.ref q) (upd H q (.lst (ns'.map V.int)))):=by
 intro j s F H xs E Q I r h;obtain⟨p,ns,rfl,w,G,q⟩:=h;obtain⟨u,rfl,y⟩:=dw r;cases y;obtain⟨d,i,x,K⟩:=I.list w;have B:=iN i;have g:d.length=ns.length:=by have:=i.length;rw[length_map]at this;exact this.symm
 refine sorted_ints x.isList B (by lia) λc ns' D l C=>?_
 obtain⟨e,A⟩:=sortedAll_at s.heap d c;have v:H (s.heap.objs.size+1)=none:=I.hok.fresh (Nat.le_succ _);have f:sizeLine=16777216:=sizeLine_eq;refine⟨.ref (s.heap.objs.size+1),_,I.laid (a:=s.heap.objs.size+1) (o:=.lst (ns'.map V.int)) (t':=s.toks) (λb u z=>sortedAll_old z) (Nat.le_succ _) ⟨?_,c.toList,e,gF D,?_⟩,rfl,q _ ns' l C v⟩
 .rw[length_map,l.length_eq];lia
 .rw[A,Array.toArray_toList]
theorem qH{K:Frag}{M:Model}{h:Heap}{C D x:Addr}{b:Obj}(X:K.In h)(c:XHd K C)(f:h.get? x=some b)(j:b.cls=.ref D)(i:mroIn K D (.ref C)=some false) :
  Looks M h (excMatches (.ref x) (.ref C)) false:=by
 have d:Looks M h (typeOf (.ref C)) (.type "type"):=looks_typeIn X c.ty;have a:Looks M h (isSubtype (.type "type") (.type "tuple")) false:=Looks.of_pure tc_notTuple;have g:Looks M h (isInstance (.ref C) (.type "tuple")) false:=d.andThen a
 have o:Looks M h (isExcClass (.ref C)) true:=by
  unfold isExcClass;exact(my X c.isc).andThen (looks_mroIn X c.mb)
 have e:Looks M h (typeOf (.ref x)) (.ref D):=j ▸ (Looks.ld f).andThen .now;have l:Looks M h (isSubtype (.ref D) (.ref C)) false:=looks_mroIn X i;intro A Q E s k q;unfold excMatches;refine wpAny_bind (g A _ E s k ?_);rw[if_neg Bool.false_ne_true];refine wpAny_bind (wpAny_pure ?_);simp only[forIn_cons,List.forIn_nil,bind_assoc,pure_bind];refine wpAny_bind (o A _ E s k ?_);simp only[Bool.not_true,Bool.false_eq_true,if_false,pure_bind];refine wpAny_bind (e A _ E s k ?_);refine wpAny_bind (l A _ E s k ?_);simp only[Bool.false_eq_true,if_false,pure_bind];exact wpAny_pure q
structure Lnd(X:Cx)(pins:List (Addr×Obj))(σ:St)(H:Hp)(s:Shared)(x D:Addr)(dct:Option Addr)(T:Addr)(H':Hp)(s':Shared)(T4:Addr)(h5:Heap):Prop where
 I:Inv X pins σ H s
 G:XG X.prog X.w X.stack H s x D dct T H' s'
 k:KeptBut ([T,x]++[T4]) (frs X.stack) s'.heap h5
 hxs:∀ b,b=T\/b=x\/b=T4->s.heap.get? b=none/\H' b=none/\b ∉ frs X.stack
 fx:Fx h5 x (.ref D) dct .none T4
abbrev TH:=Addr->Option Addr->Addr->Ends->St->Hp->Prop
def PH(X:Cx)(hs:List ExceptHandler)(th:TH):Prop :=
 ∀(pins:List (Addr×Obj)) (σ:St) (H:Hp) (s:Shared) (x D:Addr) (dct:Option Addr) (T:Addr) (H':Hp) (s':Shared) (T4:Addr) (h5:Heap) (DE:Ends),Lnd X pins σ H s x D dct T H' s' T4 h5->th D dct x DE σ (upd H' x (.ext (XCt x D dct))) ->
  wpAny (model X.prog X.w) X.A (handleBy (.ref x) X.env hs) (SP X pins DE) X.xe { s' with heap:=h5 }
theorem v6{X:Cx}:PH X [] (λ_ _ _ _ _ _=>False):=λ_ _ _ _ _ _ _ _ _ _ _ _ _ _ q=>False.elim q
section
variable {X:Cx}{C:Addr}{cn en:Str}{ie:Nat}{b₀:Stmt}{suite:List Stmt}{cp hp:Pos}{ts:TS}{bM:List ExceptHandler}{tr:TH}
theorem Lnd.J{a:List (Addr×Obj)}{f:St}{H:Hp}{s:Shared}{x D:Addr}{c:Option Addr}{T:Addr}{e:Hp}{s':Shared}{g:Addr}{d:Heap}(L:Lnd X a f H s x D c T e s' g d):Inv X a f (upd e x (.ext (XCt x D c))) { s' with heap:=d } :=
 vq (h2:=d) L.I L.G L.k (λb h=>L.hxs b (by simpa using h)) L.fx
theorem ul(y:X.stack = X.env :: X.outer/\X.env.frame = some X.env.locals)(O:Gl X cn)(M:X.mg cn = some (.ref C))(E:XHd X.K C)
  (N:∀ x,PSs (X.inX x) (b₀::suite) ts) (W:PH X bM tr) (p:(cn == ("__debug__" : Str))=false:=by decide) :
  PH X (.ExceptHandler (some (.Name cn cp)) none (b₀::suite) hp::bM) (λD dct x DE σ H1=>(mroIn X.K D (.ref C)=some true/\ts { nx:=DE.nx,rt:=DE.rt } σ H1)\/(mroIn X.K D (.ref C)=some false/\tr D dct x DE σ H1)):=by
 intro a σ H s x D dct T G w f h DE L q;have i:=L.J;obtain⟨o5,ho5,hc5⟩:∃ o,h.get? x=some o/\o.cls=.ref D:=let ⟨o,_,_,_,e,c,_⟩:=L.fx;⟨o,e,c⟩;refine wpAny_handleBy_cons (codeAny_handlers_test (ib (X:=X.inX x) (i.inX x) O M ?_ p)) (by intro z;cases z)
 rcases q with⟨r,q⟩ | ⟨r,q⟩
 .refine(pU i.kIn E ho5 hc5 r).at ?_
  refine codeAny_handlers_suite ?_;refine lA (s:={ w with heap:=h }) (fr:=frs (X.env::X.outer)) L.fx λF P Q=>?_
  have j:KeptBut ([T,x]++[f]++[f]) (frs X.stack) w.heap F:=by
   have:=L.k;rw[y.1]at this ⊢;exact this.trans Q
  have S:=vq (h2:=F) L.I L.G j (λb K=>L.hxs b (by
   have:b=T\/b=x\/b=f\/b=f:=by simpa using K
   rcases this with z | z | z | z
   .exact .inl z
   .exact .inr (.inl z)
   .exact .inr (.inr z)
   .exact .inr (.inr z))) P
  refine wpAny_mono (N x a _ _ _ _ (S.inX x) q) (λR Y g=>?_) (λ_ _ z=>False.elim z);cases R with
  | next =>
   obtain⟨d,A,B,l⟩:=g;exact⟨d,A,B.outX L.I.ok.hd,l⟩
  | ret u =>
   obtain⟨v,d,A,B,I,l⟩:=g;exact⟨v,d,A,B.outX L.I.ok.hd,I,l⟩
  | brk=>obtain⟨_,_,_,z⟩:=g;exact False.elim z
  | cont=>obtain⟨_,_,_,z⟩:=g;exact False.elim z
 .refine(qH i.kIn E ho5 hc5 r).at ?_
  exact W a σ H s x D dct T G w f h DE L q
end
def HX(X:Cx)(pins:List (Addr×Obj))(hr:Value->Option Addr->St->Hp->Prop)(e:Value)(s':Shared):Prop:=∃ σ H s,Inv X pins σ H s/\CXG X.prog X.w X.stack H s (λc d H'=>hr c d σ H') e s'
abbrev TB:=(St->Hp->Prop)->VK->(Value->Option Addr->St->Hp->Prop)->St->Hp->Prop
def PB1(X:Cx)(st:Stmt)(t:TB):Prop :=
 ∀(pins:List (Addr×Obj)) (s:Shared) (σ:St) (H:Hp) (nx:St->Hp->Prop) (rt:VK) (hr:Value->Option Addr->St->Hp->Prop),Inv X pins σ H s->t nx rt hr σ H->wpAny (model X.prog X.w) X.A (exec st X.env) (SP X pins { nx:=nx,rt:=rt }) (HX X pins hr) s
def PB(X:Cx)(sts:List Stmt)(t:TB):Prop :=
 ∀(pins:List (Addr×Obj)) (s:Shared) (σ:St) (H:Hp) (nx:St->Hp->Prop) (rt:VK) (hr:Value->Option Addr->St->Hp->Prop),Inv X pins σ H s->t nx rt hr σ H->wpAny (model X.prog X.w) X.A (execs sts X.env) (SP X pins { nx:=nx,rt:=rt }) (HX X pins hr) s
section
variable {X:Cx}
theorem wt{st:Stmt}{t:TB}(b:PB1 X st t):PB X [st] t:=by
 intro a s e H g d c I h;refine wpAny_execs_cons (thn (b a s e H g d c I h) λf i q=>?_);cases f with
 | next=>exact wpAny_execs_nil q
 | ret v=>exact q
 | brk=>exact q
 | cont=>exact q
def PX(X:Cx)(e:Expr)(t:VK->XK->St->Hp->Prop):Prop :=
 ∀(pins:List (Addr×Obj)) (s:Shared) (σ:St) (H:Hp) (Q:VK) (E:XK),Inv X pins σ H s->t Q E σ H ->
  wpAny (model X.prog X.w) X.A (eval e X.env) (EP X pins σ Q) (λe s'=>∃ H1 s1,Inv X pins σ H1 s1/\CXG X.prog X.w X.stack H1 s1 E e s') s
theorem uY{e:Expr}{t:VK->XK->St->Hp->Prop}{b:Pos}(h:PX X e t):PB1 X (.Return (some e) b) (λ_ rt hr σ H=>t rt (λc d H'=>hr c d σ H') σ H):=by
 intro a s σ H l rt hr I q;refine wpAny_Return_some (wpAny_mono (h a s σ H _ _ I q) (λu i ⟨v,f,g,r,j⟩=>?_) λe s' ⟨f,i,g,c⟩=>⟨σ,f,i,g,c⟩);exact⟨v,σ,f,g,r,j⟩
end
section
variable {X:Cx}{k:Nat}{f C:Addr}{fd:FuncData}{ps:List Str}{sp:Sp}{dvs:List V}{ds:List Value}{x m:Str}{p pos apos:Pos}{e o:Expr}{es:List Expr}{ta:TE}{t:TA}
theorem v9{a:List (Addr×Obj)}{c:St}{H:Hp}{s:Shared}{Q:VK}{E:XK}{us:List Value}{vs:List V}(F:FnOk X.prog X.w X.K X.mg X.base (CXG X.prog X.w) k f fd ps sp)(g:Room k X.A)(l:Binds X.K fd ps ds)(i:Vals dvs ds)
  (I:Inv X a c H s) (r:Vals vs us) (h:sp (vs++dvs) H Q E):wpAny (model X.prog X.w) X.A (call (.ref f) us) (EP X a c Q) (λe s'=>∃ H1 s1,Inv X a c H1 s1/\CXG X.prog X.w X.stack H1 s1 E e s') s:=by
 have d:Vals (vs++dvs) (us++ds):=r.append i;have j:(us++ds).length=ps.length:=by rw[<- d.length];exact F.len _ _ _ _ h
 refine wpAny_call (codeAny_mono (F.run X.A X.stack s H ⟨us,[]⟩ (us++ds) (vs++dvs) Q E g I.env0 (l s us I.kIn j) d h) λr s' b=>?_);cases r with
 | error e=>exact⟨H,s,I,b⟩
 | ok fl =>
  cases fl with
  | ret u=>exact I.after b
  | next=>exact False.elim b
  | brk=>exact False.elim b
  | cont=>exact False.elim b
theorem t5(F:FnOk X.prog X.w X.K X.mg X.base (CXG X.prog X.w) k f fd ps sp)(j:Room k X.A)(o:Gl X x)(l:X.mg x=some (.ref f))(g:keepIn X.K (.ref f)=true)(w:Binds X.K fd ps ds)(u:Vals dvs ds)
  (v:PA X.nox (e::es) t) (c:(x == ("__debug__" : Str))=false:=by decide) (i:starEach (e::es) X.env=(false,eval e X.env)::starEach es X.env:=by rfl) (b:(backTo pos (starEach es X.env)).any (·.1)=false:=by rfl) :
  PX X (.Call (.Name x p) (e::es) [] pos) (λQ E σ H=>t σ H λvs H1=>sp (vs++dvs) H1 Q E):=by
 intro a s σ H Q E I h;refine wpAny_Call_Name_kw (ib I o l ?_ c);refine callWith_K (h₀:=X.base) I.ok.mod.kin g (wpAny_mono (v pos a s σ H _ (I.wish _) h) (λA y ⟨vs,H1,d,r,q⟩=>⟨d.unwish.kIn,?_⟩) λ_ _ z=>False.elim z) i b;exact v9 F j w u d.unwish r q
theorem uh{body:List Stmt}{h₀:ExceptHandler}{A:List ExceptHandler}{E:TB}{C:TH}{R:Pos}(d:X.stack = X.env :: X.outer/\X.env.frame = some X.env.locals)(r:PB X body E)(P:PH X (h₀ :: A) C) :
  PS X (.Try body (h₀::A) [] [] R) (λDE σ H=>E DE.nx DE.rt (λc dct σ' H'=>∃ D,c=.ref D/\∀ x,H' x=none->C D dct x DE σ' (upd H' x (.ext (XCt x D dct)))) σ H):=by
 intro a s σ H DE I h;refine wpAny_Try_except ?_;refine wpAny_mono (r a s σ H DE.nx DE.rt _ I h) (λf p q=>?_) λe s' z=>?_
 .cases f with
  | next=>exact wpAny_execs_nil q
  | ret u=>exact q
  | brk=>obtain⟨_,_,_,z⟩:=q;exact False.elim z
  | cont=>obtain⟨_,_,_,z⟩:=q;exact False.elim z
 .obtain⟨i,Q,p,l,x,D,dct,T,H',rfl,G,Z,Y,L⟩:=z
  cases Y;have J:Inv X a i H' s':=l.call' (ch:=[]) G.os G.un G.hok G.bare (by simp);have N:s'.heap.FunFrames X.base (X.env::X.outer):=d.1 ▸ J.stack;refine ug (by rw[l.ok.frames,d.1]) N d.2 G.fx λF g O B S=>?_
  refine lA (s:={ s' with heap:=F }) (fr:=frs (X.env::X.outer)) O λy W K=>?_
  have v:KeptBut ([T,x]++[g]) (frs X.stack) s'.heap y:=by rw[d.1];exact S.trans K
  have w:∀ b,p.heap.get? b=none->b ∉ frs X.stack:=λb n z=>by
   obtain⟨_,o,e,_⟩:=l.stack.mem z;rw[n]at e;cases e
  have j:p.heap.get? g=none:=kz G.un B
  have M:H' g=none:=by
   cases z:H' g with
   | none=>rfl
   | some u =>
    obtain⟨o,e⟩:=(J.hok g u z).isObj;rw[B]at e;cases e
  refine P a i Q p x D dct T H' s' g y DE ⟨l,G,v,λb r=>?_,W⟩ (L x G.ux)
  rcases r with rfl | rfl | rfl
  .exact⟨G.nT,G.uT,w _ G.nT⟩
  .exact⟨G.nx,G.ux,w _ G.nx⟩
  .exact⟨j,M,w _ j⟩
end
section
variable {X:Cx}
inductive rCount(K:Frag)(x:V)(vs:List V)(H:Hp)(Q:VK):Prop
 | mk(l:Addr)(xs:List V)(ds:List PyData)(y:V)(d:PyData)(h0:x=.ref l)(h1:vs=[y])(h2:H l=some (.lst xs))(h3:DVs K H ds xs)(h4:DV K H d y)(h5:PyData.canLayAll0 ds=true)(h6:d.canLay0=true)(h7:d.depth<=60)
   (h8:Q (.int ((ds.countP λz=>PyData.eqv z d:Nat):Int)) H):rCount K x vs H Q
theorem tm(K:X.A.units+64<cLine):MtM X "list.count" (rCount X.K):=by
 intro i s N H x G v L Q I A p h;obtain⟨l,xs,b,y,d,rfl,rfl,C,c,D,g,j,M,q⟩:=h;cases A;obtain⟨u,rfl,w⟩:=p.one;obtain⟨z,a,n,r,O,e⟩:=I.lstM C;obtain⟨as,f⟩:=DVs.reads I c r;obtain⟨E,B⟩:=D.reads I w;refine call_meets F.slot_list_count ⟨_,e,rfl⟩ F.entry_list_count (F.args_list_count_2 _ _) (SeqAt.list_countAt l a.toArray n none #[] u (λy=>PyData.eqv (SeqAt.readOf s.heap y) d)) ⟨e,SeqAt.items_eqAt (xs:=b) (as:=as) (by simpa using f) B g j ?_,?_⟩
 .have:min (PyData.depthAll b) d.depth<=d.depth:=Nat.min_le_right _ _
  lia
 .have o:a.toArray.toList.countP (λy=>PyData.eqv (SeqAt.readOf s.heap y) d)=b.countP λz=>PyData.eqv z d:=by
   rw[<- SeqAt.readsAll_map b a as g f,List.countP_map];rfl
  rw[o];exact⟨.int _,H,I.tok _,⟨_,rfl⟩,q⟩
variable {o e:Expr}{es:List Expr}{to:TE}{t:TA}{apos cpos:Pos}
theorem pe_m.count(g:X.A.units+64<cLine)(f:PE X o to)(h:PA X (e::es) t)(b:attributeBase o "count" X.env (eval o X.env)=eval o X.env:=by rfl)
  (d:((backTo cpos (starEach (e::es) X.env)).all (λx=>!x.1) && (backToKw cpos (keywordEach [] X.env)).all (λx=>x.1.isSome) && decide ((e::es).length+([]:List Keyword).length+(if ([]:List Keyword).isEmpty then 0 else 1)<30))=true:=by rfl)
  (c:(apos.endLine == cpos.line)=true:=by rfl) (i:starEach (e::es) X.env=(false,eval e X.env)::starEach es X.env:=by rfl) (a:(backTo cpos (starEach es X.env)).any (·.1)=false:=by rfl) :
  PE X (.Call (.Attribute o "count" apos) (e::es) [] cpos) (tBM X.K "list" (rCount X.K) to t):=j2 F.plainAttrs_list F.slot_list_count F.type_list_count (tm g) f h b d c i a
end
section
variable {X:Cx}
theorem dW{K:Frag}{e:Expr}{f:Str}{a:Pos}{b:TE}(h:X.K=K)(d:PE X e b)(c:attributeBase e f X.env (eval e X.env)=eval e X.env):PE X (.Attribute e f a) (xL K b f):=h ▸ bb d c
end
end L2
namespace L2
open PySem PySem.Spec PyProof.Rows PySem.W
section
variable {P:Program}{w:World}{K:Frag}{mg:Str->Option Value}{base:Heap}
end
section
variable {X:Cx}{pins:List (Addr×Obj)}{σ:St}{H:Hp}{s:Shared}
end
def mh:List V->List Value->Bool
 | [],[]=>true
 | .str z::xs,.str y _::us=>decide (z=y) && mh xs us
 | _,_=>false
theorem jw:∀{xs:List V}{us:List Value},mh xs us=true->Vals xs us
 | [],[],_=>.nil
 | .str i::xs,.str j t::us,h=>by
  rw[mh,Bool.and_eq_true]at h;have e:=of_decide_eq_true h.1;exact .cons ⟨t,by rw[e]⟩ (jw h.2)
def lH(K:Frag)(a:Addr)(xs:List V):Bool :=
 match K.lookup a with
 | some o =>
  (match o.cls with
  | .type t=>t == "tuple"
  | _=>false) &&
  (match o.data with
  | .seq its _=>decide (its.size<=1000) && mh xs its.toList
  | _=>false)
 | none=>false
theorem mx{K:Frag}{H:Hp}{a:Addr}{xs:List V}(h:lH K a xs=true):SqT K H a xs:=by
 unfold lH at h
 split at h
 .rename_i o e
  rw[Bool.and_eq_true]at h;obtain⟨c,b⟩:=h
  split at c
  .rename_i t ec
   split at b
   .rename_i its n ed
    rw[Bool.and_eq_true]at b;refine .inr ⟨o,its,n,e,by rw[ec,beq_iff_eq.mp c],ed,?_,jw b.2⟩;have:=of_decide_eq_true b.1;have:sizeLine=16777216:=sizeLine_eq;lia
   .cases b
  .cases c
 .cases h
section
variable {X:Cx}{tabs:oR}{d:LamD}{clos:List (Str×Addr)}{fv ps:List Str}{k:Nat}{sp:List V->Sp}{α:Type}{p pos lp kp:Pos}{e:Expr}{te:TE}{x:Str}
end
def yF:Stmt->Expr
 | .Assign _ e _=>e
 | _=>dE
section
variable {X:Cx}
end
end L2
namespace L2
open PySem PySem.Spec PyProof.Rows
section
variable {X:Cx}{a b c d:Expr}{ta tb tc td:TE}{pos:Pos}
end
section
variable {X:Cx}{o e:Expr}{es:List Expr}{to:TE}{t:TA}{apos cpos:Pos}
theorem pe_m.extend(f:PE X o to)(g:PA X (e::es) t)(b:attributeBase o "extend" X.env (eval o X.env)=eval o X.env:=by rfl)
  (d:((backTo cpos (starEach (e::es) X.env)).all (λx=>!x.1) && (backToKw cpos (keywordEach [] X.env)).all (λx=>x.1.isSome) && decide ((e::es).length+([]:List Keyword).length+(if ([]:List Keyword).isEmpty then 0 else 1)<30))=true:=by rfl)
  (c:(apos.endLine == cpos.line)=true:=by rfl) (h:starEach (e::es) X.env=(false,eval e X.env)::starEach es X.env:=by rfl) (a:(backTo cpos (starEach es X.env)).any (·.1)=false:=by rfl) :
  PE X (.Call (.Attribute o "extend" apos) (e::es) [] cpos) (tBM X.K "list" pP to t):=j2 F.plainAttrs_list F.slot_list_extend F.type_list_extend qw f g b d c h a
end
end L2
namespace FrM
theorem jV(z:List Int)(p:Nat->Bool):∀ l:List Nat,aR z l=aR z (l.filter p)+aR z (l.filter λk=>!p k)/\l.length=(l.filter p).length+(l.filter λk=>!p k).length
 | []=>by simp[aR]
 | a::l=>by
  obtain⟨b,c⟩:=jV z p l;have e:∀ r:List Nat,aR z (a::r)=sz z a+aR z r:=λr=>by unfold aR;rw[map_cons,sum_cons]
  cases h:p a with
  | true =>
   rw[filter_cons_of_pos (by exact h),filter_cons_of_neg (by simp[h]),e,e,length_cons,length_cons];lia
  | false =>
   rw[filter_cons_of_neg (by simp[h]),filter_cons_of_pos (by simp[h]),e,e,length_cons,length_cons];lia
theorem rZ{z:List Int}{l:List Nat}{w:Int}(hz:∀ k∈l,1<=sz z k)(g:w<l.length)(j:0<w):0<w - ((l.length:Int) - ((stay z l w).length:Int)):=by
 have s:=mJ hz g (by lia);obtain⟨c,d⟩:=jV z (λk=>decide (sz z k*w<aR z l)) l;have f:l.filter (λk=>decide (sz z k*w<aR z l))=stay z l w:=rfl;rw[f]at c d;have r:=fq z (stay z l w) λk a=>hz k (mem_filter.mp a).1
 have p:=gE z w (aR z l) (l.filter λk=>!decide (sz z k*w<aR z l)) λk a=>by
  have:=(mem_filter.mp a).2;simpa using this
 generalize (l.filter λk=>!decide (sz z k*w<aR z l))=hi at *;have b:aR z hi<=aR z l - 1:=by lia
 have h:aR z hi*w<=(aR z l - 1)*w:=Int.mul_le_mul_of_nonneg_right b (by lia);rw[Int.sub_mul,Int.one_mul]at h;have e:(hi.length:Int)*aR z l<w*aR z l:=by rw[Int.mul_comm w];lia
 have i:=fq z l hz;have o:=Int.lt_of_mul_lt_mul_right e (by lia);lia
theorem pO{z:List Int}{n:Nat}{m:Int}(hz:∀ k,k<n->1<=sz z k):∀(c:Nat) (l:List Nat) (w:Int),l.length<=c->Rnd z n m l w->0<w->0<(fin z l w).2/\∀ k∈(fin z l w).1,sz z k*(fin z l w).2<aR z (fin z l w).1
 | 0,l,w,hc,h,_=>absurd h.pos (by lia)
 | c+1,l,w,hc,h,w0=>by
  by_cases e:(stay z l w).length=l.length
  .rw[iJ e]
   refine⟨w0,λk a=>?_⟩;have:=List.length_filter_eq_length_iff.mp e k a;simpa using this
  .rw[lZ e]
   have:=iB z l w;exact pO hz c _ _ (by lia) (h.step hz) (rZ (λk a=>hz k (h.sub k a)) h.lt w0)
structure FrOk(f:Int×Int):Prop where
 pos:0<f.2
 lo:0<=f.1
 hi:f.1<=f.2
 bd:f.2<=576000000
 ends:¬(0<f.1/\f.1<f.2)->f=(1,1)\/f=(0,1)
theorem wG{T B:Int}(l:0<T)(i:T<B)(h2:B<=576000000):FrOk (gB T B):=by
 have h:=j9 (t:=T) (b:=B) (by lia);generalize gB T B=f at h;obtain⟨t,b⟩:=f;have a:0<b:=h.pos;have p:b<=B:=(vL (by lia) h).1;have e:t*B=T*b:=h.eq;have o:0<T*b:=Int.mul_pos l a
 have d:0<t:=by
  rcases Int.lt_or_le 0 t with g | g
  .exact g
  .exact absurd (Int.mul_nonpos_of_nonpos_of_nonneg g (show 0<=B by lia)) (by lia)
 have j:t<b:=by
  have c:T*b<B*b:=Int.mul_lt_mul_of_pos_right i a;rw[<- e,Int.mul_comm B b]at c;exact Int.lt_of_mul_lt_mul_right c (by lia)
 exact⟨a,by show 0<=t;lia,by show t<=b;lia,by show b<=576000000;lia,λg=>absurd ⟨d,j⟩ g⟩
theorem vO{z:List Int}{m:Int}(hz:∀ k,k<z.length->1<=sz z k)(i:∀ k,k<z.length->sz z k<=24000000)(r:z.length<=24)(l:0<=m):∀ f∈due z m,FrOk f:=by
 have b:FrOk (1,1):=⟨by decide,by decide,by decide,by decide,λ_=>.inl rfl⟩
 have e:FrOk (0,1):=⟨by decide,by decide,by decide,by decide,λ_=>.inr rfl⟩
 intro f a;unfold due at a
 by_cases h1:(z.length:Int)<=m
 .rw[if_pos h1]at a
  obtain⟨_,_,rfl⟩:=mem_map.mp a;exact b
 .rw[if_neg h1]at a
  by_cases h2:m=0
  .rw[if_pos h2]at a
   obtain⟨_,_,rfl⟩:=mem_map.mp a;exact e
  .rw[if_neg h2]at a
   obtain⟨k,g,rfl⟩:=mem_map.mp a;have S:=Rnd.start (z:=z) (n:=z.length) (m:=m) (by lia) (by lia);have R:=Rnd.fin hz _ _ _ (Nat.le_refl _) S;obtain⟨h,c⟩:=pO hz _ _ _ (Nat.le_refl _) S (by lia)
   by_cases hd:decide (k∈(FrM.fin z (List.range z.length) m).1)=true
   .rw[if_pos hd]
    have d:=of_decide_eq_true hd;have p:=jI z 24000000 _ λk g=>i k (R.sub k g)
    have o:=R.len;have j:=hz k (R.sub k d);exact wG (Int.mul_pos (by lia) h) (c k d) (by lia)
   .rw[if_neg hd]
    exact b
end FrM
namespace Pt
open PySem L2
inductive Pl
 | cnt (k:Nat) (i:Int)
 | each (p:Pl)
 | fst (p q:Pl)
def nm(k:Nat):Str:=if k=0 then "few" else if k=1 then "start" else if k=2 then "loose" else "duel"
def nmB(k:Nat):Str:=if k=0 then "few " else if k=1 then "start " else if k=2 then "loose " else "duel "
def lo(k:Nat):Int:=if k=1 then 1 else 0
def hi(k:Nat):Int:=if k=1 then 100 else 24
def tS(i:Int):Str:=((toString i:String):Str)
def kind(w:Str):Option Nat:=if w = "few" then some 0 else if w = "start" then some 1 else if w = "loose" then some 2 else if w = "duel" then some 3 else none
def xu(k:Nat)(w:Str):Option Int:=within (lo k) (hi k) (within 0 100 (NumM.numO w.cps.toList))
inductive Rs
 | bad (q:Nat)
 | ok (pl:Pl) (r:List Str) (e:Nat)
def Rs.on(s:Rs)(f:Pl->List Str->Nat->Rs):Rs:=match s with
 | .bad q=>.bad q
 | .ok pl r e=>f pl r e
def eat(x:Str)(r:List Str)(p:Nat)(f:List Str->Nat->Rs):Rs:=match r with
 | []=>.bad p
 | u::r1=>if u=x then f r1 (p+1) else .bad p
def brk(f:List Str->Nat->Rs)(r:List Str)(p:Nat):Rs:=eat "(" r p λr1 p1=>(f r1 p1).on λpl r2 p2=>eat ")" r2 p2 λr3 p3=>.ok pl r3 p3
def cnt(k:Nat)(r:List Str)(p:Nat):Rs:=match r with
 | []=>.bad p
 | u::r1=>match xu k u with
  | some i=>.ok (.cnt k i) r1 (p+1)
  | none=>.bad p
inductive Tk
 | lev (n:Nat)
 | num (b:Bool)
 | wd (w:Str)
def yH(b:Bool)(w:Str):Bool:=(xu (if b then 1 else 0) w).isSome
def wM(w:Str)(n:Nat):Option (List Tk):=match kind w with
 | some k=>some [.num (k == 1)]
 | none=>match n with
  | 0=>none
  | m+1=>if w = "each" then some [.wd "(",.lev m,.wd ")"] else if w = "first" then some [.wd "(",.lev m,.wd ")",.wd "then",.wd "(",.lev m,.wd ")"] else none
def tO:List Str->Nat->List Tk->Option Nat
 | [],_,[]=>none
 | [],p,_::_=>some p
 | _::_,p,[]=>some p
 | w::r,p,.num b::S=>if yH b w=true then tO r (p+1) S else some p
 | w::r,p,.wd x::S=>if w=x then tO r (p+1) S else some p
 | w::r,p,.lev n::S=>match wM w n with
  | none=>some p
  | some M=>tO r (p+1) (M++S)
def Rs.m(s:Rs)(S:List Tk):Option Nat:=match s with
 | .bad q=>some q
 | .ok _ r e=>tO r e S
def words:Pl->List Str
 | .cnt k i=>[nm k,tS i]
 | .each p=>([("each" : Str), "("]++words p++[(")" : Str)])
 | .fst p q=>([("first" : Str), "("]++words p++[(")" : Str), "then","("]++words q++[(")" : Str)])
def Good:Nat->Pl->Prop
 | _,.cnt k i=>k<4/\lo k<=i/\i<=hi k
 | 0,_=>False
 | n+1,.each p=>Good n p
 | n+1,.fst p q=>Good n p/\Good n q
theorem tS_codes(i:Int):(tS i).cps.toList=NumM.codesI i:=gL i
theorem vS(k:Nat):0<=lo k/\hi k<=100:=by unfold lo hi;split <;> decide
def text:Pl->Str
 | .cnt k i=>nmB k++tS i
 | .each p => "each ( " ++ text p ++ " )"
 | .fst p q => "first ( " ++ text p ++ " ) then ( " ++ text q ++ " )"
theorem words_ne(p:Pl):words p≠[]:=by cases p <;> simp[words]
theorem bw(x y:Str):(x++y).cps.toList=x.cps.toList++y.cps.toList:=PySem.W.KT.app_list _ _
theorem eY(c:Nat):∀(a b:List (List Nat)),a≠[]->b≠[]->SplM.joinC c (a++b)=SplM.joinC c a++c::SplM.joinC c b
 | [],_,h,_=>absurd rfl h
 | [x],b,_,hb=>by rw[List.singleton_append,SplM.joinC_cons c x hb];rfl
 | x::y::r,b,_,hb=>by
  rw[cons_append,SplM.joinC_cons c x (by simp),SplM.joinC_cons c x (by simp),eY c (y::r) b (by simp) hb,append_assoc];rfl
theorem text_codes:∀ pl:Pl,(text pl).cps.toList=SplM.joinC 32 ((words pl).map λt=>t.cps.toList)
 | .cnt k i=>by
  have e:(nmB k).cps.toList=(nm k).cps.toList++[32]:=by unfold nmB nm;split;decide +kernel;split;decide +kernel;split <;> decide +kernel
  show(nmB k++tS i).cps.toList=_;rw[bw,e,append_assoc];rfl
 | .each p=>by
  have a:(words p).map (λt=>t.cps.toList)≠[]:=by simp[words_ne p]
  have b:("each ( " : Str).cps.toList=("each" : Str).cps.toList++32::(("(" : Str).cps.toList++[32]):=by decide +kernel
  have c:(" )" : Str).cps.toList=32::(")" : Str).cps.toList:=by decide +kernel
  show("each ( " ++ text p ++ " )" : Str).cps.toList=SplM.joinC 32 ((([("each" : Str), "("]++words p++[(")" : Str)])).map λt=>t.cps.toList);rw[bw,bw,text_codes p,map_append,map_append,eY 32 _ _ (by simp) (by simp),eY 32 _ _ (by simp) a,b,c];show _=(("each" : Str).cps.toList++32::("(" : Str).cps.toList++_)++32::(")" : Str).cps.toList;simp
 | .fst p q=>by
  have a:(words p).map (λt=>t.cps.toList)≠[]:=by simp[words_ne p]
  have f:(words q).map (λt=>t.cps.toList)≠[]:=by simp[words_ne q]
  have b:("first ( " : Str).cps.toList=("first" : Str).cps.toList++32::(("(" : Str).cps.toList++[32]):=by decide +kernel
  have c:(" )" : Str).cps.toList=32::(")" : Str).cps.toList:=by decide +kernel
  have d:(" ) then ( " : Str).cps.toList=32::((")" : Str).cps.toList++32::(("then" : Str).cps.toList++32::(("(" : Str).cps.toList++[32]))):=by decide +kernel
  show("first ( " ++ text p ++ " ) then ( " ++ text q ++ " )" : Str).cps.toList=SplM.joinC 32 ((([("first" : Str), "("]++words p++[(")" : Str), "then","("]++words q++[(")" : Str)])).map λt=>t.cps.toList);rw[bw,bw,bw,bw,text_codes p,text_codes q,map_append,map_append,map_append,map_append,eY 32 _ _ (by simp) (by simp),eY 32 _ _ (by simp) f,eY 32 _ _ (by simp) (by simp),eY 32 _ _ (by simp) a,b,c,d];show _=(((("first" : Str).cps.toList++32::("(" : Str).cps.toList++_)++32::((")" : Str).cps.toList++32::(("then" : Str).cps.toList++32::("(" : Str).cps.toList)))++_)++32::(")" : Str).cps.toList;simp
def sz:Pl->Nat
 | .cnt _ _=>1
 | .each p=>sz p+4
 | .fst p q=>sz p+sz q+6
def bd:Nat->Nat
 | 0=>1
 | n+1=>2*bd n+6
theorem wa(n:Nat):1<=bd n:=by cases n <;> simp[bd]
theorem sz_bd:∀(n:Nat) (p:Pl),Good n p->sz p<=bd n
 | n,.cnt k i,_=>wa n
 | n+1,.each p,g=>by have:=sz_bd n p g;simp only[sz,bd];omega
 | n+1,.fst p q,g=>by have:=sz_bd n p g.1;have:=sz_bd n q g.2;simp only[sz,bd];omega
theorem oG(p:Pl):1<=sz p:=by cases p <;> simp[sz] <;> omega
theorem words_len(p:Pl):(words p).length<=2*sz p:=by
 induction p with
 | cnt k i=>simp[words,sz]
 | each p ih=>simp[words,sz];omega
 | fst p q ih1 ih2=>simp[words,sz];omega
end Pt
namespace Tb
open FrM
def so(l:List Int):List Int:=l.mergeSort (λa b=>decide (a<=b))
theorem iS(l:List Int):(so l).Perm l:=List.mergeSort_perm l _
theorem wK(l:List Int):(so l).Pairwise (·<=·):=by
 have h:=List.pairwise_mergeSort (le:=λ(a b:Int)=>decide (a<=b)) (by intro a b c h1 h2;simp at *;lia) (by intro a b;simp;lia) l;exact h.imp λh=>by simpa using h
theorem pJ:∀{a b:List Int},a.Perm b->a.Pairwise (·<=·)->b.Pairwise (·<=·)->a=b
 | [],b,p,_,_=>(List.nil_perm.mp p).symm ▸ rfl
 | x::a,[],p,_,_=>absurd p.length_eq (by simp)
 | x::a,y::b,p,h1,h2=>by
  rw[List.pairwise_cons]at h1 h2
  have e:x=y:=by
   have c:x∈y::b:=p.mem_iff.mp mem_cons_self;have d:y∈x::a:=p.mem_iff.mpr mem_cons_self
   rcases mem_cons.mp c with z | z
   .exact z
   .rcases mem_cons.mp d with z' | z'
    .exact z'.symm
    .have:=h2.1 x z
     have:=h1.1 y z';lia
  subst e;rw[pJ (List.perm_cons x |>.mp p) h1.2 h2.2]
theorem hV{a l:List Int}(h:a.Perm l)(s:a.Pairwise (·<=·)):a=so l:=pJ (h.trans (iS l).symm) s (wK l)
end Tb
namespace Nst
open FrM Tb
abbrev Mb:=Int×Int×List PySem.Str
def plc(ms:List Mb):List Int:=ms.map (·.1)
def szs(ms:List Mb):List Int:=ms.map (·.2.1)
def hd(m:Mb):PySem.Str:=m.2.2.headD ⟨#[]⟩
def tl(m:Mb):Mb:=(m.1,m.2.1,m.2.2.tail)
def cR:List (PySem.Str×List Mb)->PySem.Str->Mb->List (PySem.Str×List Mb)
 | [],n,m=>[(n,[m])]
 | (k,l)::r,n,m=>if k=n then (k,l++[m])::r else (k,l)::cR r n m
def groups(ms:List Mb):List (PySem.Str×List Mb):=ms.foldl (λgs m=>cR gs (hd m) (tl m)) []
theorem gZ(a:List Mb)(m:Mb):groups (a++[m])=cR (groups a) (hd m) (tl m):=by
 unfold groups;rw[List.foldl_append];rfl
def ak(ms:List Mb):List (List Mb):=(groups ms).map (·.2)
inductive Pl
 | few (m:Nat)
 | start (s:Nat)
 | loose (m:Nat)
 | each (p:Pl)
 | first (p q:Pl)
def outer(gs:List (List Mb)):List Mb:=gs.zipIdx.map λg=>((g.2:Int),(szs g.1).sum,[])
def sel(gs:List (List Mb))(ks:List Int):List (List Mb):=ks.map λk=>gs.getD k.toNat []
def d5:Pl->Prop
 | .few m=>m<=24
 | .start s=>1<=s/\s<=100
 | .loose m=>m<=24
 | _=>False
def ht:Nat->Pl->Prop
 | _,.few m=>m<=24
 | _,.start s=>1<=s/\s<=100
 | _,.loose m=>m<=24
 | n+1,.each p=>ht n p
 | n+1,.first p q=>d5 p/\ht n q
 | 0,_=>False
theorem gw{n:Nat}{p:Pl}(h:d5 p):ht n p:=by
 cases p <;> first | exact h.elim | (cases n <;> exact h)
end Nst
namespace Nst
open FrM Tb PySem
def nms:List Str:=["north","n","south","no","z"]
structure Cok(n:Nat)(ms:List Mb):Prop where
 len:1<=ms.length/\ms.length<=24
 sz:∀ m∈ms,1<=m.2.1
 sum:(szs ms).sum<=24000000
 path:∀ m∈ms,n<=m.2.2.length/\m.2.2.length<=3
 few:∀ m∈ms,∀ s∈m.2.2,s∈nms
theorem sj{z:List Int}(h:∀ x∈z,0<=x):0<=z.sum:=by
 induction z with
 | nil=>simp
 | cons x r ih =>
  rw[sum_cons];have:=h x mem_cons_self;have:=ih λy a=>h y (mem_cons_of_mem _ a)
  lia
theorem lQ{z:List Int}(h:∀ x∈z,0<=x){x:Int}(hx:x∈z):x<=z.sum:=by
 induction z with
 | nil=>cases hx
 | cons y r ih =>
  rw[sum_cons];have b:=h y mem_cons_self;have c:=sj λy a=>h y (mem_cons_of_mem _ a)
  rcases mem_cons.mp hx with rfl | hx
  .lia
  .have:=ih (λy a=>h y (mem_cons_of_mem _ a)) hx
   lia
theorem Cok.pos{n:Nat}{a:List Mb}(h:Cok n a):∀ x∈szs a,0<=x:=λx c=>by
 obtain⟨m,b,rfl⟩:=mem_map.mp c;have:=h.sz m b;lia
theorem Cok.hi{n:Nat}{b:List Mb}(h:Cok n b):∀ x∈szs b,1<=x/\x<=24000000:=λx a=>by
 have d:=lQ h.pos a;have e:=h.sum;obtain⟨m,c,rfl⟩:=mem_map.mp a;have:=h.sz m c;lia
theorem nE{n:Str}{m:Mb}{p:Mb->Prop}(a:p m):∀{gs:List (Str×List Mb)},(∀ e∈gs,e.2≠[]/\∀ x∈e.2,p x)->∀ e∈cR gs n m,e.2≠[]/\∀ x∈e.2,p x
 | [],_,e,he=>by
  rw[mem_singleton.mp he];exact⟨by simp,λx b=>by rw[mem_singleton.mp b];exact a⟩
 | (k,l)::r,h,e,he=>by
  unfold cR at he
  by_cases c:k=n
  .rw[if_pos c]at he
   rcases mem_cons.mp he with rfl | he
   .refine⟨by simp,λx b=>?_⟩
    rcases mem_append.mp b with h1 | h1
    .exact(h _ (mem_cons_self ..)).2 x h1
    .rw[mem_singleton.mp h1];exact a
   .exact h e (mem_cons_of_mem _ he)
  .rw[if_neg c]at he
   rcases mem_cons.mp he with rfl | he
   .exact h _ (mem_cons_self ..)
   .exact nE a (λe he=>h e (mem_cons_of_mem _ he)) e he
def lN(f:Mb->Int)(gs:List (Str×List Mb)):Int:=(gs.map λe=>(e.2.map f).sum).sum
theorem nJ(f:Mb->Int){n:Str}{m:Mb}:∀(gs:List (Str×List Mb)),lN f (cR gs n m)=lN f gs+f m
 | []=>by simp[cR,lN]
 | (k,l)::r=>by
  unfold cR
  by_cases c:k=n
  .rw[if_pos c];simp[lN];lia
  .rw[if_neg c]
   have:=nJ f (n:=n) (m:=m) r;simp only[lN,map_cons,sum_cons]at *;lia
theorem kX{n:Str}{m:Mb}:∀{gs:List (Str×List Mb)},(gs.map (·.1)).Nodup->(∀ k∈gs.map (·.1),k∈nms)->n∈nms->((cR gs n m).map (·.1)).Nodup/\(∀ k∈(cR gs n m).map (·.1),k∈nms)/\∀ k∈(cR gs n m).map (·.1),k=n\/k∈gs.map (·.1)
 | [],_,_,hn=>⟨by simp[cR],(λk a=>by simp[cR]at a;rw[a];exact hn),λk a=>by simp[cR]at a;exact .inl a⟩
 | (k,l)::r,nd,a,hn=>by
  unfold cR
  by_cases c:k=n
  .rw[if_pos c]
   exact⟨nd,a,λk a=>.inr a⟩
  .rw[if_neg c]
   rw[map_cons,nodup_cons]at nd;obtain⟨e,f,d⟩:=kX (m:=m) nd.2 (λb hk'=>a b (by rw[map_cons];exact mem_cons_of_mem _ hk')) hn;refine⟨?_,λb hk'=>?_,λb hk'=>?_⟩
   .rw[map_cons,nodup_cons]
    refine⟨λz=>?_,e⟩
    rcases d k z with z | z
    .exact c z
    .exact nd.1 z
   .rw[map_cons]at hk'
    rcases mem_cons.mp hk' with rfl | hk'
    .exact a _ (by simp)
    .exact f b hk'
   .rw[map_cons]at hk'
    rcases mem_cons.mp hk' with rfl | hk'
    .exact .inr (by simp)
    .exact(d b hk').imp id λz=>by rw[map_cons];exact mem_cons_of_mem _ z
theorem oz(a:List Mb){p:Mb->Prop}(u:∀ m∈a,p (tl m))(g:∀ m∈a,hd m∈nms):(∀ e∈groups a,e.2≠[]/\∀ x∈e.2,p x)/\(∀ f:Mb->Int,lN f (groups a)=(a.map λm=>f (tl m)).sum)/\((groups a).map (·.1)).Nodup/\∀ k∈(groups a).map (·.1),k∈nms:=by
 have b:∀ i,i<=a.length->(∀ e∈groups (a.take i),e.2≠[]/\∀ x∈e.2,p x)/\(∀ f:Mb->Int,lN f (groups (a.take i))=((a.take i).map λm=>f (tl m)).sum)/\((groups (a.take i)).map (·.1)).Nodup/\∀ k∈(groups (a.take i)).map (·.1),k∈nms:=by
  intro i
  induction i with
  | zero=>exact λ_=>⟨(λe he=>by cases he),λf=>rfl,nodup_nil,λk hk=>by cases hk⟩
  | succ i ih =>
   intro v;obtain⟨d,j,s,o⟩:=ih (by lia);have e:a[i]? = some (a[i]'(by lia)):=List.getElem?_eq_getElem _;generalize a[i]'(by lia)=m at e;have h:a.take (i+1)=a.take i++[m]:=by rw[take_add_one,e];rfl
   have c:=List.mem_of_getElem? e;rw[h,gZ];obtain⟨l,r,_⟩:=kX (m:=tl m) s o (g m c);refine⟨nE (u m c) d,λf=>?_,l,r⟩;rw[nJ,j,map_append,List.sum_append];simp
 have:=b a.length (Nat.le_refl _);rw[take_length]at this;exact this
theorem vi{a:Type}[DecidableEq a]:∀{l m:List a},l.Nodup->(∀ x∈l,x∈m)->l.length<=m.length
 | [],_,_,_=>Nat.zero_le _
 | x::r,m,nd,h=>by
  rw[nodup_cons]at nd;have c:=h x mem_cons_self;have:=vi (l:=r) (m:=m.erase x) nd.2 λy b=>(List.mem_erase_of_ne (λz=>nd.1 (by rw[<- z];exact b))).mpr (h y (mem_cons_of_mem _ b))
  rw[List.length_erase_of_mem c]at this;have:=List.length_pos_of_mem c;rw[length_cons];lia
theorem mi:∀ gs:List (List Mb),(((gs.map List.length).sum:Nat):Int)=(gs.map λc=>(c.map λ_:Mb=>(1:Int)).sum).sum
 | []=>rfl
 | c::gs=>by
  have:=mi gs
  have a:(c.map λ_:Mb=>(1:Int)).sum=(c.length:Int):=by
   clear this
   induction c with
   | nil=>rfl
   | cons x r ih=>rw[map_cons,sum_cons,ih,length_cons];lia
  rw[map_cons,sum_cons,map_cons,sum_cons,<- this,a];lia
theorem rF{z:List Nat}{x:Nat}(hx:x∈z):x<=z.sum:=by
 induction z with
 | nil=>cases hx
 | cons y r ih =>
  rw[sum_cons]
  rcases mem_cons.mp hx with rfl | hx
  .lia
  .have:=ih hx
   lia
structure Pok(n:Nat)(ms:List Mb):Prop where
 each:∀ c∈ak ms,Cok n c
 len:(ak ms).length<=5
 pos:1<=(ak ms).length
 all:((ak ms).map List.length).sum=ms.length
 sum:((ak ms).map λc=>(szs c).sum).sum=(szs ms).sum
theorem cu{n:Nat}{a:List Mb}(h:Cok (n+1) a):Pok n a:=by
 have C:∀ m∈a,1<=(tl m).2.1/\(n<=(tl m).2.2.length/\(tl m).2.2.length<=3)/\∀ s∈(tl m).2.2,s∈nms:=λm b=>by
  have d:=h.path m b;refine⟨h.sz m b,?_,λs j=>h.few m b s (List.mem_of_mem_tail j)⟩;show n<=m.2.2.tail.length/\m.2.2.tail.length<=3;rw[List.length_tail];lia
 have A:∀ m∈a,hd m∈nms:=λm b=>by
  have d:=h.path m b;have l:=h.few m b;unfold hd;cases e:m.2.2 with
  | nil=>rw[e]at d;simp at d
  | cons s r=>exact l s (by rw[e];exact mem_cons_self)
 obtain⟨d,l,H,B⟩:=oz a (p:=λm=>1<=m.2.1/\(n<=m.2.2.length/\m.2.2.length<=3)/\∀ s∈m.2.2,s∈nms) C A
 have j:((ak a).map λc=>(szs c).sum).sum=(szs a).sum:=by
  have:=l λm=>m.2.1
  unfold lN at this;unfold ak szs;rw[map_map];exact this
 have i:((ak a).map List.length).sum=a.length:=by
  have e:=l λ_=>1
  have u:=mi (ak a);have w:=mi [a];unfold lN at e
  have E:((ak a).map λc=>(c.map λ_:Mb=>(1:Int)).sum).sum=(a.map λ_:Mb=>(1:Int)).sum:=by
   unfold ak;rw[map_map];exact e
  rw[E]at u;simp only[map_cons,map_nil,sum_cons,List.sum_nil]at w;generalize (a.map λ_:Mb=>(1:Int)).sum=z at u w;generalize ((ak a).map List.length).sum=y at u;omega
 have G:(ak a).length<=5:=by
  have:=vi H B;rw[length_map]at this;unfold ak;rw[length_map];exact this
 have I:∀ x∈(ak a).map λc=>(szs c).sum,0<=x:=λx hx=>by
  obtain⟨c,f,rfl⟩:=mem_map.mp hx;obtain⟨e,g,rfl⟩:=mem_map.mp f;refine sj λy F=>?_
  obtain⟨m,b,rfl⟩:=mem_map.mp F;have:=((d e g).2 m b).1;lia
 have L:∀ c∈ak a,c.length<=((ak a).map List.length).sum:=λc f=>rF (mem_map.mpr ⟨c,f,rfl⟩)
 refine⟨λc f=>?_,G,?_,i,j⟩
 .have v:=L c f
  have o:=lQ I (mem_map.mpr ⟨c,f,rfl⟩);rw[j]at o;rw[i]at v;obtain⟨e,g,rfl⟩:=mem_map.mp f;have M:=h.len.2;have N:=h.sum;have K:=(d e g).1
  have D:1<=e.2.length:=by
   cases e9:e.2 with
   | nil=>exact absurd e9 K
   | cons=>simp
  exact⟨⟨D,by lia⟩,λm b=>((d e g).2 m b).1,by lia,λm b=>((d e g).2 m b).2.1,λm b=>((d e g).2 m b).2.2⟩
 .cases e:ak a with
  | nil =>
   rw[e]at i;have:=h.len.1;simp at i;lia
  | cons=>simp
theorem bf(a:List (List Mb)):(outer a).length=a.length:=by unfold outer;rw[length_map,List.length_zipIdx]
theorem kU(a:List (List Mb)):szs (outer a)=a.map λc=>(szs c).sum:=by
 unfold szs outer;rw[map_map];show(a.zipIdx.map λg=>(g.1.map λm=>m.2.1).sum)=_;rw[show(λg:List Mb×Nat=>(g.1.map λm=>m.2.1).sum)=(λc:List Mb=>(c.map λm=>m.2.1).sum) ∘ Prod.fst from rfl,<- map_map,List.zipIdx_map_fst]
theorem qW(a:List (List Mb)):plc (outer a)=(List.range a.length).map λk:Nat=>(k:Int):=by
 unfold plc outer;rw[map_map];show(a.zipIdx.map λg=>((g.2:Nat):Int))=_;rw[show(λg:List Mb×Nat=>((g.2:Nat):Int))=(λk:Nat=>(k:Int)) ∘ Prod.snd from rfl,<- map_map,List.zipIdx_map_snd,List.range_eq_range']
theorem mV{n:Nat}{d:List Mb}(h:Cok (n+1) d):Cok 0 (outer (ak d)):=by
 have p:=cu h;refine⟨by rw[bf];exact⟨p.pos,by have:=p.len;lia⟩,λm a=>?_,by rw[kU,p.sum];exact h.sum,λm a=>?_,λm a s hs=>?_⟩
 .have:m.2.1∈szs (outer (ak d)):=mem_map.mpr ⟨m,a,rfl⟩
  rw[kU]at this;obtain⟨c,j,e⟩:=mem_map.mp this;rw[<- e];have b:=p.each c j;have f:=b.len.1;cases ec:c with
  | nil=>rw[ec]at f;simp at f
  | cons x r =>
   have i:x.2.1∈szs c:=by rw[ec];exact mem_map.mpr ⟨x,mem_cons_self,rfl⟩
   have:=lQ b.pos i;have:=b.hi _ i;rw[<- ec];lia
 .obtain⟨g,_,rfl⟩:=mem_map.mp a
  exact⟨Nat.zero_le _,by show 0<=3;decide⟩
 .obtain⟨g,_,rfl⟩:=mem_map.mp a
  cases hs
end Nst
namespace Nm
open PySem Nst FrM
def dL(x y:Int×Int):Int×Int:=gB (x.1*y.1) (x.2*y.2)
def fY(w:Nat)(i j:Nat):Int:=if i=j then (w:Int) else (w:Int)*((w:Int) - 1)
def gp(n:Nat)(i j:Nat):Int:=if i=j then (n:Int) else (n:Int)*((n:Int) - 1)
def bi(n w i j:Nat):Int×Int:=gB (fY w i j) (gp n i j)
def eS(st:Nat)(i j:Nat):Int×Int:=if i % st=j % st then (1,(st:Int)) else (0,1)
def fAt(fs:List (Int×Int))(i:Nat):Int×Int:=fs.getD i (0,1)
def eL(fs:List (Int×Int))(i j:Nat):Int×Int:=if i=j then fAt fs i else dL (fAt fs i) (fAt fs j)
def At(gs:List (List Mb))(g s:Nat)(p:Int):Prop:=∃ c m,gs[g]? = some c/\c[s]? = some m/\m.1=p
def seat(gs:List (List Mb))(p:Int):Nat×Nat :=
 let g:=gs.findIdx λc=>c.any λm=>m.1 == p
 (g,(gs.getD g []).findIdx λm=>m.1 == p)
def Uq(gs:List (List Mb)):Prop:=∀ g s g' s' p,At gs g s p->At gs g' s' p->g=g'/\s=s'
theorem seat_at{a:List (List Mb)}{g s:Nat}{p:Int}(u:Uq a)(h:At a g s p):seat a p=(g,s):=by
 obtain⟨c,m,D,y,v⟩:=id h;have C:c∈a:=List.mem_of_getElem? D;have x:m∈c:=List.mem_of_getElem? y;have e:(c.any λm=>m.1 == p)=true:=any_eq_true.mpr ⟨m,x,by simp[v]⟩;have d:(a.findIdx λc=>c.any λm=>m.1 == p)<a.length:=List.findIdx_lt_length_of_exists ⟨c,C,e⟩;have o:=List.findIdx_getElem (w:=d);have i:a[a.findIdx λc=>c.any λm=>m.1 == p]? = some _:=List.getElem?_eq_getElem d;generalize a[a.findIdx λc=>c.any λm=>m.1 == p]'d=c1 at o i;obtain⟨A,j,f⟩:=any_eq_true.mp o;have b:(c1.findIdx λm=>m.1 == p)<c1.length:=List.findIdx_lt_length_of_exists ⟨A,j,f⟩;have r:=List.findIdx_getElem (w:=b);have l:c1[c1.findIdx λm=>m.1 == p]? = some _:=List.getElem?_eq_getElem b;generalize c1[c1.findIdx λm=>m.1 == p]'b=m2 at r l
 have B:At a (a.findIdx λc=>c.any λm=>m.1 == p) (c1.findIdx λm=>m.1 == p) p:=⟨c1,m2,i,l,by simpa using r⟩
 obtain⟨E,F⟩:=u _ _ _ _ p B h;unfold seat;have z:a.getD (a.findIdx λc=>c.any λm=>m.1 == p) []=c1:=by rw[List.getD_eq_getElem?_getD,i];rfl
 show(a.findIdx _,(a.getD (a.findIdx λc=>c.any λm=>m.1 == p) []).findIdx _)=(g,s);rw[z,E,F]
def cU(e:List Mb->Nat->Nat->Int×Int)(oe:Nat->Nat->Int×Int)(ms:List Mb)(i j:Nat):Int×Int :=
 let gs:=ak ms
 let x:=seat gs ((plc ms).getD i 0)
 let y:=seat gs ((plc ms).getD j 0)
 dL (oe x.1 y.1) (if x.1=y.1 then e (gs.getD x.1 []) x.2 y.2 else dL (e (gs.getD x.1 []) x.2 x.2) (e (gs.getD y.1 []) y.2 y.2))
def ent:Pl->List Mb->Nat->Nat->Int×Int
 | .few m,ms=>bi ms.length (min m ms.length)
 | .start m,_=>eS m
 | .loose m,ms=>eL (due (szs ms) (m:Nat))
 | .each p,ms=>cU (ent p) (λ_ _=>(1,1)) ms
 | .first o p,ms=>cU (ent p) (ent o (outer (ak ms))) ms
def Ok(b:Nat)(f:Int×Int):Prop:=0<=f.1/\f.1<=f.2/\0<f.2/\f.2<2 ^ b
theorem Ok.bt{b:Nat}{f:Int×Int}(h:Ok b f):Bt b f.1/\Bt b f.2:=by
 obtain⟨a,c,d,g⟩:=h;unfold Bt;have e:((2 ^ b:Nat):Int)=2 ^ b:=by push_cast;rfl
 constructor <;> lia
theorem Ok.up{b c:Nat}{f:Int×Int}(a:b<=c)(h:Ok b f):Ok c f:=⟨h.1,h.2.1,h.2.2.1,Int.lt_of_lt_of_le h.2.2.2 (by exact_mod_cast Nat.pow_le_pow_right (by decide) a)⟩
theorem lC{b:Nat}{t u:Int}(d:0<=t)(a:t<=u)(h2:0<u)(e:u<2 ^ b):Ok b (gB t u):=by
 have h:=j9 (t:=t) (b:=u) h2
 have f:(0:Int)<Int.gcd t u:=by
  have:0<Int.gcd t u:=Int.gcd_pos_of_ne_zero_right _ (by lia);exact_mod_cast this
 have c:(Int.gcd t u:Int) ∣ u:=Int.gcd_dvd_right _ _;have g:(Int.gcd t u:Int) ∣ t:=Int.gcd_dvd_left _ _;refine⟨Int.ediv_nonneg d (by lia),Int.ediv_le_ediv f a,Int.ediv_pos_of_pos_of_dvd h2 (by lia) c,Int.lt_of_le_of_lt ?_ e⟩;exact Int.ediv_le_self _ (by lia)
theorem ok_mul{b c:Nat}{x y:Int×Int}(f:Ok b x)(i:Ok c y):Ok (b+c) (dL x y):=by
 obtain⟨g,j,l,h⟩:=f;obtain⟨d,o,a,e⟩:=i;refine lC (Int.mul_nonneg g d) (Int.mul_le_mul j o d (by lia)) (Int.mul_pos l a) ?_;rw[Int.pow_add];exact Int.lt_of_lt_of_le (Int.mul_lt_mul_of_pos_right h a) (Int.mul_le_mul_of_nonneg_left (Int.le_of_lt e) (by exact_mod_cast Nat.zero_le _))
theorem kL{n:Str}{m:Mb}:∀ gs:List (Str×List Mb),((cR gs n m).map (·.2)).flatten.Perm ((gs.map (·.2)).flatten++[m])
 | []=>by simp[cR]
 | (k,l)::r=>by
  unfold cR
  by_cases c:k=n
  .rw[if_pos c]
   simp only[map_cons,flatten_cons,append_assoc];exact List.Perm.append_left l List.perm_append_comm
  .rw[if_neg c]
   simp only[map_cons,flatten_cons,append_assoc];exact(kL r).append_left l
theorem tH{n:Str}{m:Mb}(a:List (Str×List Mb)):(plc ((cR a n m).map (·.2)).flatten).Perm (plc (a.map (·.2)).flatten++[m.1]):=by
 have:=(kL (n:=n) (m:=m) a).map (·.1);rw[map_append]at this;exact this
theorem iZ(a:List Mb):(plc (ak a).flatten).Perm (plc a):=by
 have c:∀(a:List Mb) (b:List (Str×List Mb)),(plc ((a.foldl (λb m=>cR b (hd m) (tl m)) b).map (·.2)).flatten).Perm (plc (b.map (·.2)).flatten++plc a):=by
  intro a
  induction a with
  | nil=>intro b;simp[plc]
  | cons m r ih =>
   intro b;rw[foldl_cons];refine(ih _).trans ?_;refine((tH (n:=hd m) (m:=tl m) b).append_right (plc r)).trans ?_;rw[append_assoc];exact List.Perm.refl _
 have:=c a [];simpa[plc,ak,groups] using this
theorem vn:∀{gs:List (List Mb)},(plc gs.flatten).Nodup->Uq gs
 | [],_=>λg s v z p h=>by obtain⟨c,m,a,_⟩:=h;simp at a
 | c::r,nd=>by
  have y:(plc c++plc r.flatten).Nodup:=by
   have e:plc (c::r).flatten=plc c++plc r.flatten:=by unfold plc;rw[flatten_cons,map_append]
   rw[<- e];exact nd
  obtain⟨H,G,D⟩:=nodup_append.mp y;have I:=vn G;have f:∀{s p},At (c::r) 0 s p->∃ m,c[s]? = some m/\m.1=p:=λ⟨x,m,a,b,o⟩=>by cases a;exact⟨m,b,o⟩
  have d:∀{g s p},At (c::r) (g+1) s p->At r g s p:=λ⟨x,m,a,b,o⟩=>⟨x,m,by simpa using a,b,o⟩
  have l:∀{g s p},At r g s p->p∈plc r.flatten:=λ⟨x,m,a,b,o⟩=>by
   rw[<- o];exact mem_map.mpr ⟨m,List.mem_flatten.mpr ⟨x,List.mem_of_getElem? a,List.mem_of_getElem? b⟩,rfl⟩
  have i:∀{s:Nat}{m:Mb},c[s]? = some m->m.1∈plc c:=λh=>mem_map.mpr ⟨_,List.mem_of_getElem? h,rfl⟩
  intro g s v z p h w
  match g,v with
  | 0,0 =>
   obtain⟨m,a,b⟩:=f h;obtain⟨L,u,A⟩:=f w;refine⟨rfl,?_⟩;have E:s<(plc c).length:=by unfold plc;rw[length_map];exact(List.getElem?_eq_some_iff.mp a).1
   have F:z<(plc c).length:=by unfold plc;rw[length_map];exact(List.getElem?_eq_some_iff.mp u).1
   refine(List.getElem_inj (h₀:=E) (h₁:=F) H).mp ?_;have B:(plc c)[s]? = some m.1:=by unfold plc;rw[List.getElem?_map,a];rfl
   have C:(plc c)[z]? = some L.1:=by unfold plc;rw[List.getElem?_map,u];rfl
   rw[List.getElem?_eq_getElem E]at B;rw[List.getElem?_eq_getElem F]at C;rw[Option.some.inj B,Option.some.inj C,b,A]
  | 0,v+1 =>
   obtain⟨m,a,b⟩:=f h;have j:=i a;rw[b]at j;exact absurd rfl (D p j p (l (d w)))
  | g+1,0 =>
   obtain⟨m,a,b⟩:=f w;have j:=i a;rw[b]at j;exact absurd rfl (D p j p (l (d h)))
  | g+1,v+1 =>
   obtain⟨j,K⟩:=I _ _ _ _ p (d h) (d w);exact⟨by lia,K⟩
theorem parts_uq{a:List Mb}(b:(plc a).Nodup):Uq (ak a):=vn ((iZ a).nodup_iff.mpr b)
theorem parts_nd{a:List Mb}(b:(plc a).Nodup):∀ c∈ak a,(plc c).Nodup:=λc d=>by
 have h:=(iZ a).nodup_iff.mpr b;refine List.Sublist.nodup ?_ h;exact(List.sublist_flatten_of_mem d).map _
theorem outer_nd(c:List (List Mb)):(plc (outer c)).Nodup:=by
 rw[qW];refine List.Pairwise.map _ (λa b h=>?_) List.nodup_range;intro z;exact h (by lia)
theorem seat_of{a:List Mb}(r:(plc a).Nodup){i:Nat}{m:Mb}(j:a[i]? = some m):∃ c m',(ak a)[(seat (ak a) m.1).1]? = some c/\c[(seat (ak a) m.1).2]? = some m'/\m'.1=m.1:=by
 have l:m.1∈plc (ak a).flatten:=(iZ a).mem_iff.mpr (mem_map.mpr ⟨m,List.mem_of_getElem? j,rfl⟩);obtain⟨m',h,d⟩:=mem_map.mp l;obtain⟨c,o,b⟩:=List.mem_flatten.mp h;obtain⟨g,e⟩:=List.getElem?_of_mem o;obtain⟨s,f⟩:=List.getElem?_of_mem b;have:=seat_at (parts_uq r) (p:=m.1) ⟨c,m',e,f,d⟩;rw[this];exact⟨c,m',e,f,d⟩
def bits:Nat->Nat
 | 0=>60
 | n+1=>60+(bits n+bits n)
theorem mt:∀ n,60<=bits n
 | 0=>Nat.le_refl _
 | n+1=>Nat.le_add_right _ _
theorem re{n w i j:Nat}(g:w<=n)(c:n<=24)(d:i<n)(f:j<n):Ok 60 (bi n w i j):=by
 unfold bi fY gp
 by_cases e:i=j
 .rw[if_pos e,if_pos e]
  exact lC (by lia) (by lia) (by lia) (by lia)
 .rw[if_neg e,if_neg e]
  have b:(n:Int)*((n:Int) - 1)<=24*24:=Int.mul_le_mul (by lia) (by lia) (by lia) (by lia);have a:(0:Int)<(n:Int)*((n:Int) - 1):=Int.mul_pos (by lia) (by lia)
  by_cases z:w=0
  .subst z;exact lC (by decide) (Int.le_of_lt a) a (by lia)
  .exact lC (Int.mul_nonneg (by lia) (by lia)) (Int.mul_le_mul (by lia) (by lia) (by lia) (by lia)) a (by lia)
theorem xE{st i j:Nat}(a:1<=st)(h2:st<=100):Ok 60 (eS st i j):=by
 unfold eS
 split
 .exact⟨by show(0:Int)<=1;decide,by show(1:Int)<=(st:Int);lia,by show(0:Int)<(st:Int);lia,by show(st:Int)<_;lia⟩
 .exact⟨by decide,by decide,by decide,by decide⟩
theorem fr_ok{f:Int×Int}(h:FrOk f):Ok 30 f:=⟨h.lo,h.hi,h.pos,by have:=h.bd;lia⟩
theorem xk{fs:List (Int×Int)}(h:∀ f∈fs,FrOk f){i j:Nat}(b:i<fs.length)(c:j<fs.length):Ok 60 (eL fs i j):=by
 have at_:∀{i},i<fs.length->Ok 30 (fAt fs i):=λ{i} a=>by
  unfold fAt;rw[List.getD_eq_getElem?_getD,List.getElem?_eq_getElem a];exact fr_ok (h _ (getElem_mem a))
 unfold eL
 split
 .exact(at_ b).up (by decide)
 .exact ok_mul (at_ b) (at_ c)
theorem due_fr{k:Nat}{b:List Mb}(h:Cok k b)(m:Nat):∀ f∈due (szs b) (m:Nat),FrOk f:=by
 have at_:∀ k,k<(szs b).length->sz (szs b) k∈szs b:=λk a=>by
  unfold sz;rw[List.getD_eq_getElem?_getD,List.getElem?_eq_getElem a];exact getElem_mem a
 exact vO (λk a=>(h.hi _ (at_ k a)).1) (λk a=>(h.hi _ (at_ k a)).2) (by unfold szs;rw[length_map];exact h.len.2) (by lia)
theorem flat_ok{pl:Pl}(b:d5 pl){k:Nat}{a:List Mb}(h:Cok k a){i j:Nat}(d:i<a.length)(e:j<a.length):Ok 60 (ent pl a i j):=by
 have c:(due (szs a) ((match pl with | .loose m=>m | _=>0:Nat):Nat)).length=a.length:=by rw[cI];unfold szs;rw[length_map]
 cases pl with
 | few m=>exact re (Nat.min_le_right _ _) h.len.2 d e
 | start m=>exact xE b.1 b.2
 | loose m=>exact xk (due_fr h m) (by have:(due (szs a) (m:Nat)).length=a.length:=c;lia) (by have:(due (szs a) (m:Nat)).length=a.length:=c;lia)
 | each p=>exact b.elim
 | first p q=>exact b.elim
theorem pI{e:List Mb->Nat->Nat->Int×Int}{oe:Nat->Nat->Int×Int}{b:Nat}{a:List Mb}(D:(plc a).Nodup)(p:∀ c∈ak a,∀ i j,i<c.length->j<c.length->Ok b (e c i j))(K:∀ i j,i<(ak a).length->j<(ak a).length->Ok 60 (oe i j)){i j:Nat}(C:i<a.length)(H:j<a.length):Ok (60+(b+b)) (cU e oe a i j):=by
 have f:∀{i},i<a.length->∃ c,(ak a)[(seat (ak a) ((plc a).getD i 0)).1]? = some c/\(seat (ak a) ((plc a).getD i 0)).2<c.length:=λ{i} h=>by
  have s:a[i]? = some a[i]:=List.getElem?_eq_getElem h;obtain⟨c,L,z,B,_⟩:=seat_of D s;have w:(plc a).getD i 0=a[i].1:=by unfold plc;rw[List.getD_eq_getElem?_getD,List.getElem?_map,s];rfl
  rw[w];exact⟨c,z,(List.getElem?_eq_some_iff.mp B).1⟩
 obtain⟨c,g,o⟩:=f C;obtain⟨d,l,r⟩:=f H;have v:cU e oe a i j=dL (oe (seat (ak a) ((plc a).getD i 0)).1 (seat (ak a) ((plc a).getD j 0)).1) (if (seat (ak a) ((plc a).getD i 0)).1=(seat (ak a) ((plc a).getD j 0)).1 then e ((ak a).getD (seat (ak a) ((plc a).getD i 0)).1 []) (seat (ak a) ((plc a).getD i 0)).2 (seat (ak a) ((plc a).getD j 0)).2 else dL (e ((ak a).getD (seat (ak a) ((plc a).getD i 0)).1 []) (seat (ak a) ((plc a).getD i 0)).2 (seat (ak a) ((plc a).getD i 0)).2) (e ((ak a).getD (seat (ak a) ((plc a).getD j 0)).1 []) (seat (ak a) ((plc a).getD j 0)).2 (seat (ak a) ((plc a).getD j 0)).2)):=rfl;rw[v];clear v;generalize seat (ak a) ((plc a).getD i 0)=x at *;generalize seat (ak a) ((plc a).getD j 0)=y at *;have G:(ak a).getD x.1 []=c:=by rw[List.getD_eq_getElem?_getD,g];rfl
 have I:(ak a).getD y.1 []=d:=by rw[List.getD_eq_getElem?_getD,l];rfl
 have A:=(List.getElem?_eq_some_iff.mp g).1;have E:=(List.getElem?_eq_some_iff.mp l).1;show Ok (60+(b+b)) (dL (oe x.1 y.1) (if x.1=y.1 then e ((ak a).getD x.1 []) x.2 y.2 else dL (e ((ak a).getD x.1 []) x.2 x.2) (e ((ak a).getD y.1 []) y.2 y.2)));rw[G,I];refine ok_mul (K _ _ A E) ?_;have F:=List.mem_of_getElem? g;have u:=List.mem_of_getElem? l
 split
 .rename_i exy
  have:d=c:=by rw[exy,l]at g;exact Option.some.inj g
  subst this;exact(p d u _ _ o r).up (by lia)
 .exact ok_mul (p c F _ _ o o) (p d u _ _ r r)
theorem ent_ok:∀{n:Nat}{pl:Pl}{ms:List Mb},ht n pl->Cok n ms->(plc ms).Nodup->∀ i j,i<ms.length->j<ms.length->Ok (bits n) (ent pl ms i j)
 | n,.few m,ms,hh,hc,nd,i,j,hi,hj=>(flat_ok (pl:=.few m) (by cases n <;> exact hh) hc hi hj).up (mt n)
 | n,.start m,ms,hh,hc,nd,i,j,hi,hj=>(flat_ok (pl:=.start m) (by cases n <;> exact hh) hc hi hj).up (mt n)
 | n,.loose m,ms,hh,hc,nd,i,j,hi,hj=>(flat_ok (pl:=.loose m) (by cases n <;> exact hh) hc hi hj).up (mt n)
 | 0,.each p,ms,hh,hc,nd,i,j,hi,hj=>hh.elim
 | 0,.first o p,ms,hh,hc,nd,i,j,hi,hj=>hh.elim
 | n+1,.each p,ms,hh,hc,nd,i,j,hi,hj=>pI (oe:=λ_ _=>(1,1)) nd (λc d i j=>ent_ok (n:=n) (pl:=p) hh ((cu hc).each c d) (parts_nd nd c d) i j) (λ_ _ _ _=>⟨by decide,by decide,by decide,by decide⟩) hi hj
 | n+1,.first o p,ms,hh,hc,nd,i,j,hi,hj=>pI nd (λc d i j=>ent_ok (n:=n) (pl:=p) hh.2 ((cu hc).each c d) (parts_nd nd c d) i j) (λa b ha hb=>flat_ok hh.1 (mV hc) (by rw[bf];exact ha) (by rw[bf];exact hb)) hi hj
end Nm
namespace My
open PySem L2 FrM Nst
def top(i:Nat):Stmt:=PySem.Challenge.pw_fewspeak_k44_whole_nested_matrices.main.body.getD i (.Pass ⟨0,0,0,0⟩)
abbrev fu:Stmt:=ba (top 3) 0
abbrev bc:Stmt:=top 6
abbrev ia:Stmt:=top 7
abbrev hJ:Stmt:=top 10
abbrev dA:Stmt:=top 16
abbrev cE:Stmt:=top 17
abbrev dj:Stmt:=top 18
abbrev di:Stmt:=top 20
abbrev gh:Stmt:=top 26
abbrev bv:Stmt:=top 27
abbrev dc:Stmt:=top 28
abbrev df:Stmt:=top 29
abbrev cG:Stmt:=top 30
abbrev ci:Stmt:=top 31
abbrev bS:Stmt:=ba (top 33) 0
abbrev b8:Stmt:=ba (top 33) 2
abbrev cD:Stmt:=ba (top 33) 3
abbrev dM:Stmt:=ba (top 33) 4
abbrev cy:Stmt:=top 34
abbrev br:Stmt:=ba (top 35) 0
abbrev bB:Stmt:=ba (top 35) 2
abbrev bZ:Stmt:=ba (top 35) 3
abbrev cz:Stmt:=ba (top 35) 4
abbrev bx:Stmt:=ba (top 36) 0
abbrev bC:Stmt:=ba (top 36) 2
abbrev bT:Stmt:=ba (top 36) 3
abbrev cA:Stmt:=ba (top 36) 4
abbrev gq:Stmt:=top 39
abbrev bg:Stmt:=top 40
abbrev dJ:Stmt:=top 41
abbrev bh:Stmt:=top 42
abbrev bU:Stmt:=top 43
abbrev bG:Stmt:=ba (top 44) 0
abbrev bL:Stmt:=ba (top 44) 2
abbrev cj:Stmt:=ba (top 44) 3
abbrev cX:Stmt:=ba (top 44) 4
abbrev bu:Stmt:=ba (top 45) 0
abbrev bQ:Stmt:=ba (top 45) 2
abbrev bY:Stmt:=ba (top 45) 3
abbrev cH:Stmt:=ba (top 45) 4
abbrev eO:Stmt:=top 46
abbrev d7:Stmt:=ba (top 55) 0
abbrev dh:Stmt:=ba (top 55) 4
abbrev eR:Stmt:=top 59
abbrev eK:Stmt:=top 60
abbrev eW:Stmt:=top 61
abbrev cg:Stmt:=top 62
abbrev cJ:Stmt:=top 63
abbrev bW:Stmt:=top 64
abbrev eQ:Stmt:=top 65
abbrev dQ:Stmt:=top 66
abbrev bX:Stmt:=top 67
abbrev fV:Stmt:=top 69
abbrev eV:Stmt:=top 70
abbrev fW:Stmt:=top 71
abbrev dC:Stmt:=top 72
abbrev dD:Stmt:=top 73
abbrev dN:Stmt:=top 74
abbrev eP:Stmt:=top 75
abbrev eX:Stmt:=top 76
abbrev dF:Stmt:=top 77
abbrev gu:Stmt:=top 78
abbrev eJ:Stmt:=top 79
abbrev eU:Stmt:=top 80
abbrev eN:Stmt:=top 81
abbrev gm:Stmt:=top 82
abbrev dB:Stmt:=top 83
abbrev dG:Stmt:=top 84
abbrev ck:Stmt:=top 85
abbrev mE:Stmt:=top 86
theorem fS{N P:List Str}{e:Scope}(a:e.kind=.function)(b:e.isCoroutine=false)(c:e.isGenerator=false)(d:N.take P.length=P)(h:N.Nodup/\(∀ x∈P,e.names.lookup x = some .local \/ e.names.lookup x = some .cell)/\∀ y∈e.names,y.2≠.free):FnScope N P e:=⟨a,b,c,h.1,d,h.2.1,h.2.2⟩
theorem sc_w:FnScope ["one","other"] ["one","other"] (ar bc):=fS rfl rfl rfl rfl (by decide +kernel)
theorem sc_X:FnScope ["top","bottom","divisor"] ["top","bottom"] (ar ia):=fS rfl rfl rfl rfl (by decide +kernel)
theorem sR:FnScope ["one","other"] ["one","other"] (ar hJ):=fS rfl rfl rfl rfl (by decide +kernel)
theorem nj:FnScope ["thing","low","high"] ["thing","low","high"] (ar dA):=fS rfl rfl rfl rfl (by decide +kernel)
theorem kH:FnScope ["text","signs","most"] ["text","signs","most"] (ar cE):=fS rfl rfl rfl rfl (by decide +kernel)
theorem sc_ac:FnScope ["text","low","high","figures","number"] ["text","low","high"] (ar dj):=fS rfl rfl rfl rfl (by decide +kernel)
theorem sc_Y:FnScope ["crowd","groups","place","size","path"] ["crowd"] (ar di):=fS rfl rfl rfl rfl (by decide +kernel)
theorem qQ:FnScope ["sizes","many"] ["sizes","many"] (ar gh):=fS rfl rfl rfl rfl (by decide +kernel)
theorem sc_v:FnScope ["sizes","many","left","wanted","whole","staying"] ["sizes","many"] (ar bv):=fS rfl rfl rfl rfl (by decide +kernel)
theorem lY:FnScope ["crowd","many"] ["crowd","many"] (ar dc):=fS rfl rfl rfl rfl (by decide +kernel)
theorem lD:FnScope ["many","tell"] ["many","tell"] (ar df):=fS rfl rfl rfl rfl (by decide +kernel)
theorem ky:FnScope ["one","many","tell"] ["one","many","tell"] (ar cG):=fS rfl rfl rfl rfl (by decide +kernel)
theorem kd:FnScope ["thing","low","high"] ["thing","low","high"] (ar ci):=fS rfl rfl rfl rfl (by decide +kernel)
theorem jz:FnScope ["self","many"] ["self","many"] (ar bS):=fS rfl rfl rfl rfl (by decide +kernel)
abbrev gK:Expr:=(rT (ur (tB b8 2)) 1)
def ce:LamD:=mQ ((("Few.matrix" : Str) ++ ".<locals>.") ++ "<lambda>") gK
theorem sc_i:FnScope ["self","crowd","there","wanted"] ["self","crowd"] (ar b8):=fS rfl rfl rfl rfl (by decide +kernel)
theorem sc_t:FnScope ["self","crowd","wanted"] ["self","crowd"] (ar cD):=fS rfl rfl rfl rfl (by decide +kernel)
theorem sc_N:FnScope ["self","many"] ["self"] (ar dM):=fS rfl rfl rfl rfl (by decide +kernel)
theorem kE:FnScope ["there","wanted","is_same"] ["there","wanted","is_same"] (ar cy):=fS rfl rfl rfl rfl (by decide +kernel)
theorem iL:FnScope ["self","step"] ["self","step"] (ar br):=fS rfl rfl rfl rfl (by decide +kernel)
abbrev fD:Expr:=(rT (ur (tB bB 1)) 1)
def bI:LamD:=mQ ((("Start.matrix" : Str) ++ ".<locals>.") ++ "<lambda>") fD
theorem sc_c:FnScope ["self","crowd","step"] ["self","crowd"] (ar bB):=fS rfl rfl rfl rfl (by decide +kernel)
theorem jE:FnScope ["self","crowd"] ["self","crowd"] (ar bZ):=fS rfl rfl rfl rfl (by decide +kernel)
theorem sc_B:FnScope ["self","step"] ["self"] (ar cz):=fS rfl rfl rfl rfl (by decide +kernel)
theorem iH:FnScope ["self","many"] ["self","many"] (ar bx):=fS rfl rfl rfl rfl (by decide +kernel)
abbrev fM:Expr:=(rT (ur (tB bC 1)) 1)
def bJ:LamD:=mQ ((("Loose.matrix" : Str) ++ ".<locals>.") ++ "<lambda>") fM
theorem sc_d:FnScope ["self","crowd","told"] ["self","crowd"] (ar bC):=fS rfl rfl rfl rfl (by decide +kernel)
theorem sc_n:FnScope ["self","crowd","told"] ["self","crowd"] (ar bT):=fS rfl rfl rfl rfl (by decide +kernel)
theorem sc_C:FnScope ["self","many"] ["self"] (ar cA):=fS rfl rfl rfl rfl (by decide +kernel)
theorem qA:FnScope ["crowd"] ["crowd"] (ar gq):=fS rfl rfl rfl rfl (by decide +kernel)
theorem iy:FnScope ["groups"] ["groups"] (ar bg):=fS rfl rfl rfl rfl (by decide +kernel)
theorem sc_ad:FnScope ["crowd","groups","spots","number","members","standing","member"] ["crowd","groups"] (ar dJ):=fS rfl rfl rfl rfl (by decide +kernel)
abbrev e8:Expr:=(rT (ur (tB bh 2)) 1)
def bz:LamD:=mQ ((("groups_matrix" : Str) ++ ".<locals>.") ++ "<lambda>") e8
theorem sc_h:FnScope ["plan","crowd","groups","outer","blocks","spots"] ["plan","crowd","groups","outer"] (ar bh):=fS rfl rfl rfl rfl (by decide +kernel)
theorem sc_D:FnScope ["blocks","outer","one","other","group","place","its_group","its_place","within"] ["blocks","outer","one","other"] (ar bU):=fS rfl rfl rfl rfl (by decide +kernel)
theorem ja:FnScope ["self","inside"] ["self","inside"] (ar bG):=fS rfl rfl rfl rfl (by decide +kernel)
abbrev fT:Expr:=(rT (yF (tB bL 1)) 1)
def bV:LamD:=mQ ((("Each.matrix" : Str) ++ ".<locals>.") ++ "<lambda>") fT
theorem sc_b:FnScope ["self","crowd","groups","all_drawn"] ["self","crowd"] (ar bL):=fS rfl rfl rfl rfl (by decide +kernel)
theorem sc_m:FnScope ["self","crowd","told"] ["self","crowd"] (ar cj):=fS rfl rfl rfl rfl (by decide +kernel)
theorem me:FnScope ["self"] ["self"] (ar cX):=fS rfl rfl rfl rfl (by decide +kernel)
theorem iG:FnScope ["self","outside","inside"] ["self","outside","inside"] (ar bu):=fS rfl rfl rfl rfl (by decide +kernel)
theorem sc_l:FnScope ["self","crowd","groups"] ["self","crowd"] (ar bQ):=fS rfl rfl rfl rfl (by decide +kernel)
theorem sc_k:FnScope ["self","crowd","groups","fewest","most","told","lows","highs"] ["self","crowd"] (ar bY):=fS rfl rfl rfl rfl (by decide +kernel)
theorem ku:FnScope ["self"] ["self"] (ar cH):=fS rfl rfl rfl rfl (by decide +kernel)
theorem sc_ae:FnScope ["plan","told","ahead","here"] ["plan"] (ar eO):=fS rfl rfl rfl rfl (by decide +kernel)
theorem sc_P:FnScope ["self","many"] ["self"] (ar dh):=fS rfl rfl rfl rfl (by decide +kernel)
theorem sc_an:FnScope ["text","words","plan","place"] ["text"] (ar eR):=fS rfl rfl rfl rfl (by decide +kernel)
theorem sc_ab:FnScope ["words","place","around","word"] ["words","place","around"] (ar eK):=fS rfl rfl rfl rfl (by decide +kernel)
theorem o8:FnScope ["words","place"] ["words","place"] (ar eW):=fS rfl rfl rfl rfl (by decide +kernel)
theorem j1:FnScope ["words","place","wanted"] ["words","place","wanted"] (ar cg):=fS rfl rfl rfl rfl (by decide +kernel)
theorem sc_Z:FnScope ["words","place","number"] ["words","place"] (ar cJ):=fS rfl rfl rfl rfl (by decide +kernel)
theorem jy:FnScope ["word","number"] ["word","number"] (ar bW):=fS rfl rfl rfl rfl (by decide +kernel)
theorem sc_ak:FnScope ["words","place","around","inside","end"] ["words","place","around"] (ar eQ):=fS rfl rfl rfl rfl (by decide +kernel)
theorem sc_W:FnScope ["words","place","around","outside","end","inside"] ["words","place","around"] (ar dQ):=fS rfl rfl rfl rfl (by decide +kernel)
theorem sc_u:FnScope ["words","place","around","plan","end"] ["words","place","around"] (ar bX):=fS rfl rfl rfl rfl (by decide +kernel)
theorem qr:FnScope ["_law_script","_law_k"] ["_law_script","_law_k"] (ar fV):=fS rfl rfl rfl rfl (by decide +kernel)
theorem sc_A:FnScope ["_law_cell_here","_law_k","_law_number"] ["_law_cell_here","_law_k"] (ar eV):=fS rfl rfl rfl rfl (by decide +kernel)
theorem sc_V:FnScope ["_law_number","_law_deep","_law_wide","_law_way","_law_one","_law_other"] ["_law_number","_law_deep","_law_wide"] (ar fW):=fS rfl rfl rfl rfl (by decide +kernel)
theorem sc_K:FnScope ["_law_top","_law_bottom","_law_one","_law_other"] ["_law_top","_law_bottom"] (ar dC):=fS rfl rfl rfl rfl (by decide +kernel)
theorem sc_E:FnScope ["_law_sizes","_law_many","_law_aside","_law_more","_law_total","_law_found","_law_shares","_law_k","_law_size"] ["_law_sizes","_law_many"] (ar dD):=fS rfl rfl rfl rfl (by decide +kernel)
theorem sc_H:FnScope ["_law_crowd_here","_law_names","_law_member","_law_found","_law_name"] ["_law_crowd_here"] (ar dN):=fS rfl rfl rfl rfl (by decide +kernel)
theorem o7:FnScope ["_law_groups_here"] ["_law_groups_here"] (ar eP):=fS rfl rfl rfl rfl (by decide +kernel)
theorem ke:FnScope ["_law_tree_here"] ["_law_tree_here"] (ar eX):=fS rfl rfl rfl rfl (by decide +kernel)
theorem sc_x:FnScope ["_law_tree_here","_law_outer_here"] ["_law_tree_here"] (ar dF):=fS rfl rfl rfl rfl (by decide +kernel)
theorem kS:FnScope ["_law_tree_here"] ["_law_tree_here"] (ar gu):=fS rfl rfl rfl rfl (by decide +kernel)
theorem sc_S:FnScope ["_law_cell_here","_law_crowd_here","_law_turns","_law_k","_law_number","_law_size","_law_path","_law_j"] ["_law_cell_here"] (ar eJ):=fS rfl rfl rfl rfl (by decide +kernel)
theorem oH:FnScope ["_law_one","_law_other"] ["_law_one","_law_other"] (ar eU):=fS rfl rfl rfl rfl (by decide +kernel)
theorem sc_T:FnScope ["_law_tree_here","_law_crowd_here","_law_many","_law_taken","_law_found","_law_shares","_law_k","_law_row","_law_j"] ["_law_tree_here","_law_crowd_here"] (ar eN):=fS rfl rfl rfl rfl (by decide +kernel)
theorem sc_am:FnScope ["_law_groups_here","_law_place","_law_k","_law_group","_law_j","_law_member"] ["_law_groups_here","_law_place"] (ar gm):=fS rfl rfl rfl rfl (by decide +kernel)
theorem sc_o:FnScope ["_law_tree_here","_law_crowd_here","_law_groups_here","_law_inner","_law_outer_here","_law_seats","_law_found","_law_k","_law_j","_law_row","_law_m","_law_n"] ["_law_tree_here","_law_crowd_here"] (ar dB):=fS rfl rfl rfl rfl (by decide +kernel)
theorem sc_q:FnScope ["_law_tree_here","_law_crowd_here","_law_many","_law_shares","_law_groups_here","_law_some","_law_least","_law_most","_law_low","_law_high"] ["_law_tree_here","_law_crowd_here"] (ar dG):=fS rfl rfl rfl rfl (by decide +kernel)
theorem sc_O:FnScope ["_law_found","_law_row","_law_one"] ["_law_found"] (ar ck):=fS rfl rfl rfl rfl (by decide +kernel)
theorem sc_au:FnScope ["_law_script","_law_k","_law_cell_here","_law_number","_law_tree_here","_law_crowd_here","_law_plan_here","_law_before","_law_found","_law_due","_law_other"] ["_law_script"] (ar mE):=fS rfl rfl rfl rfl (by decide +kernel)
set_option genInjectivity false in
set_option genSizeOf false in
structure Ad where
 f_w:Addr
 d_w:FuncData
 f_X:Addr
 d_X:FuncData
 f_ap:Addr
 d_ap:FuncData
 f_ao:Addr
 d_ao:FuncData
 f_ah:Addr
 d_ah:FuncData
 f_ac:Addr
 d_ac:FuncData
 f_Y:Addr
 d_Y:FuncData
 f_as:Addr
 d_as:FuncData
 f_v:Addr
 d_v:FuncData
 f_aa:Addr
 d_aa:FuncData
 f_z:Addr
 d_z:FuncData
 f_ai:Addr
 d_ai:FuncData
 f_F:Addr
 d_F:FuncData
 f_aj:Addr
 d_aj:FuncData
 f_ag:Addr
 d_ag:FuncData
 f_f:Addr
 d_f:FuncData
 f_ad:Addr
 d_ad:FuncData
 f_h:Addr
 d_h:FuncData
 f_D:Addr
 d_D:FuncData
 f_ae:Addr
 d_ae:FuncData
 f_an:Addr
 d_an:FuncData
 f_ab:Addr
 d_ab:FuncData
 f_af:Addr
 d_af:FuncData
 f_I:Addr
 d_I:FuncData
 f_Z:Addr
 d_Z:FuncData
 f_Q:Addr
 d_Q:FuncData
 f_ak:Addr
 d_ak:FuncData
 f_W:Addr
 d_W:FuncData
 f_u:Addr
 d_u:FuncData
 f_at:Addr
 d_at:FuncData
 f_A:Addr
 d_A:FuncData
 f_V:Addr
 d_V:FuncData
 f_K:Addr
 d_K:FuncData
 f_E:Addr
 d_E:FuncData
 f_H:Addr
 d_H:FuncData
 f_U:Addr
 d_U:FuncData
 f_y:Addr
 d_y:FuncData
 f_x:Addr
 d_x:FuncData
 f_L:Addr
 d_L:FuncData
 f_S:Addr
 d_S:FuncData
 f_J:Addr
 d_J:FuncData
 f_T:Addr
 d_T:FuncData
 f_am:Addr
 d_am:FuncData
 f_o:Addr
 d_o:FuncData
 f_q:Addr
 d_q:FuncData
 f_O:Addr
 d_O:FuncData
 f_au:Addr
 d_au:FuncData
 c_al:Addr
 c_G:Addr
 i_G:Addr
 e_G:FuncData
 c_ar:Addr
 c_aq:Addr
 c_r:Addr
 i_r:Addr
 e_r:FuncData
 c_e:Addr
 i_e:Addr
 e_e:FuncData
 c_g:Addr
 i_g:Addr
 e_g:FuncData
 c_j:Addr
 i_j:Addr
 e_j:FuncData
 c_a:Addr
 i_a:Addr
 e_a:FuncData
 c_s:Addr
 i_s:Addr
 e_s:FuncData
 x_i:Addr
 y_i:FuncData
 x_c:Addr
 y_c:FuncData
 x_d:Addr
 y_d:FuncData
 x_b:Addr
 y_b:FuncData
 x_l:Addr
 y_l:FuncData
 x_t:Addr
 y_t:FuncData
 x_p:Addr
 y_p:FuncData
 x_n:Addr
 y_n:FuncData
 x_m:Addr
 y_m:FuncData
 x_k:Addr
 y_k:FuncData
 x_N:Addr
 y_N:FuncData
 x_B:Addr
 y_B:FuncData
 x_C:Addr
 y_C:FuncData
 x_R:Addr
 y_R:FuncData
 x_M:Addr
 y_M:FuncData
 x_P:Addr
 y_P:FuncData
 k_NOUGHT:Addr
 k_WHOLE:Addr
 k_TWICE:Addr
 k_COUNTED:Addr
 lc_i:Addr
 lp_i:Addr
 lc_c:Addr
 lp_c:Addr
 lc_d:Addr
 lp_d:Addr
 lc_h:Addr
 lp_h:Addr
 lc_b:Addr
 lp_b:Addr
abbrev fP:List (Pos×Str):=[(ri gK,((("Few.matrix" : Str) ++ ".<locals>.") ++ "<lambda>"))]
theorem kF:(fP).Pairwise λx y=>¬(x.1.line=y.1.line/\x.1.col=y.1.col):=by decide +kernel
abbrev d3:List (Pos×Str):=[(ri fD,((("Start.matrix" : Str) ++ ".<locals>.") ++ "<lambda>"))]
theorem jB:(d3).Pairwise λx y=>¬(x.1.line=y.1.line/\x.1.col=y.1.col):=by decide +kernel
abbrev d0:List (Pos×Str):=[(ri fM,((("Loose.matrix" : Str) ++ ".<locals>.") ++ "<lambda>"))]
theorem jF:(d0).Pairwise λx y=>¬(x.1.line=y.1.line/\x.1.col=y.1.col):=by decide +kernel
abbrev dP:List (Pos×Str):=[(ri e8,((("groups_matrix" : Str) ++ ".<locals>.") ++ "<lambda>"))]
theorem iW:(dP).Pairwise λx y=>¬(x.1.line=y.1.line/\x.1.col=y.1.col):=by decide +kernel
abbrev eZ:List (Pos×Str):=[(ri fT,((("Each.matrix" : Str) ++ ".<locals>.") ++ "<lambda>"))]
theorem kn:(eZ).Pairwise λx y=>¬(x.1.line=y.1.line/\x.1.col=y.1.col):=by decide +kernel
def tabs(a:Ad):oR:=[(a.lp_i,fP),(a.lp_c,d3),(a.lp_d,d0),(a.lp_h,dP),(a.lp_b,eZ)]
theorem kA(a:Ad):(a.lp_i,fP)∈tabs a:=(.head _)
theorem jA(a:Ad):(a.lp_c,d3)∈tabs a:=(.tail _ (.head _))
theorem jD(a:Ad):(a.lp_d,d0)∈tabs a:=(.tail _ (.tail _ (.head _)))
theorem jj(a:Ad):(a.lp_h,dP)∈tabs a:=(.tail _ (.tail _ (.tail _ (.head _))))
theorem jO(a:Ad):(a.lp_b,eZ)∈tabs a:=(.tail _ (.tail _ (.tail _ (.tail _ (.head _)))))
structure Txt(K:Frag)(mg:Str->Option Value)(a:Ad):Prop where
 lcd_i:a.y_i.code=.ref a.lc_i
 lch_i:codeHdIn K a.lc_i a.lp_i=true
 lcd_c:a.y_c.code=.ref a.lc_c
 lch_c:codeHdIn K a.lc_c a.lp_c=true
 lcd_d:a.y_d.code=.ref a.lc_d
 lch_d:codeHdIn K a.lc_d a.lp_d=true
 lcd_h:a.d_h.code=.ref a.lc_h
 lch_h:codeHdIn K a.lc_h a.lp_h=true
 lcd_b:a.y_b.code=.ref a.lc_b
 lch_b:codeHdIn K a.lc_b a.lp_b=true
 tnd:((tabs a).map (·.1)).Nodup
 F_w:Fun K "greatest_divisor" "greatest_divisor" bc a.f_w a.d_w
 B_w:Binds K a.d_w ["one","other"] []
 m_w:mg "greatest_divisor" = some (.ref a.f_w)
 F_X:Fun K "share" "share" ia a.f_X a.d_X
 B_X:Binds K a.d_X ["top","bottom"] []
 m_X:mg "share" = some (.ref a.f_X)
 F_ap:Fun K "times" "times" hJ a.f_ap a.d_ap
 B_ap:Binds K a.d_ap ["one","other"] []
 m_ap:mg "times" = some (.ref a.f_ap)
 F_ao:Fun K "is_whole" "is_whole" dA a.f_ao a.d_ao
 B_ao:Binds K a.d_ao ["thing","low","high"] []
 m_ao:mg "is_whole" = some (.ref a.f_ao)
 F_ah:Fun K "is_made_of" "is_made_of" cE a.f_ah a.d_ah
 B_ah:Binds K a.d_ah ["text","signs","most"] []
 m_ah:mg "is_made_of" = some (.ref a.f_ah)
 F_ac:Fun K "number_of" "number_of" dj a.f_ac a.d_ac
 B_ac:Binds K a.d_ac ["text","low","high"] []
 m_ac:mg "number_of" = some (.ref a.f_ac)
 F_Y:Fun K "groups_of" "groups_of" di a.f_Y a.d_Y
 B_Y:Binds K a.d_Y ["crowd"] []
 m_Y:mg "groups_of" = some (.ref a.f_Y)
 F_as:Fun K "wished" "wished" gh a.f_as a.d_as
 B_as:Binds K a.d_as ["sizes","many"] []
 m_as:mg "wished" = some (.ref a.f_as)
 F_v:Fun K "wished_of_some" "wished_of_some" bv a.f_v a.d_v
 B_v:Binds K a.d_v ["sizes","many"] []
 m_v:mg "wished_of_some" = some (.ref a.f_v)
 F_aa:Fun K "wished_by" "wished_by" dc a.f_aa a.d_aa
 B_aa:Binds K a.d_aa ["crowd","many"] []
 m_aa:mg "wished_by" = some (.ref a.f_aa)
 F_z:Fun K "matrix_by" "matrix_by" df a.f_z a.d_z
 B_z:Binds K a.d_z ["many","tell"] []
 m_z:mg "matrix_by" = some (.ref a.f_z)
 F_ai:Fun K "matrix_row" "matrix_row" cG a.f_ai a.d_ai
 B_ai:Binds K a.d_ai ["one","many","tell"] []
 m_ai:mg "matrix_row" = some (.ref a.f_ai)
 F_F:Fun K "need_number" "need_number" ci a.f_F a.d_F
 B_F:Binds K a.d_F ["thing","low","high"] []
 m_F:mg "need_number" = some (.ref a.f_F)
 F_aj:Fun K "few_chance" "few_chance" cy a.f_aj a.d_aj
 B_aj:Binds K a.d_aj ["there","wanted","is_same"] []
 m_aj:mg "few_chance" = some (.ref a.f_aj)
 F_ag:Fun K "parted" "parted" gq a.f_ag a.d_ag
 B_ag:Binds K a.d_ag ["crowd"] []
 m_ag:mg "parted" = some (.ref a.f_ag)
 F_f:Fun K "crowd_of_groups" "crowd_of_groups" bg a.f_f a.d_f
 B_f:Binds K a.d_f ["groups"] []
 m_f:mg "crowd_of_groups" = some (.ref a.f_f)
 F_ad:Fun K "spots_of" "spots_of" dJ a.f_ad a.d_ad
 B_ad:Binds K a.d_ad ["crowd","groups"] []
 m_ad:mg "spots_of" = some (.ref a.f_ad)
 F_h:Fun K "groups_matrix" "groups_matrix" bh a.f_h a.d_h
 B_h:Binds K a.d_h ["plan","crowd","groups","outer"] []
 m_h:mg "groups_matrix" = some (.ref a.f_h)
 F_D:Fun K "spots_chance" "spots_chance" bU a.f_D a.d_D
 B_D:Binds K a.d_D ["blocks","outer","one","other"] []
 m_D:mg "spots_chance" = some (.ref a.f_D)
 F_ae:Fun K "text_of" "text_of" eO a.f_ae a.d_ae
 B_ae:Binds K a.d_ae ["plan"] []
 m_ae:mg "text_of" = some (.ref a.f_ae)
 F_an:Fun K "plan_of" "plan_of" eR a.f_an a.d_an
 B_an:Binds K a.d_an ["text"] []
 m_an:mg "plan_of" = some (.ref a.f_an)
 F_ab:Fun K "plan_at" "plan_at" eK a.f_ab a.d_ab
 B_ab:Binds K a.d_ab ["words","place","around"] []
 m_ab:mg "plan_at" = some (.ref a.f_ab)
 F_af:Fun K "word_at" "word_at" eW a.f_af a.d_af
 B_af:Binds K a.d_af ["words","place"] []
 m_af:mg "word_at" = some (.ref a.f_af)
 F_I:Fun K "behind_word" "behind_word" cg a.f_I a.d_I
 B_I:Binds K a.d_I ["words","place","wanted"] []
 m_I:mg "behind_word" = some (.ref a.f_I)
 F_Z:Fun K "counted_at" "counted_at" cJ a.f_Z a.d_Z
 B_Z:Binds K a.d_Z ["words","place"] []
 m_Z:mg "counted_at" = some (.ref a.f_Z)
 F_Q:Fun K "counted_plan" "counted_plan" bW a.f_Q a.d_Q
 B_Q:Binds K a.d_Q ["word","number"] []
 m_Q:mg "counted_plan" = some (.ref a.f_Q)
 F_ak:Fun K "each_at" "each_at" eQ a.f_ak a.d_ak
 B_ak:Binds K a.d_ak ["words","place","around"] []
 m_ak:mg "each_at" = some (.ref a.f_ak)
 F_W:Fun K "first_at" "first_at" dQ a.f_W a.d_W
 B_W:Binds K a.d_W ["words","place","around"] []
 m_W:mg "first_at" = some (.ref a.f_W)
 F_u:Fun K "bracketed_at" "bracketed_at" bX a.f_u a.d_u
 B_u:Binds K a.d_u ["words","place","around"] []
 m_u:mg "bracketed_at" = some (.ref a.f_u)
 F_at:Fun K "_law_cell" "_law_cell" fV a.f_at a.d_at
 B_at:Binds K a.d_at ["_law_script","_law_k"] []
 m_at:mg "_law_cell" = some (.ref a.f_at)
 F_A:Fun K "_law_mixed" "_law_mixed" eV a.f_A a.d_A
 B_A:Binds K a.d_A ["_law_cell_here","_law_k"] []
 m_A:mg "_law_mixed" = some (.ref a.f_A)
 F_V:Fun K "_law_tree" "_law_tree" fW a.f_V a.d_V
 B_V:Binds K a.d_V ["_law_number","_law_deep","_law_wide"] []
 m_V:mg "_law_tree" = some (.ref a.f_V)
 F_K:Fun K "_law_lowest" "_law_lowest" dC a.f_K a.d_K
 B_K:Binds K a.d_K ["_law_top","_law_bottom"] []
 m_K:mg "_law_lowest" = some (.ref a.f_K)
 F_E:Fun K "_law_wished" "_law_wished" dD a.f_E a.d_E
 B_E:Binds K a.d_E ["_law_sizes","_law_many"] []
 m_E:mg "_law_wished" = some (.ref a.f_E)
 F_H:Fun K "_law_groups" "_law_groups" dN a.f_H a.d_H
 B_H:Binds K a.d_H ["_law_crowd_here"] []
 m_H:mg "_law_groups" = some (.ref a.f_H)
 F_U:Fun K "_law_outer" "_law_outer" eP a.f_U a.d_U
 B_U:Binds K a.d_U ["_law_groups_here"] []
 m_U:mg "_law_outer" = some (.ref a.f_U)
 F_y:Fun K "_law_needs" "_law_needs" eX a.f_y a.d_y
 B_y:Binds K a.d_y ["_law_tree_here"] []
 m_y:mg "_law_needs" = some (.ref a.f_y)
 F_x:Fun K "_law_fitted" "_law_fitted" dF a.f_x a.d_x
 B_x:Binds K a.d_x ["_law_tree_here"] []
 m_x:mg "_law_fitted" = some (.ref a.f_x)
 F_L:Fun K "_law_plan" "_law_plan" gu a.f_L a.d_L
 B_L:Binds K a.d_L ["_law_tree_here"] []
 m_L:mg "_law_plan" = some (.ref a.f_L)
 F_S:Fun K "_law_crowd" "_law_crowd" eJ a.f_S a.d_S
 B_S:Binds K a.d_S ["_law_cell_here"] []
 m_S:mg "_law_crowd" = some (.ref a.f_S)
 F_J:Fun K "_law_times" "_law_times" eU a.f_J a.d_J
 B_J:Binds K a.d_J ["_law_one","_law_other"] []
 m_J:mg "_law_times" = some (.ref a.f_J)
 F_T:Fun K "_law_plain" "_law_plain" eN a.f_T a.d_T
 B_T:Binds K a.d_T ["_law_tree_here","_law_crowd_here"] []
 m_T:mg "_law_plain" = some (.ref a.f_T)
 F_am:Fun K "_law_seat" "_law_seat" gm a.f_am a.d_am
 B_am:Binds K a.d_am ["_law_groups_here","_law_place"] []
 m_am:mg "_law_seat" = some (.ref a.f_am)
 F_o:Fun K "_law_matrix" "_law_matrix" dB a.f_o a.d_o
 B_o:Binds K a.d_o ["_law_tree_here","_law_crowd_here"] []
 m_o:mg "_law_matrix" = some (.ref a.f_o)
 F_q:Fun K "_law_limits" "_law_limits" dG a.f_q a.d_q
 B_q:Binds K a.d_q ["_law_tree_here","_law_crowd_here"] []
 m_q:mg "_law_limits" = some (.ref a.f_q)
 F_O:Fun K "_law_fractions" "_law_fractions" ck a.f_O a.d_O
 B_O:Binds K a.d_O ["_law_found"] []
 m_O:mg "_law_fractions" = some (.ref a.f_O)
 F_au:Fun K "law" "law" mE a.f_au a.d_au
 m_au:mg "law" = some (.ref a.f_au)
 g_FIGURES:∃ u,mg "FIGURES" = some u/\RelV (.str "0123456789") u
 g_MOST_FIGURES:∃ u,mg "MOST_FIGURES" = some u/\RelV (.int 12) u
 g_MOST_MANY:∃ u,mg "MOST_MANY" = some u/\RelV (.int 24) u
 g_MOST_STEP:∃ u,mg "MOST_STEP" = some u/\RelV (.int 100) u
 g_NOUGHT:∃ u,mg "NOUGHT" = some u/\RelV (.ref a.k_NOUGHT) u
 t_NOUGHT:jq K a.k_NOUGHT [(.int 0),(.int 1)]=true
 g_WHOLE:∃ u,mg "WHOLE" = some u/\RelV (.ref a.k_WHOLE) u
 t_WHOLE:jq K a.k_WHOLE [(.int 1),(.int 1)]=true
 g_COUNTED:∃ u,mg "COUNTED" = some u/\RelV (.ref a.k_COUNTED) u
 t_COUNTED:lH K a.k_COUNTED [(.str "few"),(.str "start"),(.str "loose"),(.str "duel")]=true
 g_MOST_AROUND:∃ u,mg "MOST_AROUND" = some u/\RelV (.int 3) u
 mc_G:mg "NoPlan" = some (.ref a.c_G)
 xh_G:XHd K a.c_G
 mc_r:mg "Few" = some (.ref a.c_r)
 cl_r:Cls K a.c_r
 ty_r:∀ H x dx fs,H x=some (.ins a.c_r dx fs)->TyOf K H (.ref x) (.ref a.c_r)
 mk_r:Mk K a.c_r a.i_r
 Fi_r:Fun K "__init__" "Few.__init__" bS a.i_r a.e_r
 Bi_r:Binds K a.e_r ["self","many"] []
 na_Few_many:NoAttr K a.c_r "many"
 mt_i:Meth K a.c_r "matrix" a.x_i
 mt_t:Meth K a.c_r "bounds" a.x_t
 mt_N:Meth K a.c_r "text" a.x_N
 mc_e:mg "Start" = some (.ref a.c_e)
 cl_e:Cls K a.c_e
 ty_e:∀ H x dx fs,H x=some (.ins a.c_e dx fs)->TyOf K H (.ref x) (.ref a.c_e)
 mk_e:Mk K a.c_e a.i_e
 Fi_e:Fun K "__init__" "Start.__init__" br a.i_e a.e_e
 Bi_e:Binds K a.e_e ["self","step"] []
 na_Start_step:NoAttr K a.c_e "step"
 mt_c:Meth K a.c_e "matrix" a.x_c
 mt_p:Meth K a.c_e "bounds" a.x_p
 mt_B:Meth K a.c_e "text" a.x_B
 mc_g:mg "Loose" = some (.ref a.c_g)
 cl_g:Cls K a.c_g
 ty_g:∀ H x dx fs,H x=some (.ins a.c_g dx fs)->TyOf K H (.ref x) (.ref a.c_g)
 mk_g:Mk K a.c_g a.i_g
 Fi_g:Fun K "__init__" "Loose.__init__" bx a.i_g a.e_g
 Bi_g:Binds K a.e_g ["self","many"] []
 na_Loose_many:NoAttr K a.c_g "many"
 mt_d:Meth K a.c_g "matrix" a.x_d
 mt_n:Meth K a.c_g "bounds" a.x_n
 mt_C:Meth K a.c_g "text" a.x_C
 mc_j:mg "Each" = some (.ref a.c_j)
 g_j:∃ u,mg "Each" = some u/\RelV (.ref a.c_j) u
 cl_j:Cls K a.c_j
 ty_j:∀ H x dx fs,H x=some (.ins a.c_j dx fs)->TyOf K H (.ref x) (.ref a.c_j)
 mk_j:Mk K a.c_j a.i_j
 Fi_j:Fun K "__init__" "Each.__init__" bG a.i_j a.e_j
 Bi_j:Binds K a.e_j ["self","inside"] []
 na_Each_inside:NoAttr K a.c_j "inside"
 mt_b:Meth K a.c_j "matrix" a.x_b
 mt_m:Meth K a.c_j "bounds" a.x_m
 mt_R:Meth K a.c_j "text" a.x_R
 mc_a:mg "First" = some (.ref a.c_a)
 g_a:∃ u,mg "First" = some u/\RelV (.ref a.c_a) u
 cl_a:Cls K a.c_a
 ty_a:∀ H x dx fs,H x=some (.ins a.c_a dx fs)->TyOf K H (.ref x) (.ref a.c_a)
 mk_a:Mk K a.c_a a.i_a
 Fi_a:Fun K "__init__" "First.__init__" bu a.i_a a.e_a
 Bi_a:Binds K a.e_a ["self","outside","inside"] []
 na_First_outside:NoAttr K a.c_a "outside"
 na_First_inside:NoAttr K a.c_a "inside"
 mt_l:Meth K a.c_a "matrix" a.x_l
 mt_k:Meth K a.c_a "bounds" a.x_k
 mt_M:Meth K a.c_a "text" a.x_M
 mc_s:mg "Duel" = some (.ref a.c_s)
 cl_s:Cls K a.c_s
 ty_s:∀ H x dx fs,H x=some (.ins a.c_s dx fs)->TyOf K H (.ref x) (.ref a.c_s)
 mk_s:Mk K a.c_s a.i_s
 Bi_s:Binds K a.e_s ["self","many"] []
 na_Duel_many:NoAttr K a.c_s "many"
 mt_P:Meth K a.c_s "text" a.x_P
 F_i:Fun K "matrix" "Few.matrix" b8 a.x_i a.y_i
 B_i:Binds K a.y_i ["self","crowd"] []
 F_c:Fun K "matrix" "Start.matrix" bB a.x_c a.y_c
 B_c:Binds K a.y_c ["self","crowd"] []
 F_d:Fun K "matrix" "Loose.matrix" bC a.x_d a.y_d
 B_d:Binds K a.y_d ["self","crowd"] []
 F_b:Fun K "matrix" "Each.matrix" bL a.x_b a.y_b
 B_b:Binds K a.y_b ["self","crowd"] []
 F_l:Fun K "matrix" "First.matrix" bQ a.x_l a.y_l
 B_l:Binds K a.y_l ["self","crowd"] []
 F_t:Fun K "bounds" "Few.bounds" cD a.x_t a.y_t
 B_t:Binds K a.y_t ["self","crowd"] []
 F_p:Fun K "bounds" "Start.bounds" bZ a.x_p a.y_p
 B_p:Binds K a.y_p ["self","crowd"] []
 F_n:Fun K "bounds" "Loose.bounds" bT a.x_n a.y_n
 B_n:Binds K a.y_n ["self","crowd"] []
 F_m:Fun K "bounds" "Each.bounds" cj a.x_m a.y_m
 B_m:Binds K a.y_m ["self","crowd"] []
 F_k:Fun K "bounds" "First.bounds" bY a.x_k a.y_k
 B_k:Binds K a.y_k ["self","crowd"] []
 F_N:Fun K "text" "Few.text" dM a.x_N a.y_N
 B_N:Binds K a.y_N ["self"] []
 F_B:Fun K "text" "Start.text" cz a.x_B a.y_B
 B_B:Binds K a.y_B ["self"] []
 F_C:Fun K "text" "Loose.text" cA a.x_C a.y_C
 B_C:Binds K a.y_C ["self"] []
 F_R:Fun K "text" "Each.text" cX a.x_R a.y_R
 B_R:Binds K a.y_R ["self"] []
 F_M:Fun K "text" "First.text" cH a.x_M a.y_M
 B_M:Binds K a.y_M ["self"] []
 F_P:Fun K "text" "Duel.text" dh a.x_P a.y_P
 B_P:Binds K a.y_P ["self"] []
 sf:kitOne K (.ref a.c_r) (.type "str")=some false
 ss:kitOne K (.ref a.c_e) (.type "str")=some false
 sl:kitOne K (.ref a.c_g) (.type "str")=some false
 sd:kitOne K (.ref a.c_s) (.type "str")=some false
 se:kitOne K (.ref a.c_j) (.type "str")=some false
 sa:kitOne K (.ref a.c_a) (.type "str")=some false
 kfe:kitOne K (.ref a.c_r) (.ref a.c_j)=some false
 kfa:kitOne K (.ref a.c_r) (.ref a.c_a)=some false
 kse:kitOne K (.ref a.c_e) (.ref a.c_j)=some false
 ksa:kitOne K (.ref a.c_e) (.ref a.c_a)=some false
 kle:kitOne K (.ref a.c_g) (.ref a.c_j)=some false
 kla:kitOne K (.ref a.c_g) (.ref a.c_a)=some false
 kde:kitOne K (.ref a.c_s) (.ref a.c_j)=some false
 kda:kitOne K (.ref a.c_s) (.ref a.c_a)=some false
 kee:kitOne K (.ref a.c_j) (.ref a.c_j)=some true
 kae:kitOne K (.ref a.c_a) (.ref a.c_j)=some false
 kaa:kitOne K (.ref a.c_a) (.ref a.c_a)=some true
 z_abs:mg "abs" = none
 z_all:mg "all" = none
 z_bool:mg "bool" = none
 z_enumerate:mg "enumerate" = none
 z_int:mg "int" = none
 z_isinstance:mg "isinstance" = none
 z_len:mg "len" = none
 z_list:mg "list" = none
 z_max:mg "max" = none
 z_min:mg "min" = none
 z_range:mg "range" = none
 z_sorted:mg "sorted" = none
 z_str:mg "str" = none
 z_sum:mg "sum" = none
 z_tuple:mg "tuple" = none
 bl:∀(s:Shared) (u:Value),BindsTo s a.d_au ⟨[u],[]⟩ [("_law_script",u)]
inductive spLaw(K:Frag)(ts:List Addr)(vs:List V)(H:Hp)(Q:VK)(_E:XK):Prop
 | mk(p:Addr)(ns:List Int)(h0:vs=[.ref p])(h1:SqL K H p (ns.map V.int))(h2:ns.length<=63)(h3:(∀ P∈ts,H P=some (.tbl #[])))(h4:∀ H',Q (.bl true) H'):spLaw K ts vs H Q _E
theorem law_start{K:Frag}{b:List Addr}{H:Hp}{a:Addr}{ns:List Int}(c:ns.length<=63)(d:∀ P∈b,H P=some (.tbl #[]))(e:SqL K H a (ns.map V.int)):spLaw K b [.ref a] H (λv _=>v=.bl true) λ_ _ _=>False:=⟨a,ns,rfl,e,c,d,λ_=>rfl⟩
inductive spCell(K:Frag)(vs:List V)(H:Hp)(Q:VK)(_E:XK):Prop
 | mk(p:Addr)(ns:List Int)(k:Int)(h0:vs=[.ref p,.int k])(h1:SqL K H p (ns.map V.int))(h2:ns.length<=63)(h3:0<=k)(h4:k<=1000)(h5:Q (.int (oK ns k)) H):spCell K vs H Q _E
inductive spMixed(vs:List V)(H:Hp)(Q:VK)(_E:XK):Prop
 | mk(c k:Int)(h0:vs=[.int c,.int k])(h1:0<=k)(h2:k<=1000)(h3:∀ r:Int,0<=r->r<1099511627776->Q (.int r) H):spMixed vs H Q _E
inductive spGcd(vs:List V)(H:Hp)(Q:VK)(_E:XK):Prop
 | mk(x y:Int)(h0:vs=[.int x,.int y])(h1:0<=x)(h2:0<=y)(h3:Q (.int (Int.gcd x y)) H):spGcd vs H Q _E
def wf(H:Hp)(Q:VK)(T B:Int):Prop:=∀ H' p,Same H H'->H' p=some (.tup [.int (gB T B).1,.int (gB T B).2])->Q (.ref p) H'
inductive spLow(vs:List V)(H:Hp)(Q:VK)(_E:XK):Prop
 | mk(T B:Int)(h0:vs=[.int T,.int B])(h1:0<B)(h2:Bt 3000 T)(h3:Bt 3000 B)(h4:wf H Q T B):spLow vs H Q _E
def mP:Sp:=λ_ _ _ _=>False
def PT(K:Frag)(H:Hp)(p:Addr)(f:Int×Int):Prop:=H p=some (.tup [.int f.1,.int f.2])\/jq K p [.int f.1,.int f.2]=true
theorem PT.sq{K:Frag}{H:Hp}{p:Addr}{f:Int×Int}(h:PT K H p f):SqT K H p [.int f.1,.int f.2]:=h.elim SqT.of ow
def IsF(K:Frag)(H:Hp)(f:Int×Int)(x:V):Prop:=∃ p,x=.ref p/\PT K H p f
theorem IsF.tk{K:Frag}{H a:Hp}{f:Int×Int}{x:V}(k:TK H a)(h:IsF K H f x):IsF K a f x:=let ⟨p,e,q⟩:=h;⟨p,e,q.imp (λz=>k _ _ z) id⟩
abbrev AllF(K:Frag)(H:Hp):List (Int×Int)->List V->Prop:=PySem.Paired (IsF K H)
theorem IsF.same{K:Frag}{H a:Hp}{f:Int×Int}{x:V}(s:Same H a)(h:IsF K H f x):IsF K a f x:=h.tk s.tk
theorem AllF.tk{K:Frag}{H a:Hp}(k:TK H a):∀{fs:List (Int×Int)}{xs:List V},AllF K H fs xs->AllF K a fs xs
 | _,_,.nil=>.nil
 | _,_,.cons r t=>.cons (r.tk k) (AllF.tk k t)
theorem AllF.snoc{K:Frag}{H:Hp}{f:Int×Int}{x:V}(r:IsF K H f x):∀{fs:List (Int×Int)}{xs:List V},AllF K H fs xs->AllF K H (fs++[f]) (xs++[x])
 | _,_,.nil=>.cons r .nil
 | _,_,.cons q t=>.cons q (AllF.snoc r t)
theorem AllF.len{K:Frag}{H:Hp}{fs:List (Int×Int)}{xs:List V}(h:AllF K H fs xs):fs.length=xs.length:=Paired.length h
theorem ue(T B:Int):Int.gcd (if T<0 then -T else T) B=Int.gcd T B:=by
 split
 .exact Int.neg_gcd
 .rfl
theorem px0{K:Frag}{H:Hp}{p:Addr}{x y:V}{Q:VK}(h:SqT K H p [x,y])(q:Q x H):rIx K (.ref p) (.int 0) H Q:=.inr (.inl ⟨p,_,_,x,rfl,rfl,h,aU (j:=0) rfl,q⟩)
theorem px1{K:Frag}{H:Hp}{p:Addr}{x y:V}{Q:VK}(h:SqT K H p [x,y])(q:Q y H):rIx K (.ref p) (.int 1) H Q:=.inr (.inl ⟨p,_,_,y,rfl,rfl,h,aU (j:=1) rfl,q⟩)
theorem bp(x y:V):[x,y].length<=sizeLine:=by show 2<=sizeLine;decide
structure Szs(z:List Int):Prop where
 len:z.length<=24
 lo:∀ x∈z,1<=x
 hi:∀ x∈z,x<=24000000
inductive spWished(K:Frag)(vs:List V)(H:Hp)(Q:VK)(_E:XK):Prop
 | mk(l:Addr)(z:List Int)(m:Int)(h0:vs=[.ref l,.int m])(h1:H l=some (.lst (z.map V.int)))(h2:Szs z)(h3:0<=m)(h4:m<=24)(h5:∀ H' r xs,Same H H'->H r=none->H' r=some (.lst xs)->AllF K H' (due z m) xs->Q (.ref r) H'):spWished K vs H Q _E
inductive spSome(K:Frag)(vs:List V)(H:Hp)(Q:VK)(_E:XK):Prop
 | mk(l:Addr)(z:List Int)(m:Int)(h0:vs=[.ref l,.int m])(h1:H l=some (.lst (z.map V.int)))(h2:Szs z)(h3:0<m)(h4:m<z.length)(h5:∀ H' r xs,Same H H'->H r=none->H' r=some (.lst xs)->AllF K H' (due z m) xs->Q (.ref r) H'):spSome K vs H Q _E
inductive spTimes(K:Frag)(vs:List V)(H:Hp)(Q:VK)(_E:XK):Prop
 | mk(x y:V)(c e:Int×Int)(h0:vs=[x,y])(h1:IsF K H c x)(h2:IsF K H e y)(h3:0<c.2)(h4:0<e.2)(h5:Bt 1000 c.1)(h6:Bt 1000 c.2)(h7:Bt 1000 e.1)(h8:Bt 1000 e.2)(h9:wf H Q (c.1*e.1) (c.2*e.2)):spTimes K vs H Q _E
inductive spLowest(vs:List V)(H:Hp)(Q:VK)(_E:XK):Prop
 | mk(T B:Int)(h0:vs=[.int T,.int B])(h1:0<=T)(h2:0<B)(h3:Bt 3000 T)(h4:Bt 3000 B)(h5:wf H Q T B):spLowest vs H Q _E
section
variable {P:Program}{w:World}{K:Frag}{mg:Str->Option Value}{base:Heap}{a:Ad}
theorem ka{k:Nat}{f:Addr}{a:FuncData}{b:List Str}:FnOk P w K mg base CX0 k f a b mP:=⟨λ_ _ _ _ h=>h.elim,λ_ _ _ _ _ _ _ _ _ _ _ _ _ h=>h.elim⟩
theorem uA(T:Txt K mg a):FnOk P w K mg base CX0 1 a.f_at a.d_at ["_law_script","_law_k"] (spCell K):=by
 refine T.F_at.ok qr (λg H Q E h=>?_) (λcdv A outer s H g Q E hr h=>?_)
 .obtain⟨p,b,k,rfl,_⟩:=h;rfl
 .obtain⟨p,b,k,rfl,f,o,r,l,q⟩:=h
  refine⟨_,(af (aI (aG oQ (vr 1) (av aF rfl T.z_len aQ (aa (vr 0) ac)) (aB _)) (ah (aw (aq am (vr 0) (vr 1) (λ_ _=>rfl)))) aD) (ah (aw (aA bE (aA bF ag (vr 1)) ag)))),cL ?_⟩;intro j;refine⟨b.map V.int,.inl f,?_⟩;rw[length_map];unfold oK at q;refine rd (λc=>?_) (λc=>?_)
  .have d:k<(b.length:Int):=of_decide_eq_true c
   rw[if_pos d]at q;refine .inl ⟨p,_,k,.int (b.getD k.toNat 0),rfl,rfl,f,?_,q⟩;have e:((k.toNat:Nat):Int)=k:=by omega
   rw[<- e];refine aU ?_;have i:k.toNat<b.length:=by omega
   rw[e];simp[List.getElem?_map,List.getD,i]
  .have d:¬k<(b.length:Int):=λz=>c (decide_eq_true z)
   rw[if_neg d]at q;exact⟨clB,q⟩
theorem mI(T:Txt K mg a):FnOk P w K mg base CX0 1 a.f_A a.d_A ["_law_cell_here","_law_k"] spMixed:=by
 refine T.F_A.ok sc_A (λb H Q E h=>?_) (λcdv A outer s H b Q E hr h=>?_)
 .obtain⟨c,k,rfl,_⟩:=h;rfl
 .obtain⟨c,k,rfl,o,l,q⟩:=h
  refine⟨_,(af (aI (aG be (aA cP (vr 0) ag) ag (aB _)) (ah (aw (aA cP (aA xz (vr 0) (aA bE ag (aA bF ag (vr 1)))) (aA nA ag ag)))) aD) (af (ay (i:=2) sc_A.nd rfl (Or.inl rfl) (aA cP (aA bE (vr 0) (aA bF ag (vr 1))) ag)) (af (ay (i:=2) sc_A.nd rfl (Or.inl rfl) (aA cP (aA bE (aA bF (vr 2) ag) (vr 1)) ag)) (af (ay (i:=2) sc_A.nd rfl (Or.inl rfl) (aA cP (aA bF (vr 2) (aA bE (vr 2) ag)) ag)) (ah (aw (aA cP (aA bF (vr 2) (aA bE (vr 2) ag)) ag))))))),lu ?_⟩;intro f d j g;refine⟨cp,?_⟩;refine rd (λe=>?_) (λe=>?_)
  .exact⟨clB,cn (by omega),cw,cp,q _ (Int.emod_nonneg _ (by decide +kernel)) (Int.lt_of_lt_of_le (Int.emod_lt_of_pos _ (by decide +kernel)) (by decide +kernel))⟩
  .exact⟨clB,cp,crB,cp,clB (by omega) (by omega),cp,clB (by omega) (by omega),cp,q _ (by omega) (by omega)⟩
theorem vF(T:Txt K mg a):FnOk P w K mg base CX0 1 a.f_w a.d_w ["one","other"] spGcd:=by
 refine T.F_w.ok sc_w (λr H Q E h=>?_) (λcdv A outer s H r Q E hr h=>?_)
 .obtain⟨x,y,rfl,_⟩:=h;rfl
 .obtain⟨f,g,rfl,B,u,q⟩:=h
  refine⟨_,(af (fh PassesOwn.never (ko (vr 1) (λ_=>rfl)) (ah (j6 rfl sc_w.nd (i:=0) (j:=1) rfl rfl (by decide) rfl rfl (aa (vr 1) (aa (aA cP (vr 0) (vr 1)) ac)) rfl))) (ah (aw (vr 0)))),cL ?_⟩;intro v;refine⟨λm o l=>l=H/\∃ x y:Int,0<=x/\0<=y/\m=y.toNat/\Int.gcd x y=Int.gcd f g/\o=[some (.int x),some (.int y)],⟨_,rfl,f,g,B,u,rfl,rfl,rfl⟩,?_⟩;rintro m o l ⟨rfl,x,y,C,z,rfl,p,rfl⟩;refine⟨_,rfl,?_⟩;refine ifB (λc=>?_) (λc=>?_)
  .have e:y≠0:=by simpa using c
   let Pw1:St->Hp->Prop:=λd b=>b=l/\d=[some (.int y),some (.int (x % y))]
   refine⟨Pw1,?_,?_⟩
   .rintro d b ⟨rfl,rfl⟩
    exact⟨(x % y).toNat,by have:=Int.emod_lt_of_pos x (show 0<y by omega);have:=Int.emod_nonneg x e;omega,rfl,y,x % y,z,Int.emod_nonneg x e,rfl,by rw[nF,p],rfl⟩
   .exact⟨cp (by omega),_,_,rfl,rfl,rfl⟩
  .have e:y=0:=by simpa using c
   subst e;rw[Int.gcd_zero_right]at p;have:x=(Int.gcd f g:Int):=by omega
   rw[<- this]at q;exact q
theorem iQ(T:Txt K mg a):FnOk P w K mg base CX0 2 a.f_X a.d_X ["top","bottom"] spLow:=by
 have e:FnOk P w K mg base CX0 1 a.f_X a.d_X ["top","bottom"] mP:=ka;have d:FnOk P w K mg base CX0 1 _ _ _ spGcd:=vF T;refine T.F_X.ok sc_X (λj H Q E h=>?_) (λcdv A outer s H j Q E hr h=>?_)
 .obtain⟨x,y,rfl,_⟩:=h;rfl
 .obtain⟨t,b,rfl,r,C,o,q⟩:=h
  refine⟨_,(af (aI (aG oQ (vr 1) ag (aB _)) (ah (aw (aj e hr rfl T.m_X T.F_X.kp T.B_X .nil ai (aa (ln kY (vr 0)) (aa (ln kY (vr 1)) ac))))) aD) (af (ay (i:=2) sc_X.nd rfl (Or.inl rfl) (aj d hr rfl T.m_w T.F_w.kp T.B_w .nil ai (aa (av rS rfl T.z_abs vH (aa (vr 0) ac)) (aa (vr 1) ac)))) (ah (aw (aK (aa (aA bn (vr 0) (vr 2)) (aa (aA bn (vr 1) (vr 2)) ac))))))),ii ?_⟩;intro v l;obtain⟨f,F,z,B,D⟩:=low t b r;refine ifC (λc=>absurd c (by omega)) (λ_=>?_);refine⟨t,rfl,⟨_,_,rfl,by split <;> omega,by omega,?_⟩⟩;rw[ue];have g:Bt 3000 (Int.gcd t b:Int):=o.le (by omega);refine⟨cdB f g,cdB f g,bp _ _,λp u=>?_⟩;exact q _ p (Same.new u) ae
theorem jc(T:Txt K mg a):FnOk P w K mg base CX0 1 a.f_K a.d_K ["_law_top","_law_bottom"] spLowest:=by
 refine T.F_K.ok sc_K (λD H Q E h=>?_) (λcdv A outer s H D Q E hr h=>?_)
 .obtain⟨x,y,rfl,_⟩:=h;rfl
 .obtain⟨t,b,rfl,F,B,W,z,q⟩:=h
  refine⟨_,(af (j6 rfl sc_K.nd (i:=2) (j:=3) rfl rfl (by decide) rfl rfl (aa (vr 0) (aa (vr 1) ac)) rfl) (af (fh PassesOwn.never (aG nM (vr 3) ag (aB _)) (ah (j6 rfl sc_K.nd (i:=2) (j:=3) rfl rfl (by decide) rfl rfl (aa (vr 3) (aa (aA cP (vr 2) (vr 3)) ac)) rfl))) (ah (aw (aK (aa (aA bn (vr 0) (vr 2)) (aa (aA bn (vr 1) (vr 2)) ac))))))),ii ?_⟩;intro I L;obtain⟨r,S,N,O,R⟩:=low t b B;have o:Bt 3000 (Int.gcd t b:Int):=z.le (by omega);refine⟨_,_,rfl,?_⟩;refine⟨λm u l=>l=H/\∃ x y:Int,0<=x/\0<=y/\m=y.toNat/\Int.gcd x y=Int.gcd t b/\u=[some (.int t),some (.int b),some (.int x),some (.int y)],⟨_,rfl,t,b,F,by omega,rfl,rfl,rfl⟩,?_⟩;rintro m u l ⟨rfl,x,y,M,G,rfl,v,rfl⟩;refine rd (λc=>?_) (λc=>?_)
  .have g:y≠0:=by simpa using c
   let Pw2:St->Hp->Prop:=λd f=>f=l/\d=[some (.int t),some (.int b),some (.int y),some (.int (x % y))]
   refine⟨Pw2,?_,?_⟩
   .rintro d f ⟨rfl,rfl⟩
    exact⟨(x % y).toNat,by have:=Int.emod_lt_of_pos x (show 0<y by omega);have:=Int.emod_nonneg x g;omega,rfl,y,x % y,G,Int.emod_nonneg x g,rfl,by rw[nF,v],rfl⟩
   .exact⟨cp (by omega),_,_,rfl,rfl,rfl⟩
  .have g:y=0:=by simpa using c
   subst g;rw[Int.gcd_zero_right]at v;have e:x=(Int.gcd t b:Int):=by omega
   subst e;refine⟨cdB r o,cdB r o,bp _ _,λp C=>?_⟩;exact q _ p (Same.new C) ae
theorem lS{H:Hp}{p:Addr}{t b:Int}(h:SqT K H p [.int t,.int b]):DV K H (.tuple [.int t,.int b]) (.ref p):=by
 rw[DV];refine⟨p,_,rfl,h,?_⟩;rw[DVs];refine⟨_,_,rfl,by simp[DV],?_⟩;rw[DVs];exact⟨_,_,rfl,by simp[DV],by simp[DVs]⟩
theorem nB(T:Txt K mg a):FnOk P w K mg base CX0 3 a.f_ap a.d_ap ["one","other"] (spTimes K):=by
 have d:FnOk P w K mg base CX0 2 _ _ _ spLow:=iQ T;refine T.F_ap.ok sR (λo H Q E h=>?_) (λcdv A outer s H o Q E hr h=>?_)
 .obtain⟨x,y,c,e,rfl,_⟩:=h;rfl
 .obtain⟨x,y,c,e,rfl,⟨x,rfl,p⟩,⟨y,rfl,v⟩,u,r,i,f,j,g,q⟩:=h
  have l:=p.sq;have b:=v.sq;refine⟨_,(ah (aw (aj d hr rfl T.m_X T.F_X.kp T.B_X .nil ai (aa (aA bF (aq am (vr 0) ag (λ_ _=>rfl)) (aq am (vr 1) ag (λ_ _=>rfl))) (aa (aA bF (aq am (vr 0) ag (λ_ _=>rfl)) (aq am (vr 1) ag (λ_ _=>rfl))) ac))))),?_⟩;refine px0 l (px0 b ⟨cmB i j,px1 l (px1 b ⟨cmB f g,?_⟩)⟩);exact⟨_,_,rfl,Int.mul_pos u r,(i.mul j).mono (by decide),(f.mul g).mono (by decide),q⟩
end
def nV(L:List Nat):List V:=L.map λ(k:Nat)=>V.int (k:Int)
theorem sw{L:List Nat}{j:Nat}{x:V}(h:(nV L)[j]? = some x):∃ k,L[j]? = some k/\x=.int (k:Int):=by
 unfold nV at h;rw[List.getElem?_map]at h;cases hk:L[j]? with
 | none=>rw[hk]at h;cases h
 | some k=>rw[hk]at h;cases h;exact⟨k,rfl,rfl⟩
theorem vg{z:List Int}{k:Nat}(a:k<z.length):atI (z.map V.int) (k:Int)=some (.int (sz z k)):=aU (by simp[sz,List.getElem?_map,List.getD,a])
theorem lW{z:List Int}{k:Nat}(a:k<z.length):sz z k∈z:=by
 unfold sz;rw[List.getD,List.getElem?_eq_getElem a];exact getElem_mem a
theorem jZ(L:List Nat):(nV L).all il=true:=by
 rw[all_eq_true];intro x a;obtain⟨k,_,rfl⟩:=mem_map.mp a;rfl
theorem sZ(L:List Nat)(k:Nat):inV (.int (k:Int)) (nV L)=decide (k∈L):=by
 rw[Bool.eq_iff_iff];unfold inV nV;rw[List.any_map,any_eq_true,decide_eq_true_eq]
 constructor
 .rintro⟨j,a,e⟩
  have:(j:Int)=(k:Int):=by simpa[eqV] using e
  have:j=k:=by lia
  rw[<- this];exact a
 .intro h
  exact⟨k,h,by simp[eqV]⟩
section
variable {P:Program}{w:World}{K:Frag}{mg:Str->Option Value}{base:Heap}{a:Ad}
theorem tR(T:Txt K mg a):FnOk P w K mg base CX0 3 a.f_v a.d_v ["sizes","many"] (spSome K):=by
 have a8:FnOk P w K mg base CX0 2 _ _ _ spLow:=iQ T;refine T.F_v.ok sc_v (λvs H Q E h=>?_) (λcdv A outer s H vs Q E hr h=>?_)
 .obtain⟨l,z,m,rfl,_⟩:=h;rfl
 .obtain⟨l,z,m,rfl,hl,hz,m0,m1,q⟩:=h
  refine⟨_,(af (ay (i:=2) sc_v.nd rfl (Or.inr rfl) (b7 (mf rfl) rfl T.z_list eA (aa (b7 qo rfl T.z_range sM (aa (av aF rfl T.z_len aQ (aa (vr 0) ac)) ac)) ac))) (af (ay (i:=3) sc_v.nd rfl (Or.inr rfl) (vr 1)) (af (fh PassesOwn.never (dY iF) (af (ay (i:=4) sc_v.nd rfl (Or.inr rfl) (av (bH rfl) rfl T.z_sum dI (aa (aT rfl (N:=["place","sizes"]) (ix:=[none,some 0]) ⟨rfl,rfl,rfl,rfl,⟨rfl,rfl,rfl,trivial⟩⟩ (aP (vr 2)) ⟨λC s H X=>au (i:=0) (show List.Nodup (["place","sizes"]:List Str) by decide +kernel) rfl (Or.inl rfl),λC s H X=>aN,λC s H X=>(aq (aY (K:=K) rfl) (vr 1) (vr 0) (λ_ _=>rfl))⟩) ac))) (af (dR rfl (i:=5) sc_v.nd rfl rfl (by with_unfolding_all rfl) (N:=["place","whole","wanted","sizes"]) (ix:=[none,some 4,some 3,some 0]) ⟨rfl,rfl,rfl,rfl,⟨rfl,rfl,rfl,⟨rfl,rfl,rfl,⟨rfl,rfl,rfl,trivial⟩⟩⟩⟩ (aP (vr 2)) ⟨λC s H X=>au (i:=0) (show List.Nodup (["place","whole","wanted","sizes"]:List Str) by decide +kernel) rfl (Or.inl rfl),λC s H X=>iD (aG oQ (aA bF (aq (aY (K:=K) rfl) (vr 3) (vr 0) (λ_ _=>rfl)) (vr 2)) (vr 1) (aB _)),λC s H X=>(vr 0)⟩) (af (aI (aG be (av aF rfl T.z_len aQ (aa (vr 5) ac)) (av aF rfl T.z_len aQ (aa (vr 2) ac)) (aB _)) (ah sV) aD) (af (wJ (i:=3) sc_v.nd rfl (Or.inr rfl) (aA d9 (av aF rfl T.z_len aQ (aa (vr 2) ac)) (av aF rfl T.z_len aQ (aa (vr 5) ac))) vG) (ah (ay (i:=2) sc_v.nd rfl (Or.inr rfl) (vr 5)))))))) (ah (aw (aT rfl (N:=["place","size","left","whole","wanted"]) (ix:=[none,none,some 2,some 4,some 3]) ⟨rfl,rfl,rfl,rfl,⟨rfl,rfl,rfl,⟨rfl,rfl,rfl,⟨rfl,rfl,rfl,trivial⟩⟩⟩⟩ (dX rfl T.z_enumerate (aa (vr 0) ac)) ⟨λC s H X=>(dU (K:=K) (n:=2) rfl rfl (ax (au (i:=0) (show List.Nodup (["place","size","left","whole","wanted"]:List Str) by decide +kernel) rfl (Or.inl rfl)) (ax (au (i:=1) (show List.Nodup (["place","size","left","whole","wanted"]:List Str) by decide +kernel) rfl (Or.inl rfl)) aO))),λC s H X=>aN,λC s H X=>(gQ (aG (oF (K:=K) rfl) (vr 0) (vr 2) (by with_unfolding_all rfl)) (aj a8 hr rfl T.m_X T.F_X.kp T.B_X .nil ai (aa (aA bF (vr 1) (vr 4)) (aa (vr 3) ac))) (dz rfl T.g_WHOLE))⟩)))))),nq ?_⟩
  intro a9 a' bl;have sl:sizeLine=16777216:=sizeLine_eq;have zl:=hz.len;have ab:∀ k,k<z.length->1<=sz z k:=λk g=>hz.lo _ (lW g)
  have a0:∀ k,k<z.length->sz z k<=24000000:=λk g=>hz.hi _ (lW g)
  refine⟨_,.inl (SqL.of hl),⟨_,rfl,λp hp=>⟨p,z.length,rfl,by lia,by rw[ae,length_map],λG r=>?_⟩⟩⟩;have s1:Same H (upd (upd H p (.rng 0 ((z.map V.int).length:Int))) G (.lst (nV (List.range z.length)))):=(Same.new hp).trans (Same.new r)
  let Pw5:PvS:=λc σ H'=>∃(G:Addr) (L:List Nat) (w:Int) (x4 x5:Option V),c=L.length/\Same H H'/\H' G=some (.lst (nV L))/\Rnd z z.length m L w/\FrM.fin z L w=FrM.fin z (List.range z.length) m/\σ=[some (.ref l),some (.int m),some (.ref G),some (.int w),x4,x5]
  refine⟨Pw5,⟨_,G,List.range z.length,m,none,none,rfl,s1,ae,Rnd.start (by lia) (by lia),rfl,rfl⟩,?_⟩;rintro c σ H' ⟨G,L,w,x4,x5,rfl,sm,r,R,hf,rfl⟩;have al:=sm _ _ hl;have Ll:=R.len;have wb:-24<=w/\w<=24:=by have:=R.dif;have:=R.lt;lia
  let Pw6:St->Hp->Prop:=λa2 Z=>∃(M:Addr) (x4 x5:Option V),Same H Z/\Z M=some (.lst (nV (stay z L w)))/\(stay z L w).length≠L.length/\a2=[some (.ref l),some (.int m),some (.ref M),some (.int (w - ((L.length:Int) - ((stay z L w).length:Int)))),x4,x5]
  refine⟨Pw6,?_,?_⟩
  .rintro a2 Z ⟨M,x4,x5,a7,h',a3,rfl⟩
   have:=iB z L w;exact⟨_,by lia,M,_,_,x4,x5,rfl,a7,h',R.step ab,by rw[<- hf];exact(lZ a3).symm,rfl⟩
  .refine .inl ⟨⟨_,SqL.of r⟩,λD hD=>?_⟩
   let Pw1:PvL:=λi f d=>i<=L.length/\d=upd H' D (.lst f)/\f=(L.take i).map λk=>V.int (sz z k)
   refine aM (K:=K) (a:=G) (xs:=nV L) Pw1 ⟨Nat.zero_le _,rfl,rfl⟩ (λi f d h=>by rw[h.2.1];exact SqL.of (by rw[az (aJ r hD)];exact r)) (λi f d h=>by rw[h.2.1];exact ae) ?_ ?_
   .rintro i x f d P' hx ⟨hi,rfl,rfl⟩ hP
    obtain⟨k,g,rfl⟩:=sw hx;have b:i<L.length:=(List.getElem?_eq_some_iff.mp g).1;have as:=R.sub k (List.mem_of_getElem? g);refine⟨⟨rfl,trivial⟩,.inl ⟨l,_,_,_,rfl,rfl,SqL.of (by rw[az (aJ al hD)];exact al),vg as,ae,?_,hP _ _ ⟨b,hZ,?_⟩⟩⟩
    .rw[length_map,length_take];lia
    .rw[take_add_one,g,map_append];rfl
   rintro f d ⟨_,rfl,rfl⟩
   have eS:((L.take (nV L).length).map λk=>V.int (sz z k))=(L.map (sz z)).map V.int:=by
    rw[show(nV L).length=L.length by unfold nV;rw[length_map],take_of_length_le (Nat.le_refl _),map_map];rfl
   refine⟨D,L.map (sz z),rfl,SqL.of (by rw[ae,eS]),?_⟩;rw[eS];have sD:Same H' (upd H' D (.lst ((L.map (sz z)).map V.int))):=Same.new hD;generalize upd H' D (.lst ((L.map (sz z)).map V.int))=H3 at sD;have ap:=sD _ _ al;have o:=sD _ _ r;refine .inl ⟨⟨_,SqL.of o⟩,λD2 Y=>?_⟩
   let Pw2:PvL:=λi f d=>i<=L.length/\d=upd H3 D2 (.lst f)/\f=nV ((L.take i).filter λk=>decide (sz z k*w<aR z L))
   refine aM (K:=K) (a:=G) (xs:=nV L) Pw2 ⟨Nat.zero_le _,rfl,rfl⟩ (λi f d h=>by rw[h.2.1];exact SqL.of (by rw[az (aJ o Y)];exact o)) (λi f d h=>by rw[h.2.1];exact ae) ?_ ?_
   .rintro i x f d P' hx ⟨hi,rfl,rfl⟩ hP
    obtain⟨k,g,rfl⟩:=sw hx;have b:i<L.length:=(List.getElem?_eq_some_iff.mp g).1;have as:=R.sub k (List.mem_of_getElem? g)
    have S:(L.take (i+1)).filter (λk=>decide (sz z k*w<aR z L))=(L.take i).filter (λk=>decide (sz z k*w<aR z L))++if sz z k*w<aR z L then [k] else []:=by
     rw[take_add_one,g,filter_append]
     by_cases c:sz z k*w<aR z L <;> simp[c]
    refine⟨⟨rfl,rfl,rfl,trivial⟩,.inl ⟨l,_,_,_,rfl,rfl,SqL.of (by rw[az (aJ ap Y)];exact ap),vg as,crB (by lia) (by lia),?_⟩⟩;refine ifC (λc=>?_) (λc=>?_)
    .have y:sz z k*w<aR z L:=c
     rw[if_pos y]at S;refine⟨ae,?_,hP _ _ ⟨b,hZ,?_⟩⟩
     .unfold nV
      rw[length_map];have:=length_filter_le (λk=>decide (sz z k*w<aR z L)) (L.take i);rw[length_take]at this;lia
     .rw[S];unfold nV;rw[map_append];rfl
    .have y:¬sz z k*w<aR z L:=c
     rw[if_neg y,append_nil]at S;exact hP _ _ ⟨b,rfl,by rw[S]⟩
   rintro f d ⟨_,rfl,rfl⟩
   have eT:nV ((L.take (nV L).length).filter λk=>decide (sz z k*w<aR z L))=nV (stay z L w):=by
    rw[show(nV L).length=L.length by unfold nV;rw[length_map],take_of_length_le (Nat.le_refl _)];rfl
   rw[eT];have O:Same H3 (upd H3 D2 (.lst (nV (stay z L w)))):=Same.new Y;have F:(upd H3 D2 (.lst (nV (stay z L w)))) D2=some (.lst (nV (stay z L w))):=ae;generalize upd H3 D2 (.lst (nV (stay z L w)))=H4 at O F;have a6:=O _ _ ap;have v:=O _ _ o;have s4:Same H H4:=sm.trans (sD.trans O);have j:∀ L:List Nat,(nV L).length=L.length:=λL=>by unfold nV;rw[length_map]
   refine⟨_,.inl (SqL.of F),⟨_,.inl (SqL.of v),?_⟩⟩;rw[j,j];refine ifC (λc=>?_) (λc=>?_)
   .have y:(stay z L w).length=L.length:=by have z:((stay z L w).length:Int)=(L.length:Int):=c;lia
    have W:=iJ y;rw[hf]at W;have hS:0<aR z L:=by have:=fq z L λk g=>ab k (R.sub k g);have:=R.pos;lia
    have a5:Bt 40 (aR z L):=by
     have:=jI z 24000000 L λk g=>a0 k (R.sub k g)
     unfold Bt;have a4:(2:Nat) ^ 40=1099511627776:=by decide
     rw[a4];lia
    refine⟨l,_,rfl,a6,λD3 u=>?_⟩
    have a1:due z m=(List.range z.length).map λk=>if decide (k∈L)=true then gB (sz z k*w) (aR z L) else (1,1):=by
     unfold due;rw[if_neg (by lia),if_neg (by lia),W]
    have an:H D3=none:=s4.free u;refine fR (a:=l) (xs:=z.map V.int) (λi f d=>i<=z.length/\Same H d/\Same H4 d/\d D3=some (.lst f)/\AllF K d ((due z m).take i) f) ⟨Nat.zero_le _,s4.trans (Same.new u),Same.new u,ae,by rw[take_zero];exact .nil⟩ (λi f d h=>h.2.1 _ _ hl) (λi f d h=>h.2.2.2.1) ?_ ?_
    .rintro i x f d p P' hx ⟨hi,t1,t4,ad,hA⟩ hp hP
     have b:i<z.length:=by have:=(List.getElem?_eq_some_iff.mp hx).1;rw[length_map]at this;exact this
     have ex:x=.int (sz z i):=by
      rw[List.getElem?_map,List.getElem?_eq_getElem b]at hx;cases hx;simp[sz,List.getD,b]
     subst ex;have B:Same d (upd d p (.tup [.int (i:Nat),.int (sz z i)])):=Same.new hp;refine⟨p,_,rfl,SqT.of ae,rfl,_,_,rfl,_,_,rfl,rfl,⟨rfl,rfl,rfl,trivial⟩,?_⟩;generalize upd d p (.tup [.int (i:Nat),.int (sz z i)])=H5 at B;have I:=B _ _ ad;have yl:f.length=i:=by rw[<- hA.len,length_take,cI];lia
     have S:(due z m).take (i+1)=(due z m).take i++[if decide (i∈L)=true then gB (sz z i*w) (aR z L) else (1,1)]:=by
      rw[take_add_one]
      congr 1
      rw[a1,List.getElem?_map,List.getElem?_range b];rfl
     refine⟨G,_,rfl,.inl (SqL.of ((t4.trans B) _ _ v)),rfl,jZ L,?_⟩;rw[sZ];refine ifB (λc=>?_) (λc=>?_)
     .have y:decide (i∈L)=true:=c
      rw[if_pos y]at S;refine⟨crB (by lia) (by lia),⟨_,_,rfl,hS,((show Bt 30 (sz z i) by have:=ab i b;have:=a0 i b;unfold Bt;lia).mul (show Bt 5 w by unfold Bt;lia)).mono (by decide),a5.mono (by decide),λH6 p6 s6 e6=>?_⟩⟩;refine⟨s6 _ _ I,by lia,hP _ _ ⟨b,((t1.trans B).trans s6).put an,?_,ae,?_⟩⟩
      .exact((t4.trans B).trans s6).put u
      .rw[S]
       have aS:=s6 _ _ I;exact AllF.snoc ⟨p6,rfl,.inl (TK.lst aS _ _ e6)⟩ (hA.tk ((B.trans s6).tk.trans (TK.lst aS)))
     .have y:decide (i∈L)=false:=c
      rw[if_neg (by rw[y];exact Bool.false_ne_true)]at S;refine⟨I,by lia,hP _ _ ⟨b,(t1.trans B).put an,(t4.trans B).put u,ae,?_⟩⟩;rw[S];exact AllF.snoc ⟨a.k_WHOLE,rfl,.inr T.t_WHOLE⟩ (hA.tk (B.tk.trans (TK.lst I)))
    .rintro f d ⟨_,t1,t4,ad,hA⟩
     rw[take_of_length_le (by rw[cI,length_map];exact Nat.le_refl _)]at hA;exact q d D3 f t1 an ad hA
   .have y:(stay z L w).length≠L.length:=λe=>c (by show((stay z L w).length:Int)=(L.length:Int);lia)
    refine⟨_,rfl,⟨_,.inl (SqL.of v),⟨_,.inl (SqL.of F),⟨_,_,rfl,rfl,⟨D2,some (.int (L.map (sz z)).sum),some (.ref D2),s4,F,y,?_⟩⟩⟩⟩⟩;rw[j,j];rfl
theorem qK(T:Txt K mg a):FnOk P w K mg base CX0 4 a.f_as a.d_as ["sizes","many"] (spWished K):=by
 have y:FnOk P w K mg base CX0 3 _ _ _ (spSome K):=tR T;refine T.F_as.ok qQ (λI H Q E h=>?_) (λcdv A outer s H I Q E hr h=>?_)
 .obtain⟨l,z,m,rfl,_⟩:=h;rfl
 .obtain⟨l,z,m,rfl,j,G,Y,Z,q⟩:=h
  refine⟨_,(af (aI (aG n8 (av aF rfl T.z_len aQ (aa (vr 0) ac)) (vr 1) (aB _)) (ah (aw (aT rfl (N:=["size"]) (ix:=[none]) ⟨rfl,rfl,rfl,rfl,trivial⟩ (aP (vr 0)) ⟨λC s H r=>au (i:=0) (show List.Nodup (["size"]:List Str) by decide +kernel) rfl (Or.inl rfl),λC s H r=>aN,λC s H r=>(dz rfl T.g_WHOLE)⟩))) aD) (af (aI (aG be (vr 1) ag (aB _)) (ah (aw (aT rfl (N:=["size"]) (ix:=[none]) ⟨rfl,rfl,rfl,rfl,trivial⟩ (aP (vr 0)) ⟨λC s H r=>au (i:=0) (show List.Nodup (["size"]:List Str) by decide +kernel) rfl (Or.inl rfl),λC s H r=>aN,λC s H r=>(dz rfl T.g_NOUGHT)⟩))) aD) (ah (aw (aj y hr rfl T.m_v T.F_v.kp T.B_v .nil ai (aa (vr 0) (aa (vr 1) ac))))))),ii ?_⟩;intro R S;have W:sizeLine=16777216:=sizeLine_eq;have X:=G.len;refine⟨_,.inl (SqL.of j),?_⟩;rw[length_map];refine ifC (λc=>?_) (λc=>ifC (λc2=>?_) (λc2=>?_))
  .have u:(z.length:Int)<=m:=c
   have e:due z m=z.map λ_=>(1,1):=by unfold due;rw[if_pos u]
   refine .inl ⟨⟨_,SqL.of j⟩,λD o=>?_⟩
   let Pw3:PvL:=λi b d=>i<=z.length/\d=upd H D (.lst b)/\AllF K d ((due z m).take i) b
   refine aM (K:=K) (a:=l) (xs:=z.map V.int) Pw3 ⟨Nat.zero_le _,rfl,by rw[take_zero];exact .nil⟩ (λi b d h=>by rw[h.2.1];exact SqL.of (by rw[az (aJ j o)];exact j)) (λi b d h=>by rw[h.2.1];exact ae) ?_ ?_
   .rintro i x b d M v ⟨L,rfl,f⟩ F
    have g:i<z.length:=by have:=(List.getElem?_eq_some_iff.mp v).1;rw[length_map]at this;exact this
    have O:b.length=i:=by rw[<- f.len,length_take,cI];lia
    refine⟨trivial,ae,by lia,F _ _ ⟨g,hZ,?_⟩⟩
    have B:(due z m).take (i+1)=(due z m).take i++[(1,1)]:=by
     rw[take_add_one]
     congr 1
     rw[e,List.getElem?_map,List.getElem?_eq_getElem g];rfl
    rw[B];exact AllF.snoc ⟨a.k_WHOLE,rfl,.inr T.t_WHOLE⟩ (f.tk (TK.lst ae))
   .rintro b d ⟨_,rfl,f⟩
    rw[take_of_length_le (by rw[cI,length_map];exact Nat.le_refl _)]at f;exact q _ D b (Same.new o) o ae f
  .have u:¬(z.length:Int)<=m:=c
   have p:m=0:=c2;have e:due z m=z.map λ_=>(0,1):=by unfold due;rw[if_neg u,if_pos p]
   refine .inl ⟨⟨_,SqL.of j⟩,λD o=>?_⟩
   let Pw4:PvL:=λi b d=>i<=z.length/\d=upd H D (.lst b)/\AllF K d ((due z m).take i) b
   refine aM (K:=K) (a:=l) (xs:=z.map V.int) Pw4 ⟨Nat.zero_le _,rfl,by rw[take_zero];exact .nil⟩ (λi b d h=>by rw[h.2.1];exact SqL.of (by rw[az (aJ j o)];exact j)) (λi b d h=>by rw[h.2.1];exact ae) ?_ ?_
   .rintro i x b d M v ⟨L,rfl,f⟩ F
    have g:i<z.length:=by have:=(List.getElem?_eq_some_iff.mp v).1;rw[length_map]at this;exact this
    have O:b.length=i:=by rw[<- f.len,length_take,cI];lia
    refine⟨trivial,ae,by lia,F _ _ ⟨g,hZ,?_⟩⟩
    have B:(due z m).take (i+1)=(due z m).take i++[(0,1)]:=by
     rw[take_add_one]
     congr 1
     rw[e,List.getElem?_map,List.getElem?_eq_getElem g];rfl
    rw[B];exact AllF.snoc ⟨a.k_NOUGHT,rfl,.inr T.t_NOUGHT⟩ (f.tk (TK.lst ae))
   .rintro b d ⟨_,rfl,f⟩
    rw[take_of_length_le (by rw[cI,length_map];exact Nat.le_refl _)]at f;exact q _ D b (Same.new o) o ae f
  .have u:¬(z.length:Int)<=m:=c
   have p:¬m=0:=c2;exact⟨l,z,m,rfl,j,G,by lia,by lia,q⟩
end
end My
namespace Nm
open PySem Nst FrM
def lim:Pl->List Mb->Int×Int
 | .few m,ms=>(((min m ms.length:Nat):Int),((min m ms.length:Nat):Int))
 | .start m,ms=>((ms.length:Int)/(m:Int),((ms.length:Int)+(m:Int) - 1)/(m:Int))
 | .loose m,ms=>((((due (szs ms) (m:Nat)).countP λf=>decide (f=(1,1)):Nat):Int),(ms.length:Int) - (((due (szs ms) (m:Nat)).countP λf=>decide (f=(0,1)):Nat):Int))
 | .each p,ms=>(((ak ms).map λc=>(lim p c).1).sum,((ak ms).map λc=>(lim p c).2).sum)
 | .first o p,ms=>(((Tb.so ((ak ms).map λc=>(lim p c).1)).take (lim o (outer (ak ms))).1.toNat).sum,((Tb.so ((ak ms).map λc=>(lim p c).2)).reverse.take (lim o (outer (ak ms))).2.toNat).sum)
end Nm
namespace My
open PySem L2 FrM Nst
open Nm (dL fY gp bi eS fAt eL seat cU ent)
theorem aH{c d:Type}{r e:c->d->Prop}(h:∀ a b,r a b->e a b):∀{as:List c}{bs:List d},Paired r as bs->Paired e as bs
 | _,_,.nil=>.nil
 | _,_,.cons x t=>.cons (h _ _ x) (aH h t)
def dO:HO->Bool
 | .lst _=>true
 | .tup _=>true
 | .ins _ _ _=>true
 | _=>false
def NC(H H':Hp):Prop:=∀ b o,dO o=true->H b=some o->H' b=some o
theorem cf{H a:Hp}(s:SameT H a):NC H a:=λb o d e=>(s b o e).1 (by cases o <;> first | rfl | cases d)
def MbAt(H:Hp)(m:Mb)(x:V):Prop:=∃ q pt,x=.ref q/\H q=some (.tup [.int m.1,.int m.2.1,.ref pt])/\H pt=some (.tup (m.2.2.map V.str))
abbrev CrAt(H:Hp):List Mb->List V->Prop:=Paired (MbAt H)
theorem MbAt.n{H a:Hp}(s:NC H a)(m:Mb)(x:V)(h:MbAt H m x):MbAt a m x:=let ⟨q,pt,h1,h2,h3⟩:=h;⟨q,pt,h1,s _ _ rfl h2,s _ _ rfl h3⟩
def CrL(H:Hp)(g:List Mb)(v:V):Prop:=∃ l ys,v=.ref l/\H l=some (.lst ys)/\CrAt H g ys
theorem CrL.n{H a:Hp}(s:NC H a)(g:List Mb)(v:V)(h:CrL H g v):CrL a g v:=let ⟨l,ys,h1,h2,h3⟩:=h;⟨l,ys,h1,s _ _ rfl h2,aH (MbAt.n s) h3⟩
def GsL(H:Hp)(v:V)(gs:List (List Mb)):Prop:=∃ l ys,v=.ref l/\H l=some (.lst ys)/\Paired (CrL H) gs ys
def IsPn(a:Ad)(H:Hp):V->Pl->Prop
 | v,.few m=>∃ x dx,v=.ref x/\H x=some (.ins a.c_r dx [("many",.int (m:Nat))])
 | v,.start m=>∃ x dx,v=.ref x/\H x=some (.ins a.c_e dx [("step",.int (m:Nat))])
 | v,.loose m=>∃ x dx,v=.ref x/\H x=some (.ins a.c_g dx [("many",.int (m:Nat))])
 | v,.each p=>∃ x dx u,v=.ref x/\H x=some (.ins a.c_j dx [("inside",u)])/\IsPn a H u p
 | v,.first p q=>∃ x dx u z,v=.ref x/\H x=some (.ins a.c_a dx [("outside",u),("inside",z)])/\IsPn a H u p/\IsPn a H z q
theorem IsPn.n{a:Ad}{H b:Hp}(s:NC H b):∀{pl:Pl}{v:V},IsPn a H v pl->IsPn a b v pl
 | .few _,_,⟨x,dx,h1,h2⟩=>⟨x,dx,h1,s _ _ rfl h2⟩
 | .start _,_,⟨x,dx,h1,h2⟩=>⟨x,dx,h1,s _ _ rfl h2⟩
 | .loose _,_,⟨x,dx,h1,h2⟩=>⟨x,dx,h1,s _ _ rfl h2⟩
 | .each _,_,⟨x,dx,u,h1,h2,h3⟩=>⟨x,dx,u,h1,s _ _ rfl h2,IsPn.n s h3⟩
 | .first _ _,_,⟨x,dx,u,z,h1,h2,h3,h4⟩=>⟨x,dx,u,z,h1,s _ _ rfl h2,IsPn.n s h3,IsPn.n s h4⟩
def jC:Pl->Bool | .few _=>true | _=>false
def d8:Pl->Bool | .start _=>true | _=>false
def d6:Pl->Bool | .loose _=>true | _=>false
def ee:Pl->Bool | .each _=>true | _=>false
def cN:Pl->Bool | .first _ _=>true | _=>false
theorem cx{a:Ad}{H:Hp}{v:V}{pl:Pl}{S:(Pl->Bool)->Sp}{Q:VK}{l A s o i:XK}(e:Str)(g:∀ x:V,[(("many" : Str),x)].lookup e=none)(r:∀ x:V,[(("step" : Str),x)].lookup e=none)(j:∀ x:V,[(("inside" : Str),x)].lookup e=none)(w:∀ x y:V,[(("outside" : Str),x),(("inside" : Str),y)].lookup e=none)(W:(V->Hp->Prop)->Prop)(f:IsPn a H v pl)(h:∀ c E,c pl=true->W λy H1=>S c [v,y] H1 Q E) :
  (∃(b dx:Addr) (fs:List (Str×V)),v=.ref b/\H b=some (.ins a.c_r dx fs)/\fs.lookup e=none/\W λy H1=>S jC [v,y] H1 Q l)\/(∃(b dx:Addr) (fs:List (Str×V)),v=.ref b/\H b=some (.ins a.c_e dx fs)/\fs.lookup e=none/\W λy H1=>S d8 [v,y] H1 Q A)\/(∃(b dx:Addr) (fs:List (Str×V)),v=.ref b/\H b=some (.ins a.c_g dx fs)/\fs.lookup e=none/\W λy H1=>S d6 [v,y] H1 Q s)\/(∃(b dx:Addr) (fs:List (Str×V)),v=.ref b/\H b=some (.ins a.c_j dx fs)/\fs.lookup e=none/\W λy H1=>S ee [v,y] H1 Q o)\/(∃(b dx:Addr) (fs:List (Str×V)),v=.ref b/\H b=some (.ins a.c_a dx fs)/\fs.lookup e=none/\W λy H1=>S cN [v,y] H1 Q i):=by
 cases pl with
 | few m=>obtain⟨x,dx,rfl,d⟩:=f;exact .inl ⟨x,dx,_,rfl,d,g _,h _ _ rfl⟩
 | start m=>obtain⟨x,dx,rfl,d⟩:=f;exact .inr (.inl ⟨x,dx,_,rfl,d,r _,h _ _ rfl⟩)
 | loose m=>obtain⟨x,dx,rfl,d⟩:=f;exact .inr (.inr (.inl ⟨x,dx,_,rfl,d,g _,h _ _ rfl⟩))
 | each p=>obtain⟨x,dx,u,rfl,d,_⟩:=f;exact .inr (.inr (.inr (.inl ⟨x,dx,_,rfl,d,j _,h _ _ rfl⟩)))
 | first p q=>obtain⟨x,dx,u,z,rfl,d,_⟩:=f;exact .inr (.inr (.inr (.inr ⟨x,dx,_,rfl,d,w _ _,h _ _ rfl⟩)))
theorem CrAt.tk{H a:Hp}(k:TK H a):∀{ms:List Mb}{xs:List V},CrAt H ms xs->CrAt a ms xs
 | _,_,.nil=>.nil
 | _,_,.cons ⟨q,pt,h1,h2,h3⟩ t=>.cons ⟨q,pt,h1,k _ _ h2,k _ _ h3⟩ (CrAt.tk k t)
theorem SameT.tk{H b:Hp}(s:SameT H b):TK H b:=λa c h=>s.at h
theorem CrAt.get{H:Hp}:∀{ms:List Mb}{xs:List V}{i:Nat}{x:V},CrAt H ms xs->xs[i]? = some x->∃ r,ms[i]? = some r/\MbAt H r x
 | _,_,_,_,.nil,h=>by cases h
 | _,_,0,_,.cons r _,h=>⟨_,rfl,by cases h;exact r⟩
 | _,_,i+1,_,.cons _ t,h=>CrAt.get (i:=i) t h
theorem CrAt.len{H:Hp}{a:List Mb}{xs:List V}(h:CrAt H a xs):a.length=xs.length:=Paired.length h
def pD(fs:List (Int×Int)):List PyData:=fs.map λf=>.tuple [.int f.1,.int f.2]
inductive spWBy(K:Frag)(vs:List V)(H:Hp)(Q:VK)(_E:XK):Prop
 | mk(l:Addr)(xs:List V)(ms:List Mb)(m:Int)(h0:vs=[.ref l,.int m])(h1:H l=some (.lst xs))(h2:CrAt H ms xs)(h3:Szs (szs ms))(h4:0<=m)(h5:m<=24)(h6:∀ H' r ys,Same H H'->H r=none->H' r=some (.lst ys)->AllF K H' (due (szs ms) m) ys->Q (.ref r) H'):spWBy K vs H Q _E
def cF(fs:List (Int×Int))(t b:Int):Int:=(((pD fs).countP λz=>PyData.eqv z (.tuple [.int t,.int b]):Nat):Int)
theorem rQ{H:Hp}{b q:Addr}{o d:HO}{a:List V}(c:H q=some (.lst a))(h:H b=some o)(n:∀ ys,o≠.lst ys):(upd H q d) b=some o:=by
 rw[az (λz=>by rw[z,c]at h;exact n a (Option.some.inj h).symm)];exact h
structure Ck(n:Nat)(ms:List Mb):Prop where
 c:Cok n ms
 nd:(plc ms).Nodup
theorem jY{n:Nat}{b:List Mb}(h:Cok n b):Szs (szs b):=⟨by unfold szs;rw[length_map];exact h.len.2,λx a=>(h.hi x a).1,λx a=>(h.hi x a).2⟩
def vc(l:Int×Int)(H:Hp)(Q:VK):Prop:=∀ H' p,Same H H'->H' p=some (.tup [.int l.1,.int l.2])->Q (.ref p) H'
inductive spBo(a:Ad)(N:Nat)(c:Pl->Bool)(vs:List V)(H:Hp)(Q:VK)(_E:XK):Prop
 | mk(n:Nat)(v:V)(pl:Pl)(l:Addr)(xs:List V)(ms:List Mb)(h0:vs=[v,.ref l])(h1:n<=N)(h2:c pl=true)(h3:ht n pl)(h4:IsPn a H v pl)(h5:H l=some (.lst xs))(h6:CrAt H ms xs)(h7:Ck n ms)(h8:vc (Nm.lim pl ms) H Q):spBo a N c vs H Q _E
section
variable {P:Program}{w:World}{K:Frag}{mg:Str->Option Value}{base:Heap}{a:Ad}
theorem vp{H:Hp}:∀{fs:List (Int×Int)}{xs:List V},AllF K H fs xs->DVs K H (pD fs) xs
 | _,_,.nil=>by simp[DVs,pD]
 | _,_,.cons ⟨p,e,r⟩ t=>by
  unfold pD;rw[map_cons,DVs];exact⟨_,_,rfl,by rw[e];exact lS r.sq,vp t⟩
theorem sx:∀(fs:List (Int×Int)),PyData.canLayAll0 (pD fs)=true/\PyData.depthAll (pD fs)<=3
 | []=>by simp[PyData.canLayAll0,PyData.depthAll,pD]
 | t::l=>by
  obtain⟨a,b⟩:=sx l;unfold pD at *;rw[map_cons,PyData.canLayAll0,PyData.depthAll,a];refine⟨by simp[PyData.canLay0,PyData.canLayAll0],?_⟩;simp only[PyData.depth,PyData.depthAll];lia
theorem sJ(a b c d:Int):PyData.eqv (.tuple [.int a,.int b]) (.tuple [.int c,.int d])=decide ((a,b)=(c,d)):=by
 simp[PyData.eqv,PyData.eqvAll];rfl
theorem sO(T:Txt K mg a):FnOk P w K mg base CX0 5 a.f_aa a.d_aa ["crowd","many"] (spWBy K):=by
 have e:FnOk P w K mg base CX0 4 _ _ _ (spWished K):=qK T;refine T.F_aa.ok lY (λR H Q E h=>?_) (λcdv A outer s H R Q E v h=>?_)
 .obtain⟨l,xs,g,m,rfl,_⟩:=h;rfl
 .obtain⟨l,xs,g,m,rfl,F,L,I,Y,Z,q⟩:=h
  have j:sizeLine=16777216:=sizeLine_eq;have u:=L.len;have y:g.length<=24:=by have:=I.len;unfold szs at this;rw[length_map]at this;exact this
  refine⟨_,(ah (aw (aj e v rfl T.m_as T.F_as.kp T.B_as .nil ai (aa (aT rfl (N:=["member"]) (ix:=[none]) ⟨rfl,rfl,rfl,rfl,trivial⟩ (aP (vr 0)) ⟨λC s H B=>au (i:=0) (show List.Nodup (["member"]:List Str) by decide +kernel) rfl (Or.inl rfl),λC s H B=>aN,λC s H B=>(aq (aY (K:=K) rfl) (vr 0) ag (λ_ _=>rfl))⟩) (aa (vr 1) ac))))),?_⟩;refine .inl ⟨⟨_,SqL.of F⟩,λD G=>?_⟩
  let Pw1:PvL:=λi c d=>i<=xs.length/\Same H d/\d D=some (.lst c)/\c=(szs (g.take i)).map V.int
  refine aM (K:=K) (a:=l) (xs:=xs) Pw1 ⟨Nat.zero_le _,Same.new G,ae,rfl⟩ (λi c d h=>SqL.of (h.2.1 _ _ F)) (λi c d h=>h.2.2.1) ?_ ?_
  .rintro i x c d P' z ⟨hi,f,b,rfl⟩ hP
   obtain⟨mm,S,M,pt,rfl,g1,g2⟩:=(L.tk f.tk).get z;have p:i<xs.length:=(List.getElem?_eq_some_iff.mp z).1;refine⟨trivial,.inr (.inl ⟨M,_,_,_,rfl,rfl,SqT.of g1,bj 1 rfl rfl,b,?_,hP _ _ ⟨p,f.put G,ae,?_⟩⟩)⟩
   .unfold szs;rw[length_map,length_map,length_take];lia
   .unfold szs;rw[take_add_one,S,map_append,map_append];rfl
  .rintro c d ⟨_,f,b,rfl⟩
   rw[<- u,take_of_length_le (Nat.le_refl _)]at b;exact⟨D,szs g,m,rfl,b,I,Y,Z,λX r c O o v W=>q X r c (f.trans O) (f.free o) v W⟩
theorem iX{H:Hp}{l k:Addr}{xs:List V}{fs:List (Int×Int)}{t b:Int}{Q:VK}(a:H l=some (.lst xs))(c:AllF K H fs xs)(d:SqT K H k [.int t,.int b])(q:Q (.int (cF fs t b)) H):rCount K (.ref l) [.ref k] H Q :=
 ⟨l,xs,pD fs,.ref k,.tuple [.int t,.int b],rfl,rfl,a,vp c,lS d,(sx fs).1,by simp[PyData.canLay0,PyData.canLayAll0],by simp[PyData.depth,PyData.depthAll],q⟩
theorem fZ(fs:List (Int×Int))(t b:Int):cF fs t b=((fs.countP λf=>decide (f=(t,b)):Nat):Int):=by
 unfold cF pD;rw[List.countP_map]
 congr 1
 refine List.countP_congr λf _=>?_
 show PyData.eqv (.tuple [.int f.1,.int f.2]) (.tuple [.int t,.int b])=true↔_;rw[sJ]
theorem kf(T:Txt K mg a)(N:Nat):FnOk P w K mg base CX0 1 a.x_t a.y_t ["self","crowd"] (spBo a N jC):=by
 refine T.F_t.ok sc_t (λg H Q E h=>?_) (λcdv A outer s H g Q E hr h=>?_)
 .obtain⟨n,v,d,l,b,f,rfl,_⟩:=h;rfl
 .obtain⟨n,v,d,l,b,f,rfl,B,j,C,c,z,r,F,q⟩:=h
  cases d with
  | few m =>
   obtain⟨x,y,rfl,o⟩:=c;have D:=r.len;refine⟨_,(af (ay (i:=2) sc_t.nd rfl (Or.inl rfl) (av (cY rfl) rfl T.z_min gS (aa (bb (vr 0) rfl) (aa (av aF rfl T.z_len aQ (aa (vr 1) ac)) ac)))) (ah (aw (aK (aa (vr 2) (aa (vr 2) ac)))))),cL ?_⟩;intro u;refine⟨x,_,y,_,_,rfl,o,T.cl_r,T.na_Few_many,rfl,⟨_,.inl (SqL.of z),?_⟩⟩;refine⟨_,_,rfl,?_⟩
   have e:(if ((b.length:Int)<(m:Int)) then (b.length:Int) else (m:Int))=((min m f.length:Nat):Int):=by split <;> lia
   rw[e];exact⟨(show 2<=sizeLine by decide),λp c=>q _ p (Same.new c) ae⟩
  | _=>cases j
theorem iA(T:Txt K mg a)(N:Nat):FnOk P w K mg base CX0 1 a.x_p a.y_p ["self","crowd"] (spBo a N d8):=by
 refine T.F_p.ok jE (λi H Q E h=>?_) (λcdv A outer s H i Q E hr h=>?_)
 .obtain⟨n,v,d,l,r,y,rfl,_⟩:=h;rfl
 .obtain⟨n,v,d,l,r,y,rfl,C,o,e,B,f,u,D,q⟩:=h
  cases d with
  | start m =>
   obtain⟨x,c,rfl,b⟩:=B;have z:=u.len;refine⟨_,(ah (aw (aK (aa (aA bn (av aF rfl T.z_len aQ (aa (vr 1) ac)) (bb (vr 0) rfl)) (aa (aA bn (aA d9 (aA bE (av aF rfl T.z_len aQ (aa (vr 1) ac)) (bb (vr 0) rfl)) ag) (bb (vr 0) rfl)) ac))))),?_⟩
   have e:1<=m/\m<=100:=by cases n <;> exact e
   have g:Bt 3000 (m:Int):=(show Bt 10 (m:Int) by unfold Bt;lia).mono (by decide);refine⟨_,.inl (SqL.of f),⟨x,_,c,_,_,rfl,b,T.cl_e,T.na_Start_step,rfl,cdB (by lia) g,?_⟩⟩;refine⟨_,.inl (SqL.of f),⟨x,_,c,_,_,rfl,b,T.cl_e,T.na_Start_step,rfl,⟨x,_,c,_,_,rfl,b,T.cl_e,T.na_Start_step,rfl,cdB (by lia) g,?_⟩⟩⟩;rw[<- z];exact⟨bp _ _,λp j=>q _ p (Same.new j) ae⟩
  | _=>cases o
theorem ip(T:Txt K mg a)(N:Nat):FnOk P w K mg base CX0 6 a.x_n a.y_n ["self","crowd"] (spBo a N d6):=by
 have c:FnOk P w K mg base CX0 5 _ _ _ (spWBy K):=sO T;refine T.F_n.ok sc_n (λB H Q E h=>?_) (λcdv A outer s H B Q E hr h=>?_)
 .obtain⟨n,v,f,l,g,d,rfl,_⟩:=h;rfl
 .obtain⟨n,v,f,l,g,d,rfl,R,L,o,z,G,j,C,q⟩:=h
  cases f with
  | loose m =>
   obtain⟨x,D,rfl,r⟩:=z;have S:=j.len;refine⟨_,(af (ay (i:=2) sc_n.nd rfl (Or.inl rfl) (aj c hr rfl T.m_aa T.F_aa.kp T.B_aa .nil ai (aa (vr 1) (aa (bb (vr 0) rfl) ac)))) (ah (aw (aK (aa (pe_m.count hr.units (vr 2) (aa (dz rfl T.g_WHOLE) ac)) (aa (aA d9 (av aF rfl T.z_len aQ (aa (vr 2) ac)) (pe_m.count hr.units (vr 2) (aa (dz rfl T.g_NOUGHT) ac))) ac)))))),cL ?_⟩;intro O
   have o:m<=24:=by cases n <;> exact o
   refine⟨x,_,D,_,_,rfl,r,T.cl_g,T.na_Loose_many,rfl,?_⟩;refine⟨l,g,d,(m:Nat),rfl,G,j,jY C.c,by lia,by lia,λW X M y u b e=>?_⟩;have I:M.length=d.length:=by rw[<- e.len,cI];unfold szs;rw[length_map]
   refine⟨.inl ⟨rfl,_,SqL.of b⟩,iX b e (ow T.t_WHOLE) ?_⟩;refine⟨_,.inl (SqL.of b),⟨.inl ⟨rfl,_,SqL.of b⟩,iX b e (ow T.t_NOUGHT) ?_⟩⟩;rw[I,fZ,fZ];exact⟨bp _ _,λp F=>q _ p (y.trans (Same.new F)) ae⟩
  | _=>cases L
end
end My
namespace L2
open PySem PySem.Spec PyProof.Rows
section
variable {X:Cx}{x:Str}{sc:Scope}{N:List Str}{ix:List (Option Nat)}{pins:List (Addr×Obj)}{σ:St}{H:Hp}{s:Shared}
end
section
variable {X:Cx}{x:Str}{sc:Scope}{N:List Str}{ix:List (Option Nat)}{elt tg iter:Expr}{ifs:List Expr}{pos:Pos}{wi:TI}{g:TG}{tt:TT}{te:TE}
end
theorem pN{X:Cx}{K:Frag}{tg l:Expr}{tl:TE}(e:X.K=K)(a:PE X l tl):PI X tg l (wX K tl):=by subst e;exact aP a
section
variable {X:Cx}{K:Frag}
theorem j7(a:X.K=K)(b:X.calm=true):CallR X (.builtin "sum") (rSumI K):=by
 subst a;exact bH b
end
end L2
namespace My
open PySem L2 FrM Nst
open Nm (dL fY gp bi eS fAt eL seat cU ent)
theorem aL{b a:Type}{r:b->a->Prop}:∀{as:List b}{bs:List a}{i:Nat}{y:a},Paired r as bs->bs[i]? = some y->∃ x,as[i]? = some x/\r x y
 | _,_,_,_,.nil,h=>by cases h
 | _,_,0,_,.cons r _,h=>⟨_,rfl,by cases h;exact r⟩
 | _,_,i+1,_,.cons _ t,h=>aL (i:=i) t h
theorem da{c d:Type}{r:c->d->Prop}{a:c}{b:d}(h:r a b):∀{as:List c}{bs:List d},Paired r as bs->Paired r (as++[a]) (bs++[b])
 | _,_,.nil=>.cons h .nil
 | _,_,.cons x t=>.cons x (da h t)
theorem fE{a b:Type}{r:a->b->Prop}{as:List a}{x:a}{i:Nat}{ys:List b}{y:b}(h:Paired r (as.take i) ys)(e:as[i]? = some x)(q:r x y):Paired r (as.take (i+1)) (ys++[y]):=by
 rw[take_add_one,e];exact da q h
theorem CrAt.snoc{H:Hp}{m:Mb}{x:V}(r:MbAt H m x):∀{ms:List Mb}{xs:List V},CrAt H ms xs->CrAt H (ms++[m]) (xs++[x])
 | _,_,.nil=>.cons r .nil
 | _,_,.cons q t=>.cons q (CrAt.snoc r t)
theorem CrL.same{H a:Hp}(s:Same H a)(g:List Mb)(v:V)(h:CrL H g v):CrL a g v:=h.n (cf s.t)
def yn(H:Hp)(g:Str×List Mb)(kv:Key×V):Prop:=kv.1=.inr g.1/\∃ l ys,kv.2=.ref l/\H l=some (.lst ys)/\CrAt H g.2 ys
abbrev GR(H:Hp):List (Str×List Mb)->List (Key×V)->Prop:=PySem.Paired (yn H)
theorem GR.move{H a:Hp}(k:TK H a):∀{gs:List (Str×List Mb)}{kvs:List (Key×V)},(∀ l ys,V.ref l∈kvs.map (·.2)->H l=some (.lst ys)->a l=some (.lst ys))->GR H gs kvs->GR a gs kvs
 | _,_,_,.nil=>.nil
 | _,_,h,.cons ⟨r1,l,ys,r2,r3,r4⟩ t=>.cons ⟨r1,l,ys,r2,h l ys (by rw[<- r2];exact mem_cons_self) r3,r4.tk k⟩ (GR.move k (λl ys b=>h l ys (mem_cons_of_mem _ b)) t)
theorem GR.miss{H:Hp}{n:Str}{m:Mb}{l:Addr}{x:V}(b:H l=some (.lst [x]))(d:MbAt H m x):∀{gs:List (Str×List Mb)}{kvs:List (Key×V)},GR H gs kvs->cm kvs (.inr n)=none->GR H (cR gs n m) (kvs++[(.inr n,.ref l)])
 | _,_,.nil,_=>.cons ⟨rfl,l,_,rfl,b,.cons d .nil⟩ .nil
 | (k,ms)::gs,(kk,y)::kvs,.cons ⟨r1,r2⟩ t,h=>by
  have c:¬kk=.inr n:=λz=>by
   rw[bP z]at h;cases h
  rw[bR c]at h;have a:k≠n:=λz=>c (by rw[<- z];exact r1)
  unfold cR;rw[if_neg a];exact .cons ⟨r1,r2⟩ (GR.miss b d t h)
theorem GR.hit{H:Hp}{n:Str}{y:V}:∀{gs:List (Str×List Mb)}{kvs:List (Key×V)},GR H gs kvs->(kvs.map (·.2)).Nodup->cm kvs (.inr n)=some y ->
  ∃ l ys,y=.ref l/\V.ref l∈kvs.map (·.2)/\H l=some (.lst ys)/\∀(H':Hp) (m:Mb) (x:V),TK H H'->(∀ b zs,b≠l->V.ref b∈kvs.map (·.2)->H b=some (.lst zs)->H' b=some (.lst zs))->H' l=some (.lst (ys++[x]))->MbAt H' m x->GR H' (cR gs n m) kvs
 | _,_,.nil,_,h=>by cases h
 | (k,ms)::gs,(kk,y0)::kvs,.cons ⟨r1,l0,ys0,r2,r3,r4⟩ t,nd,h=>by
  rw[map_cons,nodup_cons]at nd;have a:y0=V.ref l0:=r2
  by_cases hk:kk=.inr n
  .rw[bP hk]at h
   have e:y0=y:=Option.some.inj h
   have j:k=n:=by
    have:(Sum.inr k:Key)=.inr n:=by rw[<- hk];exact r1.symm
    exact Sum.inr.inj this
   refine⟨l0,ys0,by rw[<- e];exact a,by rw[<- a];exact mem_cons_self,r3,λH' m x c d o i=>?_⟩;unfold cR;rw[if_pos j];refine .cons ⟨r1,l0,_,r2,o,CrAt.snoc i (r4.tk c)⟩ (GR.move c (λb zs p B=>d b zs (λz=>?_) (mem_cons_of_mem _ p) B) t);rw[z,<- a]at p;exact nd.1 p
  .rw[bR hk]at h
   obtain⟨l,ys,w,r,u,A⟩:=GR.hit t nd.2 h;have g:k≠n:=λz=>hk (by rw[<- z];exact r1)
   refine⟨l,ys,w,mem_cons_of_mem _ r,u,λH' m x c d o i=>?_⟩;have f:l0≠l:=λz=>nd.1 (by rw[a,z];exact r)
   unfold cR;rw[if_neg g];exact .cons ⟨r1,l0,ys0,r2,d l0 ys0 f (by rw[<- a];exact mem_cons_self) r3,r4.tk c⟩ (A H' m x c (λb zs s v=>d b zs s (mem_cons_of_mem _ v)) o i)
theorem GR.has{H:Hp}{b:Addr}:∀{gs:List (Str×List Mb)}{kvs:List (Key×V)},GR H gs kvs->V.ref b∈kvs.map (·.2)->∃ ys,H b=some (.lst ys)
 | _,_,.nil,h=>by cases h
 | _,_,.cons ⟨_,l,ys,r2,r3,_⟩ t,h=>by
  rw[map_cons,mem_cons]at h
  rcases h with h | h
  .rw[r2]at h
   cases h;exact⟨ys,r3⟩
  .exact GR.has t h
structure GT(H0 H:Hp)(r:Addr)(gs:List (Str×List Mb))(as:List Addr)(kvs:List (Key×V)):Prop where
 top:H r=some (.lst (as.map V.ref))
 new:H0 r=none
 len:as.length=kvs.length
 row:∀(j:Nat) (b:Addr) (k:Key) (y:V),as[j]? = some b->kvs[j]? = some (k,y)->H b=some (.tup [kV k,y])
 gr:GR H gs kvs
 nd:(kvs.map (·.2)).Nodup
 fresh:∀ l,V.ref l∈kvs.map (·.2)->H0 l=none/\l≠r
inductive spGroups(vs:List V)(H:Hp)(Q:VK)(_E:XK):Prop
 | mk(l:Addr)(ms:List Mb)(xs:List V)(h0:vs=[.ref l])(h1:H l=some (.lst xs))(h2:CrAt H ms xs)(h3:xs.length<=24)(h4:(∀ m∈ms,m.2.2≠[]/\m.2.2.length<=3))(h5:∀ H' r as kvs,Same H H'->GT H H' r (groups ms) as kvs->Q (.ref r) H'):spGroups vs H Q _E
inductive spParted(vs:List V)(H:Hp)(Q:VK)(_E:XK):Prop
 | mk(l:Addr)(ms:List Mb)(xs:List V)(h0:vs=[.ref l])(h1:H l=some (.lst xs))(h2:CrAt H ms xs)(h3:xs.length<=24)(h4:(∀ m∈ms,m.2.2≠[]/\m.2.2.length<=3))(h5:∀ H' r ys,Same H H'->H' r=some (.lst ys)->Paired (CrL H') (ak ms) ys->Q (.ref r) H'):spParted vs H Q _E
inductive spOuter(vs:List V)(H:Hp)(Q:VK)(_E:XK):Prop
 | mk(v:V)(gs:List (List Mb))(h0:vs=[v])(h1:GsL H v gs)(h2:gs.length<=24)(h3:(∀ c∈gs,c.length<=24))(h4:∀ H' r ys,Same H H'->H r=none->H' r=some (.lst ys)->CrAt H' (outer gs) ys->Q (.ref r) H'):spOuter vs H Q _E
theorem mM{n:Str}{m:Mb}:∀(gs:List (Str×List Mb)),(cR gs n m).length<=gs.length+1
 | []=>Nat.le_refl _
 | (k,l)::r=>by
  unfold cR
  by_cases c:k=n
  .rw[if_pos c];exact Nat.le_succ _
  .rw[if_neg c,length_cons,length_cons]
   exact Nat.succ_le_succ (mM r)
theorem qu(a:List Mb):(ak a).length<=a.length:=by
 have c:∀(a:List Mb) (b:List (Str×List Mb)),(a.foldl (λb m=>cR b (hd m) (tl m)) b).length<=b.length+a.length:=by
  intro a
  induction a with
  | nil=>intro b;exact Nat.le_refl _
  | cons m r ih =>
   intro b;rw[foldl_cons,length_cons];have:=ih (cR b (hd m) (tl m));have:=mM (n:=hd m) (m:=tl m) b;lia
 unfold ak groups;rw[length_map];have:=c a [];rw[length_nil]at this;lia
def Spot(H:Hp)(gs:List (List Mb))(pl:Int)(v:V):Prop:=∃ p,∃ g s:Nat,v=.ref p/\H p=some (.tup [.int (g:Nat),.int (s:Nat)])/\Nm.At gs g s pl
theorem Spot.tk{H a:Hp}{b:List (List Mb)}{pl:Int}{v:V}(k:TK H a)(h:Spot H b pl v):Spot a b pl v:=by
 obtain⟨p,g,s,c,d,e⟩:=h;exact⟨p,g,s,c,k _ _ d,e⟩
abbrev sQ(H:Hp)(gs:List (List Mb)):List Mb->List V->Prop:=Paired λm z=>Spot H gs m.1 z
inductive spSpots(vs:List V)(H:Hp)(Q:VK)(_E:XK):Prop
 | mk(l r:Addr)(ms:List Mb)(gs:List (List Mb))(xs ys:List V)(h0:vs=[.ref l,.ref r])(h1:H l=some (.lst xs))(h2:CrAt H ms xs)(h3:H r=some (.lst ys))(h4:Paired (CrL H) gs ys)(h5:ms.length<=24)(h6:gs.length<=24)(h7:(∀ g∈gs,g.length<=24))(h8:(∀ m∈ms,∃ g∈gs,∃ m'∈g,m'.1=m.1))(h9:∀ H' t zs,Same H H'->H' t=some (.lst zs)->sQ H' gs ms zs->Q (.ref t) H'):spSpots vs H Q _E
theorem eI{a b:Type}{r:a->b->Prop}:∀{as:List a}{bs:List b}{i:Nat}{x:a},Paired r as bs->as[i]? = some x->∃ y,bs[i]? = some y/\r x y
 | _,_,_,_,.nil,h=>by cases h
 | _,_,0,_,.cons x _,h=>⟨_,rfl,by cases h;exact x⟩
 | _,_,i+1,_,.cons _ t,h=>eI (i:=i) t h
theorem r9(a:List (Key×V))(k:Key)(v:V):(gj a k v).length<=a.length+1:=by
 unfold gj
 split
 .rw[length_map];lia
 .rw[length_append];exact Nat.le_refl _
section
variable {P:Program}{w:World}{K:Frag}{mg:Str->Option Value}{base:Heap}{a:Ad}
theorem qe(T:Txt K mg a):FnOk P w K mg base CX0 1 a.f_Y a.d_Y ["crowd"] spGroups:=by
 refine T.F_Y.ok sc_Y (λvs H Q E h=>?_) (λcdv A outer s H vs Q E hr h=>?_)
 .obtain⟨l,ms,xs,rfl,_⟩:=h;rfl
 .obtain⟨l,ms,xs,rfl,hl,hm,hz,hn,q⟩:=h
  refine⟨_,(af (ay (i:=1) sc_Y.nd rfl (Or.inl rfl) ny) (af (cb PassesOwn.never rfl (aP (vr 0)) (bA rfl (ax (au (i:=2) sc_Y.nd rfl (Or.inl rfl)) (ax (au (i:=3) sc_Y.nd rfl (Or.inl rfl)) (ax (au (i:=4) sc_Y.nd rfl (Or.inl rfl)) aO)))) (af (aI (gU (ko (vr 4) (λ_=>rfl))) (ah dZ) aD) (ah (aV (pe_m.append (pe_m.setdefault (vr 1) (aa (aq am (vr 4) ag (λ_ _=>rfl)) (aa (aZ ac) ac))) (aa (aK (aa (vr 2) (aa (vr 3) (aa (dn gG (vr 4) (eF ag) eC) ac)))) ac)))))) (ah (aw (b7 (nZ rfl) rfl T.z_list eA (aa (pe_m.items (vr 1)) ac)))))),ii ?_⟩;intro b5 b9;intro g hg;have s0:Same H (upd H g (.dK [])):=Same.new hg;have a6:sizeLine=16777216:=sizeLine_eq
  .refine .inl ⟨⟨xs,SqL.of (s0 _ _ hl)⟩,fg (K:=K) (a:=l) (xs:=xs) (λi σ F=>∃(c:List (Key×V)) (x2 x3 x4:Option V),σ=[some (.ref l),some (.ref g),x2,x3,x4]/\Same H F/\F g=some (.dK c)/\GR F (groups (ms.take i)) c /\
    (c.map (·.2)).Nodup/\(∀ b,V.ref b∈c.map (·.2)->H b=none/\b≠g)/\c.length<=i/\∀ b L,V.ref b∈c.map (·.2)->F b=some (.lst L)->L.length<=i)
    ⟨[],none,none,none,rfl,s0,ae,.nil,nodup_nil,(λb hb=>by cases hb),Nat.le_refl _,λb L hb=>by cases hb⟩ (λi σ F _ h=>by obtain⟨_,_,_,_,_,s1,_⟩:=h;exact SqL.of (s1 _ _ hl)) ?_ ?_⟩
   .rintro i x σ F hx ⟨c,x2,x3,x4,rfl,R,p,gr,nd,fr,kl,yl⟩
    obtain⟨m,a0,ad,pp,rfl,ha,hp⟩:=hm.get hx;have b6:i<xs.length:=(List.getElem?_eq_some_iff.mp hx).1;obtain⟨a7,b4⟩:=hn m (List.mem_of_getElem? a0)
    have et:groups (ms.take (i+1))=cR (groups (ms.take i)) (hd m) (tl m):=by
     rw[take_add_one,a0];exact gZ _ _
    obtain⟨mp,mz,al⟩:=m;cases al with
    | nil=>exact absurd rfl a7
    | cons n0 ps =>
     refine⟨ad,_,rfl,SqT.of (R _ _ ha),rfl,_,_,rfl,_,_,rfl,_,_,rfl,rfl,?_⟩;refine⟨_,.inr (.inl ⟨_,SqT.of (R _ _ hp),rfl⟩),?_⟩;refine⟨.inr (.inr (.inl ⟨rfl,.inl ⟨_,p⟩⟩)),?_⟩;refine .inr (.inl ⟨pp,_,_,.str n0,rfl,rfl,SqT.of (R _ _ hp),bj 0 rfl rfl,?_⟩);refine⟨Nat.zero_le _,λd B=>?_⟩;have X:Same F (upd F d (.lst [])):=Same.new B;have a4:fN ((n0::ps).map V.str) (some ((1:Nat):Int)) none=ps.map V.str:=by rw[i5];rfl
     have nw:¬(HT.sIx ((n0::ps).map V.str).length 0 (some 1)=0/\HT.sIx ((n0::ps).map V.str).length ((n0::ps).map V.str).length none=((n0::ps).map V.str).length):=λz=>by
      have z1:=z.1;rw[show(some (1:Int))=some ((1:Nat):Int) from rfl,HT.sIx_nat,length_map,length_cons]at z1;lia
     have aS:H d=none:=R.free B;have an:d≠g:=(aJ p B).symm;refine⟨g,c,.inr n0,.ref d,rfl,rfl,X _ _ p,by lia,λy hy=>?_,λhno=>?_⟩
     .obtain⟨ly,L,rfl,ab,N,b1⟩:=GR.hit gr nd hy
      refine⟨.inl ⟨rfl,_,SqL.of (X _ _ N)⟩,?_⟩;refine⟨_,rfl,?_⟩;refine .inr ⟨_,SqT.of (X _ _ (R _ _ hp)),nw,λG I=>?_⟩;have s1:=X.trans (Same.new (o:=.tup (fN ((n0::ps).map V.str) (some 1) none)) I);refine⟨(by decide:3<=sizeLine),λu f=>?_⟩;have D:=s1.trans (Same.new (o:=.tup [.int mp,.int mz,.ref G]) f);have yb:=yl ly L ab N;refine⟨ly,L,.ref u,rfl,rfl,D _ _ N,by lia,?_⟩;obtain⟨a9,bl⟩:=fr ly ab;have l3:=D _ _ N;have na:u≠ly:=λz=>by rw[z,s1 _ _ N]at f;cases f
      have np:G≠ly:=λz=>by rw[z,X _ _ N]at I;cases I
      have O:G≠u:=λz=>by rw[<- z,ae]at f;cases f
      refine⟨c,_,_,_,rfl,(R.trans D).put a9,by rw[az bl.symm];exact D _ _ p,?_,nd,fr,by lia,λb zs hb C=>?_⟩
      .rw[et]
       refine b1 _ _ (.ref u) (D.tk.trans (TK.lst l3)) (λb zs hb _ e=>by rw[az hb];exact D _ _ e) ae ⟨u,G,rfl,?_,?_⟩
       .rw[az na,ae];rfl
       .rw[az np,az O,ae,show(some (1:Int))=some ((1:Nat):Int) from rfl,a4];rfl
      .by_cases hbl:b=ly
       .rw[hbl,ae]at C
        cases C;rw[length_append];exact Nat.succ_le_succ yb
       .rw[az hbl]at C
        obtain⟨a2,S⟩:=GR.has gr hb;have:=D _ _ S;rw[C]at this;cases this;exact Nat.le_succ_of_le (yl b _ hb S)
     .have M:(upd (upd F d (.lst [])) g (.dK (c++[(.inr n0,.ref d)]))) d=some (.lst []):=by rw[az an,ae]
      generalize hH2:upd (upd F d (.lst [])) g (.dK (c++[(.inr n0,.ref d)]))=Y at M ⊢;have Z:∀ b o,b≠g->b≠d->F b=some o->Y b=some o:=λb o h1 h2 e=>by rw[<- hH2,az h1,az h2];exact e
      have b3:Y pp=some (.tup ((n0::ps).map V.str)):=by
       have e1:=R _ _ hp;exact Z _ _ (pH e1 p (λz=>nomatch z)) (aJ e1 B) e1
      have b2:Y g=some (.dK (c++[(.inr n0,.ref d)])):=by rw[<- hH2];exact ae
      refine⟨.inl ⟨rfl,_,SqL.of M⟩,?_⟩;refine⟨_,rfl,?_⟩;refine .inr ⟨_,SqT.of b3,nw,λG I=>?_⟩;have s1:=Same.new (o:=.tup (fN ((n0::ps).map V.str) (some 1) none)) I;refine⟨(by decide:3<=sizeLine),λu f=>?_⟩;have D:=s1.trans (Same.new (o:=.tup [.int mp,.int mz,.ref G]) f);refine⟨d,[],.ref u,rfl,rfl,D _ _ M,by rw[length_nil];lia,?_⟩;have l3:=D _ _ M;have na:u≠d:=λz=>by rw[z,s1 _ _ M]at f;cases f
      have np:G≠d:=λz=>by rw[z,M]at I;cases I
      have O:G≠u:=λz=>by rw[<- z,ae]at f;cases f
      have W:V.ref d ∉ c.map (·.2):=λz=>by
       obtain⟨L,e⟩:=GR.has gr z;rw[B]at e;cases e
      have bo:Same H Y:=λb o e=>by
       have e1:=R _ _ e;exact Z b o (aJ e hg) (aJ e1 B) e1
      have mv:∀ b L,V.ref b∈c.map (·.2)->F b=some (.lst L)->(upd (upd (upd Y G (.tup (fN ((n0::ps).map V.str) (some 1) none))) u (.tup [.int mp,.int mz,.ref G])) d (.lst ([]++[.ref u]))) b=some (.lst L):=λb L hb e=>by
       have a3:b≠d:=λz=>W (z ▸ hb)
       rw[az a3];exact D _ _ (Z b _ (fr b hb).2 a3 e)
      have bm:TK F (upd (upd (upd Y G (.tup (fN ((n0::ps).map V.str) (some 1) none))) u (.tup [.int mp,.int mz,.ref G])) d (.lst ([]++[.ref u]))):=λb zs e=>by
       rw[az (aJ e B)];exact D _ _ (Z b _ (pH e p (λz=>nomatch z)) (aJ e B) e)
      have a':MbAt (upd (upd (upd Y G (.tup (fN ((n0::ps).map V.str) (some 1) none))) u (.tup [.int mp,.int mz,.ref G])) d (.lst ([]++[.ref u]))) (tl ⟨mp,mz,n0::ps⟩) (.ref u):=by
       refine⟨u,G,rfl,?_,?_⟩
       .rw[az na,ae];rfl
       .rw[az np,az O,ae,show(some (1:Int))=some ((1:Nat):Int) from rfl,a4];rfl
      refine⟨c++[(.inr n0,.ref d)],_,_,_,rfl,(bo.trans D).put aS,by rw[az an.symm];exact D _ _ b2,?_,?_,λb hb=>?_,by rw[length_append];exact Nat.succ_le_succ kl,λb zs hb C=>?_⟩
      .rw[et]
       exact GR.miss ae a' (GR.move bm mv gr) hno
      .rw[map_append,nodup_append]
       refine⟨nd,by simp,λx a8 y bN=>?_⟩;have:y=V.ref d:=by simpa using bN
       rw[this];intro z;exact W (z ▸ a8)
      .rw[map_append,mem_append]at hb
       rcases hb with hb | hb
       .exact fr b hb
       .have:b=d:=by simpa using hb
        rw[this];exact⟨aS,an⟩
      .rw[map_append,mem_append]at hb
       rcases hb with hb | hb
       .obtain⟨a2,S⟩:=GR.has gr hb
        have:=mv b a2 hb S;rw[C]at this;cases this;exact Nat.le_succ_of_le (yl b _ hb S)
       .have:b=d:=by simpa using hb
        rw[this,ae]at C;cases C;exact Nat.succ_le_succ (Nat.zero_le _)
   .rintro σ F ⟨c,x2,x3,x4,rfl,R,p,gr,nd,fr,kl,yl⟩
    refine⟨.inr (.inr (.inl ⟨rfl,.inl ⟨_,p⟩⟩)),?_⟩;refine⟨g,c,rfl,rfl,p,λv hv=>?_⟩;have sv:Same F (upd F v (.ext (IV v g))):=Same.new hv;refine⟨v,g,c,rfl,ae,sv _ _ p,λr as Y D hr b0 a5 ap=>?_⟩;have sT:=sv.trans D;refine q Y r as c (R.trans sT) ⟨b0,R.free (sv.free hr),a5,λj b k y h1 h2=>(ap j b k y h1 h2).2,?_,nd,λb hb=>⟨(fr b hb).1,λz=>?_⟩⟩
    .have el:ms.take xs.length=ms:=take_of_length_le (by rw[PySem.Paired.length hm];exact Nat.le_refl _)
     rw[el]at gr;exact GR.move sT.tk (λb L _ e=>sT _ _ e) gr
    .obtain⟨L,e⟩:=GR.has gr hb
     rw[z]at e;have:=sv _ _ e;rw[hr]at this;cases this
theorem hU(T:Txt K mg a):FnOk P w K mg base CX0 2 a.f_ag a.d_ag ["crowd"] spParted:=by
 have M:FnOk P w K mg base CX0 1 _ _ _ spGroups:=qe T;refine T.F_ag.ok qA (λvs H Q E h=>?_) (λcdv A outer s H vs Q E hr h=>?_)
 .obtain⟨l,z,xs,rfl,_⟩:=h;rfl
 .obtain⟨l,z,xs,rfl,hl,Z,hz,hn,q⟩:=h
  have G:sizeLine=16777216:=sizeLine_eq;refine⟨_,(ah (aw (aT rfl (N:=["name","members"]) (ix:=[none,none]) ⟨rfl,rfl,rfl,rfl,trivial⟩ (aP (aj M hr rfl T.m_Y T.F_Y.kp T.B_Y .nil ai (aa (vr 0) ac))) ⟨λC s H fp=>(dU (K:=K) (n:=2) rfl rfl (ax (au (i:=0) (show List.Nodup (["name","members"]:List Str) by decide +kernel) rfl (Or.inl rfl)) (ax (au (i:=1) (show List.Nodup (["name","members"]:List Str) by decide +kernel) rfl (Or.inl rfl)) aO))),λC s H fp=>aN,λC s H fp=>(vr 1)⟩))),?_⟩;refine⟨l,z,xs,rfl,hl,Z,hz,hn,λH1 r W c s1 gt=>?_⟩;obtain⟨x,ab,u,I,gr,nd,S⟩:=gt;refine .inl ⟨⟨_,SqL.of x⟩,λD hD=>?_⟩;have F:(ak z).length=c.length:=by unfold ak;rw[length_map];exact Paired.length gr
  have hk:c.length<=24:=by
   rw[<- F];have:=qu z;have:=Paired.length Z;lia
  let Pw1:PvL:=λi B f=>Same H1 f/\f D=some (.lst B)/\i<=c.length/\B=(c.take i).map (·.2)
  refine aM (K:=K) (a:=r) (xs:=W.map V.ref) Pw1 ⟨Same.new hD,ae,Nat.zero_le _,rfl⟩ (λi X f h=>SqL.of (h.1 _ _ x)) (λi X f h=>h.2.1) ?_ ?_
  .rintro i y B f P' o ⟨g,d,hi,rfl⟩ R
   rw[List.getElem?_map]at o
   obtain⟨b,hb,rfl⟩:∃ b,W[i]? = some b/\V.ref b=y:=by
    cases e:W[i]? with
    | none=>rw[e]at o;cases o
    | some b=>rw[e]at o;cases o;exact⟨b,rfl,rfl⟩
   have p:i<c.length:=by rw[<- u];exact(List.getElem?_eq_some_iff.mp hb).1
   have Y:c[i]? = some c[i]:=List.getElem?_eq_getElem p;generalize c[i]=kv at Y;obtain⟨k,v⟩:=kv;have j:=I i b k v hb Y;refine⟨b,_,rfl,SqT.of (g _ _ j),rfl,_,_,rfl,_,_,rfl,rfl,trivial,d,by rw[length_map,length_take];lia,R _ _ ⟨g.put hD,ae,p,?_⟩⟩;rw[take_add_one,Y];simp
  .rintro B f ⟨g,d,_,rfl⟩
   rw[length_map,u,take_length]at d;refine q _ D _ (s1.trans g) d ?_;unfold ak
   have O:∀{L:List (Str×List Mb)}{c:List (Key×V)},GR H1 L c->Paired (CrL f) (L.map (·.2)) (c.map (·.2)):=by
    intro L c h
    induction h with
    | nil=>exact .nil
    | cons r _ ih =>
     obtain⟨_,l,X,r2,r3,r4⟩:=r;exact .cons ⟨l,X,r2,g _ _ r3,r4.tk g.tk⟩ ih
   exact O gr
theorem nz(T:Txt K mg a):FnOk P w K mg base CX0 1 a.f_f a.d_f ["groups"] spOuter:=by
 refine T.F_f.ok iy (λvs H Q E h=>?_) (λcdv A outer s H vs Q E hr h=>?_)
 .obtain⟨v,I,rfl,_⟩:=h;rfl
 .obtain⟨v,I,rfl,⟨l,xs,rfl,hl,hg⟩,aS,ad,q⟩:=h
  have ab:sizeLine=16777216:=sizeLine_eq;refine⟨_,(ah (aw (aT rfl (N:=["number","members"]) (ix:=[none,none]) ⟨rfl,rfl,rfl,rfl,trivial⟩ (dX rfl T.z_enumerate (aa (vr 0) ac)) ⟨λC s H R=>(dU (K:=K) (n:=2) rfl rfl (ax (au (i:=0) (show List.Nodup (["number","members"]:List Str) by decide +kernel) rfl (Or.inl rfl)) (ax (au (i:=1) (show List.Nodup (["number","members"]:List Str) by decide +kernel) rfl (Or.inl rfl)) aO))),λC s H R=>aN,λC s H R=>(aK (aa (vr 0) (aa (av (j7 (K:=K) rfl rfl) rfl T.z_sum dI (aa (aT rfl (N:=["member"]) (ix:=[none]) ⟨rfl,rfl,rfl,rfl,trivial⟩ (pN (K:=K) rfl (vr 1)) ⟨λC s H R=>au (i:=0) (show List.Nodup (["member"]:List Str) by decide +kernel) rfl (Or.inl rfl),λC s H R=>aN,λC s H R=>(aq (aY (K:=K) rfl) (vr 0) ag (λ_ _=>rfl))⟩) ac)) (aa (aK ac) ac))))⟩))),?_⟩;have gl:I.length=xs.length:=Paired.length hg;refine⟨l,xs,rfl,hl,λD hD=>?_⟩;refine fR (a:=l) (xs:=xs) (λi f b=>i<=xs.length/\Same H b/\b D=some (.lst f)/\CrAt b ((Nst.outer I).take i) f) ⟨Nat.zero_le _,Same.new hD,ae,.nil⟩ (λi f b h=>h.2.1 _ _ hl) (λi f b h=>h.2.2.1) ?_ ?_
  .rintro i x f b p P' hx ⟨hi,Z,z,X⟩ hp hP
   have ap:i<xs.length:=(List.getElem?_eq_some_iff.mp hx).1;obtain⟨c,L,lg,O,rfl,M,W⟩:=aL hg hx;have yl:f.length=i:=by rw[<- X.length,length_take,bf];lia
   have cl:=ad c (List.mem_of_getElem? L);have an:c.length=O.length:=Paired.length W;have s2:Same b (upd b p (.tup [.int (i:Nat),.ref lg])):=Same.new hp;refine⟨p,_,rfl,SqT.of ae,rfl,_,_,rfl,_,_,rfl,rfl,trivial,?_⟩;generalize upd b p (.tup [.int (i:Nat),.ref lg])=H1 at s2;have g:=Z.trans s2;refine .inl ⟨⟨_,SqL.of (g _ _ M)⟩,λD2 G=>?_⟩
   let Pw2:PvL:=λj F e=>Same H1 e/\e D2=some (.lst F)/\j<=O.length/\F=((szs c).take j).map V.int
   refine aM (K:=K) (a:=lg) (xs:=O) Pw2 ⟨Same.new G,ae,Nat.zero_le _,rfl⟩ (λj F e h=>SqL.of (h.1 _ _ (g _ _ M))) (λj F e h=>h.2.1) ?_ ?_
   .rintro j y F e P2 hy ⟨Y,d,hj,rfl⟩ al
    obtain⟨m,hm,r,pt,rfl,B,a0⟩:=aL W hy;have as:j<O.length:=(List.getElem?_eq_some_iff.mp hy).1;refine⟨trivial,.inr (.inl ⟨r,_,_,_,rfl,rfl,SqT.of ((g.trans Y) _ _ B),bj 1 rfl rfl,d,?_,al _ _ ⟨Y.put G,ae,as,?_⟩⟩)⟩
    .rw[length_map,length_take];lia
    .have:(szs c)[j]? = some m.2.1:=by unfold szs;rw[List.getElem?_map,hm];rfl
     rw[take_add_one,this,map_append];rfl
   .rintro F e ⟨Y,d,_,rfl⟩
    have es:(szs c).take O.length=szs c:=take_of_length_le (by unfold szs;rw[length_map,an];exact Nat.le_refl _);rw[es]at d;refine⟨D2,szs c,rfl,SqL.of d,?_⟩;refine⟨Nat.zero_le _,λt ht=>?_⟩;have s4:=Same.new (o:=.tup []) ht;have e4:(upd e t (.tup [])) t=some (.tup []):=ae;generalize upd e t (.tup [])=H3 at s4 e4;refine⟨(by decide:3<=sizeLine),λr B=>?_⟩;have s5:=Same.new (o:=.tup [.int (i:Nat),.int (szs c).sum,.ref t]) B;have e5:(upd H3 r (.tup [.int (i:Nat),.int (szs c).sum,.ref t])) r=some (.tup [.int (i:Nat),.int (szs c).sum,.ref t]):=ae;generalize upd H3 r (.tup [.int (i:Nat),.int (szs c).sum,.ref t])=H4 at s5 e5;have u:=s2.trans (Y.trans (s4.trans s5));have S:=u _ _ z;have tk:TK H4 (upd H4 D (.lst (f++[.ref r]))):=TK.lst S;refine⟨S,by lia,hP _ _ ⟨ap,(Z.trans u).put hD,ae,?_⟩⟩
    have eo:(Nst.outer I)[i]? = some ((i:Int),(szs c).sum,[]):=by
     unfold Nst.outer;rw[List.getElem?_map,List.getElem?_zipIdx,L];simp
    rw[take_add_one,eo];exact CrAt.snoc (m:=((i:Int),(szs c).sum,[])) ⟨r,t,rfl,tk _ _ e5,tk _ _ (s5 _ _ e4)⟩ (X.tk (u.tk.trans tk))
  .rintro f b ⟨_,Z,z,X⟩
   refine q _ _ _ Z hD z ?_;rw[<- gl,<- bf I,take_length]at X;exact X
theorem tL(T:Txt K mg a):FnOk P w K mg base CX0 1 a.f_ad a.d_ad ["crowd","groups"] spSpots:=by
 refine T.F_ad.ok sc_ad (λvs H Q E h=>?_) (λcdv A outer s H vs Q E hr h=>?_)
 .obtain⟨l,r,ms,gs,xs,ys,rfl,_⟩:=h;rfl
 .obtain⟨l,r,ms,gs,xs,ys,rfl,hl,hm,as,hg,b',ca,b3,b5,q⟩:=h
  have a':sizeLine=16777216:=sizeLine_eq;have gl:gs.length=ys.length:=Paired.length hg;refine⟨_,(af (ay (i:=2) sc_ad.nd rfl (Or.inr rfl) ny) (af (cb PassesOwn.never rfl (dX rfl T.z_enumerate (aa (vr 1) ac)) (bA rfl (ax (au (i:=3) sc_ad.nd rfl (Or.inl rfl)) (ax (au (i:=4) sc_ad.nd rfl (Or.inl rfl)) aO))) (ah (cb PassesOwn.never rfl (dX rfl T.z_enumerate (aa (vr 4) ac)) (bA rfl (ax (au (i:=5) sc_ad.nd rfl (Or.inl rfl)) (ax (au (i:=6) sc_ad.nd rfl (Or.inl rfl)) aO))) (ah (uB (u8 hr) (vr 2) (aq am (vr 6) ag (λ_ _=>rfl)) (aK (aa (vr 3) (aa (vr 5) ac))) rfl))))) (ah (aw (aT rfl (N:=["member","spots"]) (ix:=[none,some 2]) ⟨rfl,rfl,rfl,rfl,⟨rfl,rfl,rfl,trivial⟩⟩ (aP (vr 0)) ⟨λC s H fp=>au (i:=0) (show List.Nodup (["member","spots"]:List Str) by decide +kernel) rfl (Or.inl rfl),λC s H fp=>aN,λC s H fp=>(ua (u8 hr) (vr 1) (aq (aY (K:=K) rfl) (vr 0) ag (λ_ _=>rfl)) (λ_ _=>rfl))⟩))))),ii ?_⟩;intro ch cs;intro X a8;have s0:Same H (upd H X (.dK [])):=Same.new a8
  let Pw3:PvS:=λi σ d=>Same H d/\∃(c:List (Key×V)) (x3 x4 x5 x6:Option V),σ=[some (.ref l),some (.ref r),some (.ref X),x3,x4,x5,x6]/\d X=some (.dK c)/\c.length<=24*i/\i<=24/\(∀ k v,cm c (.inl k)=some v->Spot d gs k v)/\∀ g S,g<i->gs[g]? = some S->∀ m∈S,(cm c (.inl m.1)).isSome=true
  refine⟨r,ys,rfl,s0 _ _ as,gM (a:=r) (xs:=ys) Pw3
   ⟨s0,[],none,none,none,none,rfl,ae,Nat.zero_le _,Nat.zero_le _,(λk v M=>by cases M),λg S hg=>absurd hg (Nat.not_lt_zero _)⟩ (λi σ d h=>h.1 _ _ as) ?_ ?_⟩
  .rintro i x σ d p hx ⟨s1,c,x3,x4,x5,x6,rfl,hd,b1,a1,L,I⟩ hp
   obtain⟨g,F,lg,yg,rfl,a0,a6⟩:=aL hg hx;have a9:i<ys.length:=(List.getElem?_eq_some_iff.mp hx).1;have b9:=b3 g (List.mem_of_getElem? F);have b6:g.length=yg.length:=Paired.length a6;have G:Same d (upd d p (.tup [.int (i:Nat),.ref lg])):=Same.new hp;refine⟨p,_,rfl,SqT.of ae,rfl,_,_,rfl,_,_,rfl,rfl,?_⟩;have an:=s1.trans G;have a7:=G _ _ hd;have R:∀ k v,cm c (.inl k)=some v->Spot (upd d p (.tup [.int (i:Nat),.ref lg])) gs k v:=λk v M=>(L k v M).tk G.tk
   generalize upd d p (.tup [.int (i:Nat),.ref lg])=H2 at G an a7 R
   let Pw4:PvS:=λj σ W=>Same H W/\∃(c:List (Key×V)) (x5 x6:Option V),σ=[some (.ref l),some (.ref r),some (.ref X),some (.int (i:Nat)),some (.ref lg),x5,x6]/\W X=some (.dK c)/\c.length<=24*i+j/\j<=24/\(∀ k v,cm c (.inl k)=some v->Spot W gs k v)/\(∀ g2 S,g2<i->gs[g2]? = some S->∀ m∈S,(cm c (.inl m.1)).isSome=true)/\∀ m∈g.take j,(cm c (.inl m.1)).isSome=true
   refine⟨lg,yg,rfl,an _ _ a0,gM (a:=lg) (xs:=yg) Pw4
    ⟨an,c,_,_,rfl,a7,by lia,by lia,R,I,λm hm=>by cases hm⟩ (λj σ W h=>h.1 _ _ a0) ?_ ?_⟩
   .rintro j y σ W p3 hy ⟨s3,c,x5,x6,rfl,ap,b2,a2,u,f,Y⟩ b0
    obtain⟨m,a4,ad,pp,rfl,ha,bl⟩:=a6.get hy;have ct:j<yg.length:=(List.getElem?_eq_some_iff.mp hy).1;have s4:Same W (upd W p3 (.tup [.int (j:Nat),.ref ad])):=Same.new b0;refine⟨p3,_,rfl,SqT.of ae,rfl,_,_,rfl,_,_,rfl,rfl,?_⟩;refine⟨by show 2<=sizeLine;decide,λp5 b4=>?_⟩;have s5:=s4.trans (Same.new (o:=.tup [.int (i:Nat),.int (j:Nat)]) b4);have e5:(upd (upd W p3 (.tup [.int (j:Nat),.ref ad])) p5 (.tup [.int (i:Nat),.int (j:Nat)])) p5=some (.tup [.int (i:Nat),.int (j:Nat)]):=ae;generalize upd (upd W p3 (.tup [.int (j:Nat),.ref ad])) p5 (.tup [.int (i:Nat),.int (j:Nat)])=H5 at s5 e5;have a3:=s5 _ _ ap;refine .inr (.inl ⟨ad,_,_,_,rfl,rfl,SqT.of ((s3.trans s5) _ _ ha),bj 0 rfl rfl,X,_,rfl,DPut.k (k:=.inl m.1) a3 (by lia),?_⟩)
    have tk:TK H5 (upd H5 X (.dK (gj c (.inl m.1) (.ref p5)))):=λb zs e=>by
     rw[az λz=>by rw[z,a3]at e;cases e];exact e
    have ab:∀ k:Key,(cm c k).isSome=true->(cm (gj c (.inl m.1) (.ref p5)) k).isSome=true:=λk h=>by
     rw[j8]
     split
     .rfl
     .exact h
    refine⟨(s3.trans s5).put a8,gj c (.inl m.1) (.ref p5),_,_,rfl,ae,?_,by lia,λk v M=>?_,λg2 S h1 h2 m' B=>ab _ (f g2 S h1 h2 m' B),λm' B=>?_⟩
    .have:=r9 c (.inl m.1) (.ref p5);lia
    .rw[j8]at M
     split at M
     .rename_i hk
      cases M;have hk:k=m.1:=by first | exact Sum.inl.inj hk | exact(Sum.inl.inj hk).symm
      rw[hk];exact⟨p5,i,j,rfl,tk _ _ e5,g,m,F,a4,rfl⟩
     .exact((u k v M).tk s5.tk).tk tk
    .rw[take_add_one,a4]at B
     rcases mem_append.mp B with h | h
     .exact ab _ (Y m' h)
     .rw[show m'=m by simpa using h,j8,if_pos rfl];rfl
   .rintro σ W ⟨s3,c,x5,x6,rfl,ap,b2,a2,u,f,Y⟩
    rw[<- b6,take_length]at Y;refine⟨s3,c,_,_,_,_,rfl,ap,by lia,by lia,u,λg2 S h1 h2 m hm=>?_⟩
    rcases Nat.lt_or_ge g2 i with h | h
    .exact f g2 S h h2 m hm
    .have:g2=i:=by lia
     subst this;rw[F]at h2;cases h2;exact Y m hm
  .rintro σ H1 ⟨s1,c,x3,x4,x5,x6,rfl,hd,b1,a1,L,I⟩
   refine .inl ⟨⟨_,SqL.of (s1 _ _ hl)⟩,λD hD=>?_⟩
   let Pw5:PvL:=λi zs d=>Same H1 d/\d D=some (.lst zs)/\i<=xs.length/\sQ d gs (ms.take i) zs
   refine aM (K:=K) (a:=l) (xs:=xs) Pw5 ⟨Same.new hD,ae,Nat.zero_le _,.nil⟩ (λi ys d h=>SqL.of (h.1 _ _ (s1 _ _ hl))) (λi ys d h=>h.2.1) ?_ ?_
   .rintro i y zs d P' hy ⟨G,Z,hi,hz⟩ bm
    obtain⟨m,aS,ad,pp,rfl,ha,bl⟩:=hm.get hy;have a9:i<xs.length:=(List.getElem?_eq_some_iff.mp hy).1;have co:=Paired.length hm;have cc:zs.length<=i:=by rw[<- Paired.length hz,length_take];lia
    obtain⟨g,bN,m',B,bo⟩:=b5 m (List.mem_of_getElem? aS);obtain⟨gi,F⟩:=List.getElem?_of_mem bN;have a5:gi<ys.length:=by rw[<- gl];exact(List.getElem?_eq_some_iff.mp F).1
    have O:=I gi g a5 F m' B;rw[bo]at O;obtain⟨v,M⟩:=Option.isSome_iff_exists.mp O;have al:=(L _ v M).tk G.tk;have tk:TK d (upd d D (.lst (zs++[v]))):=TK.lst Z;refine⟨⟨rfl,trivial⟩,.inr (.inl ⟨ad,_,_,_,rfl,rfl,SqT.of (G _ _ (s1 _ _ ha)),bj 0 rfl rfl,X,v,rfl,(by show DGet _ X (.int m.1) _;rw[<- M];exact DGet.k (k:=.inl m.1) (G _ _ hd)),Z,by lia,bm _ _ ⟨G.put hD,ae,a9,fE (aH (λm z h=>h.tk tk) hz) aS (al.tk tk)⟩⟩)⟩
   .rintro zs d ⟨G,Z,_,hz⟩
    rw[<- Paired.length hm,take_length]at hz;exact q _ D zs (s1.trans G) Z hz
end
open Nm (dL fY gp bi eS fAt eL seat cU ent)
def IsLam(H:Hp)(d:LamD)(fv:List Str)(v:V)(vals:List V):Prop:=∃ f c clos,v=.ref f/\H f=some (.ext (ji f d clos c))/\H c=some (.ext (ik c d.qual))/\clos.map (·.1)=fv/\(clos.map (·.2)).Nodup/\CellsAt H clos vals
theorem pv{H a:Hp}(s:SameT H a):∀{clos:List (Str×Addr)}{vals:List V},CellsAt H clos vals->CellsAt a clos vals
 | _,_,.nil=>.nil
 | _,_,.cons r t=>.cons (s.at r) (pv s t)
theorem IsLam.t{H g:Hp}{d:LamD}{e:List Str}{v:V}{a:List V}(s:SameT H g)(h:IsLam H d e v a):IsLam g d e v a:=by
 obtain⟨f,c,b,j,l,p,o,i,r⟩:=h;exact⟨f,c,b,j,s.at l,s.at p,o,i,pv s r⟩
def sqO:HO->Bool
 | .lst _=>true
 | .tup _=>true
 | _=>false
def SQ(H H':Hp):Prop:=∀ b o,sqO o=true->H b=some o->H' b=some o
theorem SQ.of{H a:Hp}(s:SameT H a):SQ H a:=λb o c e=>s.at e (by cases o <;> first | rfl | cases c)
theorem SQ.un{H:Hp}{a:List (Str×Addr)}{d:List V}(f:CellsAt H a d):SQ H (fA H (a.map (·.2))):=λb o c e=>fU f e λv z=>by rw[z]at c;cases c
theorem SQ.tk{H a:Hp}(s:SQ H a):TK H a:=λb c e=>s b _ rfl e
theorem kg{H d c:Hp}{a:List (Str×Addr)}(s:Same (fA H (a.map (·.2))) d)(g:Same d c)(f:∀ p∈a,c p.2=H p.2):Same H c:=λb o e=>by
 by_cases hb:b∈a.map (·.2)
 .obtain⟨p,h,rfl⟩:=mem_map.mp hb
  rw[f p h];exact e
 .exact g _ _ (s b o (by rw[i6 hb];exact e))
abbrev RE:=Nat->Nat->Int×Int->Prop
def RowM(K:Frag)(R:RE)(H:Hp)(n i:Nat)(x:V):Prop:=∃ r es,x=.ref r/\H r=some (.lst es)/\es.length=n/\∀(j:Nat) y,es[j]? = some y->∃ f,IsF K H f y/\R i j f
def Mx(K:Frag)(R:RE)(H:Hp)(n:Nat)(v:V):Prop:=∃ l rows,v=.ref l/\H l=some (.lst rows)/\rows.length=n/\∀(i:Nat) x,rows[i]? = some x->RowM K R H n i x
theorem RowM.q{K:Frag}{R:RE}{H a:Hp}{n i:Nat}{x:V}(s:SQ H a)(h:RowM K R H n i x):RowM K R a n i x:=by
 obtain⟨r,c,b,d,p,l⟩:=h;refine⟨r,c,b,s _ _ rfl d,p,λj y e=>?_⟩;obtain⟨f,g,o⟩:=l j y e;exact⟨f,g.tk s.tk,o⟩
theorem Mx.q{K:Frag}{R:RE}{H b:Hp}{n:Nat}{v:V}(s:SQ H b)(h:Mx K R H n v):Mx K R b n v:=by
 obtain⟨l,a,c,d,g,f⟩:=h;exact⟨l,a,c,s _ _ rfl d,g,λi x e=>(f i x e).q s⟩
theorem RowM.cut{K:Frag}{R:RE}{H:Hp}{n i:Nat}{r D:Addr}{a:List V}(v:H D=some (.lst a))(u:r≠D)(h:RowM K R H n i (.ref r)):RowM K R (gA H D) n i (.ref r):=by
 obtain⟨x,c,g,d,l,p⟩:=h;cases g;refine⟨r,c,rfl,by rw[dk u];exact d,l,λj y e=>?_⟩;obtain⟨f,o,s⟩:=p j y e;exact⟨f,o.tk λb w e=>by rw[dk λz=>by rw[z,v]at e;cases e];exact e,s⟩
theorem Mx.cut{K:Frag}{R:RE}{H:Hp}{n:Nat}{v:V}{D:Addr}{c:List V}(p:H D=some (.lst c))(o:∀ l rows,v=.ref l->H l=some (.lst rows)->l≠D/\∀ r,V.ref r∈rows->r≠D)(h:Mx K R H n v):Mx K R (gA H D) n v:=by
 obtain⟨l,rows,rfl,b,g,j⟩:=h;obtain⟨f,d⟩:=o l rows rfl b;refine⟨l,rows,rfl,by rw[dk f];exact b,g,λi x e=>?_⟩;have a:=j i x e;obtain⟨r,s,rfl,_⟩:=id a;exact a.cut p (d r (List.mem_of_getElem? e))
theorem pF{H:Hp}{D:Addr}:SQ (gA H D) H:=λb a _ e=>by
 by_cases hb:b=D
 .rw[hb,dg]at e;cases e
 .rw[dk hb]at e;exact e
def Ans(K:Frag)(R:RE)(i j:Nat)(H:Hp)(Q:VK):Prop:=∀ H' x f,Same H H'->IsF K H' f x->R i j f->Q x H'
abbrev EF:=Nat->Nat->Int×Int
def Ex(e:EF):RE:=λi j f=>f=e i j
abbrev fvW:List Str:=["wanted","there"]
abbrev fvX:List Str:=["spots","outer","blocks"]
abbrev uI:List Str:=["step"]
abbrev uG:List Str:=["told"]
structure LMx(K:Frag)(H:Hp)(lt:Addr)(fs:List (Int×Int)):Prop where
 l:∃ xs,H lt=some (.lst xs)/\AllF K H fs xs
 q:∀ f∈fs,FrOk f
theorem LMx.q_{K:Frag}{H b:Hp}{a:Addr}{fs:List (Int×Int)}(s:SQ H b)(M:LMx K H a fs):LMx K b a fs:=let ⟨xs,a1,a2⟩:=M.l;⟨⟨xs,s _ _ rfl a1,a2.tk s.tk⟩,M.q⟩
def GOk(K:Frag)(ms:List Mb)(ie:List Mb->EF)(oe:EF)(H:Hp)(sp ou bl:V):Prop:=(plc ms).Nodup/\(∀ i j,i<(ak ms).length->j<(ak ms).length->Nm.Ok 60 (oe i j))/\(∀ c∈ak ms,∀ i j,i<c.length->j<c.length->Nm.Ok 420 (ie c i j))/\∃(ls lb:Addr) (zs bs:List V),sp=.ref ls/\bl=.ref lb/\H ls=some (.lst zs)/\sQ H (ak ms) ms zs/\Mx K (Ex oe) H (ak ms).length ou/\H lb=some (.lst bs)/\Paired (λ(g:List Mb) v=>Mx K (Ex (ie g)) H g.length v) (ak ms) bs
theorem GOk.q{K:Frag}{c:List Mb}{ie:List Mb->EF}{oe:EF}{H b:Hp}{sp d a:V}(s:SQ H b)(h:GOk K c ie oe H sp d a):GOk K c ie oe b sp d a:=by
 obtain⟨x,r,B,l,o,e,y,i,p,A,f,u,w,j⟩:=h;exact⟨x,r,B,l,o,e,y,i,p,s _ _ rfl A,aH (λm z h=>h.tk s.tk) f,u.q s,s _ _ rfl w,aH (λg v h=>h.q s) j⟩
theorem rE{a:List Mb}{ie:List Mb->EF}{oe:EF}(r:(plc a).Nodup){i j g s g' s':Nat}{m d:Mb}{c b:List Mb}(f:a[i]? = some m)(v:a[j]? = some d)(h:Nm.At (ak a) g s m.1)(h':Nm.At (ak a) g' s' d.1)(o:(ak a)[g]? = some c)(e:(ak a)[g']? = some b) :
  cU ie oe a i j=dL (oe g g') (if g=g' then ie c s s' else dL (ie c s s) (ie b s' s')):=by
 have u:=Nm.parts_uq r;have l:(plc a).getD i 0=m.1:=by unfold plc;rw[List.getD_eq_getElem?_getD,List.getElem?_map,f];rfl
 have x:(plc a).getD j 0=d.1:=by unfold plc;rw[List.getD_eq_getElem?_getD,List.getElem?_map,v];rfl
 have p:(ak a).getD g []=c:=by rw[List.getD_eq_getElem?_getD,o];rfl
 have w:(ak a).getD g' []=b:=by rw[List.getD_eq_getElem?_getD,e];rfl
 unfold cU;simp only[l,x,Nm.seat_at u h,Nm.seat_at u h',p,w]
def xn(K:Frag):List V->Sp:=λvals vs H Q _=>∃ n w i j:Nat,vals=[.int (w:Nat),.int (n:Nat)]/\vs=[.int (i:Nat),.int (j:Nat)]/\w<=n/\n<=24/\i<n/\j<n/\Ans K (Ex (bi n w)) i j H Q
def xW(K:Frag):List V->Sp:=λvals vs H Q _=>∃ st i j:Nat,vals=[.int (st:Nat)]/\vs=[.int (i:Nat),.int (j:Nat)]/\1<=st/\st<=100/\Ans K (Ex (eS st)) i j H Q
def wQ(K:Frag):List V->Sp:=λvals vs H Q _=>∃(lt:Addr) (fs:List (Int×Int)) (i j:Nat),vals=[.ref lt]/\vs=[.int (i:Nat),.int (j:Nat)]/\LMx K H lt fs/\i<fs.length/\j<fs.length/\Ans K (Ex (eL fs)) i j H Q
def xm(K:Frag):List V->Sp:=λvals vs H Q _=>∃ i j:Nat,vals=[]/\vs=[.int (i:Nat),.int (j:Nat)]/\Ans K (Ex λ_ _=>(1,1)) i j H Q
def wR(K:Frag):List V->Sp:=λvals vs H Q _=>∃(ms:List Mb) (ie:List Mb->EF) (oe:EF) (i j:Nat) (sp ou bl:V),vals=[sp,ou,bl]/\vs=[.int (i:Nat),.int (j:Nat)]/\GOk K ms ie oe H sp ou bl/\i<ms.length/\j<ms.length/\Ans K (Ex (cU ie oe ms)) i j H Q
def TellsAt(K:Frag)(e:EF)(H:Hp)(n:Nat)(v:V):Prop:=(n<=24/\∃ w:Nat,w<=n/\e=bi n w/\IsLam H ce fvW v [.int (w:Nat),.int (n:Nat)])\/(∃ st:Nat,1<=st/\st<=100/\e=eS st/\IsLam H bI uI v [.int (st:Nat)])\/(∃ lt fs,IsLam H bJ uG v [.ref lt]/\LMx K H lt fs/\fs.length=n/\e=eL fs)\/(e=(λ_ _=>(1,1))/\IsLam H bV [] v [])\/∃ ms ie oe,e=cU ie oe ms/\ms.length=n/\∃ sp ou bl,IsLam H bz fvX v [sp,ou,bl]/\GOk K ms ie oe H sp ou bl
theorem TellsAt.same{K:Frag}{e:EF}{H f:Hp}{n:Nat}{v:V}(s:Same H f)(h:TellsAt K e H n v):TellsAt K e f n v:=by
 rcases h with⟨b,w,a,c,d⟩ | ⟨g,b,a,c,d⟩ | ⟨r,p,a,c,d⟩ | ⟨b,a⟩ | ⟨l,i,j,b,x,o,u,y,a,c⟩
 .exact .inl ⟨b,w,a,c,d.t s.t⟩
 .exact .inr (.inl ⟨g,b,a,c,d.t s.t⟩)
 .exact .inr (.inr (.inl ⟨r,p,a.t s.t,c.q_ (SQ.of s.t),d⟩))
 .exact .inr (.inr (.inr (.inl ⟨b,a.t s.t⟩)))
 .exact .inr (.inr (.inr (.inr ⟨l,i,j,b,x,o,u,y,a.t s.t,c.q (SQ.of s.t)⟩)))
theorem lsW:LamScope ce fvW ["one","other"]:=⟨rfl,rfl,rfl,by decide +kernel,by decide +kernel,by decide +kernel,by decide +kernel,by decide +kernel⟩
theorem yp:LamScope bI uI ["one","other"]:=⟨rfl,rfl,rfl,by decide +kernel,by decide +kernel,by decide +kernel,by decide +kernel,by decide +kernel⟩
theorem yD:LamScope bJ uG ["one","other"]:=⟨rfl,rfl,rfl,by decide +kernel,by decide +kernel,by decide +kernel,by decide +kernel,by decide +kernel⟩
theorem lsE:LamScope bV [] ["one","other"]:=⟨rfl,rfl,rfl,by decide +kernel,by decide +kernel,by decide +kernel,by decide +kernel,by decide +kernel⟩
theorem lsX:LamScope bz fvX ["one","other"]:=⟨rfl,rfl,rfl,by decide +kernel,by decide +kernel,by decide +kernel,by decide +kernel,by decide +kernel⟩
inductive spChance(K:Frag)(vs:List V)(H:Hp)(Q:VK)(_E:XK):Prop
 | mk(n w i j:Nat)(h0:vs=[.int (n:Nat),.int (w:Nat),.bl (decide (i=j))])(h1:w<=n)(h2:n<=24)(h3:i<n)(h4:j<n)(h5:Ans K (Ex (bi n w)) i j H Q):spChance K vs H Q _E
inductive spSpotC(K:Frag)(vs:List V)(H:Hp)(Q:VK)(_E:XK):Prop
 | mk(ms:List Mb)(ie:List Mb->EF)(oe:EF)(i j:Nat)(sp ou bl z z':V)(ls:Addr)(zs:List V)(h0:vs=[bl,ou,z,z'])(h1:GOk K ms ie oe H sp ou bl)(h2:sp=.ref ls)(h3:H ls=some (.lst zs))(h4:zs[i]? = some z)(h5:zs[j]? = some z')(h6:Ans K (Ex (cU ie oe ms)) i j H Q):spSpotC K vs H Q _E
inductive spMRow(K:Frag)(vs:List V)(H:Hp)(Q:VK)(_E:XK):Prop
 | mk(n i:Nat)(r:EF)(v:V)(h0:vs=[.int (i:Nat),.int (n:Nat),v])(h1:i<n)(h2:n<=24)(h3:TellsAt K r H n v)(h4:∀ H' p,Same H H'->H p=none->RowM K (Ex r) H' n i (.ref p)->Q (.ref p) H'):spMRow K vs H Q _E
inductive spMBy(K:Frag)(vs:List V)(H:Hp)(Q:VK)(_E:XK):Prop
 | mk(n:Nat)(r:EF)(v:V)(h0:vs=[.int (n:Nat),v])(h1:n<=24)(h2:TellsAt K r H n v)(h3:∀ H' p rows,Same H H'->H p=none->H' p=some (.lst rows)->(∀ q,V.ref q∈rows->H q=none)->Mx K (Ex r) H' n (.ref p)->Q (.ref p) H'):spMBy K vs H Q _E
theorem oh{i j st:Nat}(h:0<st):((i:Int) - (j:Int)) % (st:Int)=0↔i % st=j % st:=by
 rw[<- Int.emod_eq_emod_iff_emod_sub_eq_zero]
 constructor
 .intro e;exact_mod_cast e
 .intro e;exact_mod_cast e
theorem tN(st:Int)(h:0<st):gB 1 st=(1,st):=by
 unfold gB;have:Int.gcd 1 st=1:=by simp
 rw[this];simp
section
variable {P:Program}{w:World}{K:Frag}{mg:Str->Option Value}{base:Heap}{a:Ad}
theorem uC{H:Hp}{fs:List (Int×Int)}{xs:List V}(b:AllF K H fs xs){i:Nat}(a:i<fs.length):∃ x,xs[i]? = some x/\IsF K H (fAt fs i) x:=by
 obtain⟨x,c,d⟩:=eI b (List.getElem?_eq_getElem a);refine⟨x,c,?_⟩;unfold fAt;rw[List.getD_eq_getElem?_getD,List.getElem?_eq_getElem a];exact d
theorem pW(T:Txt K mg a):FnOk P w K mg base CX0 3 a.f_aj a.d_aj ["there","wanted","is_same"] (spChance K):=by
 have c:FnOk P w K mg base CX0 2 _ _ _ spLow:=iQ T;refine T.F_aj.ok kE (λu H Q E h=>?_) (λcdv A outer s H u Q E hr h=>?_)
 .obtain⟨n,f,i,j,rfl,_⟩:=h;rfl
 .obtain⟨n,f,i,j,rfl,D,z,B,C,q⟩:=h
  have o:Bt 11 (n:Int):=by unfold Bt;lia
  have l:Bt 11 (f:Int):=by unfold Bt;lia
  refine⟨_,(af (aI (dY (vr 2)) (ah (aw (aj c hr rfl T.m_X T.F_X.kp T.B_X .nil ai (aa (vr 1) (aa (vr 0) ac))))) aD) (ah (aw (aj c hr rfl T.m_X T.F_X.kp T.B_X .nil ai (aa (aA bF (vr 1) (aA d9 (vr 1) ag)) (aa (aA bF (vr 0) (aA d9 (vr 0) ag)) ac)))))),cL ?_⟩;intro y
  by_cases e:i=j
  .rw[decide_eq_true e]
   exact⟨_,_,rfl,by lia,l.mono (by decide),o.mono (by decide),λx p d g=>q _ _ _ d ⟨p,rfl,.inl g⟩ (by unfold Ex bi fY gp;rw[if_pos e,if_pos e])⟩
  .rw[decide_eq_false e]
   have b:(0:Int)<(n:Int)*((n:Int) - 1):=Int.mul_pos (by lia) (by lia);have v:Bt 11 ((f:Int) - 1):=by unfold Bt;lia
   have r:Bt 11 ((n:Int) - 1):=by unfold Bt;lia
   exact⟨clB (by lia) (by lia),clB (by lia) (by lia),_,_,rfl,b,(l.mul v).mono (by decide),(o.mul r).mono (by decide),λx p d g=>q _ _ _ d ⟨p,rfl,.inl g⟩ (by unfold Ex bi fY gp;rw[if_neg e,if_neg e])⟩
theorem xN(T:Txt K mg a):gI P w K mg base 4 ce fvW ["one","other"] (xn K):=by
 have b:FnOk P w K mg base CX0 3 _ _ _ (spChance K):=pW T;refine ki lsW (λD o d c z B=>match z,B with | [_,_],_=>rfl) (λvals vs H Q E h=>?_) (λA outer s H f c d vals vs Q E hr hfv ca h=>?_)
 .obtain⟨n,g,i,j,rfl,rfl,_⟩:=h;rfl
 .obtain⟨n,g,i,j,rfl,rfl,C,l,u,y,q⟩:=h
  refine⟨_,(aj b hr rfl T.m_aj T.F_aj.kp T.B_aj .nil ai (aa (vr 3) (aa (vr 2) (aa (iK be (vr 0) (vr 1) (aB _)) ac)))),?_⟩
  have e:(decide ((i:Int)=(j:Int)))=decide (i=j):=by
   by_cases h:i=j
   .subst h;simp
   .rw[decide_eq_false h,decide_eq_false (by lia)]
  refine⟨n,g,i,j,?_,C,l,u,y,λF x f r p v=>λH3 s3 hc=>q _ x f (kg r s3 hc) (p.same s3) v⟩;show [V.int (n:Int),V.int (g:Int),V.bl (decide ((i:Int)=(j:Int)))]=_;rw[e]
theorem wA(T:Txt K mg a):gI P w K mg base 4 bI uI ["one","other"] (xW K):=by
 have o:FnOk P w K mg base CX0 3 _ _ _ _:=(iQ T).mono (by decide);refine ki yp (λD r e c v x=>match v,x with | [_,_],_=>rfl) (λvals vs H Q E h=>?_) (λA outer s H f c e vals vs Q E hr hfv ca h=>?_)
 .obtain⟨b,i,j,rfl,rfl,_⟩:=h;rfl
 .obtain⟨b,i,j,rfl,rfl,C,F,q⟩:=h
  refine⟨_,(gQ (aG be (aA cP (aA d9 (vr 0) (vr 1)) (vr 2)) ag (aB _)) (aj o hr rfl T.m_X T.F_X.kp T.B_X .nil ai (aa ag (aa (vr 2) ac))) (dz rfl T.g_NOUGHT)),?_⟩;have d:(0:Int)<(b:Int):=by lia
  refine⟨cp d,?_⟩;refine ifC (λc=>?_) λc=>?_
  .have c:((i:Int) - (j:Int)) % (b:Int)=0:=c
   have c:=(oh (by lia)).mp c;exact⟨1,(b:Int),rfl,d,(show Bt 1 (1:Int) by unfold Bt;decide).mono (by decide),(show Bt 10 (b:Int) by unfold Bt;lia).mono (by decide),λG p u B=>λy g l=>q _ _ _ (kg u g l) ⟨p,rfl,.inl (g _ _ B)⟩ (by unfold Ex eS;rw[if_pos c,tN _ d])⟩
  .have c:¬((i:Int) - (j:Int)) % (b:Int)=0:=c
   have c:¬i % b=j % b:=λz=>c ((oh (by lia)).mpr z)
   exact λy g l=>q _ _ (0,1) (kg (Same.refl _) g l) ⟨a.k_NOUGHT,rfl,.inr T.t_NOUGHT⟩ (by unfold Ex eS;rw[if_neg c])
theorem wH(T:Txt K mg a):gI P w K mg base 4 bJ uG ["one","other"] (wQ K):=by
 have l:FnOk P w K mg base CX0 3 _ _ _ (spTimes K):=nB T;refine ki yD (λZ R g c O W=>match O,W with | [_,_],_=>rfl) (λvals vs H Q E h=>?_) (λA outer s H f c g vals vs Q E hr hfv ca h=>?_)
 .obtain⟨o,u,i,j,rfl,rfl,_⟩:=h;rfl
 .obtain⟨o,u,i,j,rfl,rfl,M,D,G,q⟩:=h
  refine⟨_,(gQ (aG be (vr 0) (vr 1) (aB _)) (aq am (vr 2) (vr 0) (λ_ _=>rfl)) (aj l hr rfl T.m_ap T.F_ap.kp T.B_ap .nil ai (aa (aq am (vr 2) (vr 0) (λ_ _=>rfl)) (aa (aq am (vr 2) (vr 1) (λ_ _=>rfl)) ac)))),?_⟩;have M:=M.q_ (SQ.un ca);obtain⟨xs,b,B⟩:=M.l;obtain⟨C,e,F⟩:=uC B D;obtain⟨I,r,N⟩:=uC B G;have at_:∀{i},i<u.length->Nm.Ok 30 (fAt u i):=λ{i} h=>Nm.fr_ok (M.q _ (by unfold fAt;rw[List.getD_eq_getElem?_getD,List.getElem?_eq_getElem h];exact getElem_mem h))
  refine ifC (λc=>?_) λc=>?_
  .have c:i=j:=by have c:(i:Int)=(j:Int):=c;lia
   refine .inl ⟨o,_,_,C,rfl,rfl,SqL.of b,aU e,?_⟩;exact λL d x=>q _ _ _ (kg (Same.refl _) d x) (F.same d) (by unfold Ex eL;rw[if_pos c])
  .have c:¬i=j:=λz=>c (by show(i:Int)=(j:Int);lia)
   refine .inl ⟨o,_,_,C,rfl,rfl,SqL.of b,aU e,.inl ⟨o,_,_,I,rfl,rfl,SqL.of b,aU r,?_⟩⟩;have v:=at_ D;have y:=at_ G;exact⟨_,_,_,_,rfl,F,N,v.2.2.1,y.2.2.1,v.bt.1.mono (by decide),v.bt.2.mono (by decide),y.bt.1.mono (by decide),y.bt.2.mono (by decide),λY p S X=>λL d x=>q _ _ _ (kg S d x) ⟨p,rfl,.inl (d _ _ X)⟩ (by unfold Ex eL;rw[if_neg c];rfl)⟩
theorem w9(T:Txt K mg a):gI P w K mg base 4 bV [] ["one","other"] (xm K):=by
 refine ki lsE (λp d b c l o=>match l,o with | [_,_],_=>rfl) (λvals vs H Q E h=>?_) (λA outer s H f c b vals vs Q E hr hfv ca h=>?_)
 .obtain⟨i,j,rfl,rfl,_⟩:=h;rfl
 .obtain⟨i,j,rfl,rfl,q⟩:=h
  refine⟨_,(dz rfl T.g_WHOLE),?_⟩;exact λr g e=>q _ _ (1,1) (kg (Same.refl _) g e) ⟨_,rfl,.inr T.t_WHOLE⟩ rfl
theorem mZ{H:Hp}{R:RE}{n:Nat}{v:V}(h:Mx K R H n v){i j:Nat}(w:i<n)(x:j<n):∃ l rows r es y f,v=.ref l/\H l=some (.lst rows)/\rows[i]? = some (.ref r)/\H r=some (.lst es)/\es[j]? = some y/\IsF K H f y/\R i j f:=by
 obtain⟨l,rows,c,o,A,s⟩:=h;have a:rows[i]? = some (rows[i]'(by lia)):=List.getElem?_eq_getElem _;obtain⟨r,es,p,u,z,g⟩:=s i _ a;have b:es[j]? = some (es[j]'(by lia)):=List.getElem?_eq_getElem _;obtain⟨f,e,d⟩:=g j _ b;exact⟨l,rows,r,es,_,f,c,o,by rw[a,p],u,b,e,d⟩
theorem rV(T:Txt K mg a):FnOk P w K mg base CX0 4 a.f_D a.d_D ["blocks","outer","one","other"] (spSpotC K):=by
 have D:FnOk P w K mg base CX0 3 _ _ _ (spTimes K):=nB T;refine T.F_D.ok sc_D (λvs H Q E h=>?_) (λcdv A outer s H vs Q E hr h=>?_)
 .obtain⟨Y,ie,oe,i,j,sp,ou,bl,z,z',ls,zs,rfl,_⟩:=h;rfl
 .obtain⟨Y,ie,oe,i,j,sp,ou,bl,z,z',a5,a7,rfl,⟨nd,o1,o2,ls,lb,zs,bs,rfl,rfl,g3,g5,g6,g7,g8⟩,e0,W,hz,al,q⟩:=h
  cases e0;rw[g3]at W;cases W;refine⟨_,(af (d4 (vr 2) (bA rfl (ax (au (i:=4) sc_D.nd rfl (Or.inl rfl)) (ax (au (i:=5) sc_D.nd rfl (Or.inl rfl)) aO)))) (af (d4 (vr 3) (bA rfl (ax (au (i:=6) sc_D.nd rfl (Or.inl rfl)) (ax (au (i:=7) sc_D.nd rfl (Or.inl rfl)) aO)))) (af (aI (aG be (vr 4) (vr 6) (aB _)) (ah (ay (i:=8) sc_D.nd rfl (Or.inl rfl) (aq am (aq am (aq am (vr 0) (vr 4) (λ_ _=>rfl)) (vr 5) (λ_ _=>rfl)) (vr 7) (λ_ _=>rfl)))) (ah (ay (i:=8) sc_D.nd rfl (Or.inl rfl) (aj D hr rfl T.m_ap T.F_ap.kp T.B_ap .nil ai (aa (aq am (aq am (aq am (vr 0) (vr 4) (λ_ _=>rfl)) (vr 5) (λ_ _=>rfl)) (vr 5) (λ_ _=>rfl)) (aa (aq am (aq am (aq am (vr 0) (vr 6) (λ_ _=>rfl)) (vr 7) (λ_ _=>rfl)) (vr 7) (λ_ _=>rfl)) ac)))))) (ah (aw (aj D hr rfl T.m_ap T.F_ap.kp T.B_ap .nil ai (aa (aq am (aq am (vr 1) (vr 4) (λ_ _=>rfl)) (vr 6) (λ_ _=>rfl)) (aa (vr 8) ac)))))))),nq ?_⟩;intro a3 a6 a8;obtain⟨m,hm,p,g,G,rfl,hp,I⟩:=aL g5 hz;obtain⟨m',ab,p',B,s2,rfl,ad,S⟩:=aL g5 al;obtain⟨l1,x1,M,d,_⟩:=id I;obtain⟨l2,x2,u,b,_⟩:=id S;have d:=(List.getElem?_eq_some_iff.mp d).1;have b:=(List.getElem?_eq_some_iff.mp b).1;have e:=rE (ie:=ie) (oe:=oe) nd hm ab I S M u;have R:g<(ak Y).length:=(List.getElem?_eq_some_iff.mp M).1;have C:B<(ak Y).length:=(List.getElem?_eq_some_iff.mp u).1;obtain⟨vb,F,mb⟩:=eI g8 M;obtain⟨a4,x,an⟩:=eI g8 u;refine⟨p,_,rfl,SqT.of hp,rfl,_,_,rfl,_,_,rfl,rfl,?_⟩;refine⟨p',_,rfl,SqT.of ad,rfl,_,_,rfl,_,_,rfl,rfl,?_⟩;obtain⟨lo,ro,ra,eo,yo,fo,rfl,ap,o3,o4,o5,o6,rfl⟩:=mZ g6 R C;have oo:=o1 g B R C;have O:=o2 l1 (List.mem_of_getElem? M);have aS:=o2 l2 (List.mem_of_getElem? u)
  have o:∀{L:Hp}{y:V}{f:Int×Int},Same H L->IsF K L f y->Nm.Ok 840 f->cU ie oe Y i j=dL (oe g B) f->rIx K (.ref lo) (.int (g:Nat)) L λv H2=>rIx K v (.int (B:Nat)) H2 λv2 H3=>spTimes K [v2,y] H3 Q (λ_ _ _=>False):=λ{L y f} G hy hf ef=>by
   refine .inl ⟨lo,_,_,_,rfl,rfl,SqL.of (G _ _ ap),aU o3,.inl ⟨ra,_,_,_,rfl,rfl,SqL.of (G _ _ o4),aU o5,?_⟩⟩;exact⟨yo,y,_,f,rfl,o6.same G,hy,oo.2.2.1,hf.2.2.1,oo.bt.1.mono (by decide),oo.bt.2.mono (by decide),hf.bt.1.mono (by decide),hf.bt.2.mono (by decide),λH' p s2 hx=>q _ _ _ (G.trans s2) ⟨p,rfl,.inl hx⟩ (by unfold Ex;rw[ef];rfl)⟩
  refine ifC (λc=>?_) λc=>?_
  .have c:g=B:=by have c:(g:Int)=(B:Int):=c;lia
   subst c;rw[M]at u;cases u;rw[F]at x;cases x;rw[if_pos rfl]at e;obtain⟨l,N,r,es,y,f,rfl,k2,k3,k4,k5,k6,rfl⟩:=mZ mb d b;refine .inl ⟨lb,_,_,_,rfl,rfl,SqL.of g7,aU F,.inl ⟨l,_,_,_,rfl,rfl,SqL.of k2,aU k3,.inl ⟨r,_,_,_,rfl,rfl,SqL.of k4,aU k5,?_⟩⟩⟩;exact o (Same.refl H) k6 ((O _ _ d b).up (by decide)) e
  .have c:¬g=B:=λz=>c (by show(g:Int)=(B:Int);lia)
   rw[if_neg c]at e;obtain⟨l,N,r,es,y,f,rfl,k2,k3,k4,k5,k6,rfl⟩:=mZ mb d d;obtain⟨l',as,r',a0,y',f',rfl,m2,m3,m4,m5,m6,rfl⟩:=mZ an b b;refine .inl ⟨lb,_,_,_,rfl,rfl,SqL.of g7,aU F,.inl ⟨l,_,_,_,rfl,rfl,SqL.of k2,aU k3,.inl ⟨r,_,_,_,rfl,rfl,SqL.of k4,aU k5,?_⟩⟩⟩;refine .inl ⟨lb,_,_,_,rfl,rfl,SqL.of g7,aU x,.inl ⟨l',_,_,_,rfl,rfl,SqL.of m2,aU m3,.inl ⟨r',_,_,_,rfl,rfl,SqL.of m4,aU m5,?_⟩⟩⟩;have X:=O _ _ d d;have Z:=aS _ _ b b;refine⟨y,y',_,_,rfl,k6,m6,X.2.2.1,Z.2.2.1,X.bt.1.mono (by decide),X.bt.2.mono (by decide),Z.bt.1.mono (by decide),Z.bt.2.mono (by decide),λL p G hx=>?_⟩;exact o G ⟨p,rfl,.inl hx⟩ (Nm.ok_mul X Z) e
theorem xI(T:Txt K mg a):gI P w K mg base 5 bz fvX ["one","other"] (wR K):=by
 have p:FnOk P w K mg base CX0 4 _ _ _ (spSpotC K):=rV T;refine ki lsX (λY D d c C I=>match C,I with | [_,_],_=>rfl) (λvals vs H Q E h=>?_) (λA outer s H f c d vals vs Q E hr hfv ca h=>?_)
 .obtain⟨l,z,v,i,j,G,u,M,rfl,rfl,_⟩:=h;rfl
 .obtain⟨l,z,v,i,j,G,u,M,rfl,rfl,R,Z,hj,q⟩:=h
  refine⟨_,(aj p hr rfl T.m_D T.F_D.kp T.B_D .nil ai (aa (vr 4) (aa (vr 3) (aa (aq am (vr 2) (vr 0) (λ_ _=>rfl)) (aa (aq am (vr 2) (vr 1) (λ_ _=>rfl)) ac))))),?_⟩;have e:=R.q (SQ.un ca);obtain⟨_,_,_,g,N,b,X,rfl,rfl,o,L,_⟩:=id e;have S:l.length=b.length:=Paired.length L;have y:b[i]? = some (b[i]'(by lia)):=List.getElem?_eq_getElem _;have r:b[j]? = some (b[j]'(by lia)):=List.getElem?_eq_getElem _;refine .inl ⟨g,_,_,_,rfl,rfl,SqL.of o,aU y,.inl ⟨g,_,_,_,rfl,rfl,SqL.of o,aU r,?_⟩⟩;exact⟨l,z,v,i,j,.ref g,u,.ref N,_,_,g,b,rfl,e,rfl,o,y,r,λW x f F B O=>λH3 s3 hc=>q _ x f (kg F s3 hc) (B.same s3) O⟩
theorem uu(T:Txt K mg a):FnOk P w K mg base CX0 6 a.f_ai a.d_ai ["one","many","tell"] (spMRow K):=by
 have Y:gI P w K mg base 5 ce fvW ["one","other"] (xn K):=λA d s H f c b M u g Q E l=>xN T A d s H f c b M u g Q E (l.mono (by decide))
 have W:gI P w K mg base 5 bI uI ["one","other"] (xW K):=λA d s H f c b M u g Q E l=>wA T A d s H f c b M u g Q E (l.mono (by decide))
 have Z:gI P w K mg base 5 bJ uG ["one","other"] (wQ K):=λA d s H f c b M u g Q E l=>wH T A d s H f c b M u g Q E (l.mono (by decide))
 have R:gI P w K mg base 5 bV [] ["one","other"] (xm K):=λA d s H f c b M u g Q E l=>w9 T A d s H f c b M u g Q E (l.mono (by decide))
 have ab:gI P w K mg base 5 bz fvX ["one","other"] (wR K):=λA d s H f c b M u g Q E l=>xI T A d s H f c b M u g Q E (l.mono (by decide))
 refine T.F_ai.ok ky (λu H Q E h=>?_) (λcdv A d s H u Q E l h=>?_)
 .obtain⟨n,i,r,v,rfl,_⟩:=h;rfl
 .obtain⟨n,i,r,v,rfl,hi,hn,hL,q⟩:=h
  have al:sizeLine=16777216:=sizeLine_eq;refine⟨_,(ah (aw (aT rfl (N:=["other","tell","one"]) (ix:=[none,some 2,some 0]) ⟨rfl,rfl,rfl,rfl,⟨rfl,rfl,rfl,⟨rfl,rfl,rfl,trivial⟩⟩⟩ (cZ rfl T.z_range (aa (vr 1) ac)) ⟨λC s H fp=>au (i:=0) (show List.Nodup (["other","tell","one"]:List Str) by decide +kernel) rfl (Or.inl rfl),λC s H fp=>aN,λC s H fp=>(PE.or (gR (vr 1) Y l (aa (vr 2) (aa (vr 0) ac))) (PE.or (gR (vr 1) W l (aa (vr 2) (aa (vr 0) ac))) (PE.or (gR (vr 1) Z l (aa (vr 2) (aa (vr 0) ac))) (PE.or (gR (vr 1) R l (aa (vr 2) (aa (vr 0) ac))) (gR (vr 1) ab l (aa (vr 2) (aa (vr 0) ac)))))))⟩))),?_⟩;refine⟨(n:Int),rfl,by lia,by lia,λD hD=>?_⟩
  let Pw1:PvL:=λj p S=>j<=n/\Same H S/\S D=some (.lst p)/\p.length=j/\∀(k:Nat) y,p[k]? = some y->∃ f,IsF K S f y/\Ex r i k f
  refine kh (lo:=0) (n:=n) Pw1 ⟨Nat.zero_le _,Same.new hD,ae,rfl,λk y e=>by simp at e⟩ (λj p S h=>h.2.2.1) ?_ ?_
  .rintro j p S P' hj ⟨_,s1,X,G,hF⟩ hP
   have e0:[V.int (i:Int),V.int (0+(j:Int))]=[V.int (i:Int),V.int (j:Int)]:=by rw[Int.zero_add]
   have next:Ans K (Ex r) i j S (λv H2=>H2 D=some (.lst p)/\p.length<sizeLine/\P' (p++[v]) (upd H2 D (.lst (p++[v])))):=λH2 x f s2 hx hR=>by
    have ad:=s2 _ _ X;have tk:TK H2 (upd H2 D (.lst (p++[x]))):=TK.lst ad;refine⟨ad,by lia,hP _ _ ⟨hj,(s1.trans s2).put hD,ae,by rw[length_append,G];rfl,λk y e=>?_⟩⟩
    rcases Nat.lt_or_ge k p.length with h | h
    .rw[List.getElem?_append_left h]at e
     obtain⟨f,g1,g2⟩:=hF k y e;exact⟨f,(g1.same s2).tk tk,g2⟩
    .have hk:k=p.length:=by
      have:=(List.getElem?_eq_some_iff.mp e).1;rw[length_append]at this;simp at this;lia
     rw[List.getElem?_append_right h,hk,Nat.sub_self]at e;cases e;rw[hk,G];exact⟨f,hx.tk tk,hR⟩
   rcases hL.same s1 with⟨h2,w',h3,rfl,⟨f,c,b,rfl,o,F,O,I,B⟩⟩ | ⟨st,h2,h3,rfl,⟨f,c,b,rfl,o,F,O,I,B⟩⟩ | ⟨lt,fs,⟨f,c,b,rfl,o,F,O,I,B⟩,hM,rfl,rfl⟩ | ⟨rfl,⟨f,c,b,rfl,o,F,O,I,B⟩⟩ | ⟨ms,ie,oe,rfl,rfl,sp,ou,bl,⟨f,c,b,rfl,o,F,O,I,B⟩,hg⟩
   .exact⟨⟨rfl,rfl,trivial⟩,.inl ⟨⟨f,_,_,_,rfl,o⟩,λf' d' L c' _ z=>z,f,c,b,_,rfl,o,F,O,I,B,n,w',i,j,rfl,e0,h3,h2,hi,hj,next⟩⟩
   .exact⟨⟨rfl,rfl,trivial⟩,.inr (.inl ⟨⟨f,_,_,_,rfl,o⟩,λf' d' L c' _ z=>z,f,c,b,_,rfl,o,F,O,I,B,st,i,j,rfl,e0,h2,h3,next⟩)⟩
   .exact⟨⟨rfl,rfl,trivial⟩,.inr (.inr (.inl ⟨⟨f,_,_,_,rfl,o⟩,λf' d' L c' _ z=>z,f,c,b,_,rfl,o,F,O,I,B,lt,fs,i,j,rfl,e0,hM,hi,hj,next⟩))⟩
   .exact⟨⟨rfl,rfl,trivial⟩,.inr (.inr (.inr (.inl ⟨⟨f,_,_,_,rfl,o⟩,λf' d' L c' _ z=>z,f,c,b,_,rfl,o,F,O,I,B,i,j,rfl,e0,next⟩)))⟩
   .exact⟨⟨rfl,rfl,trivial⟩,.inr (.inr (.inr (.inr ⟨⟨f,_,_,_,rfl,o⟩,λf' d' L c' _ z=>z,f,c,b,_,rfl,o,F,O,I,B,ms,ie,oe,i,j,sp,ou,bl,rfl,e0,hg,hi,hj,next⟩)))⟩
  .rintro p S ⟨_,s1,X,G,hF⟩
   exact q _ D s1 hD ⟨D,p,rfl,X,G,hF⟩
theorem jW(T:Txt K mg a):FnOk P w K mg base CX0 7 a.f_z a.d_z ["many","tell"] (spMBy K):=by
 have F:FnOk P w K mg base CX0 6 _ _ _ (spMRow K):=uu T;refine T.F_z.ok lD (λvs H Q E h=>?_) (λcdv A outer s H vs Q E hr h=>?_)
 .obtain⟨n,M,v,rfl,_⟩:=h;rfl
 .obtain⟨n,M,v,rfl,Y,Z,q⟩:=h
  have G:sizeLine=16777216:=sizeLine_eq;refine⟨_,(ah (aw (aT rfl (N:=["one","many","tell"]) (ix:=[none,some 0,some 1]) ⟨rfl,rfl,rfl,rfl,⟨rfl,rfl,rfl,⟨rfl,rfl,rfl,trivial⟩⟩⟩ (cZ rfl T.z_range (aa (vr 0) ac)) ⟨λC s H S=>au (i:=0) (show List.Nodup (["one","many","tell"]:List Str) by decide +kernel) rfl (Or.inl rfl),λC s H S=>aN,λC s H S=>(aj F hr rfl T.m_ai T.F_ai.kp T.B_ai .nil ai (aa (vr 0) (aa (vr 1) (aa (vr 2) ac))))⟩))),?_⟩;refine⟨(n:Int),rfl,by lia,by lia,λD R=>?_⟩
  let Pw2:PvL:=λj d p=>j<=n/\Same H p/\p D=some (.lst d)/\d.length=j/\(∀ q,V.ref q∈d->H q=none)/\∀(k:Nat) y,d[k]? = some y->RowM K (Ex M) (gA p D) n k y
  refine kh (lo:=0) (n:=n) Pw2 ⟨Nat.zero_le _,Same.new R,ae,rfl,(λq L=>by cases L),λk y e=>by simp at e⟩ (λj d p h=>h.2.2.1) ?_ ?_
  .rintro j d p P' X ⟨_,B,g,l,f,O⟩ hP
   refine⟨⟨rfl,rfl,trivial⟩,n,j,M,v,?_,X,Y,Z.same B,λH2 r I u hR=>?_⟩
   .show [V.int (0+(j:Int)),V.int (n:Int),v]=_
    rw[Int.zero_add]
   have x:=I _ _ g;have nr:r≠D:=λz=>by rw[z,g]at u;cases u
   have mo:SQ (gA p D) (gA (upd H2 D (.lst (d++[.ref r]))) D):=λb o c e=>by
    by_cases hb:b=D
    .rw[hb,dg]at e;cases e
    .rw[dk hb]at e ⊢
     rw[az hb];exact I _ _ e
   refine⟨x,by lia,hP _ _ ⟨X,(B.trans I).put R,ae,by rw[length_append,l];rfl,λq L=>?_,λk y e=>?_⟩⟩
   .rcases mem_append.mp L with z | z
    .exact f q z
    .cases mem_singleton.mp z
     exact B.free u
   .rcases Nat.lt_or_ge k d.length with h | h
    .rw[List.getElem?_append_left h]at e
     exact(O k y e).q mo
    .have W:k=d.length:=by
      have:=(List.getElem?_eq_some_iff.mp e).1;rw[length_append]at this;simp at this;lia
     rw[List.getElem?_append_right h,W,Nat.sub_self]at e;cases e;rw[W,l];refine(hR.cut x nr).q λb o c e=>?_
     by_cases hb:b=D
     .rw[hb,dg]at e;cases e
     .rw[dk hb]at e ⊢
      rw[az hb];exact e
  .rintro d p ⟨_,B,g,l,f,O⟩
   exact q _ D d B R g f ⟨D,d,rfl,g,l,λk y e=>(O k y e).q pF⟩
end
open Nm (dL fY gp bi eS fAt eL seat cU ent)
def tz(a:Ad)(K:Frag)(e:EF)(n:Nat)(H:Hp)(Q:VK):Prop:=∀ H' p rows,SameT H H'->TabsOk (tabs a) H'->H p=none->H' p=some (.lst rows)->(∀ q,V.ref q∈rows->H q=none)->Mx K (Ex e) H' n (.ref p)->Q (.ref p) H'
inductive spMat(a:Ad)(K:Frag)(N:Nat)(c:Pl->Bool)(vs:List V)(H:Hp)(Q:VK)(_E:XK):Prop
 | mk(n:Nat)(v:V)(pl:Pl)(l:Addr)(zs:List V)(ms:List Mb)(h0:vs=[v,.ref l])(h1:n<=N)(h2:c pl=true)(h3:ht n pl)(h4:IsPn a H v pl)(h5:H l=some (.lst zs))(h6:CrAt H ms zs)(h7:Ck n ms)(h8:TabsOk (tabs a) H)(h9:tz a K (ent pl ms) ms.length H Q):spMat a K N c vs H Q _E
inductive spGM(a:Ad)(K:Frag)(N:Nat)(vs:List V)(H:Hp)(Q:VK)(_E:XK):Prop
 | mk(n:Nat)(w:V)(l r:Addr)(ou:V)(zs ys:List V)(ms:List Mb)(pl:Pl)(oe:EF)(h0:vs=[w,.ref l,.ref r,ou])(h1:n<=N)(h2:ht n pl)(h3:IsPn a H w pl)(h4:H l=some (.lst zs))(h5:CrAt H ms zs)(h6:Ck (n+1) ms)(h7:H r=some (.lst ys))(h8:Paired (CrL H) (ak ms) ys)(h9:(∀ i j,i<(ak ms).length->j<(ak ms).length->Nm.Ok 60 (oe i j)))(h10:Mx K (Ex oe) H (ak ms).length ou)(h11:TabsOk (tabs a) H)(h12:tz a K (cU (ent pl) oe ms) ms.length H Q):spGM a K N vs H Q _E
theorem gX{n:Nat}{a:List Mb}(h:Ck (n+1) a):∀ c∈ak a,Ck n c:=λc b=>⟨(cu h.c).each c b,Nm.parts_nd h.nd c b⟩
theorem su{n:Nat}{a:List Mb}(h:Ck n a):∀ m∈a,∃ g∈ak a,∃ m'∈g,m'.1=m.1:=λm f=>by
 obtain⟨i,e⟩:=List.getElem?_of_mem f;obtain⟨c,m',b,d,j⟩:=Nm.seat_of h.nd e;exact⟨c,List.mem_of_getElem? b,m',List.mem_of_getElem? d,j⟩
theorem iR{n:Nat}{a:List Mb}(h:Ck (n+1) a):Ck 0 (outer (ak a)):=⟨mV h.c,Nm.outer_nd _⟩
theorem hX{n:Nat}{a:List Mb}(h:Ck (n+1) a):∀ m∈a,m.2.2≠[]/\m.2.2.length<=3:=λm b=>⟨λz=>by have:=(h.c.path m b).1;rw[z]at this;simp at this,(h.c.path m b).2⟩
section
variable {P:Program}{w:World}{K:Frag}{mg:Str->Option Value}{base:Heap}{a:Ad}
theorem lL(T:Txt K mg a)(hB:Bm mg base)(N:Nat):FnOk P w K mg base CX0 8 a.x_i a.y_i ["self","crowd"] (spMat a K N jC):=by
 have D:FnOk P w K mg base CX0 7 _ _ _ (spMBy K):=jW T;refine T.F_i.okL T.lcd_i sc_i (by decide +kernel) (λO H Q E h=>?_) (λA outer s H O Q E hr h=>?_)
 .obtain⟨n,v,F,l,b,z,rfl,_⟩:=h;rfl
 .obtain⟨n,v,F,l,b,z,rfl,hn,hk,ho,M,hl,hc,X,hT,q⟩:=h
  cases F with
  | few m =>
   obtain⟨x,Y,rfl,I⟩:=M;have L:=hc.len;have z6:=X.c.len.2;refine⟨_,(fB (ay (i:=2) sc_i.nd rfl (Or.inr rfl) (av aF rfl T.z_len aQ (aa (vr 1) ac))) (fB (ay (i:=3) sc_i.nd rfl (Or.inr rfl) (av (cY rfl) rfl T.z_min gS (aa (bb (vr 0) rfl) (aa (vr 2) ac)))) (jK sc_i.nd (by decide +kernel) D hr rfl T.m_z T.F_z.kp T.B_z .nil (aa (vr 2) (aa (jQ (d:=ce) rfl T.lch_i hB rfl (by with_unfolding_all rfl) rfl (kA a) (.head _) T.tnd kF) ac))))),?_⟩;refine⟨_,.inl (SqL.of hl),?_⟩;refine⟨x,_,Y,_,_,rfl,I,T.cl_r,T.na_Few_many,rfl,?_⟩;refine⟨_,_,rfl,?_⟩
   have e:(if ((b.length:Int)<(m:Int)) then (b.length:Int) else (m:Int))=((min m b.length:Nat):Int):=by split <;> lia
   rw[e];refine⟨hT,λf c H1 t1 y ab W Z=>?_⟩;intro H3 u o;have cT:=o 2 _ _ _ rfl rfl (by with_unfolding_all rfl);have S:=o 3 _ _ _ rfl rfl (by with_unfolding_all rfl);have g:=t1.trans u.t;refine⟨b.length,bi b.length (min m b.length),.ref f,rfl,by lia,.inl ⟨by lia,min m b.length,Nat.min_le_right _ _,rfl,⟨f,c,_,rfl,u _ _ W,u _ _ Z,rfl,by simp,.cons S (.cons cT .nil)⟩⟩,λH' r p G C B j hM=>?_⟩;exact q _ r p (g.trans G.t) ((y.same u).same G) (g.free C) B (λq R=>g.free (j q R)) (by show Mx K (Ex (bi z.length (min m z.length))) _ _ _;rw[L];exact hM)
  | _=>cases hk
theorem i3(T:Txt K mg a)(hB:Bm mg base)(N:Nat):FnOk P w K mg base CX0 8 a.x_c a.y_c ["self","crowd"] (spMat a K N d8):=by
 have B:FnOk P w K mg base CX0 7 _ _ _ (spMBy K):=jW T;refine T.F_c.okL T.lcd_c sc_c (by decide +kernel) (λO H Q E h=>?_) (λA outer s H O Q E hr h=>?_)
 .obtain⟨n,v,C,l,D,L,rfl,_⟩:=h;rfl
 .obtain⟨n,v,C,l,D,L,rfl,hn,hk,o,M,hl,hc,W,hT,q⟩:=h
  cases C with
  | start m =>
   obtain⟨x,Y,rfl,G⟩:=M
   have o:1<=m/\m<=100:=by cases n <;> exact o
   have I:=hc.len;have z6:=W.c.len.2;refine⟨_,(fB (ay (i:=2) sc_c.nd rfl (Or.inr rfl) (bb (vr 0) rfl)) (jK sc_c.nd (by decide +kernel) B hr rfl T.m_z T.F_z.kp T.B_z .nil (aa (av aF rfl T.z_len aQ (aa (vr 1) ac)) (aa (jQ (d:=bI) rfl T.lch_c hB rfl (by with_unfolding_all rfl) rfl (jA a) (.head _) T.tnd jB) ac)))),?_⟩;refine⟨x,_,Y,_,_,rfl,G,T.cl_e,T.na_Start_step,rfl,?_⟩;refine⟨_,.inl (SqL.of hl),?_⟩;refine⟨hT,λf c H1 Z p ab S X=>?_⟩;intro H3 j z;have cS:=z 2 _ _ _ rfl rfl (by with_unfolding_all rfl);have b:=Z.trans j.t;refine⟨D.length,eS m,.ref f,rfl,by lia,.inr (.inl ⟨m,o.1,o.2,rfl,⟨f,c,_,rfl,j _ _ S,j _ _ X,rfl,by simp,.cons cS .nil⟩⟩),λH' r g F y u e hM=>?_⟩;exact q _ r g (b.trans F.t) ((p.same j).same F) (b.free y) u (λq R=>b.free (e q R)) (by rw[I];exact hM)
  | _=>cases hk
theorem jh(T:Txt K mg a)(hB:Bm mg base)(N:Nat):FnOk P w K mg base CX0 8 a.x_d a.y_d ["self","crowd"] (spMat a K N d6):=by
 have G:FnOk P w K mg base CX0 7 _ _ _ (spMBy K):=jW T;have o:FnOk P w K mg base CX0 7 _ _ _ _:=(sO T).mono (by decide);refine T.F_d.okL T.lcd_d sc_d (by decide +kernel) (λvs H Q E h=>?_) (λA outer s H vs Q E hr h=>?_)
 .obtain⟨n,v,O,l,S,g,rfl,_⟩:=h;rfl
 .obtain⟨n,v,O,l,S,g,rfl,hn,hk,Y,hp,hl,hc,D,hT,q⟩:=h
  cases O with
  | loose m =>
   obtain⟨x,dx,rfl,Z⟩:=hp
   have Y:m<=24:=by cases n <;> exact Y
   have z6:=D.c.len.2;have z:=Nm.due_fr D.c m;have ql:(due (szs g) (m:Nat)).length=g.length:=by rw[cI];unfold szs;rw[length_map]
   refine⟨_,(fB (ay (i:=2) sc_d.nd rfl (Or.inr rfl) (aj o hr rfl T.m_aa T.F_aa.kp T.B_aa .nil ai (aa (vr 1) (aa (bb (vr 0) rfl) ac)))) (jK sc_d.nd (by decide +kernel) G hr rfl T.m_z T.F_z.kp T.B_z .nil (aa (av aF rfl T.z_len aQ (aa (vr 2) ac)) (aa (jQ (d:=bJ) rfl T.lch_d hB rfl (by with_unfolding_all rfl) rfl (jD a) (.head _) T.tnd jF) ac)))),?_⟩;refine⟨x,_,dx,_,_,rfl,Z,T.cl_g,T.na_Loose_many,rfl,?_⟩;refine⟨l,S,g,(m:Nat),rfl,hl,hc,jY D.c,by lia,by lia,λH2 w' I L ab R M=>?_⟩;have X:I.length=(due (szs g) (m:Nat)).length:=by rw[<- M.len]
   refine⟨_,.inl (SqL.of R),?_⟩;refine⟨hT.same L,λf c H1 t1 y ad ef ec=>?_⟩;intro H3 u F;have cS:=F 2 _ _ _ rfl rfl (by with_unfolding_all rfl);have e:=t1.trans u.t;have b:=L.t.trans e;refine⟨I.length,eL (due (szs g) (m:Nat)),.ref f,rfl,by lia,.inr (.inr (.inl ⟨w',_,⟨f,c,_,rfl,u _ _ ef,u _ _ ec,rfl,by simp,.cons cS .nil⟩,⟨⟨I,e.at R,M.tk (SameT.tk e)⟩,z⟩,X.symm,rfl⟩)),λH' r p W C B j hM=>?_⟩;exact q _ r p (b.trans W.t) ((y.same u).same W) (b.free C) B (λq z=>b.free (j q z)) (by rw[<- ql,<- X];exact hM)
  | _=>cases hk
abbrev md(N:Nat):Nat:=9+2*N
theorem xf(T:Txt K mg a)(hB:Bm mg base)(N:Nat)(hN:N<=2)(a1:FnOk P w K mg base CX0 (md N) a.x_b a.y_b ["self","crowd"] (spMat a K N ee))(a6:FnOk P w K mg base CX0 (md N) a.x_l a.y_l ["self","crowd"] (spMat a K N cN)):FnOk P w K mg base CX0 (md N+1) a.f_h a.d_h ["plan","crowd","groups","outer"] (spGM a K N):=by
 have a8:FnOk P w K mg base CX0 (md N) _ _ _ (spMat a K N jC):=(lL T hB N).mono (by show 8<=9+2*N;lia);have a7:FnOk P w K mg base CX0 (md N) _ _ _ (spMat a K N d8):=(i3 T hB N).mono (by show 8<=9+2*N;lia);have b3:FnOk P w K mg base CX0 (md N) _ _ _ (spMat a K N d6):=(jh T hB N).mono (by show 8<=9+2*N;lia);have al:FnOk P w K mg base CX0 (md N) _ _ _ spSpots:=(tL T).mono (by show _<=9+2*N;lia);have bm:FnOk P w K mg base CX0 (md N) _ _ _ (spMBy K):=(jW T).mono (by show _<=9+2*N;lia);refine T.F_h.okL T.lcd_h sc_h (by decide +kernel) (λvs H Q E h=>?_) (λA outer s H vs Q E hr h=>?_)
 .obtain⟨n,w',l,r,ou,zs,W,F,O,oe,rfl,_⟩:=h;rfl
 .obtain⟨n,w',l,r,ou,zs,W,F,O,oe,rfl,hn,ho,a0,hl,hm,hC,S,hg,a9,a4,hT,q⟩:=h
  have pk:=cu hC.c;have I:=gX hC;have g5:=pk.len;have zl:=hm.len;have a3:zs.length<=24:=by rw[<- zl];exact hC.c.len.2
  have bN:Nm.bits n<=420:=by
   have:n=0\/n=1\/n=2:=by lia
   rcases this with rfl | rfl | rfl <;> decide
  have a':∀ c∈ak F,∀ i j,i<c.length->j<c.length->Nm.Ok 420 (ent O c i j):=λc M i j hi hj=>(Nm.ent_ok ho (I c M).c (I c M).nd i j hi hj).up bN
  have ap:sizeLine=16777216:=sizeLine_eq;refine⟨_,(fB (ay (i:=4) sc_h.nd rfl (Or.inr rfl) (aT rfl (N:=["members","plan"]) (ix:=[none,some 0]) ⟨rfl,rfl,rfl,rfl,⟨rfl,rfl,rfl,trivial⟩⟩ (aP (vr 2)) ⟨λC s H fp=>au (i:=0) (show List.Nodup (["members","plan"]:List Str) by decide +kernel) rfl (Or.inl rfl),λC s H fp=>aN,λC s H fp=>(PE.or (aC (vr 1) T.cl_r T.mt_i a8 hr T.B_i .nil ai (aa (vr 0) ac)) (PE.or (aC (vr 1) T.cl_e T.mt_c a7 hr T.B_c .nil ai (aa (vr 0) ac)) (PE.or (aC (vr 1) T.cl_g T.mt_d b3 hr T.B_d .nil ai (aa (vr 0) ac)) (PE.or (aC (vr 1) T.cl_j T.mt_b a1 hr T.B_b .nil ai (aa (vr 0) ac)) (aC (vr 1) T.cl_a T.mt_l a6 hr T.B_l .nil ai (aa (vr 0) ac))))))⟩)) (fB (ay (i:=5) sc_h.nd rfl (Or.inr rfl) (aj al hr rfl T.m_ad T.F_ad.kp T.B_ad .nil ai (aa (vr 1) (aa (vr 2) ac)))) (jK sc_h.nd (by decide +kernel) bm hr rfl T.m_z T.F_z.kp T.B_z .nil (aa (av aF rfl T.z_len aQ (aa (vr 1) ac)) (aa (jQ (d:=bz) rfl T.lch_h hB rfl (by with_unfolding_all rfl) rfl (jj a) (.head _) T.tnd iW) ac))))),?_⟩;refine .inl ⟨⟨_,SqL.of S⟩,λD hD=>?_⟩;have ext:∀{p:Hp},TabsOk (tabs a) p->∀{W:List V}{ad:List V},p D=some (.lst W)->TabsOk (tabs a) (upd p D (.lst ad)):=λb1 W ad e=>b1.put (λps z=>by rw[e]at z;cases z) λφ z=>by rw[e]at z;cases z
  let Pw1:PvL:=λi u p=>SameT H p/\TabsOk (tabs a) p/\p D=some (.lst u)/\i<=(ak F).length/\Paired (λ(g:List Mb) v=>Mx K (Ex (ent O g)) (gA p D) g.length v) ((ak F).take i) u
  refine aM (K:=K) (a:=r) (xs:=W) Pw1
   ⟨(Same.new hD).t,hT.same (Same.new hD),ae,Nat.zero_le _,.nil⟩ (λi u p h=>SqL.of (h.1.at S)) (λi u p h=>h.2.2.1) ?_ ?_
  .rintro i y u p P' hy ⟨G,X,B,hi,M⟩ as
   obtain⟨g,Y,lg,yg,rfl,a5,bo⟩:=aL hg hy;have b4:i<(ak F).length:=(List.getElem?_eq_some_iff.mp Y).1;have gk:=I g (List.mem_of_getElem? Y);have bl:u.length<=24:=by rw[<- Paired.length M,length_take];lia
   have ab:tz a K (ent O g) g.length p (λv H2=>H2 D=some (.lst u)/\u.length<sizeLine/\P' (u++[v]) (upd H2 D (.lst (u++[v])))):=λH2 r2 rows t2 hT2 hr0 hr2 hnew hM=>by
    have R:=t2.at B;have nr:r2≠D:=λz=>by rw[z,B]at hr0;cases hr0
    have nn:∀ q,V.ref q∈rows->q≠D:=λq hq z=>by have:=hnew q hq;rw[z,B]at this;cases this
    have mo:∀{Ha:Hp},SQ Ha H2->SQ (gA Ha D) (gA (upd H2 D (.lst (u++[.ref r2]))) D):=λs b o c e=>by
     by_cases hb:b=D
     .rw[hb,dg]at e;cases e
     .rw[dk hb]at e ⊢
      rw[az hb];exact s b o c e
    refine⟨R,by lia,as _ _ ⟨(G.trans t2).put hD,ext hT2 R,ae,b4,fE (aH (λg v h=>h.q (mo (SQ.of t2))) M) Y ?_⟩⟩;exact(hM.cut R λl' b2 e e'=>by cases e;rw[hr2]at e';cases e';exact⟨nr,nn⟩).q (mo λb o _ e=>e)
   refine⟨⟨rfl,trivial⟩,?_⟩;have an:=a0.n (cf G)
   exact cx "matrix" (λ_=>rfl) (λ_=>rfl) (λ_=>rfl) (λ_ _=>rfl) (λP=>P (.ref lg) p) an λc E hc'=>⟨n,w',O,lg,yg,g,rfl,hn,hc',ho,an,G.at a5,bo.tk (SameT.tk G),gk,X,ab⟩
  rintro u H1 ⟨G,X,B,_,M⟩;rw[show W.length=(ak F).length from(Paired.length hg).symm,take_length]at M;have a2:Paired (λ(g:List Mb) v=>Mx K (Ex (ent O g)) H1 g.length v) (ak F) u:=aH (λg v h=>h.q pF) M;refine⟨l,r,F,ak F,zs,W,rfl,G.at hl,hm.tk (SameT.tk G),G.at S,aH (CrL.n (cf G)) hg,hC.c.len.2,by lia,λg aS=>(I g aS).c.len.2,su hC,λH2 ts zz s2 hts hsp=>?_⟩;have t2:=G.trans s2.t;refine⟨_,.inl (SqL.of (t2.at hl)),?_⟩;refine⟨X.same s2,λf c H3 t3 b0 b5 ef ec=>?_⟩;intro H4 s4 Z;have cO:=Z 3 _ _ _ rfl rfl (by with_unfolding_all rfl);have cB:=Z 4 _ _ _ rfl rfl (by with_unfolding_all rfl);have cS:=Z 5 _ _ _ rfl rfl (by with_unfolding_all rfl);have x:=t3.trans s4.t;have L:=t2.trans x;refine⟨zs.length,cU (ent O) oe F,.ref f,rfl,a3,.inr (.inr (.inr (.inr ⟨F,ent O,oe,rfl,zl,_,_,_,⟨f,c,_,rfl,s4 _ _ ef,s4 _ _ ec,rfl,by simp;lia,.cons cS (.cons cO (.cons cB .nil))⟩,hC.nd,a9,a',ts,D,zz,u,rfl,rfl,x.at hts,aH (λm z h=>h.tk (SameT.tk x)) hsp,a4.q (SQ.of L),x.at (s2 _ _ B),aH (λg v h=>h.q (SQ.of (s2.t.trans x))) a2⟩))),λp r3 rows s5 hr0 hr1 hnew hM=>?_⟩;exact q _ r3 rows (L.trans s5.t) ((b0.same s4).same s5) (L.free hr0) hr1 (λq hq=>L.free (hnew q hq)) (by rw[zl];exact hM)
theorem uH(T:Txt K mg a)(hB:Bm mg base)(N:Nat)(F:FnOk P w K mg base CX0 (md N+1) a.f_h a.d_h ["plan","crowd","groups","outer"] (spGM a K N)):FnOk P w K mg base CX0 (md (N+1)) a.x_b a.y_b ["self","crowd"] (spMat a K (N+1) ee):=by
 have j:FnOk P w K mg base CX0 (md N+1) _ _ _ spParted:=(hU T).mono (by show _<=9+2*N+1;lia);have I:FnOk P w K mg base CX0 (md N+1) _ _ _ (spMBy K):=(jW T).mono (by show _<=9+2*N+1;lia);rw[show md (N+1)=md N+1+1 by show 9+2*(N+1)=9+2*N+1+1;lia];refine T.F_b.okL T.lcd_b sc_b (by decide +kernel) (λvs H Q E h=>?_) (λA outer s H vs Q E hr h=>?_)
 .obtain⟨n,v,O,l,D,o,rfl,_⟩:=h;rfl
 .obtain⟨n,v,O,l,D,o,rfl,hn,hk,W,z,S,B,u,hT,q⟩:=h
  cases O with
  | each p =>
    cases n with
    | zero=>exact W.elim
    | succ n =>
   obtain⟨x,dx,w',rfl,hx,z⟩:=z;have y:sizeLine=16777216:=sizeLine_eq;have pk:=cu u.c;have ab:=B.len;have m6:=u.c.len.2;have Z:=pk.len;refine⟨_,(fB (ay (i:=2) sc_b.nd rfl (Or.inl rfl) (aj j hr rfl T.m_ag T.F_ag.kp T.B_ag .nil ai (aa (vr 1) ac))) (fB (ay (i:=3) sc_b.nd rfl (Or.inl rfl) (aj I hr rfl T.m_z T.F_z.kp T.B_z .nil ai (aa (av aF rfl T.z_len aQ (aa (vr 2) ac)) (aa (jQ (d:=bV) rfl T.lch_b hB rfl (by with_unfolding_all rfl) rfl (jO a) (.head _) T.tnd kn) ac)))) (wy (aj F hr rfl T.m_h T.F_h.kp T.B_h .nil ai (aa (bb (vr 0) rfl) (aa (vr 1) (aa (vr 2) (aa (vr 3) ac)))))))),?_⟩;refine⟨l,o,D,rfl,S,B,by lia,hX u,λH1 r L R g Y=>?_⟩;have C:(ak o).length=L.length:=Paired.length Y;refine⟨_,.inl (SqL.of g),?_⟩;refine⟨hT.same R,λf c H2 t2 G ad ef ec=>?_⟩;refine⟨L.length,_,.ref f,rfl,by lia,.inr (.inr (.inr (.inl ⟨rfl,f,c,[],rfl,ef,ec,rfl,by simp,.nil⟩))),λH3 ro X M _ _ _ hM=>?_⟩;have e:=t2.trans M.t;have b:=R.t.trans e;refine⟨x,_,dx,_,_,rfl,b.at hx,T.cl_j,T.na_Each_inside,rfl,?_⟩;exact⟨n,w',l,r,.ref ro,D,L,o,p,λ_ _=>(1,1),rfl,by lia,W,z.n (cf b),b.at S,B.tk (SameT.tk b),u,e.at g,aH (CrL.n (cf e)) Y,λ_ _ _ _=>⟨by decide,by decide,by decide,by decide⟩,by rw[C];exact hM,G.same M,λH4 r4 rows4 t4 hT4 hr0 hr4 hnew hM4=>λH5 s5 _=>q H5 r4 rows4 (b.trans (t4.trans s5.t)) (hT4.same s5) (b.free hr0) (s5 _ _ hr4) (λq hq=>b.free (hnew q hq)) (hM4.q (SQ.of s5.t))⟩
  | _=>cases hk
theorem uX(T:Txt K mg a)(hB:Bm mg base)(N:Nat)(o:FnOk P w K mg base CX0 (md N) a.x_b a.y_b ["self","crowd"] (spMat a K N ee))(g:FnOk P w K mg base CX0 (md N) a.x_l a.y_l ["self","crowd"] (spMat a K N cN))(ab:FnOk P w K mg base CX0 (md N+1) a.f_h a.d_h ["plan","crowd","groups","outer"] (spGM a K N)):FnOk P w K mg base CX0 (md (N+1)) a.x_l a.y_l ["self","crowd"] (spMat a K (N+1) cN):=by
 have F:∀{k},k<=9->k<=md N+1:=λ{k} h=>by show k<=9+2*N+1;lia
 have o:=o.mono (Nat.le_succ (md N));have g:=g.mono (Nat.le_succ (md N));have R:FnOk P w K mg base CX0 (md N+1) _ _ _ (spMat a K N jC):=(lL T hB N).mono (F (by decide));have Z:FnOk P w K mg base CX0 (md N+1) _ _ _ (spMat a K N d8):=(i3 T hB N).mono (F (by decide));have X:FnOk P w K mg base CX0 (md N+1) _ _ _ (spMat a K N d6):=(jh T hB N).mono (F (by decide));have I:FnOk P w K mg base CX0 (md N+1) _ _ _ spParted:=(hU T).mono (F (by decide));have e:FnOk P w K mg base CX0 (md N+1) _ _ _ spOuter:=(nz T).mono (F (by decide));rw[show md (N+1)=md N+1+1 by show 9+2*(N+1)=9+2*N+1+1;lia];refine T.F_l.ok sc_l (λvs H Q E h=>?_) (λcdv A outer s H vs Q E hr h=>?_)
 .obtain⟨n,v,pl,l,zs,f,rfl,_⟩:=h;rfl
 .obtain⟨n,v,pl,l,zs,f,rfl,hn,hk,O,hp,hl,Y,G,hT,q⟩:=h
  cases pl with
  | first p r =>
    cases n with
    | zero=>exact O.elim
    | succ n =>
   obtain⟨x,B,u,z,rfl,hx,hu,hz⟩:=hp;have pk:=cu G.c;have ok:=iR G;have an:=Y.len;have m6:=G.c.len.2;have al:=pk.len;refine⟨_,(af (ay (i:=2) sc_l.nd rfl (Or.inl rfl) (aj I hr rfl T.m_ag T.F_ag.kp T.B_ag .nil ai (aa (vr 1) ac))) (ah (aw (aj ab hr rfl T.m_h T.F_h.kp T.B_h .nil ai (aa (bb (vr 0) rfl) (aa (vr 1) (aa (vr 2) (aa (PE.or (aC (bb (vr 0) rfl) T.cl_r T.mt_i R hr T.B_i .nil ai (aa (aj e hr rfl T.m_f T.F_f.kp T.B_f .nil ai (aa (vr 2) ac)) ac)) (PE.or (aC (bb (vr 0) rfl) T.cl_e T.mt_c Z hr T.B_c .nil ai (aa (aj e hr rfl T.m_f T.F_f.kp T.B_f .nil ai (aa (vr 2) ac)) ac)) (PE.or (aC (bb (vr 0) rfl) T.cl_g T.mt_d X hr T.B_d .nil ai (aa (aj e hr rfl T.m_f T.F_f.kp T.B_f .nil ai (aa (vr 2) ac)) ac)) (PE.or (aC (bb (vr 0) rfl) T.cl_j T.mt_b o hr T.B_b .nil ai (aa (aj e hr rfl T.m_f T.F_f.kp T.B_f .nil ai (aa (vr 2) ac)) ac)) (aC (bb (vr 0) rfl) T.cl_a T.mt_l g hr T.B_l .nil ai (aa (aj e hr rfl T.m_f T.F_f.kp T.B_f .nil ai (aa (vr 2) ac)) ac)))))) ac)))))))),cL ?_⟩;intro as;refine⟨l,f,zs,rfl,hl,Y,by lia,hX G,λH1 L ys M D hP=>?_⟩;have ap:(ak f).length=ys.length:=Paired.length hP;have d:=M _ _ hx;refine⟨x,_,B,_,_,rfl,d,T.cl_a,T.na_First_inside,rfl,?_⟩;have C:=hu.n (cf M.t);refine Or.imp (λh=>⟨x,_,B,_,_,rfl,d,T.cl_a,T.na_First_outside,rfl,h⟩) (Or.imp (λh=>⟨x,_,B,_,_,rfl,d,T.cl_a,T.na_First_outside,rfl,h⟩) (Or.imp (λh=>⟨x,_,B,_,_,rfl,d,T.cl_a,T.na_First_outside,rfl,h⟩) (Or.imp (λh=>⟨x,_,B,_,_,rfl,d,T.cl_a,T.na_First_outside,rfl,h⟩) (λh=>⟨x,_,B,_,_,rfl,d,T.cl_a,T.na_First_outside,rfl,h⟩)))) ?_;refine cx (S:=spMat a K N) "matrix" (λ_=>rfl) (λ_=>rfl) (λ_=>rfl) (λ_ _=>rfl) (λP=>spOuter [.ref L] H1 P λ_ _ _=>False) C λc E hc=>?_
   refine⟨.ref L,ak f,rfl,⟨L,ys,rfl,D,hP⟩,by lia,λc hc=>(pk.each c hc).len.2,λH2 l2 xs2 s2 _ h2 hC2=>?_⟩;refine⟨0,u,p,l2,xs2,Nst.outer (ak f),rfl,Nat.zero_le _,hc,gw O.1,C.n (cf s2.t),h2,hC2,ok,hT.same (M.trans s2),λH3 ro ad t3 W _ _ _ hM=>?_⟩;have y:=s2.t.trans t3;have b:=M.t.trans y;rw[bf]at hM;exact⟨n,z,l,L,.ref ro,zs,ys,f,r,ent p (Nst.outer (ak f)),rfl,by lia,O.2,hz.n (cf b),b.at hl,Y.tk (SameT.tk b),G,y.at D,aH (CrL.n (cf y)) hP,λi j hi hj=>Nm.flat_ok O.1 ok.c (by rw[bf];exact hi) (by rw[bf];exact hj),hM,W,λH4 r4 rows4 t4 hT4 hr0 hr4 hnew hM4=>q H4 r4 rows4 (b.trans t4) hT4 (b.free hr0) hr4 (λq hq=>b.free (hnew q hq)) hM4⟩
  | _=>cases hk
theorem lU(T:Txt K mg a)(c:Bm mg base):∀ N,N<=3->FnOk P w K mg base CX0 (md N) a.x_b a.y_b ["self","crowd"] (spMat a K N ee)/\FnOk P w K mg base CX0 (md N) a.x_l a.y_l ["self","crowd"] (spMat a K N cN)
 | 0,_=>by
  have f:∀{vs:List V}{H:Hp}{Q:VK}{E:XK},¬spMat a K 0 ee vs H Q E:=λh=>by obtain⟨n,_,pl,_,_,_,_,hn,hk,ho,_⟩:=h;obtain rfl:n=0:=Nat.le_zero.mp hn;cases pl <;> first | exact ho | cases hk
  have b:∀{vs:List V}{H:Hp}{Q:VK}{E:XK},¬spMat a K 0 cN vs H Q E:=λh=>by obtain⟨n,_,pl,_,_,_,_,hn,hk,ho,_⟩:=h;obtain rfl:n=0:=Nat.le_zero.mp hn;cases pl <;> first | exact ho | cases hk
  exact⟨⟨λ_ _ _ _ h=>(f h).elim,λ_ _ _ _ _ _ _ _ _ _ _ _ _ h=>(f h).elim⟩,⟨λ_ _ _ _ h=>(b h).elim,λ_ _ _ _ _ _ _ _ _ _ _ _ _ h=>(b h).elim⟩⟩
 | N+1,h=>by
  obtain⟨d,e⟩:=lU T c N (by lia);have G:=xf T c N (by lia) d e;exact⟨uH T c N G,uX T c N d e G⟩
end
end My
namespace L2
open PySem PySem.Spec PyProof.Rows
section
variable {X:Cx}{x:Str}{p kp pos:Pos}{e ek:Expr}{te tk:TE}
def sU(X:Cx)(te:TE):TE:=λσ H Q=>te σ H λv H1=>∃(l:Addr) (ns:List Int),v=.ref l/\SqL X.K H1 l (ns.map V.int)/\ns.length<64/\∀ q (ns':List Int),ns'.Perm ns->ns'.Pairwise (· >= ·)->H1 q=none->Q (.ref q) (upd H1 q (.lst (ns'.map V.int)))
theorem oX(hg:Gl X x)(M:X.mg x=none)(R:bootBuiltins x=some (.builtin "sorted"))(G:PE X e te)(Z:PE X ek (λ_ H Q=>Q (.bl true) H))
  (i:x ≠ "__name__" := by decide) (w:(x == ("__debug__" : Str))=false:=by decide) (O:starEach [e] X.env=(false,eval e X.env)::starEach [] X.env:=by rfl) :
  PE X (.Call (.Name x p) [e] [⟨some "reverse",ek,kp⟩] pos) (sU X te):=by
 intro c s C H Q I h;refine wpAny_Call_Name_kw (i4 I hg M R ?_ i w);have r:backTo pos (starEach [e] X.env)=(false,eval e X.env)::backTo pos (starEach [] X.env):=by rw[O];rfl
 refine callWith_kw ?_ r (by rw[r];rfl);rw[r];refine Calls.spliced_cons (thn (G c s C H _ I h) λu P ⟨v,D,I1,W,F⟩=>?_);refine Calls.spliced_nil (kws_cons (thn (Z c P C D (λN y=>N=.bl true/\y=D) I1 ⟨rfl,rfl⟩) λuf s2 ⟨vf,y,I2,rf,ef,eH⟩=>?_));subst ef;subst eH;obtain rfl:uf=Value.bool true:=rf;obtain⟨l,ns,rfl,K,hl,q⟩:=F;obtain rfl:u=Value.ref l:=W;refine kws_nil ?_;obtain⟨g,B,L,hz⟩:=I2.list K;have T:=iN B;have A:g.length=ns.length:=by have:=B.length;rw[length_map]at this;exact this.symm
 refine sorted_ints_rev (b:=true) L.isList T (by lia) λf d a1 E Y=>?_
 obtain⟨e,S⟩:=sortedAll_at s2.heap g f;have i:y (s2.heap.objs.size+1)=none:=I2.hok.fresh (Nat.le_succ _);have j:sizeLine=16777216:=sizeLine_eq;refine⟨.ref (s2.heap.objs.size+1),_,I2.laid (a:=s2.heap.objs.size+1) (o:=.lst (d.map V.int)) (t':=s2.toks) (λb u z=>sortedAll_old z) (Nat.le_succ _) ⟨?_,f.toList,e,gF a1,?_⟩,rfl,q _ d E Y i⟩
 .rw[length_map,E.length_eq];lia
 .rw[S,Array.toArray_toList]
end
end L2
namespace My
open PySem L2 FrM Nst
open Nm (dL fY gp bi eS fAt eL seat cU ent)
open Tb (so hV)
def BdAt(H:Hp)(b:Int×Int)(z:V):Prop:=∃ q,z=.ref q/\H q=some (.tup [.int b.1,.int b.2])
theorem BdAt.tk{H a:Hp}(k:TK H a)(b:Int×Int)(z:V)(h:BdAt H b z):BdAt a b z:=let ⟨q,h1,h2⟩:=h;⟨q,h1,k _ _ h2⟩
theorem pR{p:Pl}(b:d5 p)(a:List Mb):0<=(Nm.lim p a).1/\0<=(Nm.lim p a).2:=by
 cases p with
 | few m=>exact⟨Int.natCast_nonneg _,Int.natCast_nonneg _⟩
 | start m =>
  obtain⟨h1,h2⟩:1<=m/\m<=100:=b;exact⟨Int.ediv_nonneg (by lia) (by lia),Int.ediv_nonneg (by lia) (by lia)⟩
 | loose m =>
  have c:(due (szs a) (m:Nat)).length=a.length:=by rw[cI];unfold szs;rw[length_map]
  have:=List.countP_le_length (p:=λf:Int×Int=>decide (f=(0,1))) (l:=due (szs a) (m:Nat));refine⟨Int.natCast_nonneg _,?_⟩;show 0<=(a.length:Int) - (((due (szs a) (m:Nat)).countP λf=>decide (f=(0,1)):Nat):Int);lia
 | each p=>exact b.elim
 | first p q=>exact b.elim
theorem sW{a l:List Int}(h:a.Perm l)(s:a.Pairwise (· >= ·)):a=(so l).reverse:=by
 have:=hV ((List.reverse_perm a).trans h) (List.pairwise_reverse.mpr s);rw[<- this,List.reverse_reverse]
section
variable {P:Program}{w:World}{K:Frag}{mg:Str->Option Value}{base:Heap}{a:Ad}
theorem mU(T:Txt K mg a)(N:Nat)(a7:FnOk P w K mg base CX0 (N+6) a.x_m a.y_m ["self","crowd"] (spBo a N ee))(as:FnOk P w K mg base CX0 (N+6) a.x_k a.y_k ["self","crowd"] (spBo a N cN)):FnOk P w K mg base CX0 (N+1+6) a.x_m a.y_m ["self","crowd"] (spBo a (N+1) ee):=by
 have an:FnOk P w K mg base CX0 (N+6) _ _ _ spParted:=(hU T).mono (by lia);have a6:FnOk P w K mg base CX0 (N+6) _ _ _ (spBo a N jC):=(kf T N).mono (by lia);have a0:FnOk P w K mg base CX0 (N+6) _ _ _ (spBo a N d8):=(iA T N).mono (by lia);have a4:FnOk P w K mg base CX0 (N+6) _ _ _ (spBo a N d6):=(ip T N).mono (by lia);refine T.F_m.ok sc_m (λvs H Q E h=>?_) (λcdv A outer s H vs Q E hr h=>?_)
 .obtain⟨n,v,pl,l,xs,j,rfl,_⟩:=h;rfl
 .obtain⟨n,v,pl,l,xs,j,rfl,hn,hk,ho,hp,hl,hC,hc,q⟩:=h
  have ap:sizeLine=16777216:=sizeLine_eq
  obtain⟨n,p,rfl,rfl,hh⟩:∃ n' p,n=n'+1/\pl=.each p/\ht n' p:=by
   cases pl with
   | each p=>cases n with
    | zero=>exact ho.elim
    | succ n=>exact⟨n,p,rfl,rfl,ho⟩
   | _=>cases hk
  obtain⟨x,dx,u,rfl,hx,hu⟩:=hp;have pk:=cu hc.c;have a8:=pk.len;have a2:=gX hc;refine⟨_,(af (dR rfl (i:=2) sc_m.nd rfl rfl (by with_unfolding_all rfl) (N:=["members","self"]) (ix:=[none,some 0]) ⟨rfl,rfl,rfl,rfl,⟨rfl,rfl,rfl,trivial⟩⟩ (aP (aj an hr rfl T.m_ag T.F_ag.kp T.B_ag .nil ai (aa (vr 1) ac))) ⟨λC s H R=>au (i:=0) (show List.Nodup (["members","self"]:List Str) by decide +kernel) rfl (Or.inl rfl),λC s H R=>aN,λC s H R=>(PE.or (aC (dW (K:=K) rfl (vr 1) rfl) T.cl_r T.mt_t a6 hr T.B_t .nil ai (aa (vr 0) ac)) (PE.or (aC (dW (K:=K) rfl (vr 1) rfl) T.cl_e T.mt_p a0 hr T.B_p .nil ai (aa (vr 0) ac)) (PE.or (aC (dW (K:=K) rfl (vr 1) rfl) T.cl_g T.mt_n a4 hr T.B_n .nil ai (aa (vr 0) ac)) (PE.or (aC (dW (K:=K) rfl (vr 1) rfl) T.cl_j T.mt_m a7 hr T.B_m .nil ai (aa (vr 0) ac)) (aC (dW (K:=K) rfl (vr 1) rfl) T.cl_a T.mt_k as hr T.B_k .nil ai (aa (vr 0) ac))))))⟩) (ah (aw (aK (aa (av (bH rfl) rfl T.z_sum dI (aa (aT rfl (N:=["least","most"]) (ix:=[none,none]) ⟨rfl,rfl,rfl,rfl,trivial⟩ (aP (vr 2)) ⟨λC s H R=>(dU (K:=K) (n:=2) rfl rfl (ax (au (i:=0) (show List.Nodup (["least","most"]:List Str) by decide +kernel) rfl (Or.inl rfl)) (ax (au (i:=1) (show List.Nodup (["least","most"]:List Str) by decide +kernel) rfl (Or.inl rfl)) aO))),λC s H R=>aN,λC s H R=>(vr 0)⟩) ac)) (aa (av (bH rfl) rfl T.z_sum dI (aa (aT rfl (N:=["least","most"]) (ix:=[none,none]) ⟨rfl,rfl,rfl,rfl,trivial⟩ (aP (vr 2)) ⟨λC s H R=>(dU (K:=K) (n:=2) rfl rfl (ax (au (i:=0) (show List.Nodup (["least","most"]:List Str) by decide +kernel) rfl (Or.inl rfl)) (ax (au (i:=1) (show List.Nodup (["least","most"]:List Str) by decide +kernel) rfl (Or.inl rfl)) aO))),λC s H R=>aN,λC s H R=>(vr 1)⟩) ac)) ac)))))),cL ?_⟩;intro a9;refine⟨l,j,xs,rfl,hl,hC,by rw[<- hC.len];exact hc.c.len.2,hX hc,λH1 r f s1 ad al=>?_⟩;have gl:(ak j).length=f.length:=Paired.length al;refine .inl ⟨⟨_,SqL.of ad⟩,λD hD=>?_⟩
  let Pw1:PvL:=λi M W=>Same H1 W/\W D=some (.lst M)/\i<=(ak j).length/\Paired (BdAt W) (((ak j).take i).map (Nm.lim p)) M
  refine aM (K:=K) (a:=r) (xs:=f) Pw1 ⟨Same.new hD,ae,Nat.zero_le _,.nil⟩ (λi f W h=>SqL.of (h.1 _ _ ad)) (λi f W h=>h.2.1) ?_ ?_
  .rintro i y M W P' hy ⟨s2,a1,hi,O⟩ G
   obtain⟨c,X,lc,yc,rfl,aS,a3⟩:=aL al hy;have I:i<(ak j).length:=(List.getElem?_eq_some_iff.mp X).1;have z:=s1.trans s2;have zl:M.length=i:=by rw[<- O.length,length_map,length_take];lia
   refine⟨⟨rfl,trivial⟩,?_⟩;refine Or.imp (λh=>⟨x,_,dx,_,_,rfl,z _ _ hx,T.cl_j,T.na_Each_inside,rfl,h⟩) (Or.imp (λh=>⟨x,_,dx,_,_,rfl,z _ _ hx,T.cl_j,T.na_Each_inside,rfl,h⟩) (Or.imp (λh=>⟨x,_,dx,_,_,rfl,z _ _ hx,T.cl_j,T.na_Each_inside,rfl,h⟩) (Or.imp (λh=>⟨x,_,dx,_,_,rfl,z _ _ hx,T.cl_j,T.na_Each_inside,rfl,h⟩) λh=>⟨x,_,dx,_,_,rfl,z _ _ hx,T.cl_j,T.na_Each_inside,rfl,h⟩))) ?_;have ab:=hu.n (cf z.t)
   refine cx (S:=spBo a N) "bounds" (λ_=>rfl) (λ_=>rfl) (λ_=>rfl) (λ_ _=>rfl) (λP=>P (.ref lc) W) ab λk E hk=>⟨n,u,p,lc,yc,c,rfl,by lia,hk,hh,ab,s2 _ _ aS,a3.tk s2.tk,a2 c (List.mem_of_getElem? X),λH3 p3 s34 h4=>?_⟩
   have d:=s34 _ _ a1;have tk:TK H3 (upd H3 D (.lst (M++[.ref p3]))):=TK.lst d;refine⟨d,by lia,G _ _ ⟨(s2.trans s34).put hD,ae,I,?_⟩⟩;rw[take_add_one,X,map_append];exact da ⟨p3,rfl,tk _ _ h4⟩ (aH (BdAt.tk (s34.tk.trans tk)) O)
  .rintro M H2 ⟨s2,g,_,O⟩
   rw[<- gl,take_length]at O;have bl:((ak j).map (Nm.lim p)).length=(ak j).length:=length_map _;have e1:(((ak j).map (Nm.lim p)).map (·.1)).sum=(Nm.lim (.each p) j).1:=by rw[map_map];rfl
   have e2:(((ak j).map (Nm.lim p)).map (·.2)).sum=(Nm.lim (.each p) j).2:=by rw[map_map];rfl
   generalize (ak j).map (Nm.lim p)=bs at O bl e1 e2;have sz:Same H2 H2:=λb o e=>e
   refine .inl ⟨⟨_,SqL.of g⟩,λD2 B=>?_⟩
   let Pw2:PvL:=λi f F=>Same H2 F/\F D2=some (.lst f)/\i<=bs.length/\f=((bs.take i).map (·.1)).map V.int
   refine aM (K:=K) (a:=D) (xs:=M) Pw2 ⟨Same.new B,ae,Nat.zero_le _,rfl⟩ (λi f F h=>SqL.of (h.1 _ _ g)) (λi f F h=>h.2.1) ?_ ?_
   .rintro i y f F P' hy ⟨s9,Y,hi,rfl⟩ G
    obtain⟨b9,L,q9,rfl,Z⟩:=aL O hy;have I:i<bs.length:=(List.getElem?_eq_some_iff.mp L).1;refine⟨q9,_,rfl,SqT.of (s9 _ _ (sz _ _ Z)),rfl,_,_,rfl,_,_,rfl,rfl,trivial,Y,by rw[length_map,length_map,length_take];lia,G _ _ ⟨s9.put B,ae,I,?_⟩⟩;rw[take_add_one,L];simp
   .rintro y2 H3 ⟨s3,B,_,rfl⟩
    rw[show M.length=bs.length from O.length.symm,take_length]at B;refine⟨D2,_,rfl,SqL.of B,?_⟩;have g:=s3 _ _ g;have sz:=s3;refine .inl ⟨⟨_,SqL.of g⟩,λD3 d=>?_⟩
    let Pw3:PvL:=λi f F=>Same H3 F/\F D3=some (.lst f)/\i<=bs.length/\f=((bs.take i).map (·.2)).map V.int
    refine aM (K:=K) (a:=D) (xs:=M) Pw3 ⟨Same.new d,ae,Nat.zero_le _,rfl⟩ (λi f F h=>SqL.of (h.1 _ _ g)) (λi f F h=>h.2.1) ?_ ?_
    .rintro i y f F P' hy ⟨s9,Y,hi,rfl⟩ G
     obtain⟨b9,L,q9,rfl,Z⟩:=aL O hy;have I:i<bs.length:=(List.getElem?_eq_some_iff.mp L).1;refine⟨q9,_,rfl,SqT.of (s9 _ _ (sz _ _ Z)),rfl,_,_,rfl,_,_,rfl,rfl,trivial,Y,by rw[length_map,length_map,length_take];lia,G _ _ ⟨s9.put d,ae,I,?_⟩⟩;rw[take_add_one,L];simp
    .rintro y3 H4 ⟨s4,d,_,rfl⟩
     rw[show M.length=bs.length from O.length.symm,take_length]at d;refine⟨D3,_,rfl,SqL.of d,?_⟩;refine⟨bp _ _,λp5 a5=>?_⟩;exact q _ p5 (s1.trans (s2.trans (s3.trans (s4.trans (Same.new a5))))) (by rw[ae,e1,e2])
theorem j5(xs:List V)(k:Nat):fN xs none (some (k:Int))=xs.take k:=by
 unfold fN;rw[HT.sIx_nat,HT.sIx_none,drop_zero,Nat.sub_zero]
 by_cases h:k<=xs.length
 .rw[Nat.min_eq_left h]
 .rw[Nat.min_eq_right (by lia),take_of_length_le (Nat.le_refl _),take_of_length_le (by lia)]
theorem lF(T:Txt K mg a)(N:Nat)(a8:FnOk P w K mg base CX0 (N+6) a.x_m a.y_m ["self","crowd"] (spBo a N ee))(a6:FnOk P w K mg base CX0 (N+6) a.x_k a.y_k ["self","crowd"] (spBo a N cN)):FnOk P w K mg base CX0 (N+1+6) a.x_k a.y_k ["self","crowd"] (spBo a (N+1) cN):=by
 have aS:FnOk P w K mg base CX0 (N+6) _ _ _ spParted:=(hU T).mono (by lia);have O:FnOk P w K mg base CX0 (N+6) _ _ _ spOuter:=(nz T).mono (by lia);have bm:FnOk P w K mg base CX0 (N+6) _ _ _ (spBo a N jC):=(kf T N).mono (by lia);have a2:FnOk P w K mg base CX0 (N+6) _ _ _ (spBo a N d8):=(iA T N).mono (by lia);have a7:FnOk P w K mg base CX0 (N+6) _ _ _ (spBo a N d6):=(ip T N).mono (by lia);refine T.F_k.ok sc_k (λvs H Q E h=>?_) (λcdv A outer s H vs Q E hr h=>?_)
 .obtain⟨n,v,pl,l,xs,d,rfl,_⟩:=h;rfl
 .obtain⟨n,v,pl,l,xs,d,rfl,hn,hk,ho,hp,hl,hC,hc,q⟩:=h
  have bo:sizeLine=16777216:=sizeLine_eq
  obtain⟨n,p,r,rfl,rfl,hf,hh⟩:∃ n' p r,n=n'+1/\pl=.first p r/\d5 p/\ht n' r:=by
   cases pl with
   | first p r=>cases n with
    | zero=>exact ho.elim
    | succ n=>exact⟨n,p,r,rfl,rfl,ho⟩
   | _=>cases hk
  obtain⟨x,X,u,z,rfl,W,hu,b0⟩:=hp;have pk:=cu hc.c;have ct:=pk.len;have bN:=gX hc;have lp:=pR hf (Nst.outer (ak d))
  refine⟨_,(af (ay (i:=2) sc_k.nd rfl (Or.inl rfl) (aj aS hr rfl T.m_ag T.F_ag.kp T.B_ag .nil ai (aa (vr 1) ac))) (af (d4 (PE.or (aC (bb (vr 0) rfl) T.cl_r T.mt_t bm hr T.B_t .nil ai (aa (aj O hr rfl T.m_f T.F_f.kp T.B_f .nil ai (aa (vr 2) ac)) ac)) (PE.or (aC (bb (vr 0) rfl) T.cl_e T.mt_p a2 hr T.B_p .nil ai (aa (aj O hr rfl T.m_f T.F_f.kp T.B_f .nil ai (aa (vr 2) ac)) ac)) (PE.or (aC (bb (vr 0) rfl) T.cl_g T.mt_n a7 hr T.B_n .nil ai (aa (aj O hr rfl T.m_f T.F_f.kp T.B_f .nil ai (aa (vr 2) ac)) ac)) (PE.or (aC (bb (vr 0) rfl) T.cl_j T.mt_m a8 hr T.B_m .nil ai (aa (aj O hr rfl T.m_f T.F_f.kp T.B_f .nil ai (aa (vr 2) ac)) ac)) (aC (bb (vr 0) rfl) T.cl_a T.mt_k a6 hr T.B_k .nil ai (aa (aj O hr rfl T.m_f T.F_f.kp T.B_f .nil ai (aa (vr 2) ac)) ac)))))) (bA rfl (ax (au (i:=3) sc_k.nd rfl (Or.inl rfl)) (ax (au (i:=4) sc_k.nd rfl (Or.inl rfl)) aO)))) (af (dR rfl (i:=5) sc_k.nd rfl rfl (by with_unfolding_all rfl) (N:=["members","self"]) (ix:=[none,some 0]) ⟨rfl,rfl,rfl,rfl,⟨rfl,rfl,rfl,trivial⟩⟩ (aP (vr 2)) ⟨λC s H fp=>au (i:=0) (show List.Nodup (["members","self"]:List Str) by decide +kernel) rfl (Or.inl rfl),λC s H fp=>aN,λC s H fp=>(PE.or (aC (dW (K:=K) rfl (vr 1) rfl) T.cl_r T.mt_t bm hr T.B_t .nil ai (aa (vr 0) ac)) (PE.or (aC (dW (K:=K) rfl (vr 1) rfl) T.cl_e T.mt_p a2 hr T.B_p .nil ai (aa (vr 0) ac)) (PE.or (aC (dW (K:=K) rfl (vr 1) rfl) T.cl_g T.mt_n a7 hr T.B_n .nil ai (aa (vr 0) ac)) (PE.or (aC (dW (K:=K) rfl (vr 1) rfl) T.cl_j T.mt_m a8 hr T.B_m .nil ai (aa (vr 0) ac)) (aC (dW (K:=K) rfl (vr 1) rfl) T.cl_a T.mt_k a6 hr T.B_k .nil ai (aa (vr 0) ac))))))⟩) (af (ay (i:=6) sc_k.nd rfl (Or.inl rfl) (av dq rfl T.z_sorted eM (aa (aT rfl (N:=["low","high"]) (ix:=[none,none]) ⟨rfl,rfl,rfl,rfl,trivial⟩ (aP (vr 5)) ⟨λC s H fp=>(dU (K:=K) (n:=2) rfl rfl (ax (au (i:=0) (show List.Nodup (["low","high"]:List Str) by decide +kernel) rfl (Or.inl rfl)) (ax (au (i:=1) (show List.Nodup (["low","high"]:List Str) by decide +kernel) rfl (Or.inl rfl)) aO))),λC s H fp=>aN,λC s H fp=>(vr 0)⟩) ac))) (af (ay (i:=7) sc_k.nd rfl (Or.inl rfl) (oX rfl T.z_sorted eM (aT rfl (N:=["low","high"]) (ix:=[none,none]) ⟨rfl,rfl,rfl,rfl,trivial⟩ (aP (vr 5)) ⟨λC s H fp=>(dU (K:=K) (n:=2) rfl rfl (ax (au (i:=0) (show List.Nodup (["low","high"]:List Str) by decide +kernel) rfl (Or.inl rfl)) (ax (au (i:=1) (show List.Nodup (["low","high"]:List Str) by decide +kernel) rfl (Or.inl rfl)) aO))),λC s H fp=>aN,λC s H fp=>(vr 1)⟩) iF)) (ah (aw (aK (aa (av (bH rfl) rfl T.z_sum dI (aa (dn gG (vr 6) eC (eF (vr 3))) ac)) (aa (av (bH rfl) rfl T.z_sum dI (aa (dn gG (vr 7) eC (eF (vr 4))) ac)) ac)))))))))),xR ?_⟩
  intro co cs ch cB cC;refine⟨l,d,xs,rfl,hl,hC,by rw[<- hC.len];exact hc.c.len.2,hX hc,λH1 rg g s1 a0 al=>?_⟩;have gl:(ak d).length=g.length:=Paired.length al;refine Or.imp (λh=>⟨x,_,X,_,_,rfl,s1 _ _ W,T.cl_a,T.na_First_outside,rfl,h⟩) (Or.imp (λh=>⟨x,_,X,_,_,rfl,s1 _ _ W,T.cl_a,T.na_First_outside,rfl,h⟩) (Or.imp (λh=>⟨x,_,X,_,_,rfl,s1 _ _ W,T.cl_a,T.na_First_outside,rfl,h⟩) (Or.imp (λh=>⟨x,_,X,_,_,rfl,s1 _ _ W,T.cl_a,T.na_First_outside,rfl,h⟩) λh=>⟨x,_,X,_,_,rfl,s1 _ _ W,T.cl_a,T.na_First_outside,rfl,h⟩))) ?_;have as:=hu.n (cf s1.t)
  refine cx (S:=spBo a N) "bounds" (λ_=>rfl) (λ_=>rfl) (λ_=>rfl) (λ_ _=>rfl) (λP=>spOuter [.ref rg] H1 P λ_ _ _=>False) as λk E hk=>⟨.ref rg,ak d,rfl,⟨rg,g,rfl,a0,al⟩,by lia,λc hc'=>(pk.each c hc').len.2,λH2 l2 xs2 s2 _ h2 hC2=>⟨0,u,p,l2,xs2,Nst.outer (ak d),rfl,Nat.zero_le _,hk,gw hf,as.n (cf s2.t),h2,hC2,iR hc,λH3 p3 s3 h3=>?_⟩⟩
  have ea:(Nm.lim p (Nst.outer (ak d))).1.toNat=(Nm.lim p (Nst.outer (ak d))).1:=Int.toNat_of_nonneg lp.1;have eb:(Nm.lim p (Nst.outer (ak d))).2.toNat=(Nm.lim p (Nst.outer (ak d))).2:=Int.toNat_of_nonneg lp.2;rw[<- ea,<- eb]at h3;have ef:Nm.lim (.first p r) d=(((so ((ak d).map λc=>(Nm.lim r c).1)).take (Nm.lim p (Nst.outer (ak d))).1.toNat).sum,((so ((ak d).map λc=>(Nm.lim r c).2)).reverse.take (Nm.lim p (Nst.outer (ak d))).2.toNat).sum):=rfl;generalize (Nm.lim p (Nst.outer (ak d))).1.toNat=fe at h3 ef;generalize (Nm.lim p (Nst.outer (ak d))).2.toNat=mo at h3 ef;refine⟨p3,_,rfl,SqT.of h3,rfl,_,_,rfl,_,_,rfl,rfl,?_⟩;have ab:=s2.trans s3;have a9:=s1.trans ab;have a4:=ab _ _ a0;refine .inl ⟨⟨_,SqL.of a4⟩,λD hD=>?_⟩
  let Pw4:PvL:=λi R H'=>Same H3 H'/\H' D=some (.lst R)/\i<=(ak d).length/\Paired (BdAt H') (((ak d).take i).map (Nm.lim r)) R
  refine aM (K:=K) (a:=rg) (xs:=g) Pw4 ⟨Same.new hD,ae,Nat.zero_le _,.nil⟩ (λi g H' h=>SqL.of (h.1 _ _ a4)) (λi g H' h=>h.2.1) ?_ ?_
  .rintro i y R H' P' hy ⟨s4,b1,hi,hz⟩ I
   obtain⟨c,ad,lc,yc,rfl,b4,b2⟩:=aL al hy;have M:i<(ak d).length:=(List.getElem?_eq_some_iff.mp ad).1;have F:=a9.trans s4;have a1:=ab.trans s4;have zl:R.length=i:=by rw[<- hz.length,length_map,length_take];lia
   refine⟨⟨rfl,trivial⟩,?_⟩;refine Or.imp (λh=>⟨x,_,X,_,_,rfl,F _ _ W,T.cl_a,T.na_First_inside,rfl,h⟩) (Or.imp (λh=>⟨x,_,X,_,_,rfl,F _ _ W,T.cl_a,T.na_First_inside,rfl,h⟩) (Or.imp (λh=>⟨x,_,X,_,_,rfl,F _ _ W,T.cl_a,T.na_First_inside,rfl,h⟩) (Or.imp (λh=>⟨x,_,X,_,_,rfl,F _ _ W,T.cl_a,T.na_First_inside,rfl,h⟩) λh=>⟨x,_,X,_,_,rfl,F _ _ W,T.cl_a,T.na_First_inside,rfl,h⟩))) ?_;have a5:=b0.n (cf F.t)
   refine cx (S:=spBo a N) "bounds" (λ_=>rfl) (λ_=>rfl) (λ_=>rfl) (λ_ _=>rfl) (λP=>P (.ref lc) H') a5 λk E hk=>⟨n,z,r,lc,yc,c,rfl,by lia,hk,hh,a5,a1 _ _ b4,b2.tk a1.tk,bN c (List.mem_of_getElem? ad),λH6 p6 s56 h6=>?_⟩
   have f:=s56 _ _ b1;have tk:TK H6 (upd H6 D (.lst (R++[.ref p6]))):=TK.lst f;refine⟨f,by lia,I _ _ ⟨(s4.trans s56).put hD,ae,M,?_⟩⟩;rw[take_add_one,ad,map_append];exact da ⟨p6,rfl,tk _ _ h6⟩ (aH (BdAt.tk (s56.tk.trans tk)) hz)
  .rintro R H4 ⟨s4,B,_,hz⟩
   rw[<- gl,take_length]at hz;have bl:((ak d).map (Nm.lim r)).length=(ak d).length:=length_map _;have e1:((ak d).map λc=>(Nm.lim r c).1)=((ak d).map (Nm.lim r)).map (·.1):=by rw[map_map];rfl
   have e2:((ak d).map λc=>(Nm.lim r c).2)=((ak d).map (Nm.lim r)).map (·.2):=by rw[map_map];rfl
   rw[e1,e2]at ef;clear e1 e2;generalize (ak d).map (Nm.lim r)=bs at hz bl ef;have sz:Same H4 H4:=λb o e=>e
   refine .inl ⟨⟨_,SqL.of B⟩,λD2 G=>?_⟩
   let Pw5:PvL:=λi g j=>Same H4 j/\j D2=some (.lst g)/\i<=bs.length/\g=((bs.take i).map (·.1)).map V.int
   refine aM (K:=K) (a:=D) (xs:=R) Pw5 ⟨Same.new G,ae,Nat.zero_le _,rfl⟩ (λi g j h=>SqL.of (h.1 _ _ B)) (λi g j h=>h.2.1) ?_ ?_
   .rintro i y g j P' hy ⟨Z,ap,hi,rfl⟩ I
    obtain⟨b9,L,q9,rfl,an⟩:=aL hz hy;have M:i<bs.length:=(List.getElem?_eq_some_iff.mp L).1;refine⟨q9,_,rfl,SqT.of (Z _ _ (sz _ _ an)),rfl,_,_,rfl,_,_,rfl,rfl,trivial,ap,by rw[length_map,length_map,length_take];lia,I _ _ ⟨Z.put G,ae,M,?_⟩⟩;rw[take_add_one,L];simp
   .rintro y2 H5 ⟨s5,G,_,rfl⟩
    rw[show R.length=bs.length from hz.length.symm,take_length]at G;refine⟨D2,_,rfl,SqL.of G,by rw[length_map];lia,λq1 ls b3 b' f1=>?_⟩;have s6:=Same.new (o:=.lst (ls.map V.int)) f1;have h6:(upd H5 q1 (.lst (ls.map V.int))) q1=some (.lst (ls.map V.int)):=ae;generalize upd H5 q1 (.lst (ls.map V.int))=H6 at s6 h6;have B:=s6 _ _ (s5 _ _ B);have sz:=s5.trans s6;refine .inl ⟨⟨_,SqL.of B⟩,λD3 f=>?_⟩
    let Pw6:PvL:=λi g j=>Same H6 j/\j D3=some (.lst g)/\i<=bs.length/\g=((bs.take i).map (·.2)).map V.int
    refine aM (K:=K) (a:=D) (xs:=R) Pw6 ⟨Same.new f,ae,Nat.zero_le _,rfl⟩ (λi g j h=>SqL.of (h.1 _ _ B)) (λi g j h=>h.2.1) ?_ ?_
    .rintro i y g j P' hy ⟨Z,ap,hi,rfl⟩ I
     obtain⟨b9,L,q9,rfl,an⟩:=aL hz hy;have M:i<bs.length:=(List.getElem?_eq_some_iff.mp L).1;refine⟨q9,_,rfl,SqT.of (Z _ _ (sz _ _ an)),rfl,_,_,rfl,_,_,rfl,rfl,trivial,ap,by rw[length_map,length_map,length_take];lia,I _ _ ⟨Z.put f,ae,M,?_⟩⟩;rw[take_add_one,L];simp
    .rintro y3 H7 ⟨s7,f,_,rfl⟩
     rw[show R.length=bs.length from hz.length.symm,take_length]at f;refine⟨D3,_,rfl,SqL.of f,by rw[length_map];lia,λq2 hs b6 cc f2=>?_⟩;have s8:=Same.new (o:=.lst (hs.map V.int)) f2;have h8:(upd H7 q2 (.lst (hs.map V.int))) q2=some (.lst (hs.map V.int)):=ae;generalize upd H7 q2 (.lst (hs.map V.int))=H8 at s8 h8;refine⟨_,rfl,.inl ⟨_,SqL.of (s8 _ _ (s7 _ _ h6)),λl9 f9=>?_⟩⟩;rw[j5,<- map_take];have Z:=Same.new (o:=.lst ((ls.take fe).map V.int)) f9;have h9:(upd H8 l9 (.lst ((ls.take fe).map V.int))) l9=some (.lst ((ls.take fe).map V.int)):=ae;generalize upd H8 l9 (.lst ((ls.take fe).map V.int))=j at Z h9;refine⟨l9,_,rfl,SqL.of h9,?_⟩;refine⟨_,rfl,.inl ⟨_,SqL.of (Z _ _ h8),λY ca=>?_⟩⟩;rw[j5,<- map_take];have a':=Same.new (o:=.lst ((hs.take mo).map V.int)) ca;have a3:(upd j Y (.lst ((hs.take mo).map V.int))) Y=some (.lst ((hs.take mo).map V.int)):=ae;generalize upd j Y (.lst ((hs.take mo).map V.int))=H10 at a' a3;refine⟨Y,_,rfl,SqL.of a3,?_⟩;refine⟨bp _ _,λp5 b5=>?_⟩;refine q _ p5 (a9.trans (s4.trans (s5.trans (s6.trans (s7.trans (s8.trans (Z.trans (a'.trans (Same.new b5))))))))) ?_;rw[ef,<- hV b3 b',<- sW b6 cc];exact ae
theorem iz(T:Txt K mg a):∀ N,FnOk P w K mg base CX0 (N+6) a.x_m a.y_m ["self","crowd"] (spBo a N ee)/\FnOk P w K mg base CX0 (N+6) a.x_k a.y_k ["self","crowd"] (spBo a N cN)
 | 0=>by
  have e:∀{vs:List V}{H:Hp}{Q:VK}{E:XK},¬spBo a 0 ee vs H Q E:=λh=>by obtain⟨n,_,pl,_,_,_,_,hn,hk,ho,_⟩:=h;obtain rfl:n=0:=Nat.le_zero.mp hn;cases pl <;> first | exact ho | cases hk
  have b:∀{vs:List V}{H:Hp}{Q:VK}{E:XK},¬spBo a 0 cN vs H Q E:=λh=>by obtain⟨n,_,pl,_,_,_,_,hn,hk,ho,_⟩:=h;obtain rfl:n=0:=Nat.le_zero.mp hn;cases pl <;> first | exact ho | cases hk
  exact⟨⟨λ_ _ _ _ h=>(e h).elim,λ_ _ _ _ _ _ _ _ _ _ _ _ _ h=>(e h).elim⟩,⟨λ_ _ _ _ h=>(b h).elim,λ_ _ _ _ _ _ _ _ _ _ _ _ _ h=>(b h).elim⟩⟩
 | N+1=>by
  obtain⟨c,d⟩:=iz T N;exact⟨mU T N c d,lF T N c d⟩
end
end My
namespace L2
open PySem PySem.Spec PyProof.Rows
inductive Td where
 | non | bl (b:Bool) | int (i:Int) | str (s:Str) | tup (l:List Td) | lst (l:List Td) | dic
mutual
def Is(H:Hp):Td->V->Prop
 | .non,x=>x=.non
 | .bl b,x=>x=.bl b
 | .int i,x=>x=.int i
 | .str s,x=>x=.str s
 | .tup ds,x=>∃ p xs,x=.ref p/\H p=some (.tup xs)/\Iss H ds xs
 | .lst ds,x=>∃ p xs,x=.ref p/\H p=some (.lst xs)/\Iss H ds xs
 | .dic,x=>∃ p,x=.ref p/\H p=some (.dK [])
def Iss(H:Hp):List Td->List V->Prop
 | [],xs=>xs=[]
 | d::ds,xs=>∃ y ys,xs=y::ys/\Is H d y/\Iss H ds ys
end
def nw(H H':Hp):Hp:=λb=>match H b with | none=>H' b | some _=>none
section
variable {X:Cx}
end
section
variable {P:Program}{w:World}{K:Frag}{mg:Str->Option Value}{base:Heap}
theorem upG{k:Nat}{f:Addr}{c:FuncData}{d:List Str}{sp:Sp}(F:FnOk P w K mg base CX0 k f c d sp):FnOk P w K mg base (CXG P w) k f c d sp :=
 ⟨F.len,λA a s H b l g Q E j h p i o=>codeAny_mono (F.run A a s H b l g Q E j h p i o) λr s' hq=>by
  cases r with
  | error e=>exact False.elim hq
  | ok fl=>cases fl <;> exact hq⟩
end
section
variable {X:Cx}
end
section
variable {P:Program}{w:World}{K:Frag}{mg:Str->Option Value}{base:Heap}
end
end L2
namespace My
open PySem L2 FrM Nst
open Nm (dL fY gp bi eS fAt eL seat cU ent)
inductive spIsW(vs:List V)(H:Hp)(Q:VK)(_E:XK):Prop
 | mk(i lo hi:Int)(h0:vs=[.int i,.int lo,.int hi])(h1:Q (.bl (decide (lo<=i/\i<=hi))) H):spIsW vs H Q _E
inductive spNeedN(vs:List V)(H:Hp)(Q:VK)(_E:XK):Prop
 | mk(i lo hi:Int)(h0:vs=[.int i,.int lo,.int hi])(h1:lo<=i)(h2:i<=hi)(h3:Q .non H):spNeedN vs H Q _E
inductive spStartI(a:Ad)(vs:List V)(H:Hp)(Q:VK)(_E:XK):Prop
 | mk(x dx:Addr)(m:Nat)(h0:vs=[.ref x,.int (m:Nat)])(h1:H x=some (.ins a.c_e dx []))(h2:1<=m)(h3:m<=100)(h4:Q .non (upd H x (.ins a.c_e dx [("step",.int (m:Nat))]))):spStartI a vs H Q _E
inductive spLooseI(a:Ad)(vs:List V)(H:Hp)(Q:VK)(_E:XK):Prop
 | mk(x dx:Addr)(m:Nat)(h0:vs=[.ref x,.int (m:Nat)])(h1:H x=some (.ins a.c_g dx []))(h2:m<=24)(h3:Q .non (upd H x (.ins a.c_g dx [("many",.int (m:Nat))]))):spLooseI a vs H Q _E
inductive spFewI(a:Ad)(vs:List V)(H:Hp)(Q:VK)(_E:XK):Prop
 | mk(x dx:Addr)(m:Nat)(h0:vs=[.ref x,.int (m:Nat)])(h1:H x=some (.ins a.c_r dx []))(h2:m<=24)(h3:Q .non (upd H x (.ins a.c_r dx [("many",.int (m:Nat))]))):spFewI a vs H Q _E
inductive spEachI(a:Ad)(vs:List V)(H:Hp)(Q:VK)(_E:XK):Prop
 | mk(x dx:Addr)(v:V)(h0:vs=[.ref x,v])(h1:H x=some (.ins a.c_j dx []))(h2:Q .non (upd H x (.ins a.c_j dx [("inside",v)]))):spEachI a vs H Q _E
inductive spFirstI(a:Ad)(vs:List V)(H:Hp)(Q:VK)(_E:XK):Prop
 | mk(x dx:Addr)(v u:V)(h0:vs=[.ref x,v,u])(h1:H x=some (.ins a.c_a dx []))(h2:Q .non (upd H x (.ins a.c_a dx [("outside",v),("inside",u)]))):spFirstI a vs H Q _E
theorem fw(lo a n:Int):within lo a (some n)=if lo<=n/\n<=a then some n else none:=rfl
inductive spMade(vs:List V)(H:Hp)(Q:VK)(_E:XK):Prop
 | mk(t S:Str)(m:Int)(h0:vs=[.str t,.str S,.int m])(h1:t.length<=sizeLine)(h2:∀ H',Same H H'->Q (.bl (iO t S m)) H'):spMade vs H Q _E
inductive spNumOf(vs:List V)(H:Hp)(Q:VK)(_E:XK):Prop
 | mk(t:Str)(lo hi:Int)(h0:vs=[.str t,.int lo,.int hi])(h1:t.length<=640)(h2:∀ H',Same H H'->Q (oV (within lo hi (NumM.numO t.cps.toList))) H'):spNumOf vs H Q _E
def cv:Pl->Pt.Pl
 | .few m=>.cnt 0 m
 | .start m=>.cnt 1 m
 | .loose m=>.cnt 2 m
 | .each p=>.each (cv p)
 | .first p q=>.fst (cv p) (cv q)
abbrev wd(pl:Pl):List Str:=Pt.words (cv pl)
def Ws(H:Hp)(p:Addr)(ws:List Str):Prop:=H p=some (.lst (ws.map V.str))/\ws.length<=1000/\∀ w∈ws,w.length<=640
theorem Ws.same{H a:Hp}{p:Addr}{b:List Str}(s:Same H a)(h:Ws H p b):Ws a p b:=⟨s _ _ h.1,h.2⟩
theorem Ws.at{a:List Str}{i:Nat}{w:Str}(h:a[i]? = some w):atI (a.map V.str) (i:Int)=some (.str w):=aU (by rw[List.getElem?_map,h];rfl)
inductive spWordA(vs:List V)(H:Hp)(Q:VK)(_E:XK):Prop
 | mk(p:Addr)(ws:List Str)(i:Nat)(x:Str)(h0:vs=[.ref p,.int (i:Nat)])(h1:Ws H p ws)(h2:ws[i]? = some x)(h3:Q (.str x) H):spWordA vs H Q _E
inductive spBehA(vs:List V)(H:Hp)(Q:VK)(_E:XK):Prop
 | mk(p:Addr)(ws:List Str)(i:Nat)(x:Str)(h0:vs=[.ref p,.int (i:Nat),.str x])(h1:Ws H p ws)(h2:ws[i]? = some x)(h3:Q (.int ((i:Int)+1)) H):spBehA vs H Q _E
def nmP:Pl->Str
 | .few _ => "few"
 | .start _ => "start"
 | .loose _ => "loose"
 | _ => "each"
def nP:Pl->Nat
 | .few m=>m
 | .start m=>m
 | .loose m=>m
 | _=>0
inductive spCPl(a:Ad)(vs:List V)(H:Hp)(Q:VK)(_E:XK):Prop
 | mk(pl:Pl)(h0:vs=[.str (nmP pl),.int (nP pl:Nat)])(h1:d5 pl)(h2:∀ H' v,Same H H'->IsPn a H' v pl->Q v H'):spCPl a vs H Q _E
inductive spCA(a:Ad)(vs:List V)(H:Hp)(Q:VK)(_E:XK):Prop
 | mk(p:Addr)(ws:List Str)(i:Nat)(pl:Pl)(h0:vs=[.ref p,.int (i:Nat)])(h1:Ws H p ws)(h2:d5 pl)(h3:ws[i]? = some (nmP pl))(h4:ws[i+1]? = some (Pt.tS (nP pl:Nat)))(h5:∀ H' v,Same H H'->IsPn a H' v pl->Q v H'):spCA a vs H Q _E
def uM(a:Ad)(pl:Pl)(e:Nat)(H:Hp)(Q:VK):Prop:=∀ H' t v,Same H H'->H' t=some (.tup [v,.int (e:Nat)])->IsPn a H' v pl->Q (.ref t) H'
theorem qB{H:Hp}{x a:Addr}{C:Addr}(c:H x=none)(d:H a=none):Same H (upd (upd H a (.own x)) x (.ins C a [])):=λb o e=>by
 have g:b≠x:=λz=>by rw[z,c]at e;cases e
 have f:b≠a:=λz=>by rw[z,d]at e;cases e
 rw[az g,az f];exact e
theorem fb{H:Hp}{x a:Addr}{C:Addr}{fs:List (Str×V)}(c:H x=none)(f:H a=none):Same H (upd (upd (upd H a (.own x)) x (.ins C a [])) x (.ins C a fs)):=λb o e=>by
 have d:b≠x:=λz=>by rw[z,c]at e;cases e
 rw[az d];exact qB c f b o e
theorem xB{pl:Pl}(h:d5 pl):within 0 100 (NumM.numO (Pt.tS (nP pl:Nat)).cps.toList)=some (nP pl:Int):=by
 have b:nP pl<=100:=by
  cases pl with
  | few m=>have h:m<=24:=h;show m<=100;lia
  | start m=>exact h.2
  | loose m=>have h:m<=24:=h;show m<=100;lia
  | each p=>exact h.elim
  | first p q=>exact h.elim
 rw[Pt.tS_codes,qX (by lia),fw,if_pos (by lia)]
section
variable {P:Program}{w:World}{K:Frag}{mg:Str->Option Value}{base:Heap}{a:Ad}
theorem wm(T:Txt K mg a):FnOk P w K mg base CX0 1 a.f_ao a.d_ao ["thing","low","high"] spIsW:=by
 refine T.F_ao.ok nj (λb H Q E h=>?_) (λcdv A outer s H b Q E hr h=>?_)
 .obtain⟨i,d,c,rfl,_⟩:=h;rfl
 .obtain⟨i,d,c,rfl,q⟩:=h
  refine⟨_,(ah (aw (rY (av cV rfl T.z_isinstance aX (aa (vr 0) (aa (eB (v:=.ty "int") rfl T.z_int oZ rfl) ac))) (rY (wW (av cV rfl T.z_isinstance aX (aa (vr 0) (aa (eB (v:=.ty "bool") rfl T.z_bool mw rfl) ac)))) (sX (pE n8 n8 (vr 1) (vr 0) (vr 2))))))),?_⟩;refine⟨_,_,_,true,rfl,rfl,.int i,rfl,?_⟩;refine⟨_,_,_,false,rfl,rfl,.int i,rfl,?_⟩;exact v7 (Q:=λv=>Q v H) q
theorem jT(T:Txt K mg a):FnOk P w K mg base CX0 2 a.f_F a.d_F ["thing","low","high"] spNeedN:=by
 have b:FnOk P w K mg base CX0 1 _ _ _ spIsW:=wm T;refine T.F_F.ok kd (λe H Q E h=>?_) (λcdv A outer s H e Q E hr h=>?_)
 .obtain⟨i,d,c,rfl,_⟩:=h;rfl
 .obtain⟨i,d,c,rfl,f,g,q⟩:=h
  refine⟨_,(ah (aI (gU (dY (aj b hr rfl T.m_ao T.F_ao.kp T.B_ao .nil ai (aa (vr 0) (aa (vr 1) (aa (vr 2) ac)))))) (ah dZ) aD)),?_⟩;refine⟨i,d,c,rfl,?_⟩;rw[decide_eq_true (And.intro f g)];exact q
theorem jP(T:Txt K mg a):FnOk P w K mg base CX0 3 a.i_e a.e_e ["self","step"] (spStartI a):=by
 have b:FnOk P w K mg base CX0 2 _ _ _ spNeedN:=jT T;refine T.Fi_e.ok iL (λd H Q E h=>?_) (λcdv A outer s H d Q E hr h=>?_)
 .obtain⟨x,c,m,rfl,_⟩:=h;rfl
 .obtain⟨x,c,m,rfl,e,i,f,q⟩:=h
  refine⟨_,(af (aV (aj b hr rfl T.m_F T.F_F.kp T.B_F .nil ai (aa (vr 1) (aa ag (aa (dz rfl T.g_MOST_STEP) ac))))) (ah (jg (vr 0) (vr 1) rfl))),cL ?_⟩;intro g;refine⟨_,1,100,rfl,by lia,by lia,?_⟩;exact⟨x,a.c_e,c,[],rfl,e,T.cl_e,T.na_Start_step,(by decide),q⟩
theorem jS(T:Txt K mg a):FnOk P w K mg base CX0 3 a.i_g a.e_g ["self","many"] (spLooseI a):=by
 have b:FnOk P w K mg base CX0 2 _ _ _ spNeedN:=jT T;refine T.Fi_g.ok iH (λd H Q E h=>?_) (λcdv A outer s H d Q E hr h=>?_)
 .obtain⟨x,c,m,rfl,_⟩:=h;rfl
 .obtain⟨x,c,m,rfl,e,g,q⟩:=h
  refine⟨_,(af (aV (aj b hr rfl T.m_F T.F_F.kp T.B_F .nil ai (aa (vr 1) (aa ag (aa (dz rfl T.g_MOST_MANY) ac))))) (ah (jg (vr 0) (vr 1) rfl))),cL ?_⟩;intro f;refine⟨_,0,24,rfl,by lia,by lia,?_⟩;exact⟨x,a.c_g,c,[],rfl,e,T.cl_g,T.na_Loose_many,(by decide),q⟩
theorem og(T:Txt K mg a):FnOk P w K mg base CX0 3 a.i_r a.e_r ["self","many"] (spFewI a):=by
 have b:FnOk P w K mg base CX0 2 _ _ _ spNeedN:=jT T;refine T.Fi_r.ok jz (λd H Q E h=>?_) (λcdv A outer s H d Q E hr h=>?_)
 .obtain⟨x,c,m,rfl,_⟩:=h;rfl
 .obtain⟨x,c,m,rfl,e,g,q⟩:=h
  refine⟨_,(af (aV (aj b hr rfl T.m_F T.F_F.kp T.B_F .nil ai (aa (vr 1) (aa ag (aa (dz rfl T.g_MOST_MANY) ac))))) (ah (jg (vr 0) (vr 1) rfl))),cL ?_⟩;intro f;refine⟨_,0,24,rfl,by lia,by lia,?_⟩;exact⟨x,a.c_r,c,[],rfl,e,T.cl_r,T.na_Few_many,(by decide),q⟩
theorem lT(T:Txt K mg a):FnOk P w K mg base CX0 1 a.i_j a.e_j ["self","inside"] (spEachI a):=by
 refine T.Fi_j.ok ja (λc H Q E h=>?_) (λcdv A outer s H c Q E hr h=>?_)
 .obtain⟨x,b,v,rfl,_⟩:=h;rfl
 .obtain⟨x,b,v,rfl,d,q⟩:=h
  refine⟨_,(ah (jg (vr 0) (vr 1) rfl)),?_⟩;exact⟨x,_,b,_,rfl,d,T.cl_j,T.na_Each_inside,by decide,q⟩
theorem jU(T:Txt K mg a):FnOk P w K mg base CX0 1 a.i_a a.e_a ["self","outside","inside"] (spFirstI a):=by
 refine T.Fi_a.ok iG (λc H Q E h=>?_) (λcdv A outer s H c Q E hr h=>?_)
 .obtain⟨x,b,v,u,rfl,_⟩:=h;rfl
 .obtain⟨x,b,v,u,rfl,e,q⟩:=h
  refine⟨_,(af (jg (vr 0) (vr 1) rfl) (ah (jg (vr 0) (vr 2) rfl))),cL ?_⟩;intro d;refine⟨x,_,b,_,rfl,e,T.cl_a,T.na_First_outside,by decide,?_⟩;refine⟨x,_,b,_,rfl,ae,T.cl_a,T.na_First_inside,(show 1<1000 by decide),?_⟩;rw[hZ];exact q
theorem uw(T:Txt K mg a):FnOk P w K mg base CX0 1 a.f_ah a.d_ah ["text","signs","most"] spMade:=by
 refine T.F_ah.ok kH (λr H Q E h=>?_) (λcdv A outer s H r Q E hr h=>?_)
 .obtain⟨t,S,m,rfl,_⟩:=h;rfl
 .obtain⟨t,S,m,rfl,j,q⟩:=h
  refine⟨_,(ah (aw (rY (pE n8 n8 ag (av aF rfl T.z_len aQ (aa (vr 0) ac)) (vr 2)) (sX (av (qx rfl) rfl T.z_all v8 (aa (aT rfl (N:=["sign","signs"]) (ix:=[none,some 1]) ⟨rfl,rfl,rfl,rfl,⟨rfl,rfl,rfl,trivial⟩⟩ (aP (vr 0)) ⟨λC s H p=>au (i:=0) (show List.Nodup (["sign","signs"]:List Str) by decide +kernel) rfl (Or.inl rfl),λC s H p=>aN,λC s H p=>(iK wZ (vr 0) (vr 1) (by with_unfolding_all rfl))⟩) ac)))))),?_⟩
  have o:∀ b,Same H b->¬(1<=(t.cps.size:Int)/\(t.cps.size:Int)<=m)->Q (.bl false) b:=λb e c=>by
   have:=q b e;unfold iO at this;rw[decide_eq_false c]at this;exact this
  refine⟨j,?_⟩;refine ifC (λg=>?_) (λg=>(o H (Same.refl H) λz=>g z.1));refine ifC (λf=>?_) (λf=>o H (Same.refl H) λz=>f z.2)
  have c:1<=(t.cps.size:Int)/\(t.cps.size:Int)<=m:=⟨g,f⟩
  intro D y;refine sg (λi d b=>b=upd H D (.lst d)/\d=(t.cps.toList.take i).map λc=>V.bl (decide (c∈S.cps.toList))) ⟨rfl,rfl⟩ (λi d b ⟨e,_⟩=>by rw[e];exact ae) ?_ ?_
  .rintro i c d b P v ⟨rfl,rfl⟩ u
   refine⟨⟨rfl,trivial⟩,?_⟩;have l:t.cps.toList[i]? = some c:=by simpa using v
   refine⟨ae,?_,u _ _ ⟨hZ,?_⟩⟩
   .rw[length_map,length_take]
    have B:i<t.cps.toList.length:=(List.getElem?_eq_some_iff.mp l).1;have:t.cps.toList.length=t.cps.size:=by simp
    have F:t.cps.size<=sizeLine:=j;lia
   .rw[take_add_one,l,map_append]
    show _=_++[V.bl (decide (c∈S.cps.toList))]
    congr 2
    show V.bl (!(Builtin.Str.occurrences _ _ 0 _ 1).isEmpty)=_;rw[PySem.StrLaws.found_one]
  .rintro d b ⟨rfl,rfl⟩
   refine⟨D,_,t.cps.toList.map λc=>decide (c∈S.cps.toList),rfl,SqL.of ae,?_,?_⟩
   .rw[map_map,take_of_length_le (by simp)]
    rfl
   .have x:(t.cps.toList.map λc=>decide (c∈S.cps.toList)).all id=iO t S m:=by
     unfold iO;rw[decide_eq_true c,Bool.true_and,List.all_map];rfl
    rw[x];exact q _ (Same.new y)
theorem rX(T:Txt K mg a):FnOk P w K mg base CX0 2 a.f_ac a.d_ac ["text","low","high"] spNumOf:=by
 have x:FnOk P w K mg base CX0 1 _ _ _ spMade:=uw T;refine T.F_ac.ok sc_ac (λX H Q E h=>?_) (λcdv A outer s H X Q E hr h=>?_)
 .obtain⟨t,S,R,rfl,_⟩:=h;rfl
 .obtain⟨t,S,R,rfl,D,q⟩:=h
  have o:t.length<=sizeLine:=Nat.le_trans D (by rw[sizeLine_eq];decide)
  have b:NumM.numO t.cps.toList=none->∀ g,Same H g->Q .non g:=λe g s=>by
   have:=q g s;rw[e]at this;exact this
  have f:("-" : Str)=⟨#[45]⟩:=by decide +kernel
  have d:("0" : Str)=⟨#[48]⟩:=by decide +kernel
  refine⟨_,(af (ay (i:=3) sc_ac.nd rfl (Or.inl rfl) (wD (gQ (dY (pe_m.startswith (vr 0) (aa aE ac))) (dn gG (vr 0) (eF ag) eC) (vr 0)))) (af (aI (gU (dY (aj x hr rfl T.m_ah T.F_ah.kp T.B_ah .nil ai (aa (vr 3) (aa (dz rfl T.g_FIGURES) (aa (dz rfl T.g_MOST_FIGURES) ac)))))) (ah (aw nW)) aD) (db (aI (PW.pt (gY (dY (pe_m.startswith (vr 3) (aa aE ac))) (fJ (aG nM (vr 0) aE (aB _))))) (ah (aw nW)) aD) (af (ay (i:=4) sc_ac.nd rfl (Or.inl rfl) (b7 qM rfl T.z_int oZ (aa (vr 0) ac))) (ah (aw (gQ (tP n8 n8 (vr 1) (vr 4) (vr 2)) (vr 4) nW))))))),?_⟩
  obtain⟨F,f1,f2,f3,f4⟩:∃ F:Str,F.cps.toList=NumM.bareL t.cps.toList/\F.length<=sizeLine/\(Txt.startswith t "-" = true->kB t (some 1) none=F)/\(Txt.startswith t "-" = false->t=F):=by
   by_cases hn:t.cps.toList.head? = some 45
   .refine⟨kB t (some 1) none,?_,Nat.le_trans (um _ _ _) o,λ_=>rfl,λh=>?_⟩
    .rw[oA];unfold NumM.bareL;rw[if_pos hn]
    .rw[f,gz,decide_eq_true hn]at h;cases h
   .refine⟨t,?_,o,λh=>?_,λ_=>rfl⟩
    .unfold NumM.bareL;rw[if_neg hn]
    .rw[f,gz,decide_eq_false hn]at h;cases h
  have L:∀ p,Same H p->iO F "0123456789" 12=true->(Txt.startswith F "0" = true->¬t ≠ "0")->PySem.intText? t=some (NumM.valS t.cps.toList)/\NumM.numO t.cps.toList=some (NumM.valS t.cps.toList):=by
   intro p y l B;rw[nQ,f1]at l;obtain⟨G,j,ab⟩:=NumM.digB_all l
   have I:NumM.badZ t.cps.toList=false:=by
    unfold NumM.badZ;rw[<- Bool.not_eq_true,Bool.and_eq_true,decide_eq_true_eq,decide_eq_true_eq];rintro⟨z1,z2⟩;refine B (by rw[d,gz,f1];exact decide_eq_true z1) λe=>z2 ?_
    rw[e];decide +kernel
   refine⟨?_,by unfold NumM.numO;rw[l,I];rfl⟩
   by_cases hn:t.cps.toList.head? = some 45
   .have e:t.cps.toList=45::NumM.bareL t.cps.toList:=by
     unfold NumM.bareL;rw[if_pos hn];cases hl:t.cps.toList with
     | nil=>rw[hl]at hn;cases hn
     | cons c r =>
      rw[hl]at hn;have:c=45:=by simpa using hn
      rw[this];rfl
    have:=PySem.intText_neg e G (by intro z;rw[z]at j;exact absurd j (by decide)) (Nat.le_trans D (by decide));rw[this];unfold NumM.valS;rw[if_pos hn]
   .have e:NumM.bareL t.cps.toList=t.cps.toList:=by unfold NumM.bareL;rw[if_neg hn]
    rw[e]at G j;have:=PySem.intText_digits G (by intro z;rw[z]at j;exact absurd j (by decide)) (Nat.le_trans D (by decide));rw[this];unfold NumM.valS;rw[if_neg hn,e]
  have C:iO F "0123456789" 12=false\/(Txt.startswith F "0" = true/\t ≠ "0")->NumM.numO t.cps.toList=none:=by
   intro h;unfold NumM.numO
   rcases h with h | ⟨h,Z⟩
   .rw[nQ,f1]at h
    rw[h];rfl
   .rw[d,gz,f1]at h
    have:NumM.badZ t.cps.toList=true:=by
     unfold NumM.badZ;rw[h,Bool.true_and];refine decide_eq_true λe=>Z ?_
     rw[d];exact PyProof.Rows.ext_toList e
    rw[this,Bool.not_true,Bool.and_false];rfl
  refine⟨λv g=>v=.str F/\g=H,⟨rfl,ifB (λl=>⟨1,rfl,o,by rw[f3 l],rfl⟩) (λl=>⟨by rw[f4 l],rfl⟩)⟩,?_⟩;rintro v g ⟨rfl,rfl⟩;refine⟨F, "0123456789",12,rfl,f2,λp y=>?_⟩;refine ifB (λB=>b (C (.inl (by simpa using B))) p y) (λB=>?_);have M:iO F "0123456789" 12=true:=by simpa using B
  let Pw1:St->Hp->Prop:=λu g=>u=[some (.str t),some (.int S),some (.int R),some (.str F),none]/\g=p/\(Txt.startswith F "0" = true->¬t ≠ "0")
  refine⟨Pw1,⟨rfl,ifB (λO=>ifB (λh4=>b (C (.inr ⟨O,by simpa using h4⟩)) p y) (λh4=>⟨rfl,rfl,λ_ z=>by simp[z]at h4⟩)) (λO=>qp ⟨rfl,rfl,λz=>by rw[O]at z;cases z⟩)⟩,?_⟩;rintro u g ⟨rfl,rfl,W⟩;obtain⟨k1,Y⟩:=L g y M W;have:=q g y;rw[Y]at this;refine⟨_,k1,D,ifC (λN=>ifC (λc2=>?_) (λc2=>?_)) (λN=>?_)⟩
  .rw[fw,if_pos ⟨N,c2⟩]at this;exact this
  .rw[fw,if_neg λz=>c2 z.2]at this;exact this
  .rw[fw,if_neg λz=>N z.1]at this;exact this
theorem j4(T:Txt K mg a):FnOk P w K mg base CX0 1 a.f_af a.d_af ["words","place"] spWordA:=by
 refine T.F_af.ok o8 (λf H Q E h=>?_) (λcdv A outer s H f Q E hr h=>?_)
 .obtain⟨p,b,i,x,rfl,_⟩:=h;rfl
 .obtain⟨p,b,i,x,rfl,e,d,q⟩:=h
  have j:=(List.getElem?_eq_some_iff.mp d).1;refine⟨_,(af (aI (aG be (vr 1) (av aF rfl T.z_len aQ (aa (vr 0) ac)) (aB _)) (ah dZ) aD) (ah (aw (aq am (vr 0) (vr 1) (λ_ _=>rfl))))),cL ?_⟩;intro g;refine⟨b.map V.str,.inl (SqL.of e.1),?_⟩;rw[length_map];refine ifC (λc=>?_) (λc=>?_)
  .have l:(i:Int)=(b.length:Int):=c
   lia
  .exact .inl ⟨p,_,i,.str x,rfl,rfl,SqL.of e.1,Ws.at d,q⟩
theorem pB(T:Txt K mg a):FnOk P w K mg base CX0 2 a.f_I a.d_I ["words","place","wanted"] spBehA:=by
 have b:FnOk P w K mg base CX0 1 _ _ _ spWordA:=j4 T;refine T.F_I.ok j1 (λe H Q E h=>?_) (λcdv A outer s H e Q E hr h=>?_)
 .obtain⟨p,d,i,x,rfl,_⟩:=h;rfl
 .obtain⟨p,d,i,x,rfl,j,f,q⟩:=h
  refine⟨_,(af (aI (aG nM (aj b hr rfl T.m_af T.F_af.kp T.B_af .nil ai (aa (vr 0) (aa (vr 1) ac))) (vr 2) (aB _)) (ah dZ) aD) (ah (aw (aA bE (vr 1) ag)))),cL ?_⟩;intro g;refine⟨p,d,i,x,rfl,j,f,?_⟩;refine ifB (λc=>?_) (λc=>?_)
  .exact absurd rfl (show x≠x by simpa using c)
  .exact q
theorem vR(T:Txt K mg a):FnOk P w K mg base CX0 5 a.f_Q a.d_Q ["word","number"] (spCPl a):=by
 have j:FnOk P w K mg base CX0 3 _ _ _ (spFewI a):=og T;have i:FnOk P w K mg base CX0 3 _ _ _ (spStartI a):=jP T;have l:FnOk P w K mg base CX0 3 _ _ _ (spLooseI a):=jS T;have g:FnOk P w K mg base CX0 3 a.i_s a.e_s ["self","many"] mP:=ka;refine T.F_Q.ok jy (λu H Q E h=>?_) (λcdv A outer s H u Q E hr h=>?_)
 .obtain⟨o,rfl,_⟩:=h;rfl
 .obtain⟨o,rfl,c,q⟩:=h
  refine⟨_,(af (aI (aG be (vr 0) aE (aB _)) (ah (aw (bO T.mk_r j hr rfl T.mc_r T.Bi_r .nil ai (aa (vr 1) ac)))) aD) (af (aI (aG be (vr 0) aE (aB _)) (ah (aw (bO T.mk_e i hr rfl T.mc_e T.Bi_e .nil ai (aa (vr 1) ac)))) aD) (af (aI (aG be (vr 0) aE (aB _)) (ah (aw (bO T.mk_g l hr rfl T.mc_g T.Bi_g .nil ai (aa (vr 1) ac)))) aD) (ah (aw (bO T.mk_s g hr rfl T.mc_s T.Bi_s .nil ai (aa (vr 1) ac))))))),nq ?_⟩;intro v z y;cases o with
  | few m=>exact λx b e f d=>⟨x,b,m,rfl,ae,c,rfl,q _ _ (fb e f) ⟨x,b,rfl,ae⟩⟩
  | start m=>exact λx b e f d=>⟨x,b,m,rfl,ae,c.1,c.2,rfl,q _ _ (fb e f) ⟨x,b,rfl,ae⟩⟩
  | loose m=>exact λx b e f d=>⟨x,b,m,rfl,ae,c,rfl,q _ _ (fb e f) ⟨x,b,rfl,ae⟩⟩
  | each p=>exact c.elim
  | first p r=>exact c.elim
theorem xt(T:Txt K mg a):FnOk P w K mg base CX0 6 a.f_Z a.d_Z ["words","place"] (spCA a):=by
 have b:FnOk P w K mg base CX0 5 _ _ _ _:=(rX T).mono (by decide);have c:FnOk P w K mg base CX0 5 _ _ _ _:=(j4 T).mono (by decide);have e:FnOk P w K mg base (CXG P w) 5 _ _ _ (spCPl a):=upG (vR T);refine T.F_Z.ok sc_Z (λr H Q E h=>?_) (λcdv A outer s H r Q E hr h=>?_)
 .obtain⟨p,o,i,d,rfl,_⟩:=h;rfl
 .obtain⟨p,o,i,d,rfl,f,j,u,l,q⟩:=h
  refine⟨_,(af (ay (i:=2) sc_Z.nd rfl (Or.inl rfl) (aj b hr rfl T.m_ac T.F_ac.kp T.B_ac .nil ai (aa (aj c hr rfl T.m_af T.F_af.kp T.B_af .nil ai (aa (vr 0) (aa (aA bE (vr 1) ag) ac))) (aa ag (aa (dz rfl T.g_MOST_STEP) ac))))) (ah (uh ⟨rfl,rfl⟩ (wt (uY (t5 e hr rfl T.m_Q T.F_Q.kp T.B_Q .nil (aa (aq am (vr 0) (vr 1) (λ_ _=>rfl)) (aa (vr 2) ac))))) (ul ⟨rfl,rfl⟩ rfl T.mc_G T.xh_G (λx=>(ah dZ)) v6)))),cL ?_⟩;intro B;refine⟨p,o,i+1,_,rfl,f,l,?_⟩;refine⟨_,0,100,rfl,f.2.2 _ (List.mem_of_getElem? l),λD g=>?_⟩;rw[xB j];refine .inl ⟨p,_,i,.str (nmP d),rfl,rfl,SqL.of (g _ _ f.1),Ws.at u,?_⟩;exact⟨d,rfl,j,λz v C y=>q z v (g.trans C) y⟩
end
open Nm (dL fY gp bi eS fAt eL seat cU ent)
theorem gH:∀{n:Nat}{pl:Pl},ht n pl->Pt.Good n (cv pl)
 | n,.few m,h=>by
  have h:m<=24:=by cases n <;> exact h
  refine(show Pt.Good n (.cnt 0 (m:Int)) from ?_)
  cases n <;> exact⟨by decide,Int.natCast_nonneg _,by show(m:Int)<=24;lia⟩
 | n,.start m,h=>by
  have h:1<=m/\m<=100:=by cases n <;> exact h
  refine(show Pt.Good n (.cnt 1 (m:Int)) from ?_)
  cases n <;> exact⟨by decide,by show(1:Int)<=(m:Int);lia,by show(m:Int)<=100;lia⟩
 | n,.loose m,h=>by
  have h:m<=24:=by cases n <;> exact h
  refine(show Pt.Good n (.cnt 2 (m:Int)) from ?_)
  cases n <;> exact⟨by decide,Int.natCast_nonneg _,by show(m:Int)<=24;lia⟩
 | 0,.each p,h=>h.elim
 | 0,.first p q,h=>h.elim
 | n+1,.each p,h=>gH (n:=n) (pl:=p) h
 | n+1,.first p q,h=>⟨gH (n:=n) (pl:=p) (gw h.1),gH (n:=n) (pl:=q) h.2⟩
theorem uz{pl:Pl}(h:d5 pl):wd pl=[nmP pl,Pt.tS (nP pl:Nat)]:=by cases pl <;> first | rfl | exact h.elim
theorem ng{a A r:List Str}{i:Nat}(h:a.drop i=A++r):a.drop (i+A.length)=r:=by rw[<- List.drop_drop,h,List.drop_left]
theorem er{a r:List Str}{i:Nat}{w:Str}(h:a.drop i=w::r):a[i]? = some w/\a.drop (i+1)=r/\i<a.length:=by
 have b:a[i]? = some w:=by
  have:=congrArg (λl=>l[0]?) h;simpa using this
 refine⟨b,?_,(List.getElem?_eq_some_iff.mp b).1⟩;have:=congrArg List.tail h;simpa using this
inductive spPA(a:Ad)(n:Nat)(vs:List V)(H:Hp)(Q:VK)(_E:XK):Prop
 | mk(p:Addr)(ws:List Str)(i:Nat)(d:Int)(pl:Pl)(r:List Str)(h0:vs=[.ref p,.int (i:Nat),.int d])(h1:d+n=3)(h2:Ws H p ws)(h3:ht n pl)(h4:ws.drop i=wd pl++r)(h5:uM a pl (i+(wd pl).length) H Q):spPA a n vs H Q _E
inductive spBr(a:Ad)(n:Nat)(vs:List V)(H:Hp)(Q:VK)(_E:XK):Prop
 | mk(p:Addr)(ws:List Str)(i:Nat)(d:Int)(pl:Pl)(r:List Str)(h0:vs=[.ref p,.int (i:Nat),.int d])(h1:d+n=3)(h2:Ws H p ws)(h3:ht n pl)(h4:ws.drop i=("(" : Str)::(wd pl++(")" : Str)::r))(h5:uM a pl (i+1+(wd pl).length+1) H Q):spBr a n vs H Q _E
inductive spEA(a:Ad)(n:Nat)(vs:List V)(H:Hp)(Q:VK)(_E:XK):Prop
 | mk(p:Addr)(ws:List Str)(i m:Nat)(d:Int)(pl:Pl)(r:List Str)(h0:vs=[.ref p,.int (i:Nat),.int d])(h1:n=m+1)(h2:d+n=3)(h3:Ws H p ws)(h4:ht m pl)(h5:ws.drop (i+1)=("(" : Str)::(wd pl++(")" : Str)::r))(h6:uM a (.each pl) (i+1+1+(wd pl).length+1) H Q):spEA a n vs H Q _E
inductive spFA(a:Ad)(n:Nat)(vs:List V)(H:Hp)(Q:VK)(_E:XK):Prop
 | mk(p:Addr)(ws:List Str)(i m:Nat)(d:Int)(po pl:Pl)(r:List Str)(h0:vs=[.ref p,.int (i:Nat),.int d])(h1:n=m+1)(h2:d+n=3)(h3:Ws H p ws)(h4:d5 po)(h5:ht m pl)(h6:ws.drop (i+1)=("(" : Str)::(wd po++(")" : Str)::("then" : Str)::("(" : Str)::(wd pl++(")" : Str)::r)))(h7:uM a (.first po pl) (i+1+1+(wd po).length+1+1+1+(wd pl).length+1) H Q):spFA a n vs H Q _E
inductive spPO(a:Ad)(vs:List V)(H:Hp)(Q:VK)(_E:XK):Prop
 | mk(pl:Pl)(h0:vs=[.str (Pt.text (cv pl))])(h1:ht 3 pl)(h2:∀ H' v,Same H H'->IsPn a H' v pl->Q v H'):spPO a vs H Q _E
theorem uE{i:Int}(a:0<=i)(b:i<=100):i.natAbs.log2<1920:=qy (by lia)
theorem qv{i:Int}(a:0<=i)(b:i<=100):((toString i:String):Str).length<=14:=by
 have h:=qU (k:=12) (n:=i) (by lia);rw[<- gL]at h;simpa[Str.length] using h
open Pt (words lo hi vS nm tS tS_codes) in
theorem iP:∀(n:Nat) (pl:Pt.Pl),Pt.Good n pl->∀ w∈Pt.words pl,w.length<=20/\32 ∉ w.cps.toList
 | n,.cnt k i,g,w,hw=>by
  have d:k<4/\lo k<=i/\i<=hi k:=by cases n <;> exact g
  have b:=vS k
  rcases mem_cons.mp hw with rfl | hw
  .rcases(by lia:k=0\/k=1\/k=2\/k=3) with rfl | rfl | rfl | rfl <;> exact⟨by decide +kernel,by decide +kernel⟩
  .obtain rfl:=mem_singleton.mp hw
   have z:(tS i).length<=14:=qv (by lia) (by lia);refine⟨by lia,λh=>?_⟩;rw[tS_codes]at h;have:=jv h;lia
 | n+1,.each p,g,w,hw=>by
  have a:=iP n p g w;simp only[words,mem_append,mem_cons,mem_singleton,not_mem_nil,or_false]at hw
  rcases hw with((rfl | rfl) | h) | rfl
  .exact⟨by decide +kernel,by decide +kernel⟩
  .exact⟨by decide +kernel,by decide +kernel⟩
  .exact a h
  .exact⟨by decide +kernel,by decide +kernel⟩
 | n+1,.fst p q,g,w,hw=>by
  have a:=iP n p g.1 w;have c:=iP n q g.2 w;simp only[words,mem_append,mem_cons,mem_singleton,not_mem_nil,or_false]at hw
  rcases hw with((((rfl | rfl) | h) | (rfl | rfl | rfl)) | h) | rfl
  .exact⟨by decide +kernel,by decide +kernel⟩
  .exact⟨by decide +kernel,by decide +kernel⟩
  .exact a h
  .exact⟨by decide +kernel,by decide +kernel⟩
  .exact⟨by decide +kernel,by decide +kernel⟩
  .exact⟨by decide +kernel,by decide +kernel⟩
  .exact c h
  .exact⟨by decide +kernel,by decide +kernel⟩
section
variable {P:Program}{w:World}{K:Frag}{mg:Str->Option Value}{base:Heap}{a:Ad}
theorem vm(T:Txt K mg a)(n:Nat)(e:FnOk P w K mg base CX0 (3*n+7) a.f_ab a.d_ab ["words","place","around"] (spPA a n)):FnOk P w K mg base CX0 (3*n+8) a.f_u a.d_u ["words","place","around"] (spBr a n):=by
 have b:FnOk P w K mg base CX0 (3*n+7) _ _ _ spBehA:=(pB T).mono (by lia);refine T.F_u.ok sc_u (λu H Q E h=>?_) (λcdv A outer s H u Q E hr h=>?_)
 .obtain⟨p,f,i,d,j,r,rfl,_⟩:=h;rfl
 .obtain⟨p,f,i,d,j,r,rfl,y,g,F,B,q⟩:=h
  obtain⟨z,o,N⟩:=er B;obtain⟨G,L,O⟩:=er (ng o);refine⟨_,(af (d4 (aj e hr rfl T.m_ab T.F_ab.kp T.B_ab .nil ai (aa (vr 0) (aa (aj b hr rfl T.m_I T.F_I.kp T.B_I .nil ai (aa (vr 0) (aa (vr 1) (aa aE ac)))) (aa (vr 2) ac)))) (bA rfl (ax (au (i:=3) sc_u.nd rfl (Or.inl rfl)) (ax (au (i:=4) sc_u.nd rfl (Or.inl rfl)) aO)))) (ah (aw (aK (aa (vr 3) (aa (aj b hr rfl T.m_I T.F_I.kp T.B_I .nil ai (aa (vr 0) (aa (vr 4) (aa aE ac)))) ac)))))),cL ?_⟩;intro I;refine⟨p,f,i, "(",rfl,g,z,?_⟩;refine⟨p,f,i+1,d,j,_,rfl,y,g,F,o,λM t v l x C=>?_⟩;refine⟨t,_,rfl,SqT.of x,rfl,?_⟩;refine⟨_,_,rfl,?_⟩;refine⟨_,_,rfl,?_⟩;refine⟨rfl,?_⟩;refine⟨p,f,_, ")",rfl,g.same l,G,?_⟩;refine⟨(by decide:2<=sizeLine),λD c=>?_⟩;exact q _ D v (l.trans (Same.new c)) ae (C.n (cf (Same.new c).t))
theorem xw(T:Txt K mg a)(m:Nat)(f:FnOk P w K mg base CX0 (3*m+8) a.f_u a.d_u ["words","place","around"] (spBr a m)):FnOk P w K mg base CX0 (3*m+9) a.f_ak a.d_ak ["words","place","around"] (spEA a (m+1)):=by
 have c:FnOk P w K mg base CX0 (3*m+7) _ _ _ (spEachI a):=(lT T).mono (by lia);refine T.F_ak.ok sc_ak (λD H Q E h=>?_) (λcdv A outer s H D Q E hr h=>?_)
 .obtain⟨p,u,i,y,d,e,r,rfl,_⟩:=h;rfl
 .obtain⟨p,u,i,y,d,e,r,rfl,W,X,L,R,I,q⟩:=h
  obtain rfl:m=y:=by lia
  refine⟨_,(af (d4 (aj f hr rfl T.m_u T.F_u.kp T.B_u .nil ai (aa (vr 0) (aa (aA bE (vr 1) ag) (aa (aA bE (vr 2) ag) ac)))) (bA rfl (ax (au (i:=3) sc_ak.nd rfl (Or.inl rfl)) (ax (au (i:=4) sc_ak.nd rfl (Or.inl rfl)) aO)))) (ah (aw (aK (aa (bO T.mk_j c hr rfl T.mc_j T.Bi_j .nil ai (aa (vr 3) ac)) (aa (vr 4) ac)))))),cL ?_⟩;intro S;refine⟨p,u,i+1,d+1,e,r,rfl,by lia,L,R,I,λY t v M G N=>?_⟩;refine⟨t,_,rfl,SqT.of G,rfl,?_⟩;refine⟨_,_,rfl,?_⟩;refine⟨_,_,rfl,?_⟩;refine⟨rfl,?_⟩
  refine λx l z g F=>⟨x,l,v,rfl,ae,rfl,?_⟩
  refine⟨(by decide:2<=sizeLine),λO b=>?_⟩;have B:=fb (C:=a.c_j) (fs:=[("inside",v)]) z g;have j:=B.trans (Same.new (o:=.tup [.ref x,.int ((i+1+1+(wd e).length+1:Nat):Int)]) b);exact q _ O (.ref x) (M.trans j) ae ⟨x,l,v,rfl,Same.new b _ _ ae,N.n (cf j.t)⟩
theorem wS(T:Txt K mg a)(m:Nat)(c:FnOk P w K mg base CX0 (3*m+8) a.f_u a.d_u ["words","place","around"] (spBr a m)):FnOk P w K mg base CX0 (3*m+9) a.f_W a.d_W ["words","place","around"] (spFA a (m+1)):=by
 have F:FnOk P w K mg base CX0 (3*m+7) _ _ _ (spFirstI a):=(jU T).mono (by lia);have g:FnOk P w K mg base CX0 (3*m+8) _ _ _ spBehA:=(pB T).mono (by lia);refine T.F_W.ok sc_W (λW H Q E h=>?_) (λcdv A outer s H W Q E hr h=>?_)
 .obtain⟨p,e,i,N,d,f,j,r,rfl,_⟩:=h;rfl
 .obtain⟨p,e,i,N,d,f,j,r,rfl,em,hd,u,hf,hh,L,q⟩:=h
  obtain rfl:m=N:=by lia
  obtain⟨z1,z2,z3⟩:=er L;obtain⟨y1,O,y3⟩:=er (ng z2);obtain⟨x1,Z,x3⟩:=er O;refine⟨_,(af (d4 (aj c hr rfl T.m_u T.F_u.kp T.B_u .nil ai (aa (vr 0) (aa (aA bE (vr 1) ag) (aa (aA bE (vr 2) ag) ac)))) (bA rfl (ax (au (i:=3) sc_W.nd rfl (Or.inl rfl)) (ax (au (i:=4) sc_W.nd rfl (Or.inl rfl)) aO)))) (af (d4 (aj c hr rfl T.m_u T.F_u.kp T.B_u .nil ai (aa (vr 0) (aa (aj g hr rfl T.m_I T.F_I.kp T.B_I .nil ai (aa (vr 0) (aa (vr 4) (aa aE ac)))) (aa (aA bE (vr 2) ag) ac)))) (bA rfl (ax (au (i:=5) sc_W.nd rfl (Or.inl rfl)) (ax (au (i:=4) sc_W.nd rfl (Or.inl rfl)) aO)))) (ah (aw (aK (aa (bO T.mk_a F hr rfl T.mc_a T.Bi_a .nil ai (aa (vr 3) (aa (vr 5) ac))) (aa (vr 4) ac))))))),ii ?_⟩;intro ab ad;refine⟨p,e,i+1,d+1,f,_,rfl,by lia,u,gw hf,L,λH1 t v z Y hv=>?_⟩;refine⟨t,_,rfl,SqT.of Y,rfl,?_⟩;refine⟨_,_,rfl,?_⟩;refine⟨_,_,rfl,?_⟩;refine⟨rfl,?_⟩;refine⟨p,e,_, "then",rfl,u.same z,x1,?_⟩;refine⟨p,e,_,d+1,j,r,rfl,by lia,u.same z,hh,Z,λH2 t2 y I D l=>?_⟩;refine⟨t2,_,rfl,SqT.of D,rfl,?_⟩;refine⟨_,_,rfl,?_⟩;refine⟨_,_,rfl,?_⟩;refine⟨rfl,?_⟩
  refine λx M R G X=>⟨x,M,v,y,rfl,ae,rfl,?_⟩
  refine⟨(by decide:2<=sizeLine),λt3 b=>?_⟩;have S:=fb (C:=a.c_a) (fs:=[("outside",v),("inside",y)]) R G;have B:=S.trans (Same.new (o:=.tup [.ref x,.int ((i+1+1+(wd f).length+1+1+1+(wd j).length+1:Nat):Int)]) b);exact q _ t3 (.ref x) (z.trans (I.trans B)) ae ⟨x,M,v,y,rfl,Same.new b _ _ ae,hv.n (cf (I.trans B).t),l.n (cf B.t)⟩
theorem wc(k:Nat):FnOk P w K mg base CX0 k a.f_ak a.d_ak ["words","place","around"] (spEA a 0):=by
 have b:∀{vs:List V}{H:Hp}{Q:VK}{E:XK},¬spEA a 0 vs H Q E:=λh=>by obtain⟨_,_,_,m,_,_,_,_,e,_⟩:=h;lia
 exact⟨λ_ _ _ _ h=>(b h).elim,λ_ _ _ _ _ _ _ _ _ _ _ _ _ h=>(b h).elim⟩
theorem vK(k:Nat):FnOk P w K mg base CX0 k a.f_W a.d_W ["words","place","around"] (spFA a 0):=by
 have b:∀{vs:List V}{H:Hp}{Q:VK}{E:XK},¬spFA a 0 vs H Q E:=λh=>by obtain⟨_,_,_,m,_,_,_,_,_,e,_⟩:=h;lia
 exact⟨λ_ _ _ _ h=>(b h).elim,λ_ _ _ _ _ _ _ _ _ _ _ _ _ h=>(b h).elim⟩
theorem rD(T:Txt K mg a)(n:Nat)(y:FnOk P w K mg base CX0 (3*n+6) a.f_ak a.d_ak ["words","place","around"] (spEA a n))(D:FnOk P w K mg base CX0 (3*n+6) a.f_W a.d_W ["words","place","around"] (spFA a n)) :
  FnOk P w K mg base CX0 (3*n+7) a.f_ab a.d_ab ["words","place","around"] (spPA a n):=by
 have x:FnOk P w K mg base CX0 (3*n+6) _ _ _ spWordA:=(j4 T).mono (by lia);have C:FnOk P w K mg base CX0 (3*n+6) _ _ _ (spCA a):=(xt T).mono (by lia);refine T.F_ab.ok sc_ab (λM H Q E h=>?_) (λcdv A outer s H M Q E hr h=>?_)
 .obtain⟨p,f,i,d,g,r,rfl,_⟩:=h;rfl
 .obtain⟨p,f,i,d,g,r,rfl,I,l,o,e,q⟩:=h
  refine⟨_,(af (ay (i:=3) sc_ab.nd rfl (Or.inl rfl) (aj x hr rfl T.m_af T.F_af.kp T.B_af .nil ai (aa (vr 0) (aa (vr 1) ac)))) (af (aI (aG i8 (vr 3) (dz rfl T.g_COUNTED) (by with_unfolding_all rfl)) (ah (aw (aK (aa (aj C hr rfl T.m_Z T.F_Z.kp T.B_Z .nil ai (aa (vr 0) (aa (vr 1) ac))) (aa (aA bE (vr 1) ag) ac))))) aD) (af (aI (PW.pt (gY (aG be (vr 3) aE (aB _)) (fJ (aG oQ (vr 2) (dz rfl T.g_MOST_AROUND) (aB _))))) (ah (aw (aj y hr rfl T.m_ak T.F_ak.kp T.B_ak .nil ai (aa (vr 0) (aa (vr 1) (aa (vr 2) ac)))))) aD) (af (aI (PW.pt (gY (aG be (vr 3) aE (aB _)) (fJ (aG oQ (vr 2) (dz rfl T.g_MOST_AROUND) (aB _))))) (ah (aw (aj D hr rfl T.m_W T.F_W.kp T.B_W .nil ai (aa (vr 0) (aa (vr 1) (aa (vr 2) ac)))))) aD) (ah dZ))))),lu ?_⟩;intro O N W Y
  by_cases hf:d5 g
  .rw[uz hf]at e q
   obtain⟨j,z,L⟩:=er e;obtain⟨X,Z,y3⟩:=er z;refine⟨p,f,i,_,rfl,l,j,?_⟩;refine⟨_,_,rfl,.inr (mx T.t_COUNTED),rfl,by decide +kernel,?_⟩
   have b:inV (.str (nmP g)) [.str "few",.str "start",.str "loose",.str "duel"]=true:=by
    refine(gO _ ["few","start","loose","duel"]).trans ?_
    cases g <;> first | exact hf.elim | exact decide_eq_true (by simp[nmP])
   show if inV (.str (nmP g)) [.str "few",.str "start",.str "loose",.str "duel"]=true then _ else _
   rw[b];refine xT ⟨p,f,i,g,rfl,l,hf,j,X,λH1 v R S=>?_⟩;refine⟨(by decide:2<=sizeLine),λt G=>?_⟩;exact q _ t v (R.trans (Same.new G)) ae (S.n (cf (Same.new G).t))
  .cases n with
   | zero=>cases g <;> first | exact absurd o hf | exact o.elim
   | succ m =>
    have F:d<3:=by lia
    cases g with
    | each p' =>
     have e:f.drop i=("each" : Str)::("(" : Str)::(wd p'++(")" : Str)::r):=by rw[e];show Pt.words (.each (cv p'))++r=_;simp[Pt.words]
     obtain⟨u,hu⟩:∃ u:Str,u = "each" := ⟨_,rfl⟩;rw[<- hu]at e;obtain⟨j,z,L⟩:=er e;refine⟨p,f,i,_,rfl,l,j,?_⟩;refine⟨_,_,rfl,.inr (mx T.t_COUNTED),rfl,by decide +kernel,?_⟩;have b:inV (.str u) [.str "few",.str "start",.str "loose",.str "duel"]=false:=by rw[hu];exact(gO "each" ["few","start","loose","duel"]).trans (by decide +kernel)
     show if inV (.str u) [.str "few",.str "start",.str "loose",.str "duel"]=true then _ else _
     rw[b];refine qp ?_;refine ifB (λc=>ifC (λc2=>?_) (λc2=>absurd F c2)) (λc=>absurd hu (by simpa using c));refine⟨p,f,i,m,d,p',r,rfl,rfl,I,l,o,z,?_⟩;have B:i+(wd (.each p')).length=i+1+1+(wd p').length+1:=by show i+(Pt.words (.each (cv p'))).length=_;simp[Pt.words];lia
     rw[B]at q;exact q
    | first po p' =>
     have e:f.drop i=("first" : Str)::("(" : Str)::(wd po++(")" : Str)::("then" : Str)::("(" : Str)::(wd p'++(")" : Str)::r)):=by rw[e];show Pt.words (.fst (cv po) (cv p'))++r=_;simp[Pt.words]
     obtain⟨u,hu⟩:∃ u:Str,u = "first" := ⟨_,rfl⟩;rw[<- hu]at e;obtain⟨j,z,L⟩:=er e;refine⟨p,f,i,_,rfl,l,j,?_⟩;refine⟨_,_,rfl,.inr (mx T.t_COUNTED),rfl,by decide +kernel,?_⟩;have b:inV (.str u) [.str "few",.str "start",.str "loose",.str "duel"]=false:=by rw[hu];exact(gO "first" ["few","start","loose","duel"]).trans (by decide +kernel)
     show if inV (.str u) [.str "few",.str "start",.str "loose",.str "duel"]=true then _ else _
     rw[b];refine qp ?_;refine ifB (λc=>absurd (show u = "each" by simpa using c) (by rw[hu];decide +kernel)) (λc=>qp ?_);refine ifB (λc=>ifC (λc2=>?_) (λc2=>absurd F c2)) (λc=>absurd hu (by simpa using c));refine⟨p,f,i,m,d,po,p',r,rfl,rfl,I,l,o.1,o.2,z,?_⟩;have B:i+(wd (.first po p')).length=i+1+1+(wd po).length+1+1+1+(wd p').length+1:=by show i+(Pt.words (.fst (cv po) (cv p'))).length=_;simp[Pt.words];lia
     rw[B]at q;exact q
    | _=>exact absurd o hf
theorem rj(T:Txt K mg a):∀ n:Nat,FnOk P w K mg base CX0 (3*n+7) a.f_ab a.d_ab ["words","place","around"] (spPA a n)
 | 0=>rD T 0 (wc _) (vK _)
 | n+1=>rD T (n+1) (xw T n (vm T n (rj T n))) (wS T n (vm T n (rj T n)))
end
open Nm (dL fY gp bi eS fAt eL seat cU ent)
section
variable {P:Program}{w:World}{K:Frag}{mg:Str->Option Value}{base:Heap}{a:Ad}
theorem xr(T:Txt K mg a):FnOk P w K mg base CX0 17 a.f_an a.d_an ["text"] (spPO a):=by
 have c:FnOk P w K mg base CX0 16 _ _ _ (spPA a 3):=rj T 3;refine T.F_an.ok sc_an (λF H Q E h=>?_) (λcdv A outer s H F Q E hr h=>?_)
 .obtain⟨b,rfl,_⟩:=h;rfl
 .obtain⟨b,rfl,u,q⟩:=h
  have g:=gH u;have d:=iP 3 (cv b) g
  have Y:(wd b).length<=200:=by
   have G:=Pt.words_len (cv b);have R:=Pt.sz_bd 3 (cv b) g;have h3:Pt.bd 3=50:=rfl;show(Pt.words (cv b)).length<=200;lia
  have S:(wd b).map (λt=>t.cps.toList)=SplM.splitC 32 (Pt.text (cv b)).cps.toList:=by
   rw[Pt.text_codes,SplM.split_join 32 _ (by simpa using Pt.words_ne (cv b))];intro p D;obtain⟨t,f,rfl⟩:=mem_map.mp D;exact(d t f).2
  have tl:(Pt.text (cv b)).length<=100000:=by
   have e:∀(l:List (List Nat)),(∀ x∈l,x.length<=20)->(SplM.joinC 32 l).length<=21*l.length:=by
    intro l
    induction l with
    | nil=>intro _;exact Nat.le_refl _
    | cons x l ih =>
     intro h;have G:=h x mem_cons_self;have R:=ih λy M=>h y (mem_cons_of_mem _ M)
     cases l with
     | nil=>show x.length<=_;simp;lia
     | cons y l =>
      rw[SplM.joinC_cons 32 x (by simp),length_append,length_cons];rw[length_cons (a:=x)];lia
   have:=e ((wd b).map λt=>t.cps.toList) (λx hx=>by
    obtain⟨t,f,rfl⟩:=mem_map.mp hx;have:=(d t f).1;rw[Array.length_toList]
    exact this)
   rw[<- Pt.text_codes,length_map,Array.length_toList]at this;show(Pt.text (cv b)).cps.size<=100000;lia
  have Z:sizeLine=16777216:=sizeLine_eq;refine⟨_,(af (aI (gU (dY (av cV rfl T.z_isinstance aX (aa (vr 0) (aa (eB (v:=.ty "str") rfl T.z_str sS rfl) ac))))) (ah dZ) aD) (af (ay (i:=1) sc_an.nd rfl (Or.inl rfl) (pe_m.split (vr 0) (aa aE ac))) (af (d4 (aj c hr rfl T.m_ab T.F_ab.kp T.B_ab .nil ai (aa (vr 1) (aa ag (aa ag ac)))) (bA rfl (ax (au (i:=2) sc_an.nd rfl (Or.inl rfl)) (ax (au (i:=3) sc_an.nd rfl (Or.inl rfl)) aO)))) (af (aI (aG oQ (vr 3) (av aF rfl T.z_len aQ (aa (vr 1) ac)) (aB _)) (ah dZ) aD) (ah (aw (vr 2))))))),lu ?_⟩;intro L I W X;refine⟨_,_,_,true,rfl,rfl,.str _,rfl,?_⟩;refine⟨rfl,Pt.text (cv b),32,rfl,by rw[oW],by show(Pt.text (cv b)).length+2<=_;lia,λl B j r=>?_⟩;obtain rfl:B=wd b:=mK (r.trans S.symm);have O:=Same.new (o:=.lst ((wd b).map V.str)) j;refine⟨l,wd b,0,0,b,[],rfl,rfl,⟨ae,by lia,λw N=>by have:=(d w N).1;lia⟩,u,by rw[drop_zero,append_nil],λH2 t2 v s2 ht2 hv=>?_⟩;refine⟨t2,_,rfl,SqT.of ht2,rfl,?_⟩;refine⟨_,_,rfl,?_⟩;refine⟨_,_,rfl,?_⟩;refine⟨rfl,?_⟩;refine⟨(wd b).map V.str,.inl (SqL.of (s2 _ _ ae)),?_⟩;rw[length_map];refine ifC (λz=>?_) (λ_=>q _ _ (O.trans s2) hv);have C:((0+(wd b).length:Nat):Int)<((wd b).length:Int):=z;lia
end
end My
namespace My
open PySem L2 Pt
inductive spText(C:Addr)(f:Str)(t:Str)(vs:List V)(H:Hp)(Q:VK)(_E:XK):Prop
 | mk(x dx:Addr)(i:Int)(h0:vs=[.ref x])(h1:H x=some (.ins C dx [(f,.int i)]))(h2:0<=i)(h3:i<=100)(h4:Q (.str (t++((toString i:String):Str))) H):spText C f t vs H Q _E
def cK(a:Ad)(k:Nat):Addr:=if k=0 then a.c_r else if k=1 then a.c_e else if k=2 then a.c_g else a.c_s
def fK(k:Nat):Str:=if k=1 then "step" else "many"
def n5(a:Ad)(H:Hp):V->Pl->Prop
 | v,.cnt k i=>∃ x dx,v=.ref x/\H x=some (.ins (cK a k) dx [(fK k,.int i)])
 | v,.each p=>∃ x dx u,v=.ref x/\H x=some (.ins a.c_j dx [("inside",u)])/\n5 a H u p
 | v,.fst p q=>∃ x dx u1 u2,v=.ref x/\H x=some (.ins a.c_a dx [("outside",u1),("inside",u2)])/\n5 a H u1 p/\n5 a H u2 q
inductive Wk
 | s (t:Str)
 | p (pl:Pl)
def nR:Wk->Str
 | .s t=>t
 | .p pl=>text pl
def wsz:Wk->Nat
 | .s _=>1
 | .p pl=>sz pl
def yh(a:Ad)(H:Hp):Wk->V->Prop
 | .s t,v=>v=.str t/\t.length<=30
 | .p pl,v=>n5 a H v pl/\∃ n,Good n pl
inductive Stk(a:Ad)(H:Hp):List Wk->List V->Prop
 | nil:Stk a H [] []
 | cons {k:Wk}{v:V}{L:List Wk}{vs:List V}(h:yh a H k v) (r:Stk a H L vs):Stk a H (k::L) (vs++[v])
theorem Stk.len{a:Ad}{H:Hp}{L:List Wk}{vs:List V}(h:Stk a H L vs):L.length=vs.length:=by
 induction h with
 | nil=>rfl
 | cons h r ih=>rw[length_cons,length_append,ih];rfl
def cM(ts:List Str):List Nat:=(ts.map λt=>t.cps.toList).flatten
theorem kJ(x y:List Str):cM (x++y)=cM x++cM y:=by unfold cM;rw[map_append,List.flatten_append]
theorem jf(x:Str):cM [x]=x.cps.toList:=by simp[cM]
theorem vw:∀ ts:List Str,(Str.join "" ts).cps.toList=cM ts
 | []=>by decide +kernel
 | [t]=>by rw[jf];rfl
 | t::u::r=>by
  have a:=vw (u::r);show(t++("" : Str)++Str.join "" (u::r)).cps.toList=_;rw[Str.cps_append,Str.cps_append,Array.toList_append,Array.toList_append,a];show t.cps.toList++("" : Str).cps.toList++cM (u::r)=_;rw[show("" : Str).cps.toList=[] from by decide +kernel,append_nil];rfl
theorem nK(a:List Str):(Txt.join "" a).cps.toList=cM a:=by
 show(Builtin.Str.glued "" a).cps.toList=_;rw[PySem.StrLaws.glued_eq_join];exact vw a
def bM(L:List Wk):List Nat:=cM (L.map nR)
def size(L:List Wk):Nat:=(L.map wsz).sum
theorem sF:∀(ts:List Str),(∀ t∈ts,t.length<=30)->(ts.map (·.length)).sum<=30*ts.length
 | [],_=>Nat.le_refl _
 | t::r,h=>by
  have:=sF r λx a=>h x (mem_cons_of_mem _ a)
  have:=h t mem_cons_self;simp only[map_cons,sum_cons,length_cons];lia
inductive spTextOf(a:Ad)(vs:List V)(H:Hp)(Q:VK)(_E:XK):Prop
 | mk(v:V)(pl:Pl)(n:Nat)(h0:vs=[v])(h1:n5 a H v pl)(h2:Good n pl)(h3:sz pl<=1000)(h4:∀ H',Same H H'->Q (.str (text pl)) H'):spTextOf a vs H Q _E
inductive spTextM(a:Ad)(C:Addr)(vs:List V)(H:Hp)(Q:VK)(_E:XK):Prop
 | mk(x dx:Addr)(fs:List (Str×V))(pl:Pl)(n:Nat)(h0:vs=[.ref x])(h1:H x=some (.ins C dx fs))(h2:n5 a H (.ref x) pl)(h3:Good n pl)(h4:sz pl<=1000)(h5:∀ H',Same H H'->Q (.str (text pl)) H'):spTextM a C vs H Q _E
section
variable {P:Program}{w:World}{K:Frag}{mg:Str->Option Value}{base:Heap}{a:Ad}
theorem emp(x:Str):(Str.empty++x:Str)=x:=by
 refine PyProof.Rows.ext_toList ?_;show((#[]:Array Nat)++x.cps).toList=x.cps.toList;simp
theorem pG(T:Txt K mg a):FnOk P w K mg base CX0 1 a.x_N a.y_N ["self"] (spText a.c_r "many" "few "):=by
 refine T.F_N.ok sc_N (λf H Q E h=>?_) (λcdv A outer s H f Q E hr h=>?_)
 .obtain⟨x,c,i,rfl,_⟩:=h;rfl
 .obtain⟨x,c,i,rfl,g,d,b,q⟩:=h
  refine⟨_,(af (ay (i:=1) sc_N.nd rfl (Or.inl rfl) (bb (vr 0) rfl)) (ah (aw (jM (fG aE (fG (mj (vr 1)) lI)))))),cL ?_⟩;intro j;have p:=qv d b;have l:sizeLine=16777216:=sizeLine_eq;have o:((Str.empty++("few " : Str):Str)).length<=8:=by decide +kernel
  have e:((Str.empty++("few " : Str))++((toString i:String):Str):Str).length<=sizeLine:=by rw[strLen_append];lia
  refine⟨x,_,c,_,_,rfl,g,T.cl_r,T.na_Few_many,rfl,?_⟩;refine⟨by lia,uE d b,e,e,?_⟩;rw[emp];exact q
theorem li(T:Txt K mg a):FnOk P w K mg base CX0 1 a.x_B a.y_B ["self"] (spText a.c_e "step" "start "):=by
 refine T.F_B.ok sc_B (λf H Q E h=>?_) (λcdv A outer s H f Q E hr h=>?_)
 .obtain⟨x,c,i,rfl,_⟩:=h;rfl
 .obtain⟨x,c,i,rfl,g,d,b,q⟩:=h
  refine⟨_,(af (ay (i:=1) sc_B.nd rfl (Or.inl rfl) (bb (vr 0) rfl)) (ah (aw (jM (fG aE (fG (mj (vr 1)) lI)))))),cL ?_⟩;intro j;have p:=qv d b;have l:sizeLine=16777216:=sizeLine_eq;have o:((Str.empty++("start " : Str):Str)).length<=8:=by decide +kernel
  have e:((Str.empty++("start " : Str))++((toString i:String):Str):Str).length<=sizeLine:=by rw[strLen_append];lia
  refine⟨x,_,c,_,_,rfl,g,T.cl_e,T.na_Start_step,rfl,?_⟩;refine⟨by lia,uE d b,e,e,?_⟩;rw[emp];exact q
theorem kZ(T:Txt K mg a):FnOk P w K mg base CX0 1 a.x_C a.y_C ["self"] (spText a.c_g "many" "loose "):=by
 refine T.F_C.ok sc_C (λf H Q E h=>?_) (λcdv A outer s H f Q E hr h=>?_)
 .obtain⟨x,c,i,rfl,_⟩:=h;rfl
 .obtain⟨x,c,i,rfl,g,d,b,q⟩:=h
  refine⟨_,(af (ay (i:=1) sc_C.nd rfl (Or.inl rfl) (bb (vr 0) rfl)) (ah (aw (jM (fG aE (fG (mj (vr 1)) lI)))))),cL ?_⟩;intro j;have p:=qv d b;have l:sizeLine=16777216:=sizeLine_eq;have o:((Str.empty++("loose " : Str):Str)).length<=8:=by decide +kernel
  have e:((Str.empty++("loose " : Str))++((toString i:String):Str):Str).length<=sizeLine:=by rw[strLen_append];lia
  refine⟨x,_,c,_,_,rfl,g,T.cl_g,T.na_Loose_many,rfl,?_⟩;refine⟨by lia,uE d b,e,e,?_⟩;rw[emp];exact q
theorem rH(T:Txt K mg a):FnOk P w K mg base CX0 1 a.x_P a.y_P ["self"] (spText a.c_s "many" "duel "):=by
 refine T.F_P.ok sc_P (λf H Q E h=>?_) (λcdv A outer s H f Q E hr h=>?_)
 .obtain⟨x,c,i,rfl,_⟩:=h;rfl
 .obtain⟨x,c,i,rfl,g,d,b,q⟩:=h
  refine⟨_,(af (ay (i:=1) sc_P.nd rfl (Or.inl rfl) (bb (vr 0) rfl)) (ah (aw (jM (fG aE (fG (mj (vr 1)) lI)))))),cL ?_⟩;intro j;have p:=qv d b;have l:sizeLine=16777216:=sizeLine_eq;have o:((Str.empty++("duel " : Str):Str)).length<=8:=by decide +kernel
  have e:((Str.empty++("duel " : Str))++((toString i:String):Str):Str).length<=sizeLine:=by rw[strLen_append];lia
  refine⟨x,_,c,_,_,rfl,g,T.cl_s,T.na_Duel_many,rfl,?_⟩;refine⟨by lia,uE d b,e,e,?_⟩;rw[emp];exact q
theorem kR(T:Txt K mg a):FnOk P w K mg base CX0 2 a.f_ae a.d_ae ["plan"] (spTextOf a):=by
 have a3:FnOk P w K mg base CX0 1 _ _ _ (spText a.c_r "many" "few "):=pG T;have a4:FnOk P w K mg base CX0 1 _ _ _ (spText a.c_e "step" "start "):=li T;have a2:FnOk P w K mg base CX0 1 _ _ _ (spText a.c_g "many" "loose "):=kZ T;have as:FnOk P w K mg base CX0 1 _ _ _ (spText a.c_s "many" "duel "):=rH T;refine T.F_ae.ok sc_ae (λvs H Q E h=>?_) (λcdv A outer s H vs Q E hr h=>?_)
 .obtain⟨v,F,n,rfl,_⟩:=h;rfl
 .obtain⟨v,F,n,rfl,hp,hg,hz,q⟩:=h
  have sl:sizeLine=16777216:=sizeLine_eq;refine⟨_,(af (ay (i:=1) sc_ae.nd rfl (Or.inl rfl) (aZ ac)) (af (ay (i:=2) sc_ae.nd rfl (Or.inl rfl) (aZ (aa (vr 0) ac))) (af (fh PassesOwn.never (ko (vr 2) (λ_=>rfl)) (af (ay (i:=3) sc_ae.nd rfl (Or.inl rfl) (pe_m.pop (vr 2))) (ah (aI (dY (av cV rfl T.z_isinstance aX (aa (vr 3) (aa (eB (v:=.ty "str") rfl T.z_str sS rfl) ac)))) (ah (aV (pe_m.append (vr 1) (aa (vr 3) ac)))) (ah (aI (dY (av cV rfl T.z_isinstance aX (aa (vr 3) (aa (dz rfl T.g_j) ac)))) (ah (aV (pe_m.extend (vr 2) (aa (aZ (aa aE (aa (bb (vr 3) rfl) (aa aE ac)))) ac)))) (ah (aI (dY (av cV rfl T.z_isinstance aX (aa (vr 3) (aa (dz rfl T.g_a) ac)))) (ah (aV (pe_m.extend (vr 2) (aa (aZ (cQ aE (cQ (bb (vr 3) rfl) (cQ aE (cQ (bb (vr 3) rfl) (cQ aE ac)))))) ac)))) (ah (aV (pe_m.append (vr 1) (aa (PE.or (du (vr 3) T.cl_r T.mt_N a3 hr T.B_N .nil ai) (PE.or (du (vr 3) T.cl_e T.mt_B a4 hr T.B_B .nil ai) (PE.or (du (vr 3) T.cl_g T.mt_C a2 hr T.B_C .nil ai) (du (vr 3) T.cl_s T.mt_P as hr T.B_P .nil ai)))) ac)))))))))))) (ah (aw (pe_m.join aE (aa (vr 1) ac))))))),nq ?_⟩;intro a6 a7 a8;refine⟨Nat.zero_le _,λl hl=>?_⟩;refine⟨(by decide:1<=sizeLine),λm hm=>?_⟩;have lm:m≠l:=λz=>by rw[z,ae]at hm;cases hm
  have Y:H m=none:=by rw[az lm]at hm;exact hm
  refine⟨λk σ S=>∃(d:List Str) (L:List Wk) (vs:List V) (x:Option V),σ=[some v,some (.ref l),some (.ref m),x]/\k=size L/\Same H S/\S l=some (.lst (d.map V.str))/\S m=some (.lst vs)/\Stk a H L vs /\
   cM d++bM L=(text F).cps.toList/\(∀ t∈d,t.length<=30)/\d.length+size L<=sz F,?_,?_⟩
  .refine⟨_,[],[.p F],[v],none,rfl,rfl,?_,?_,ae,Stk.cons (vs:=[]) ⟨hp,n,hg⟩ .nil,?_,by simp,by simp[size,wsz]⟩
   .exact(Same.new hl).trans (Same.new hm)
   .rw[az lm.symm];exact ae
   .simp[cM,bM,nR]
  rintro k σ S ⟨d,L,vs,x,rfl,rfl,s1,h1,h2,hs,hf,M,g⟩;cases hs with
  | nil =>
   refine⟨false,.inl ⟨[],SqL.of h2,rfl⟩,?_⟩;refine qp ?_;refine⟨rfl, "",l,d,rfl,rfl,.inl (SqL.of h1),?_,?_⟩
   .have:=sF d M
    have e0:("" : Str).length=0:=by decide +kernel
    rw[e0];lia
   .have e:Txt.join "" d=text F:=PyProof.Rows.ext_toList (by rw[nK,<- hf];simp[bM,cM])
    rw[e];exact q _ s1
  | @cons kk u L' vs' hu hr' =>
   have a0:(vs'++[u]).isEmpty=false:=by cases vs' <;> rfl
   refine⟨true,.inl ⟨_,SqL.of h2,by rw[a0];rfl⟩,?_⟩;refine xT ?_
   refine⟨λal D=>∃(d:List Str) (L:List Wk) (vs:List V) (x:Option V),al=[some v,some (.ref l),some (.ref m),x]/\size L<size (kk::L')/\Same H D/\D l=some (.lst (d.map V.str))/\D m=some (.lst vs)/\Stk a H L vs /\
    cM d++bM L=(text F).cps.toList/\(∀ t∈d,t.length<=30)/\d.length+size L<=sz F,λal D ⟨d,L,vs,x,e1,e2,r⟩=>⟨size L,e2,d,L,vs,x,e1,rfl,r⟩,?_⟩
   refine⟨.inl ⟨rfl,_,SqL.of h2⟩,m,_,u,rfl,rfl,h2,by simp,?_⟩;rw[List.dropLast_concat];have ml:l≠m:=lm.symm;have W:Same H (upd S m (.lst vs')):=s1.put Y;have I:upd S m (.lst vs') l=some (.lst (d.map V.str)):=by rw[az ml];exact h1
   have g2:upd S m (.lst vs') m=some (.lst vs'):=ae;have an:H l=none:=hl
   have a5:d.length<1000:=by
    have:1<=wsz kk:=by cases kk with
     | s t=>exact Nat.le_refl _
     | p F=>exact oG F
    simp only[size,map_cons,sum_cons]at g;lia
   have y:size (kk::L')=wsz kk+size L':=by simp[size]
   have f:bM (kk::L')=(nR kk).cps.toList++bM L':=by simp[bM,cM]
   generalize upd S m (.lst vs')=D at W I g2;cases kk with
   | s t =>
    obtain⟨rfl,ht⟩:=hu;refine⟨_,_,_,true,rfl,rfl,.str t,rfl,?_⟩;refine⟨.inl ⟨rfl,_,SqL.of I⟩,l,_,_,rfl,rfl,I,by rw[length_map];lia,?_⟩;refine⟨d++[t],L',vs',_,rfl,by rw[y];simp[wsz],W.put an,by rw[ae,map_append];rfl,by rw[az lm];exact g2,hr',?_,?_,?_⟩
    .rw[kJ,jf,append_assoc,<- hf,f];rfl
    .intro x N
     rcases mem_append.mp N with z | z
     .exact M x z
     .rw[mem_singleton.mp z];exact ht
    .rw[y]at g
     rw[length_append];simp[wsz]at g ⊢;lia
   | p pl' =>
    obtain⟨ab,X,G⟩:=hu;cases pl' with
    | cnt k i =>
     obtain⟨B,C,rfl,N⟩:=ab;have c:=W _ _ N
     have g':k<4/\lo k<=i/\i<=hi k:=by cases X <;> exact G
     have b:=vS k;have i0:0<=i:=by lia
     have i1:i<=100:=by lia
     have O:∀ H3,H3=D->∃(ts':List Str) (L:List Wk) (vs:List V) (x:Option V),[some v,some (V.ref l),some (.ref m),some (.ref B)]=[some v,some (.ref l),some (.ref m),x]/\size L<size (.p (.cnt k i)::L')/\Same H (upd H3 l (.lst (d.map V.str++[.str (text (.cnt k i))])))/\upd H3 l (.lst (d.map V.str++[.str (text (.cnt k i))])) l=some (.lst (ts'.map V.str))/\upd H3 l (.lst (d.map V.str++[.str (text (.cnt k i))])) m=some (.lst vs)/\Stk a H L vs /\
       cM ts'++bM L=(text F).cps.toList/\(∀ t∈ts',t.length<=30)/\ts'.length+size L<=sz F:=by
      rintro H3 rfl;refine⟨d++[text (.cnt k i)],L',vs',_,rfl,by rw[y];simp[wsz,sz],W.put an,by rw[ae,map_append];rfl,by rw[az lm];exact g2,hr',?_,?_,?_⟩
      .rw[kJ,jf,append_assoc,<- hf,f];rfl
      .intro x N
       rcases mem_append.mp N with z | z
       .exact M x z
       .rw[mem_singleton.mp z]
        have z1:=qv i0 i1
        have z2:(nmB k).length<=8:=by
         rcases(by lia:k=0\/k=1\/k=2\/k=3) with rfl | rfl | rfl | rfl <;> decide +kernel
        show(nmB k++tS i:Str).length<=30;rw[strLen_append];have z3:(tS i).length<=14:=z1;lia
      .rw[y]at g
       rw[length_append];simp[wsz,sz]at g ⊢;lia
     rcases(by lia:k=0\/k=1\/k=2\/k=3) with rfl | rfl | rfl | rfl
     .have j:=T.ty_r D B C _ c
      refine⟨_,_,_,false,rfl,rfl,j,T.sf,?_⟩;refine⟨_,_,_,false,rfl,rfl,j,T.kfe,?_⟩;refine⟨_,_,_,false,rfl,rfl,j,T.kfa,?_⟩;exact⟨.inl ⟨rfl,_,SqL.of I⟩,.inl (⟨B,C,_,rfl,c,rfl,⟨B,C,i,rfl,c,i0,i1,l,_,_,rfl,rfl,I,by rw[length_map];lia,O D rfl⟩⟩)⟩
     .have j:=T.ty_e D B C _ c
      refine⟨_,_,_,false,rfl,rfl,j,T.ss,?_⟩;refine⟨_,_,_,false,rfl,rfl,j,T.kse,?_⟩;refine⟨_,_,_,false,rfl,rfl,j,T.ksa,?_⟩;exact⟨.inl ⟨rfl,_,SqL.of I⟩,.inr (.inl (⟨B,C,_,rfl,c,rfl,⟨B,C,i,rfl,c,i0,i1,l,_,_,rfl,rfl,I,by rw[length_map];lia,O D rfl⟩⟩))⟩
     .have j:=T.ty_g D B C _ c
      refine⟨_,_,_,false,rfl,rfl,j,T.sl,?_⟩;refine⟨_,_,_,false,rfl,rfl,j,T.kle,?_⟩;refine⟨_,_,_,false,rfl,rfl,j,T.kla,?_⟩;exact⟨.inl ⟨rfl,_,SqL.of I⟩,.inr (.inr (.inl (⟨B,C,_,rfl,c,rfl,⟨B,C,i,rfl,c,i0,i1,l,_,_,rfl,rfl,I,by rw[length_map];lia,O D rfl⟩⟩)))⟩
     .have j:=T.ty_s D B C _ c
      refine⟨_,_,_,false,rfl,rfl,j,T.sd,?_⟩;refine⟨_,_,_,false,rfl,rfl,j,T.kde,?_⟩;refine⟨_,_,_,false,rfl,rfl,j,T.kda,?_⟩;exact⟨.inl ⟨rfl,_,SqL.of I⟩,.inr (.inr (.inr (⟨B,C,_,rfl,c,rfl,⟨B,C,i,rfl,c,i0,i1,l,_,_,rfl,rfl,I,by rw[length_map];lia,O D rfl⟩⟩)))⟩
    | each p =>
     obtain⟨B,C,u0,rfl,N,hu⟩:=ab;have c:=W _ _ N
     have R:∃ n,Good n p:=by
      cases X with
      | zero=>exact G.elim
      | succ X=>exact⟨X,G⟩
     have j:=T.ty_j D B C _ c;refine⟨_,_,_,false,rfl,rfl,j,T.se,?_⟩;refine⟨_,_,_,true,rfl,rfl,j,T.kee,?_⟩;refine⟨.inl ⟨rfl,_,SqL.of g2⟩,?_⟩;refine⟨B,_,C,_,_,rfl,c,T.cl_j,T.na_Each_inside,rfl,?_⟩;refine⟨(by decide:3<=sizeLine),λb hb=>?_⟩;have Z:=Same.new (o:=.lst [.str " )",u0,.str "each ( "]) hb;have ad:=hr'.len
     have a1:L'.length<=size L':=by
      clear hf g y f hr' ad
      induction L' with
      | nil=>exact Nat.le_refl _
      | cons kk r ih =>
       have:1<=wsz kk:=by cases kk with
        | s t=>exact Nat.le_refl _
        | p F=>exact oG F
       simp only[size,map_cons,sum_cons,length_cons]at ih ⊢;lia
     rw[y]at g;refine⟨m,b,_,_,rfl,rfl,Z _ _ g2,ae,by show vs'.length+3<=_;lia,?_⟩;refine⟨d,.s "each ( " :: .p p::.s " )" :: L',vs'++[.str " )"]++[u0]++[.str "each ( "],_,rfl,?_,(W.trans Z).put Y,?_,?_,?_,?_,M,?_⟩
     .rw[y];simp only[size,map_cons,sum_cons,wsz,sz];lia
     .rw[az ml];exact Z _ _ I
     .rw[ae];simp
     .exact .cons ⟨rfl,by decide +kernel⟩ (.cons ⟨hu,R⟩ (.cons ⟨rfl,by decide +kernel⟩ hr'))
     .rw[<- hf,f]
      have e1:(text (.each p)).cps.toList=("each ( " : Str).cps.toList++((text p).cps.toList++(" )" : Str).cps.toList):=by
       show("each ( " ++ text p ++ " )" : Str).cps.toList=_;rw[bw,bw,append_assoc]
      show cM d++bM (.s "each ( " :: .p p::.s " )" :: L')=cM d++((text (.each p)).cps.toList++bM L');rw[e1];simp[bM,cM,nR]
     .simp only[size,map_cons,sum_cons,wsz,sz]at g ⊢;lia
    | fst p q =>
     obtain⟨B,C,u1,u2,rfl,N,ap,aS⟩:=ab;have c:=W _ _ N
     have R:(∃ n,Good n p)/\∃ n,Good n q:=by
      cases X with
      | zero=>exact G.elim
      | succ X=>exact⟨⟨X,G.1⟩,⟨X,G.2⟩⟩
     have j:=T.ty_a D B C _ c;refine⟨_,_,_,false,rfl,rfl,j,T.sa,?_⟩;refine⟨_,_,_,false,rfl,rfl,j,T.kae,?_⟩;refine⟨_,_,_,true,rfl,rfl,j,T.kaa,?_⟩;refine⟨.inl ⟨rfl,_,SqL.of g2⟩,?_⟩;refine⟨B,_,C,_,_,rfl,c,T.cl_a,T.na_First_inside,rfl,?_⟩;refine⟨B,_,C,_,_,rfl,c,T.cl_a,T.na_First_outside,rfl,?_⟩;refine⟨(by decide:5<=sizeLine),λb hb=>?_⟩;have Z:=Same.new (o:=.lst [.str " )",u2,.str " ) then ( ",u1,.str "first ( "]) hb;have ad:=hr'.len
     have a1:L'.length<=size L':=by
      clear hf g y f hr' ad
      induction L' with
      | nil=>exact Nat.le_refl _
      | cons kk r ih =>
       have:1<=wsz kk:=by cases kk with
        | s t=>exact Nat.le_refl _
        | p F=>exact oG F
       simp only[size,map_cons,sum_cons,length_cons]at ih ⊢;lia
     rw[y]at g;refine⟨m,b,_,_,rfl,rfl,Z _ _ g2,ae,by show vs'.length+5<=_;lia,?_⟩;refine⟨d,.s "first ( " :: .p p::.s " ) then ( " :: .p q::.s " )" :: L',vs'++[.str " )"]++[u2]++[.str " ) then ( "]++[u1]++[.str "first ( "],_,rfl,?_,(W.trans Z).put Y,?_,?_,?_,?_,M,?_⟩
     .rw[y];simp only[size,map_cons,sum_cons,wsz,sz];lia
     .rw[az ml];exact Z _ _ I
     .rw[ae];simp
     .exact .cons ⟨rfl,by decide +kernel⟩ (.cons ⟨ap,R.1⟩ (.cons ⟨rfl,by decide +kernel⟩ (.cons ⟨aS,R.2⟩ (.cons ⟨rfl,by decide +kernel⟩ hr'))))
     .rw[<- hf,f]
      have e1:(text (.fst p q)).cps.toList=("first ( " : Str).cps.toList++((text p).cps.toList++((" ) then ( " : Str).cps.toList++((text q).cps.toList++(" )" : Str).cps.toList))):=by
       show("first ( " ++ text p ++ " ) then ( " ++ text q ++ " )" : Str).cps.toList=_;rw[bw,bw,bw,bw,append_assoc,append_assoc,append_assoc]
      show cM d++bM (.s "first ( " :: .p p::.s " ) then ( " :: .p q::.s " )" :: L')=cM d++((text (.fst p q)).cps.toList++bM L');rw[e1];simp[bM,cM,nR]
     .simp only[size,map_cons,sum_cons,wsz,sz]at g ⊢;lia
theorem rL(T:Txt K mg a):FnOk P w K mg base CX0 3 a.x_R a.y_R ["self"] (spTextM a a.c_j):=by
 have b:FnOk P w K mg base CX0 2 _ _ _ (spTextOf a):=kR T;refine T.F_R.ok me (λd H Q E h=>?_) (λcdv A outer s H d Q E hr h=>?_)
 .obtain⟨x,f,e,c,n,rfl,_⟩:=h;rfl
 .obtain⟨x,f,e,c,n,rfl,i,h,g,z,q⟩:=h
  exact⟨_,(ah (aw (aj b hr rfl T.m_ae T.F_ae.kp T.B_ae .nil ai (aa (vr 0) ac)))),⟨_,c,n,rfl,h,g,z,q⟩⟩
theorem pX(T:Txt K mg a):FnOk P w K mg base CX0 3 a.x_M a.y_M ["self"] (spTextM a a.c_a):=by
 have b:FnOk P w K mg base CX0 2 _ _ _ (spTextOf a):=kR T;refine T.F_M.ok ku (λd H Q E h=>?_) (λcdv A outer s H d Q E hr h=>?_)
 .obtain⟨x,f,e,c,n,rfl,_⟩:=h;rfl
 .obtain⟨x,f,e,c,n,rfl,i,h,g,z,q⟩:=h
  exact⟨_,(ah (aw (aj b hr rfl T.m_ae T.F_ae.kp T.B_ae .nil ai (aa (vr 0) ac)))),⟨_,c,n,rfl,h,g,z,q⟩⟩
theorem nG{H:Hp}:∀{pl:Nst.Pl}{v:V},IsPn a H v pl->n5 a H v (cv pl)
 | .few m,v,⟨x,dx,e,h⟩=>⟨x,dx,e,h⟩
 | .start m,v,⟨x,dx,e,h⟩=>⟨x,dx,e,h⟩
 | .loose m,v,⟨x,dx,e,h⟩=>⟨x,dx,e,h⟩
 | .each p,v,⟨x,dx,u,e,h,r⟩=>⟨x,dx,u,e,h,nG r⟩
 | .first p q,v,⟨x,dx,u,z,e,h,r1,r2⟩=>⟨x,dx,u,z,e,h,nG r1,nG r2⟩
end
inductive spTxt(a:Ad)(c:Nst.Pl->Bool)(vs:List V)(H:Hp)(Q:VK)(_E:XK):Prop
 | mk(v:V)(pl:Nst.Pl)(h0:vs=[v])(h1:c pl=true)(h2:Nst.ht 3 pl)(h3:IsPn a H v pl)(h4:∀ H',Same H H'->Q (.str (text (cv pl))) H'):spTxt a c vs H Q _E
theorem u9{pl:Nst.Pl}(h:Nst.ht 3 pl):sz (cv pl)<=1000:=by
 have a:=sz_bd 3 (cv pl) (gH h);have b:bd 3=50:=rfl;lia
section
variable {P:Program}{w:World}{K:Frag}{mg:Str->Option Value}{base:Heap}{a:Ad}
theorem uJ(T:Txt K mg a):FnOk P w K mg base CX0 1 a.x_N a.y_N ["self"] (spTxt a jC) :=
 (pG T).imp λi H Q E h=>by
  obtain⟨v,c,rfl,e,b,g,q⟩:=h;cases c with
  | few m=>obtain⟨x,f,rfl,d⟩:=g;have b:m<=24:=b;exact⟨x,f,(m:Nat),rfl,d,by lia,by lia,q _ (Same.refl _)⟩
  | _=>cases e
theorem pV(T:Txt K mg a):FnOk P w K mg base CX0 1 a.x_B a.y_B ["self"] (spTxt a d8) :=
 (li T).imp λi H Q E h=>by
  obtain⟨v,c,rfl,e,b,g,q⟩:=h;cases c with
  | start m=>obtain⟨x,f,rfl,d⟩:=g;have b:1<=m/\m<=100:=b;exact⟨x,f,(m:Nat),rfl,d,by lia,by lia,q _ (Same.refl _)⟩
  | _=>cases e
theorem qR(T:Txt K mg a):FnOk P w K mg base CX0 1 a.x_C a.y_C ["self"] (spTxt a d6) :=
 (kZ T).imp λi H Q E h=>by
  obtain⟨v,c,rfl,e,b,g,q⟩:=h;cases c with
  | loose m=>obtain⟨x,f,rfl,d⟩:=g;have b:m<=24:=b;exact⟨x,f,(m:Nat),rfl,d,by lia,by lia,q _ (Same.refl _)⟩
  | _=>cases e
theorem rz(T:Txt K mg a):FnOk P w K mg base CX0 3 a.x_R a.y_R ["self"] (spTxt a ee) :=
 (rL T).imp λi H Q E h=>by
  obtain⟨v,d,rfl,f,b,c,q⟩:=h;cases d with
  | each p=>obtain⟨x,g,u,rfl,e,j⟩:=id c;exact⟨x,g,_,_,3,rfl,e,nG c,gH b,u9 b,q⟩
  | _=>cases f
theorem qT(T:Txt K mg a):FnOk P w K mg base CX0 3 a.x_M a.y_M ["self"] (spTxt a cN) :=
 (pX T).imp λi H Q E h=>by
  obtain⟨v,d,rfl,f,b,c,q⟩:=h;cases d with
  | first p r=>obtain⟨x,g,u,z,rfl,e,j⟩:=id c;exact⟨x,g,_,_,3,rfl,e,nG c,gH b,u9 b,q⟩
  | _=>cases f
end
end My
namespace Nst
open FrM Tb PySem
def fnm(ms:List Mb):List Str:=ms.foldl (λns m=>if hd m∈ns then ns else ns++[hd m]) []
theorem mF(a:List Mb)(m:Mb):fnm (a++[m])=if hd m∈fnm a then fnm a else fnm a++[hd m]:=by
 unfold fnm;rw[List.foldl_append];rfl
def gof(ms:List Mb)(n:Str):List Mb:=(ms.filter λm=>decide (hd m=n)).map tl
theorem kq(a:List Mb)(m:Mb)(n:Str):gof (a++[m]) n=gof a n++if hd m=n then [tl m] else []:=by
 unfold gof;rw[filter_append,map_append]
 by_cases c:hd m=n
 .rw[filter_cons_of_pos (by exact decide_eq_true c),if_pos c];rfl
 .rw[filter_cons_of_neg (by exact λz=>c (of_decide_eq_true z)),if_neg c];rfl
theorem mL{f g:Str->List Mb}{k:Str}{m:Mb}:∀{ns:List Str},ns.Nodup->(∀ n∈ns,n≠k->g n=f n)->g k=f k++[m]->(k ∉ ns->f k=[])->cR (ns.map λn=>(n,f n)) k m=(if k∈ns then ns else ns++[k]).map λn=>(n,g n)
 | [],_,_,h2,h3=>by
  rw[if_neg (by simp)];show [(k,[m])]=[(k,g k)];rw[h2,h3 (by simp)];rfl
 | x::r,nd,h1,h2,h3=>by
  rw[nodup_cons]at nd;rw[map_cons];unfold cR
  by_cases c:x=k
  .subst c
   rw[if_pos rfl,if_pos mem_cons_self,map_cons,h2]
   congr 1
   refine List.map_congr_left λn a=>?_
   rw[h1 n (mem_cons_of_mem _ a) λz=>nd.1 (by rw[<- z];exact a)]
  .rw[if_neg c,mL nd.2 (λn a=>h1 n (mem_cons_of_mem _ a)) h2 λhk=>h3 λz=>(mem_cons.mp z).elim (λz=>c z.symm) hk]
   by_cases d:k∈r
   .rw[if_pos d,if_pos (mem_cons_of_mem _ d),map_cons,h1 x mem_cons_self c]
   .rw[if_neg d,if_neg λz=>(mem_cons.mp z).elim (λz=>c z.symm) d,cons_append,map_cons,h1 x mem_cons_self c]
theorem uO(a:List Mb):(fnm a).Nodup/\(∀ n,n∈fnm a↔∃ m∈a,hd m=n)/\groups a=(fnm a).map λn=>(n,gof a n):=by
 have j:∀ i,i<=a.length->(fnm (a.take i)).Nodup/\(∀ n,n∈fnm (a.take i)↔∃ m∈a.take i,hd m=n)/\groups (a.take i)=(fnm (a.take i)).map λn=>(n,gof (a.take i) n):=by
  intro i
  induction i with
  | zero=>exact λ_=>⟨nodup_nil,(λn=>⟨λz=>(by cases z),λz=>(by obtain⟨_,z,_⟩:=z;cases z)⟩),rfl⟩
  | succ i ih =>
   intro u;obtain⟨g,d,o⟩:=ih (by lia);have e:a[i]? = some (a[i]'(by lia)):=List.getElem?_eq_getElem _;generalize a[i]'(by lia)=m at e;have s:a.take (i+1)=a.take i++[m]:=by rw[take_add_one,e];rfl
   rw[s,gZ,mF,o];generalize a.take i=l at g d o;refine⟨?_,λn=>?_,?_⟩
   .by_cases c:hd m∈fnm l
    .rw[if_pos c];exact g
    .rw[if_neg c,nodup_append]
     exact⟨g,by simp,λx h y r z=>c (by rw[mem_singleton.mp r]at z;rw[<- z];exact h)⟩
   .constructor
    .intro hn
     by_cases c:hd m∈fnm l
     .rw[if_pos c]at hn
      obtain⟨f,h4,b⟩:=(d n).mp hn;exact⟨f,mem_append_left _ h4,b⟩
     .rw[if_neg c]at hn
      rcases mem_append.mp hn with hn | hn
      .obtain⟨f,h4,b⟩:=(d n).mp hn
       exact⟨f,mem_append_left _ h4,b⟩
      .exact⟨m,by simp,(mem_singleton.mp hn).symm⟩
    .rintro⟨f,h4,b⟩
     have p:n∈fnm l\/n=hd m:=by
      rcases mem_append.mp h4 with h4 | h4
      .exact .inl ((d n).mpr ⟨f,h4,b⟩)
      .rw[mem_singleton.mp h4]at b;exact .inr b.symm
     by_cases c:hd m∈fnm l
     .rw[if_pos c]
      exact p.elim id λz=>by rw[z];exact c
     .rw[if_neg c]
      exact p.elim (λz=>mem_append_left _ z) λz=>by rw[z];simp
   .refine mL g (λn _ hn=>?_) ?_ λhk=>?_
    .rw[kq,if_neg (λz=>hn z.symm),append_nil]
    .rw[kq,if_pos rfl]
    .unfold gof
     have:l.filter (λx=>decide (hd x=hd m))=[]:=by
      rw[List.filter_eq_nil_iff];intro x h z;exact hk ((d _).mpr ⟨x,h,of_decide_eq_true z⟩)
     rw[this];rfl
 have:=j a.length (Nat.le_refl _);rw[take_length]at this;exact this
theorem rW(a:List Mb):ak a=(fnm a).map (gof a):=by
 unfold ak;rw[(uO a).2.2,map_map];rfl
theorem ph(b:List Mb):(fnm b).length<=b.length:=by
 have c:∀(b:List Mb) (a:List Str),(b.foldl (λa m=>if hd m∈a then a else a++[hd m]) a).length<=a.length+b.length:=by
  intro b
  induction b with
  | nil=>intro a;exact Nat.le_refl _
  | cons m r ih =>
   intro a;rw[foldl_cons,length_cons];have:=ih (if hd m∈a then a else a++[hd m])
   have d:(if hd m∈a then a else a++[hd m]).length<=a.length+1:=by split <;> simp
   lia
 have:=c b [];rw[length_nil]at this;unfold fnm;lia
end Nst
namespace Nst
end Nst
namespace My
open PySem L2 FrM Nst
open Nm (dL fY gp bi eS fAt eL seat cU ent)
def IsTr(H:Hp):V->Pl->Prop
 | v,.few m=>∃ x,v=.ref x/\H x=some (.tup [.str "few",.int (m:Nat)])
 | v,.start m=>∃ x,v=.ref x/\H x=some (.tup [.str "start",.int (m:Nat)])
 | v,.loose m=>∃ x,v=.ref x/\H x=some (.tup [.str "loose",.int (m:Nat)])
 | v,.each p=>∃ x u,v=.ref x/\H x=some (.tup [.str "each",u])/\IsTr H u p
 | v,.first p q=>∃ x u1 u2,v=.ref x/\H x=some (.tup [.str "first",u1,u2])/\IsTr H u1 p/\IsTr H u2 q
theorem IsTr.n{H a:Hp}(s:NC H a):∀{pl:Pl}{v:V},IsTr H v pl->IsTr a v pl
 | .few _,v,⟨x,e,h⟩=>⟨x,e,s _ _ rfl h⟩
 | .start _,v,⟨x,e,h⟩=>⟨x,e,s _ _ rfl h⟩
 | .loose _,v,⟨x,e,h⟩=>⟨x,e,s _ _ rfl h⟩
 | .each p,v,⟨x,u,e,h,r⟩=>⟨x,u,e,s _ _ rfl h,IsTr.n s r⟩
 | .first p q,v,⟨x,u1,u2,e,h,r1,r2⟩=>⟨x,u1,u2,e,s _ _ rfl h,IsTr.n s r1,IsTr.n s r2⟩
theorem IsTr.same{H a:Hp}{pl:Pl}{v:V}(s:Same H a)(h:IsTr H v pl):IsTr a v pl:=h.n (cf s.t)
def hg:Nat->Pl->Prop
 | _,.few m=>m<=24
 | _,.start s=>1<=s/\s<=100
 | _,.loose m=>m<=24
 | n+1,.each p=>hg n p
 | n+1,.first p q=>hg n p/\hg n q
 | 0,_=>False
theorem pM:∀{n m:Nat}{p:Pl},n<=m->hg n p->hg m p
 | n,m,.few _,_,h=>by cases n <;> cases m <;> exact h
 | n,m,.start _,_,h=>by cases n <;> cases m <;> exact h
 | n,m,.loose _,_,h=>by cases n <;> cases m <;> exact h
 | 0,_,.each _,_,h=>h.elim
 | 0,_,.first _ _,_,h=>h.elim
 | n+1,m+1,.each p,k,h=>pM (n:=n) (m:=m) (p:=p) (by lia) h
 | n+1,m+1,.first p q,k,h=>⟨pM (n:=n) (m:=m) (p:=p) (by lia) h.1,pM (n:=n) (m:=m) (p:=q) (by lia) h.2⟩
 | n+1,0,.each p,k,h=>absurd k (by lia)
 | n+1,0,.first p q,k,h=>absurd k (by lia)
inductive spTree(n:Nat)(vs:List V)(H:Hp)(Q:VK)(_E:XK):Prop
 | mk(N d:Int)(h0:vs=[.int N,.int d,.bl false])(h1:d+n=4)(h2:1<=n)(h3:0<=N)(h4:∀ H' t v pl N',Same H H'->H' t=some (.tup [v,.int N'])->0<=N'->IsTr H' v pl->hg (n - 1) pl->Q (.ref t) H'):spTree n vs H Q _E
def nb:Nat->Nat
 | 0=>0
 | n+1=>1+3*nb n
inductive spNeeds(n:Nat)(vs:List V)(H:Hp)(Q:VK)(_E:XK):Prop
 | mk(v:V)(pl:Pl)(h0:vs=[v])(h1:IsTr H v pl)(h2:hg n pl)(h3:n<=3)(h4:∀ r:Nat,r<=nb n->(r=0↔d5 pl)->Q (.int (r:Int)) H):spNeeds n vs H Q _E
inductive spFit(n:Nat)(vs:List V)(H:Hp)(Q:VK)(_E:XK):Prop
 | mk(v:V)(pl:Pl)(h0:vs=[v])(h1:IsTr H v pl)(h2:hg n pl)(h3:n<=3)(h4:∀ H' v' pl',Same H H'->IsTr H' v' pl'->ht n pl'->Q v' H'):spFit n vs H Q _E
inductive spPlan(a:Ad)(n:Nat)(vs:List V)(H:Hp)(Q:VK)(_E:XK):Prop
 | mk(v:V)(pl:Pl)(h0:vs=[v])(h1:IsTr H v pl)(h2:ht n pl)(h3:∀ H' v',Same H H'->IsPn a H' v' pl->Q v' H'):spPlan a n vs H Q _E
theorem ixT{K:Frag}{H:Hp}{x:Addr}{vs:List V}(a:H x=some (.tup vs))(j:Int)(v:V)(e:atI vs j=some v)(R:VK)(r:R v H):rIx K (.ref x) (.int j) H R:=.inr (.inl ⟨x,_,j,v,rfl,rfl,SqT.of a,e,r⟩)
theorem cdK{i c:Int}(h:0<c:=by decide)(h2:c<1152921504606846976:=by decide):CDivB i c:=cdB (n:=60) h (by unfold Bt;rw[show(2:Nat) ^ 60=1152921504606846976 from by decide];lia)
abbrev JF(H:Hp)(x:Addr)(m:Nat):St->Hp->Prop:=λσ' H''=>H''=H/\∃(vo':V) (po':Pl),σ'=[some (.ref x),some vo']/\IsTr H vo' po'/\(∃ m',m'<m/\hg m' po')
abbrev JT1(H:Hp)(d:Int)(n:Nat):St->Hp->Prop:=λσ' H'=>H'=H/\∃ M way:Int,σ'=[some (.int M),some (.int d),some (.bl false),some (.int way),none,none]/\0<=M/\0<=way/\way<6/\(n=0->way<4)
abbrev JT2(H:Hp)(M d:Int)(n:Nat):St->Hp->Prop:=λσ' H'=>H'=H/\∃ way:Int,σ'=[some (.int M),some (.int d),some (.bl false),some (.int way),none,none]/\0<=way/\way<6/\¬way=3/\(n=0->way<4)
theorem xg{n:Nat}(h:n<=3):nb n<=13:=by
 rcases(by lia:n=0\/n=1\/n=2\/n=3) with rfl | rfl | rfl | rfl <;> decide
def CrN(H0 H:Hp)(f:Addr)(g:List Mb)(v:V):Prop:=CrL H g v/\v≠.ref f/\∀ b,v=.ref b->H0 b=none
theorem CrN.same{a H b:Hp}{f:Addr}(s:Same H b)(g:List Mb)(v:V)(h:CrN a H f g v):CrN a b f g v:=⟨h.1.n (cf s.t),h.2⟩
theorem CrN.put{a H:Hp}{f:Addr}{c:List V}{r:HO}(j:H f=some (.lst c))(g:List Mb)(v:V)(h:CrN a H f g v):CrN a (upd H f r) f g v:=by
 obtain⟨⟨l,i,rfl,d,o⟩,n⟩:=h;have p:l≠f:=λz=>n.1 (by rw[z])
 refine⟨⟨l,i,rfl,by rw[az p];exact d,?_⟩,n⟩;exact o.tk λb s e=>by rw[az (λz=>by rw[z,j]at e;cases e)];exact e
inductive spLGroups(vs:List V)(H:Hp)(Q:VK)(_E:XK):Prop
 | mk(l:Addr)(ms:List Mb)(xs:List V)(h0:vs=[.ref l])(h1:H l=some (.lst xs))(h2:CrAt H ms xs)(h3:ms.length<=24)(h4:(∀ m∈ms,m.2.2≠[]/\m.2.2.length<=3))(h5:∀ H' r ys,Same H H'->H r=none->H' r=some (.lst ys)->Paired (λg v=>CrL H' g v/\∀ b,v=.ref b->H b=none) (ak ms) ys->Q (.ref r) H'):spLGroups vs H Q _E
inductive spLCrowd(vs:List V)(H:Hp)(Q:VK)(_E:XK):Prop
 | mk(c:Int)(h0:vs=[.int c])(h1:∀ H' r ms xs,Same H H'->H' r=some (.lst xs)->CrAt H' ms xs->Ck 3 ms->Q (.ref r) H'):spLCrowd vs H Q _E
theorem la{n j:Nat}{L:List Nat}(a:j<n):((List.range n).take (j+1)).filter (λk=>decide (k∈L))=((List.range n).take j).filter (λk=>decide (k∈L))++if j∈L then [j] else []:=by
 rw[take_add_one,List.getElem?_range a,filter_append]
 by_cases c:j∈L <;> simp[c]
theorem qE{n j:Nat}{L:List Nat}(p:Nat->Bool)(a:j<n):((List.range n).take (j+1)).filter (λk=>decide (k∈L) && p k)=((List.range n).take j).filter (λk=>decide (k∈L) && p k)++if (decide (j∈L) && p j)=true then [j] else []:=by
 rw[take_add_one,List.getElem?_range a,filter_append]
 by_cases c:(decide (j∈L) && p j)=true
 .rw[if_pos c];simp[c]
 .rw[if_neg c];simp[c]
theorem n9(p:Nat->Bool):∀ L:List Nat,(L.filter λk=>!p k).length+(L.filter p).length=L.length
 | []=>rfl
 | k::L=>by
  have a:=n9 p L
  by_cases h:p k=true
  .rw[filter_cons_of_neg (by simp[h]),filter_cons_of_pos h,length_cons,length_cons];lia
  .rw[filter_cons_of_pos (by simpa using h),filter_cons_of_neg h,length_cons,length_cons];lia
theorem vd{K:Frag}{H:Hp}:∀(l:List Nat),DVs K H (l.map λ(k:Nat)=>PyData.int (k:Int)) (nV l)
 | []=>by simp[DVs,nV]
 | c::l=>by
  show DVs K H (PyData.int (c:Int)::l.map λ(k:Nat)=>PyData.int (k:Int)) (V.int (c:Int)::nV l);rw[DVs];exact⟨_,_,rfl,by simp[DV],vd l⟩
theorem ve:∀(l:List Nat),PyData.canLayAll0 (l.map λ(k:Nat)=>PyData.int (k:Int))=true/\PyData.depthAll (l.map λ(k:Nat)=>PyData.int (k:Int))<=1
 | []=>by simp[PyData.canLayAll0,PyData.depthAll]
 | t::l=>by
  obtain⟨a,b⟩:=ve l;rw[map_cons,PyData.canLayAll0,PyData.depthAll,a,PyData.canLay0];refine⟨rfl,?_⟩;simp only[PyData.depth];lia
theorem tj{K:Frag}{H:Hp}{ns:List Nat}{l r:Addr}{Q:VK}(c:H l=some (.lst (nV ns)))(h2:H r=some (.lst []))(q:Q (.bl (!ns.isEmpty)) H):rEqD K true (.ref l) (.ref r) H Q:=by
 have b:SeqAt.shaped (.list (ns.map λ(k:Nat)=>PyData.int (k:Int)))=true:=by
  obtain⟨a,d⟩:=ve ns;unfold SeqAt.shaped;rw[PyData.canLay0,a,Bool.true_and];refine decide_eq_true ?_;simp only[PyData.depth];lia
 refine⟨.list (ns.map λ(k:Nat)=>PyData.int (k:Int)),.list [],by rw[DV];exact⟨l,_,rfl,SqL.of c,vd _⟩,by rw[DV];exact⟨r,_,rfl,SqL.of h2,by simp[DVs]⟩,b,by decide +kernel,?_⟩
 have e:PyData.eqv (.list (ns.map λ(k:Nat)=>PyData.int (k:Int))) (.list [])=ns.isEmpty:=by
  cases ns with
  | nil=>decide +kernel
  | cons n ns=>simp[PyData.eqv,PyData.eqvAll]
 rw[e];exact q
theorem uD{n:Nat}{L:List Nat}(h:L=(List.range n).filter λk=>decide (k∈L))(p:Nat->Bool):(List.range n).filter (λk=>decide (k∈L) && p k)=L.filter p:=by
 have e:((List.range n).filter λk=>decide (k∈L)).filter p=L.filter p:=by rw[<- h]
 rw[<- e,List.filter_filter];refine List.filter_congr λk _=>?_
 rw[Bool.and_comm]
theorem oO{x S:Int}(a:0<S):gB (x*0) S=(0,1):=by
 rw[Int.mul_zero];exact(vJ a ⟨by decide,by decide,by lia⟩).symm
theorem uF{z:List Int}{j:Nat}{x:V}(b:(z.map V.int)[j]? = some x):j<z.length/\x=.int (sz z j):=by
 have a:j<z.length:=by have:=(List.getElem?_eq_some_iff.mp b).1;rw[length_map]at this;exact this
 refine⟨a,?_⟩;rw[List.getElem?_map,List.getElem?_eq_getElem a]at b;cases b;simp[sz,List.getD,a]
theorem nu(z:List Int)(p:Nat->Bool):∀(l:List Nat),(∀ k∈l,1<=sz z k)->aR z (l.filter p)<=aR z l
 | [],_=>Int.le_refl _
 | k::l,h=>by
  have b:=nu z p l (λk a=>h k (mem_cons_of_mem _ a));have f:=h k mem_cons_self;have e:aR z (k::l)=sz z k+aR z l:=by unfold aR;rw[map_cons,sum_cons]
  by_cases c:p k=true
  .rw[filter_cons_of_pos c]
   have d:aR z (k::l.filter p)=sz z k+aR z (l.filter p):=by unfold aR;rw[map_cons,sum_cons]
   lia
  .rw[filter_cons_of_neg c]
   lia
theorem vD{z:List Int}{l:List Nat}{w:Int}(hz:∀ k∈l,1<=sz z k)(g:0<l.length)(f:0<=w):0<=w - ((l.length:Int) - ((stay z l w).length:Int)):=by
 have e:(l.filter λk=>!decide (sz z k*w<aR z l)).length+(stay z l w).length=l.length:=n9 (λk=>decide (sz z k*w<aR z l)) l
 by_cases c:((l.filter λk=>!decide (sz z k*w<aR z l)).length:Int)<=w
 .lia
 .exfalso
  have a:=gE z w (aR z l) (l.filter λk=>!decide (sz z k*w<aR z l)) (λk hk=>by
   have:=(mem_filter.mp hk).2
   simpa using this)
  have b:=nu z (λk=>!decide (sz z k*w<aR z l)) l hz;have h:=fq z l hz;have d:(w+1)*aR z l<=aR z l*w:=Int.le_trans (Int.mul_le_mul_of_nonneg_right (by lia) (by lia)) (Int.le_trans a (Int.mul_le_mul_of_nonneg_right b f));rw[Int.add_mul,Int.mul_comm (aR z l) w]at d;lia
theorem nN{K:Frag}{H:Hp}{f:Int×Int}{x:V}(h:IsF K H f x):∀ n,AllF K H (List.replicate n f) (List.replicate n [x]).flatten
 | 0=>.nil
 | n+1=>by rw[replicate_succ,replicate_succ,flatten_cons];exact .cons h (nN h n)
def Asd(n:Nat)(A L:List Nat):Prop:=A.length+L.length=n/\∀ k,k<n->decide (k∈A) = !decide (k∈L)
theorem Asd.start(n:Nat):Asd n [] (List.range n):=⟨by simp,λk a=>by simp[a]⟩
theorem Asd.more{n:Nat}{A L d st:List Nat}{p:Nat->Bool}(h:Asd n A L)(e:d.length+st.length=L.length)(f:d=L.filter λk=>!p k)(h2:st=L.filter p):Asd n (A++d) st:=by
 refine⟨by rw[length_append];have:=h.1;lia,λk g=>?_⟩;have a:=h.2 k g;rw[f,h2]
 by_cases c:k∈L
 .have b:k ∉ A:=by simpa[c] using a
  by_cases c3:p k=true <;> simp[c,b,c3]
 .have b:k∈A:=by simpa[c] using a
  simp[c,b]
section
variable {P:Program}{w:World}{K:Frag}{mg:Str->Option Value}{base:Heap}{a:Ad}
theorem pS(T:Txt K mg a):∀ n:Nat,n<=4->FnOk P w K mg base CX0 (n+1) a.f_V a.d_V ["_law_number","_law_deep","_law_wide"] (spTree n)
 | 0,_=>by
  refine T.F_V.ok sc_V (λY H Q E h=>?_) (λcdv A outer s H Y Q E hr h=>?_)
  .obtain⟨N,d,rfl,_⟩:=h;rfl
  .obtain⟨N,d,rfl,_,h,_⟩:=h;exact absurd h (by decide)
 | n+1,hn=>by
  have L:FnOk P w K mg base CX0 (n+1) _ _ _ (spTree n):=pS T n (by lia);refine T.F_V.ok sc_V (λY H Q E h=>?_) (λcdv A outer s H Y Q E hr h=>?_)
  .obtain⟨N,d,rfl,_⟩:=h;rfl
  .obtain⟨N,d,rfl,hd,_,N0,q⟩:=h
   have sl:sizeLine=16777216:=sizeLine_eq;refine⟨_,(af (ay (i:=3) sc_V.nd rfl (Or.inl rfl) (aA cP (vr 0) ag)) (af (ay (i:=0) sc_V.nd rfl (Or.inl rfl) (aA bn (vr 0) ag)) (db (aI (aG be (vr 1) ag (aB _)) (ah (ay (i:=3) sc_V.nd rfl (Or.inl rfl) (aA cP (vr 3) ag))) aD) (db (aI (PW.pt (gY (aG be (vr 3) ag (aB _)) (fJ (gU (dY (vr 2)))))) (ah (ay (i:=3) sc_V.nd rfl (Or.inl rfl) ag)) aD) (af (aI (aG be (vr 3) ag (aB _)) (ah (aw (aK (aa (aK (aa aE (aa (aA bE ag (aA cP (vr 0) (aq am (aZ (aa ag (aa ag ac))) (aA cP (aA bn (vr 0) ag) ag) (λ_ _=>rfl)))) ac))) (aa (aA bn (vr 0) ag) ac))))) aD) (af (aI (aG oQ (vr 3) ag (aB _)) (ah (aw (aK (aa (aK (aa (aq am (aZ (aa aE (aa aE (aa aE (aa aE ac))))) (vr 3) (λ_ _=>rfl)) (aa (aA cP (vr 0) (aq am (aZ (aa ag (aa ag ac))) (aA cP (aA bn (vr 0) ag) ag) (λ_ _=>rfl))) ac))) (aa (aA bn (vr 0) ag) ac))))) aD) (af (d4 (aj L hr rfl T.m_V T.F_V.kp T.B_V .nil ai (aa (vr 0) (aa (aA bE (vr 1) ag) (aa (vr 2) ac)))) (bA rfl (ax (au (i:=4) sc_V.nd rfl (Or.inl rfl)) (ax (au (i:=0) sc_V.nd rfl (Or.inl rfl)) aO)))) (af (aI (aG be (vr 3) ag (aB _)) (ah (aw (aK (aa (aK (aa aE (aa (vr 4) ac))) (aa (vr 0) ac))))) aD) (af (d4 (aj L hr rfl T.m_V T.F_V.kp T.B_V .nil ai (aa (vr 0) (aa (aA bE (vr 1) ag) (aa (vr 2) ac)))) (bA rfl (ax (au (i:=5) sc_V.nd rfl (Or.inl rfl)) (ax (au (i:=0) sc_V.nd rfl (Or.inl rfl)) aO)))) (ah (aw (aK (aa (aK (aa aE (aa (vr 4) (aa (vr 5) ac)))) (aa (vr 0) ac)))))))))))))),?_⟩;refine⟨cp,cdK,?_⟩;have w0:0<=N % 6:=Int.emod_nonneg _ (by decide);have w1:N % 6<6:=Int.emod_lt_of_pos _ (by decide);have u:0<=N/6:=Int.ediv_nonneg N0 (by decide);refine⟨JT1 H d n,?_,?_⟩
   .refine ifC (λc=>⟨cp,rfl,N/6,N % 6 % 4,rfl,u,by lia,by lia,λ_=>by lia⟩) (λc=>⟨rfl,N/6,N % 6,rfl,u,w0,w1,λz=>?_⟩)
    have O:¬d=3:=c;lia
   clear u;rintro ab H' ⟨rfl,M,b,rfl,u,v0,X,y⟩;refine⟨JT2 H' M d n,?_,?_⟩
   .refine ifC (λc=>⟨rfl,0,rfl,by lia,by lia,by lia,λ_=>by lia⟩) (λc=>⟨rfl,b,rfl,v0,X,c,y⟩)
   clear v0 X y;rintro ab an ⟨rfl,b,rfl,v0,X,v3,y⟩
   have I:∀ k:Int,0<=M/k % 2/\M/k % 2<2:=λk=>⟨Int.emod_nonneg _ (by decide),Int.emod_lt_of_pos _ (by decide)⟩
   refine ifC (λc=>?_) (λc=>?_)
   .have O:b=1:=c
    refine⟨(by decide:2<=sizeLine),λl hl=>?_⟩;have B:=Same.new (o:=.lst [.int 4,.int 100]) hl;obtain⟨b0,b1⟩:=I 100;refine⟨cdK,cp,?_⟩
    obtain⟨z,hz,hz0,hz1⟩:∃ z:Int,atI [V.int 4,.int 100] (M/100 % 2)=some (.int z)/\0<z/\z<=100:=by
     rcases(by lia:M/100 % 2=0\/M/100 % 2=1) with e | e <;> rw[e]
     .exact⟨4,rfl,by decide,by decide⟩
     .exact⟨100,rfl,by decide,by decide⟩
    refine .inl ⟨l,_,_,.int z,rfl,rfl,SqL.of ae,hz,cp (by lia),?_⟩;have r0:=Int.emod_nonneg M (show z≠0 by lia);have r1:=Int.emod_lt_of_pos M hz0;refine⟨(by decide:2<=sizeLine),λp g=>?_⟩;have r:=Same.new (o:=.tup [.str "start",.int (1+M % z)]) g;refine⟨cdK,?_⟩;refine⟨(by decide:2<=sizeLine),λx j=>?_⟩;have f:=Same.new (o:=.tup [.ref p,.int (M/200)]) j;refine q _ x _ (.start (1+M % z).toNat) _ (B.trans (r.trans f)) ae (Int.ediv_nonneg u (by decide)) ⟨p,rfl,?_⟩ ?_
    .rw[show(((1+M % z).toNat:Nat):Int)=1+M % z by lia]
     exact f _ _ ae
    show hg n _
    have:1<=(1+M % z).toNat/\(1+M % z).toNat<=100:=⟨by lia,by lia⟩
    cases n <;> exact this
   have al:¬b=1:=c;refine ifC (λc=>?_) (λc=>?_)
   .have O:b<4:=c
    refine⟨(by decide:4<=sizeLine),λl0 ad=>?_⟩;have s0:=Same.new (o:=.lst [.str "few",.str "",.str "loose",.str "duel"]) ad
    obtain⟨nk,hkn,hk⟩:∃ nk:Str,atI [V.str "few",.str "",.str "loose",.str "duel"] b=some (.str nk)/\(nk = "few" \/ nk = "loose"):=by
     rcases(by lia:b=0\/b=2) with e | e <;> rw[e]
     .exact⟨_,rfl,.inl rfl⟩
     .exact⟨_,rfl,.inr rfl⟩
    refine .inl ⟨l0,_,_,.str nk,rfl,rfl,SqL.of ae,hkn,?_⟩;refine⟨(by decide:2<=sizeLine),λl hl=>?_⟩;have B:=Same.new (o:=.lst [.int 5,.int 25]) hl;obtain⟨b0,b1⟩:=I 25;refine⟨cdK,cp,?_⟩
    obtain⟨z,hz,hz0,hz1⟩:∃ z:Int,atI [V.int 5,.int 25] (M/25 % 2)=some (.int z)/\0<z/\z<=25:=by
     rcases(by lia:M/25 % 2=0\/M/25 % 2=1) with e | e <;> rw[e]
     .exact⟨5,rfl,by decide,by decide⟩
     .exact⟨25,rfl,by decide,by decide⟩
    refine .inl ⟨l,_,_,.int z,rfl,rfl,SqL.of ae,hz,cp (by lia),?_⟩;have r0:=Int.emod_nonneg M (show z≠0 by lia);have r1:=Int.emod_lt_of_pos M hz0;refine⟨(by decide:2<=sizeLine),λp g=>?_⟩;have r:=Same.new (o:=.tup [.str nk,.int (M % z)]) g;refine⟨cdK,?_⟩;refine⟨(by decide:2<=sizeLine),λx j=>?_⟩;have f:=Same.new (o:=.tup [.ref p,.int (M/50)]) j;have e1:(((M % z).toNat:Nat):Int)=M % z:=by lia
    have hm:(M % z).toNat<=24:=by lia
    rcases hk with rfl | rfl
    .refine q _ x _ (.few (M % z).toNat) _ (s0.trans (B.trans (r.trans f))) ae (Int.ediv_nonneg u (by decide)) ⟨p,rfl,by rw[e1];exact f _ _ ae⟩ ?_
     show hg n _
     cases n <;> exact hm
    .refine q _ x _ (.loose (M % z).toNat) _ (s0.trans (B.trans (r.trans f))) ae (Int.ediv_nonneg u (by decide)) ⟨p,rfl,by rw[e1];exact f _ _ ae⟩ ?_
     show hg n _
     cases n <;> exact hm
   .have O:¬b<4:=c
    have R:1<=n:=by
     by_cases z:n=0
     .exact absurd (y z) O
     .lia
    refine⟨M,d+1,rfl,by lia,R,u,λH1 t v pl N1 B ht G F g1=>?_⟩;refine⟨t,_,rfl,SqT.of ht,rfl,_,_,rfl,_,_,rfl,rfl,?_⟩;refine ifC (λc=>?_) (λc=>?_)
    .refine⟨(by decide:2<=sizeLine),λp g=>?_⟩
     have r:=Same.new (o:=.tup [.str "each",v]) g;refine⟨(by decide:2<=sizeLine),λx j=>?_⟩;have f:=Same.new (o:=.tup [.ref p,.int N1]) j;refine q _ x _ (.each pl) _ (B.trans (r.trans f)) ae G ⟨p,v,rfl,f _ _ ae,F.same (r.trans f)⟩ ?_;show hg n _;cases n with
     | zero=>exact absurd R (by decide)
     | succ n=>exact g1
    .refine⟨N1,d+1,rfl,by lia,R,G,λH2 tt y Z N2 r j W C g2=>?_⟩
     refine⟨tt,_,rfl,SqT.of j,rfl,_,_,rfl,_,_,rfl,rfl,?_⟩;refine⟨(by decide:3<=sizeLine),λp g=>?_⟩;have f:=Same.new (o:=.tup [.str "first",v,y]) g;refine⟨(by decide:2<=sizeLine),λx D=>?_⟩;have S:=Same.new (o:=.tup [.ref p,.int N2]) D;refine q _ x _ (.first pl Z) _ (B.trans (r.trans (f.trans S))) ae W ⟨p,v,y,rfl,S _ _ ae,F.same (r.trans (f.trans S)),C.same (f.trans S)⟩ ?_;show hg n _;cases n with
     | zero=>exact absurd R (by decide)
     | succ n=>exact⟨g1,g2⟩
theorem nv(T:Txt K mg a):∀ n:Nat,FnOk P w K mg base CX0 (n+1) a.f_y a.d_y ["_law_tree_here"] (spNeeds n):=by
 intro n
 induction n with
 | zero =>
  have d:FnOk P w K mg base CX0 0 a.f_y a.d_y ["_law_tree_here"] mP:=ka;refine T.F_y.ok ke (λy H Q E h=>?_) (λcdv A outer s H y Q E hr h=>?_)
  .obtain⟨v,j,rfl,_⟩:=h;rfl
  .obtain⟨v,j,rfl,c,f,F,q⟩:=h
   refine⟨_,(af (aI (aG be (aq am (vr 0) ag (λ_ _=>rfl)) aE (aB _)) (ah (aw (aA bE ag (aj d hr rfl T.m_y T.F_y.kp T.B_y .nil ai (aa (aq am (vr 0) ag (λ_ _=>rfl)) ac))))) aD) (af (aI (aG be (aq am (vr 0) ag (λ_ _=>rfl)) aE (aB _)) (ah (aw (aA bE ag (av (i9 rfl) rfl T.z_max oC (aa (aj d hr rfl T.m_y T.F_y.kp T.B_y .nil ai (aa (aq am (vr 0) ag (λ_ _=>rfl)) ac)) (aa (aA bF ag (aj d hr rfl T.m_y T.F_y.kp T.B_y .nil ai (aa (aq am (vr 0) ag (λ_ _=>rfl)) ac))) ac)))))) aD) (ah (aw ag)))),ii ?_⟩;intro C D;cases j with
   | few m=>obtain⟨x,rfl,b⟩:=c;exact ixT b 0 _ rfl _ (ixT b 0 _ rfl _ (q 0 (Nat.zero_le _) ⟨λ_=>f,λ_=>rfl⟩))
   | start m=>obtain⟨x,rfl,b⟩:=c;exact ixT b 0 _ rfl _ (ixT b 0 _ rfl _ (q 0 (Nat.zero_le _) ⟨λ_=>f,λ_=>rfl⟩))
   | loose m=>obtain⟨x,rfl,b⟩:=c;exact ixT b 0 _ rfl _ (ixT b 0 _ rfl _ (q 0 (Nat.zero_le _) ⟨λ_=>f,λ_=>rfl⟩))
   | each p=>exact f.elim
   | first p r=>exact f.elim
 | succ n ih =>
  have d:FnOk P w K mg base CX0 (n+1) _ _ _ (spNeeds n):=ih;refine T.F_y.ok ke (λy H Q E h=>?_) (λcdv A outer s H y Q E hr h=>?_)
  .obtain⟨v,j,rfl,_⟩:=h;rfl
  .obtain⟨v,j,rfl,c,f,F,q⟩:=h
   refine⟨_,(af (aI (aG be (aq am (vr 0) ag (λ_ _=>rfl)) aE (aB _)) (ah (aw (aA bE ag (aj d hr rfl T.m_y T.F_y.kp T.B_y .nil ai (aa (aq am (vr 0) ag (λ_ _=>rfl)) ac))))) aD) (af (aI (aG be (aq am (vr 0) ag (λ_ _=>rfl)) aE (aB _)) (ah (aw (aA bE ag (av (i9 rfl) rfl T.z_max oC (aa (aj d hr rfl T.m_y T.F_y.kp T.B_y .nil ai (aa (aq am (vr 0) ag (λ_ _=>rfl)) ac)) (aa (aA bF ag (aj d hr rfl T.m_y T.F_y.kp T.B_y .nil ai (aa (aq am (vr 0) ag (λ_ _=>rfl)) ac))) ac)))))) aD) (ah (aw ag)))),ii ?_⟩;intro C D;have N:nb (n+1)=1+3*nb n:=rfl;have I:=xg (n:=n) (by lia);cases j with
   | few m=>obtain⟨x,rfl,b⟩:=c;exact ixT b 0 _ rfl _ (ixT b 0 _ rfl _ (q 0 (Nat.zero_le _) ⟨λ_=>f,λ_=>rfl⟩))
   | start m=>obtain⟨x,rfl,b⟩:=c;exact ixT b 0 _ rfl _ (ixT b 0 _ rfl _ (q 0 (Nat.zero_le _) ⟨λ_=>f,λ_=>rfl⟩))
   | loose m=>obtain⟨x,rfl,b⟩:=c;exact ixT b 0 _ rfl _ (ixT b 0 _ rfl _ (q 0 (Nat.zero_le _) ⟨λ_=>f,λ_=>rfl⟩))
   | each p =>
    obtain⟨x,u,rfl,b,L⟩:=c;refine ixT b 0 _ rfl _ (ixT b 1 _ rfl _ ⟨u,p,rfl,L,f,by lia,λr B _=>?_⟩);have:=q (1+r) (by lia) ⟨λz=>by lia,λz=>z.elim⟩;rw[show((1+r:Nat):Int)=1+(r:Int) by lia]at this;exact this
   | first p r =>
    obtain⟨x,M,O,rfl,b,l,o⟩:=c;refine ixT b 0 _ rfl _ (ixT b 0 _ rfl _ (ixT b 2 _ rfl _ ⟨O,r,rfl,o,f.2,by lia,λi G _=>?_⟩));refine ixT b 1 _ rfl _ ⟨M,p,rfl,l,f.1,by lia,λg B _=>?_⟩;refine⟨clB (by lia) (by lia),_,_,rfl,?_⟩
    have e:(if (3*(g:Int) > (i:Int)) then 3*(g:Int) else (i:Int))=((max i (3*g):Nat):Int):=by split <;> lia
    rw[e];have:=q (1+max i (3*g)) (by lia) ⟨λz=>by lia,λz=>z.elim⟩;rw[show((1+max i (3*g):Nat):Int)=1+((max i (3*g):Nat):Int) by lia]at this;exact this
theorem wx(T:Txt K mg a):∀ n:Nat,FnOk P w K mg base CX0 (n+6) a.f_x a.d_x ["_law_tree_here"] (spFit n):=by
 intro n
 induction n with
 | zero =>
  have D:FnOk P w K mg base CX0 5 _ _ _ _:=(nv T 3).mono (by decide);have l:FnOk P w K mg base CX0 5 a.f_x a.d_x ["_law_tree_here"] mP:=ka;refine T.F_x.ok sc_x (λvs H Q E h=>?_) (λcdv A outer s H vs Q E hr h=>?_)
  .obtain⟨v,O,rfl,_⟩:=h;rfl
  .obtain⟨v,O,rfl,d,j,hn,q⟩:=h
   refine⟨_,(af (aI (aG be (aq am (vr 0) ag (λ_ _=>rfl)) aE (aB _)) (ah (aw (aK (aa aE (aa (aj l hr rfl T.m_x T.F_x.kp T.B_x .nil ai (aa (aq am (vr 0) ag (λ_ _=>rfl)) ac)) ac))))) aD) (af (aI (aG be (aq am (vr 0) ag (λ_ _=>rfl)) aE (aB _)) (af (ay (i:=1) sc_x.nd rfl (Or.inl rfl) (aq am (vr 0) ag (λ_ _=>rfl))) (af (fh PassesOwn.never (aG vT (aj D hr rfl T.m_y T.F_y.kp T.B_y .nil ai (aa (vr 1) ac)) ag (aB _)) (ah (ay (i:=1) sc_x.nd rfl (Or.inl rfl) (aq am (vr 1) ag (λ_ _=>rfl))))) (ah (aw (aK (aa aE (aa (vr 1) (aa (aj l hr rfl T.m_x T.F_x.kp T.B_x .nil ai (aa (aq am (vr 0) ag (λ_ _=>rfl)) ac)) ac)))))))) aD) (ah (aw (vr 0))))),ii ?_⟩;intro an as;have F:Same H H:=λb o e=>e
   cases O with
   | few m=>obtain⟨x,rfl,f⟩:=id d;exact ixT f 0 _ rfl _ (ixT f 0 _ rfl _ (q H _ _ F d j))
   | start m=>obtain⟨x,rfl,f⟩:=id d;exact ixT f 0 _ rfl _ (ixT f 0 _ rfl _ (q H _ _ F d j))
   | loose m=>obtain⟨x,rfl,f⟩:=id d;exact ixT f 0 _ rfl _ (ixT f 0 _ rfl _ (q H _ _ F d j))
   | each p=>exact j.elim
   | first p r=>exact j.elim
 | succ n ih =>
  have D:FnOk P w K mg base CX0 (n+6) _ _ _ (spNeeds 3):=(nv T 3).mono (by lia);have l:FnOk P w K mg base CX0 (n+6) _ _ _ (spFit n):=ih;refine T.F_x.ok sc_x (λvs H Q E h=>?_) (λcdv A outer s H vs Q E hr h=>?_)
  .obtain⟨v,O,rfl,_⟩:=h;rfl
  .obtain⟨v,O,rfl,d,j,hn,q⟩:=h
   refine⟨_,(af (aI (aG be (aq am (vr 0) ag (λ_ _=>rfl)) aE (aB _)) (ah (aw (aK (aa aE (aa (aj l hr rfl T.m_x T.F_x.kp T.B_x .nil ai (aa (aq am (vr 0) ag (λ_ _=>rfl)) ac)) ac))))) aD) (af (aI (aG be (aq am (vr 0) ag (λ_ _=>rfl)) aE (aB _)) (af (ay (i:=1) sc_x.nd rfl (Or.inl rfl) (aq am (vr 0) ag (λ_ _=>rfl))) (af (fh PassesOwn.never (aG vT (aj D hr rfl T.m_y T.F_y.kp T.B_y .nil ai (aa (vr 1) ac)) ag (aB _)) (ah (ay (i:=1) sc_x.nd rfl (Or.inl rfl) (aq am (vr 1) ag (λ_ _=>rfl))))) (ah (aw (aK (aa aE (aa (vr 1) (aa (aj l hr rfl T.m_x T.F_x.kp T.B_x .nil ai (aa (aq am (vr 0) ag (λ_ _=>rfl)) ac)) ac)))))))) aD) (ah (aw (vr 0))))),ii ?_⟩;intro an as;have F:Same H H:=λb o e=>e
   cases O with
   | few m=>obtain⟨x,rfl,f⟩:=id d;exact ixT f 0 _ rfl _ (ixT f 0 _ rfl _ (q H _ _ F d j))
   | start m=>obtain⟨x,rfl,f⟩:=id d;exact ixT f 0 _ rfl _ (ixT f 0 _ rfl _ (q H _ _ F d j))
   | loose m=>obtain⟨x,rfl,f⟩:=id d;exact ixT f 0 _ rfl _ (ixT f 0 _ rfl _ (q H _ _ F d j))
   | each p =>
    obtain⟨x,u,rfl,f,hu⟩:=d;refine ixT f 0 _ rfl _ (ixT f 1 _ rfl _ ⟨u,p,rfl,hu,j,by lia,λH1 N W S R G=>?_⟩);refine⟨(by decide:2<=sizeLine),λt ft=>?_⟩;have I:=Same.new (o:=.tup [.str "each",N]) ft;exact q _ _ (.each W) (S.trans I) ⟨t,N,rfl,ae,R.same I⟩ G
   | first p r =>
    obtain⟨x,u1,u2,rfl,f,X,Z⟩:=d;refine ixT f 0 _ rfl _ (ixT f 0 _ rfl _ (ixT f 1 _ rfl _ ?_));refine⟨λm σ Y=>Y=H/\∃(L:V) (C:Pl),σ=[some (.ref x),some L]/\IsTr H L C/\hg m C/\m<=n,⟨n,rfl,u1,p,rfl,X,j.1,Nat.le_refl _⟩,?_⟩;rintro m σ Y ⟨rfl,L,C,rfl,B,g,hm⟩;refine⟨L,C,rfl,B,pM (by lia) g,by decide,λrr _ M=>?_⟩;refine ifC (λc=>?_) λc=>?_
    .have nf:¬d5 C:=λz=>by have:=M.mpr z;have c':(0:Int)<(rr:Int):=c;lia
     refine⟨JF Y x m,?_,?_⟩
     .rintro a0 a1 ⟨rfl,ad,al,rfl,R,m',ab,h2⟩
      exact⟨m',ab,rfl,ad,al,rfl,R,h2,by lia⟩
     .cases C with
      | few _=>exact absurd (by cases m <;> exact g) nf
      | start _=>exact absurd (by cases m <;> exact g) nf
      | loose _=>exact absurd (by cases m <;> exact g) nf
      | each p' =>
       cases m with
       | zero=>exact g.elim
       | succ m =>
        obtain⟨y,w1,rfl,hy,hw⟩:=B;exact ixT hy 1 _ rfl _ ⟨rfl,w1,p',rfl,hw,m,Nat.lt_succ_self _,g⟩
      | first p' r' =>
       cases m with
       | zero=>exact g.elim
       | succ m =>
        obtain⟨y,w1,w2,rfl,hy,ap,aS⟩:=B;exact ixT hy 1 _ rfl _ ⟨rfl,w1,p',rfl,ap,m,Nat.lt_succ_self _,g.1⟩
    .have hf:d5 C:=M.mp (by have c':¬(0:Int)<(rr:Int):=c;lia)
     refine ixT f 2 _ rfl _ ⟨u2,r,rfl,Z,j.2,by lia,λH1 N W S R G=>?_⟩;refine⟨(by decide:3<=sizeLine),λt ft=>?_⟩;have I:=Same.new (o:=.tup [.str "first",L,N]) ft;exact q _ _ (.first C W) (S.trans I) ⟨t,L,N,rfl,ae,B.same (S.trans I),R.same I⟩ ⟨hf,G⟩
theorem fz{a:Ad}{d:Hp}{x c C:Addr}{fs:List (Str×V)}(f:d x=none)(g:d c=none):Same d (upd (upd (upd d c (.own x)) x (.ins C c [])) x (.ins C c fs)):=λb o e=>by
 rw[az (aJ e f),az (aJ e f),az (aJ e g)];exact e
theorem tT(T:Txt K mg a):∀ n:Nat,FnOk P w K mg base CX0 (n+5) a.f_L a.d_L ["_law_tree_here"] (spPlan a n):=by
 intro n
 induction n with
 | zero =>
  have B:FnOk P w K mg base CX0 3 _ _ _ (spFewI a):=og T;have D:FnOk P w K mg base CX0 3 _ _ _ (spStartI a):=jP T;have l:FnOk P w K mg base CX0 3 _ _ _ (spLooseI a):=jS T;have z:FnOk P w K mg base CX0 3 _ _ _ _:=(lT T).mono (by decide);have F:FnOk P w K mg base CX0 3 _ _ _ _:=(jU T).mono (by decide);have f:FnOk P w K mg base CX0 4 a.f_L a.d_L ["_law_tree_here"] mP:=ka;refine T.F_L.ok kS (λR H Q E h=>?_) (λcdv A outer s H R Q E hr h=>?_)
  .obtain⟨v,I,rfl,_⟩:=h;rfl
  .obtain⟨v,I,rfl,e,j,q⟩:=h
   refine⟨_,(af (aI (aG be (aq am (vr 0) ag (λ_ _=>rfl)) aE (aB _)) (ah (aw (bO T.mk_j z hr rfl T.mc_j T.Bi_j .nil ai (aa (aj f hr rfl T.m_L T.F_L.kp T.B_L .nil ai (aa (aq am (vr 0) ag (λ_ _=>rfl)) ac)) ac)))) aD) (af (aI (aG be (aq am (vr 0) ag (λ_ _=>rfl)) aE (aB _)) (ah (aw (bO T.mk_a F hr rfl T.mc_a T.Bi_a .nil ai (aa (aj f hr rfl T.m_L T.F_L.kp T.B_L .nil ai (aa (aq am (vr 0) ag (λ_ _=>rfl)) ac)) (aa (aj f hr rfl T.m_L T.F_L.kp T.B_L .nil ai (aa (aq am (vr 0) ag (λ_ _=>rfl)) ac)) ac))))) aD) (af (aI (aG be (aq am (vr 0) ag (λ_ _=>rfl)) aE (aB _)) (ah (aw (bO T.mk_r B hr rfl T.mc_r T.Bi_r .nil ai (aa (aq am (vr 0) ag (λ_ _=>rfl)) ac)))) aD) (af (aI (aG be (aq am (vr 0) ag (λ_ _=>rfl)) aE (aB _)) (ah (aw (bO T.mk_e D hr rfl T.mc_e T.Bi_e .nil ai (aa (aq am (vr 0) ag (λ_ _=>rfl)) ac)))) aD) (ah (aw (bO T.mk_g l hr rfl T.mc_g T.Bi_g .nil ai (aa (aq am (vr 0) ag (λ_ _=>rfl)) ac)))))))),lu ?_⟩;intro X W Z ab;cases I with
   | few m =>
    obtain⟨x,rfl,b⟩:=e;refine ixT b 0 _ rfl _ (ixT b 0 _ rfl _ (ixT b 0 _ rfl _ (ixT b 1 _ rfl _ ?_)));intro y d i c g;exact⟨y,d,m,rfl,ae,j,rfl,q _ _ (fz (a:=a) i c) ⟨y,d,rfl,ae⟩⟩
   | start m =>
    obtain⟨x,rfl,b⟩:=e;refine ixT b 0 _ rfl _ (ixT b 0 _ rfl _ (ixT b 0 _ rfl _ (ixT b 0 _ rfl _ (ixT b 1 _ rfl _ ?_))));intro y d i c g;exact⟨y,d,m,rfl,ae,j.1,j.2,rfl,q _ _ (fz (a:=a) i c) ⟨y,d,rfl,ae⟩⟩
   | loose m =>
    obtain⟨x,rfl,b⟩:=e;refine ixT b 0 _ rfl _ (ixT b 0 _ rfl _ (ixT b 0 _ rfl _ (ixT b 0 _ rfl _ (ixT b 1 _ rfl _ ?_))));intro y d i c g;exact⟨y,d,m,rfl,ae,j,rfl,q _ _ (fz (a:=a) i c) ⟨y,d,rfl,ae⟩⟩
   | each p=>exact j.elim
   | first p r=>exact j.elim
 | succ n ih =>
  have B:FnOk P w K mg base CX0 (n+4) _ _ _ (spFewI a):=(og T).mono (by lia);have D:FnOk P w K mg base CX0 (n+4) _ _ _ (spStartI a):=(jP T).mono (by lia);have l:FnOk P w K mg base CX0 (n+4) _ _ _ (spLooseI a):=(jS T).mono (by lia);have z:FnOk P w K mg base CX0 (n+4) _ _ _ (spEachI a):=(lT T).mono (by lia);have F:FnOk P w K mg base CX0 (n+4) _ _ _ (spFirstI a):=(jU T).mono (by lia);have f:FnOk P w K mg base CX0 (n+5) _ _ _ (spPlan a n):=ih;refine T.F_L.ok kS (λR H Q E h=>?_) (λcdv A outer s H R Q E hr h=>?_)
  .obtain⟨v,I,rfl,_⟩:=h;rfl
  .obtain⟨v,I,rfl,e,j,q⟩:=h
   refine⟨_,(af (aI (aG be (aq am (vr 0) ag (λ_ _=>rfl)) aE (aB _)) (ah (aw (bO T.mk_j z hr rfl T.mc_j T.Bi_j .nil ai (aa (aj f hr rfl T.m_L T.F_L.kp T.B_L .nil ai (aa (aq am (vr 0) ag (λ_ _=>rfl)) ac)) ac)))) aD) (af (aI (aG be (aq am (vr 0) ag (λ_ _=>rfl)) aE (aB _)) (ah (aw (bO T.mk_a F hr rfl T.mc_a T.Bi_a .nil ai (aa (aj f hr rfl T.m_L T.F_L.kp T.B_L .nil ai (aa (aq am (vr 0) ag (λ_ _=>rfl)) ac)) (aa (aj f hr rfl T.m_L T.F_L.kp T.B_L .nil ai (aa (aq am (vr 0) ag (λ_ _=>rfl)) ac)) ac))))) aD) (af (aI (aG be (aq am (vr 0) ag (λ_ _=>rfl)) aE (aB _)) (ah (aw (bO T.mk_r B hr rfl T.mc_r T.Bi_r .nil ai (aa (aq am (vr 0) ag (λ_ _=>rfl)) ac)))) aD) (af (aI (aG be (aq am (vr 0) ag (λ_ _=>rfl)) aE (aB _)) (ah (aw (bO T.mk_e D hr rfl T.mc_e T.Bi_e .nil ai (aa (aq am (vr 0) ag (λ_ _=>rfl)) ac)))) aD) (ah (aw (bO T.mk_g l hr rfl T.mc_g T.Bi_g .nil ai (aa (aq am (vr 0) ag (λ_ _=>rfl)) ac)))))))),lu ?_⟩;intro X W Z ab;cases I with
   | few m =>
    obtain⟨x,rfl,b⟩:=e;refine ixT b 0 _ rfl _ (ixT b 0 _ rfl _ (ixT b 0 _ rfl _ (ixT b 1 _ rfl _ ?_)));intro y d i c g;exact⟨y,d,m,rfl,ae,j,rfl,q _ _ (fz (a:=a) i c) ⟨y,d,rfl,ae⟩⟩
   | start m =>
    obtain⟨x,rfl,b⟩:=e;refine ixT b 0 _ rfl _ (ixT b 0 _ rfl _ (ixT b 0 _ rfl _ (ixT b 0 _ rfl _ (ixT b 1 _ rfl _ ?_))));intro y d i c g;exact⟨y,d,m,rfl,ae,j.1,j.2,rfl,q _ _ (fz (a:=a) i c) ⟨y,d,rfl,ae⟩⟩
   | loose m =>
    obtain⟨x,rfl,b⟩:=e;refine ixT b 0 _ rfl _ (ixT b 0 _ rfl _ (ixT b 0 _ rfl _ (ixT b 0 _ rfl _ (ixT b 1 _ rfl _ ?_))));intro y d i c g;exact⟨y,d,m,rfl,ae,j,rfl,q _ _ (fz (a:=a) i c) ⟨y,d,rfl,ae⟩⟩
   | each p =>
    obtain⟨x,u,rfl,b,hu⟩:=e;refine ixT b 0 _ rfl _ (ixT b 1 _ rfl _ ⟨u,p,rfl,hu,j,λH1 o L S=>?_⟩);intro y d i c g;have G:=fz (a:=a) (C:=a.c_j) (fs:=[("inside",o)]) i c;exact⟨y,d,o,rfl,ae,rfl,q _ _ (L.trans G) ⟨y,d,o,rfl,ae,S.n (cf G.t)⟩⟩
   | first p r =>
    obtain⟨x,u1,u2,rfl,b,M,O⟩:=e;refine ixT b 0 _ rfl _ (ixT b 0 _ rfl _ (ixT b 1 _ rfl _ ⟨u1,p,rfl,M,gw j.1,λH1 o L S=>?_⟩));refine ixT (L _ _ b) 2 _ rfl _ ⟨u2,r,rfl,O.same L,j.2,λH2 Y G h2=>?_⟩;intro y d i c g;have N:=fz (a:=a) (C:=a.c_a) (fs:=[("outside",o),("inside",Y)]) i c;exact⟨y,d,o,Y,rfl,ae,rfl,q _ _ (L.trans (G.trans N)) ⟨y,d,o,Y,rfl,ae,S.n (cf (G.trans N).t),h2.n (cf N.t)⟩⟩
theorem g9(T:Txt K mg a):FnOk P w K mg base CX0 1 a.f_U a.d_U ["_law_groups_here"] spOuter:=by
 refine T.F_U.ok o7 (λvs H Q E h=>?_) (λcdv A outer s H vs Q E hr h=>?_)
 .obtain⟨v,F,rfl,_⟩:=h;rfl
 .obtain⟨v,F,rfl,⟨l,xs,rfl,hl,hg⟩,ap,ab,q⟩:=h
  have Z:sizeLine=16777216:=sizeLine_eq;refine⟨_,(ah (aw (aT rfl (N:=["_law_k","_law_groups_here"]) (ix:=[none,some 0]) ⟨rfl,rfl,rfl,rfl,⟨rfl,rfl,rfl,trivial⟩⟩ (cZ rfl T.z_range (aa (av aF rfl T.z_len aQ (aa (vr 0) ac)) ac)) ⟨λC s H M=>au (i:=0) (show List.Nodup (["_law_k","_law_groups_here"]:List Str) by decide +kernel) rfl (Or.inl rfl),λC s H M=>aN,λC s H M=>(aK (aa (vr 0) (aa (av (j7 (K:=K) rfl rfl) rfl T.z_sum dI (aa (aT rfl (N:=["_law_row"]) (ix:=[none]) ⟨rfl,rfl,rfl,rfl,trivial⟩ (pN (K:=K) rfl (aq (aY (K:=K) rfl) (vr 1) (vr 0) (λ_ _=>rfl))) ⟨λC s H M=>au (i:=0) (show List.Nodup (["_law_row"]:List Str) by decide +kernel) rfl (Or.inl rfl),λC s H M=>aN,λC s H M=>(aq (aY (K:=K) rfl) (vr 0) ag (λ_ _=>rfl))⟩) ac)) (aa (aK ac) ac))))⟩))),?_⟩;have gl:F.length=xs.length:=Paired.length hg;refine⟨_,.inl (SqL.of hl),⟨_,rfl,by lia,by lia,λD hD=>?_⟩⟩
  let Pw1:PvL:=λi x e=>i<=xs.length/\Same H e/\e D=some (.lst x)/\CrAt e ((Nst.outer F).take i) x
  refine kh (lo:=0) (n:=xs.length) Pw1 ⟨Nat.zero_le _,Same.new hD,ae,.nil⟩ (λi x e h=>h.2.2.1) ?_ ?_
  .rintro i x e P' O ⟨hi,p,r,W⟩ hP
   have Y:xs[i]? = some xs[i]:=List.getElem?_eq_getElem O;generalize xs[i]=y at Y;obtain⟨c,G,lg,L,rfl,I,S⟩:=aL hg Y;have yl:x.length=i:=by rw[<- W.length,length_take,bf];lia
   have cl:=ab c (List.mem_of_getElem? G);have al:c.length=L.length:=Paired.length S;refine⟨⟨rfl,trivial⟩,.inl ⟨l,_,_,_,rfl,rfl,SqL.of (p _ _ hl),bj i (by lia) Y,?_⟩⟩;refine .inl ⟨⟨_,SqL.of (p _ _ I)⟩,λD2 B=>?_⟩
   let Pw2:PvL:=λj z d=>Same e d/\d D2=some (.lst z)/\j<=L.length/\z=((szs c).take j).map V.int
   refine aM (K:=K) (a:=lg) (xs:=L) Pw2 ⟨Same.new B,ae,Nat.zero_le _,rfl⟩ (λj z d h=>SqL.of (h.1 _ _ (p _ _ I))) (λj z d h=>h.2.1) ?_ ?_
   .rintro j y z d P2 hy ⟨X,b,hj,rfl⟩ ad
    obtain⟨m,hm,f,pt,rfl,u,as⟩:=aL S hy;have an:j<L.length:=(List.getElem?_eq_some_iff.mp hy).1;refine⟨trivial,.inr (.inl ⟨f,_,_,_,rfl,rfl,SqT.of ((p.trans X) _ _ u),bj 1 rfl rfl,b,?_,ad _ _ ⟨X.put B,ae,an,?_⟩⟩)⟩
    .rw[length_map,length_take];lia
    .have:(szs c)[j]? = some m.2.1:=by unfold szs;rw[List.getElem?_map,hm];rfl
     rw[take_add_one,this,map_append];rfl
   .rintro z d ⟨X,b,_,rfl⟩
    have es:(szs c).take L.length=szs c:=take_of_length_le (by unfold szs;rw[length_map,al];exact Nat.le_refl _);rw[es]at b;refine⟨D2,szs c,rfl,SqL.of b,?_⟩;refine⟨Nat.zero_le _,λt ht=>?_⟩;have s4:=Same.new (o:=.tup []) ht;have e4:(upd d t (.tup [])) t=some (.tup []):=ae;generalize upd d t (.tup [])=H3 at s4 e4;refine⟨(by decide:3<=sizeLine),λf u=>?_⟩;rw[show((0:Int)+(i:Int))=((i:Nat):Int) by lia];have s5:=Same.new (o:=.tup [.int (i:Nat),.int (szs c).sum,.ref t]) u;have e5:(upd H3 f (.tup [.int (i:Nat),.int (szs c).sum,.ref t])) f=some (.tup [.int (i:Nat),.int (szs c).sum,.ref t]):=ae;generalize upd H3 f (.tup [.int (i:Nat),.int (szs c).sum,.ref t])=H4 at s5 e5;have g:=X.trans (s4.trans s5);have R:=g _ _ r;have tk:TK H4 (upd H4 D (.lst (x++[.ref f]))):=TK.lst R;refine⟨R,by lia,hP _ _ ⟨O,(p.trans g).put hD,ae,?_⟩⟩
    have eo:(Nst.outer F)[i]? = some ((i:Int),(szs c).sum,[]):=by
     unfold Nst.outer;rw[List.getElem?_map,List.getElem?_zipIdx,G];simp
    rw[take_add_one,eo];exact CrAt.snoc (m:=((i:Int),(szs c).sum,[])) ⟨f,t,rfl,tk _ _ e5,tk _ _ (s5 _ _ e4)⟩ (W.tk (g.tk.trans tk))
  .rintro x e ⟨_,p,r,W⟩
   refine q _ _ _ p hD r ?_;rw[<- gl,<- bf F,take_length]at W;exact W
theorem gD(T:Txt K mg a):FnOk P w K mg base CX0 1 a.f_H a.d_H ["_law_crowd_here"] spLGroups:=by
 refine T.F_H.ok sc_H (λvs H Q E h=>?_) (λcdv A outer s H vs Q E hr h=>?_)
 .obtain⟨l,f,xs,rfl,_⟩:=h;rfl
 .obtain⟨l,f,xs,rfl,hl,hC,bo,a6,q⟩:=h
  have a8:sizeLine=16777216:=sizeLine_eq;have xl:=hC.len;refine⟨_,(af (ay (i:=1) sc_H.nd rfl (Or.inl rfl) (aZ ac)) (af (cb PassesOwn.never rfl (aP (vr 0)) (au (i:=2) sc_H.nd rfl (Or.inl rfl)) (ah (aI (aG iC (aq am (aq am (vr 2) ag (λ_ _=>rfl)) ag (λ_ _=>rfl)) (vr 1) (by with_unfolding_all rfl)) (ah (aV (pe_m.append (vr 1) (aa (aq am (aq am (vr 2) ag (λ_ _=>rfl)) ag (λ_ _=>rfl)) ac)))) aD))) (af (ay (i:=3) sc_H.nd rfl (Or.inl rfl) (aZ ac)) (af (cb PassesOwn.never rfl (aP (vr 1)) (au (i:=4) sc_H.nd rfl (Or.inr rfl)) (ah (aV (pe_m.append (vr 3) (aa (aT rfl (N:=["_law_row","_law_name"]) (ix:=[none,some 4]) ⟨rfl,rfl,rfl,rfl,⟨rfl,rfl,rfl,trivial⟩⟩ (aP (vr 0)) ⟨λC s H fp=>au (i:=0) (show List.Nodup (["_law_row","_law_name"]:List Str) by decide +kernel) rfl (Or.inl rfl),λC s H fp=>iD (aG be (aq (aY (K:=K) rfl) (aq (aY (K:=K) rfl) (vr 0) ag (λ_ _=>rfl)) ag (λ_ _=>rfl)) (vr 1) (aB _)),λC s H fp=>(aK (aa (aq (aY (K:=K) rfl) (vr 0) ag (λ_ _=>rfl)) (aa (aq (aY (K:=K) rfl) (vr 0) ag (λ_ _=>rfl)) (aa (dn (uZ (K:=K) rfl) (aq (aY (K:=K) rfl) (vr 0) ag (λ_ _=>rfl)) (eF ag) eC) ac))))⟩) ac))))) (ah (aw (vr 3))))))),lu ?_⟩;intro bN bm b1 b4;refine⟨Nat.zero_le _,λW a3=>?_⟩;have s0:Same H (upd H W (.lst [])):=Same.new a3
  let Pw3:PvS:=λi S r=>∃(x2 x3 x4:Option V),S=[some (.ref l),some (.ref W),x2,x3,x4]/\Same H r/\r W=some (.lst ((fnm (f.take i)).map V.str))
  refine .inl ⟨⟨_,SqL.of (s0 _ _ hl)⟩,fg (K:=K) (a:=l) (xs:=xs) Pw3 ⟨none,none,none,rfl,s0,ae⟩ (λi S r _ h=>by obtain⟨_,_,_,_,L,_⟩:=h;exact SqL.of (L _ _ hl)) ?_ ?_⟩
  .rintro i x S r Z ⟨x2,x3,x4,rfl,L,d⟩
   obtain⟨m,hm,q1,pt,rfl,ad,ap⟩:=hC.get Z;have b2:i<xs.length:=(List.getElem?_eq_some_iff.mp Z).1;obtain⟨B,F,p⟩:=m;have aS:=a6 _ (List.mem_of_getElem? hm);cases p with
   | nil=>exact absurd rfl aS.1
   | cons n0 ps =>
    have hq:=L _ _ ad;have hp:r pt=some (.tup (V.str n0::ps.map V.str)):=L _ _ ap;have et:f.take (i+1)=f.take i++[(B,F,n0::ps)]:=by rw[take_add_one,hm];rfl
    have ef:=mF (f.take i) (B,F,n0::ps);have eh:hd (B,F,n0::ps)=n0:=rfl;rw[eh]at ef;refine ixT hq 2 _ rfl _ (ixT hp 0 _ (bj 0 rfl rfl) _ ?_);refine⟨W,_,rfl,.inl (SqL.of d),rfl,ll _,?_⟩;rw[gO];have ab:=ph (f.take i);rw[length_take]at ab;refine rd (λc=>?_) (λc=>?_)
    .have c':¬n0∈fnm (f.take i):=by simpa using c
     refine⟨.inl ⟨rfl,_,SqL.of d⟩,ixT hq 2 _ rfl _ (ixT hp 0 _ (bj 0 rfl rfl) _ ?_)⟩;refine⟨W,_,.str n0,rfl,rfl,d,by rw[length_map];lia,?_⟩;refine⟨_,_,_,rfl,L.put a3,?_⟩;rw[ae,et,ef,if_neg c',map_append];rfl
    .have c':n0∈fnm (f.take i):=by simpa using c
     refine⟨_,_,_,rfl,L,?_⟩;rw[et,ef,if_pos c'];exact d
  .rintro S H1 ⟨x2,x3,x4,rfl,L,d⟩
   rw[<- xl,take_length]at d;have ab:=ph f;refine⟨Nat.zero_le _,λfl R=>?_⟩;have s2:Same H1 (upd H1 fl (.lst [])):=Same.new R;have b0:W≠fl:=λz=>by rw[z,R]at d;cases d
   let Pw4:PvS:=λi S r=>∃(y2 y4:Option V) (X:List V),S=[some (.ref l),some (.ref W),y2,some (.ref fl),y4]/\Same H1 r/\r fl=some (.lst X)/\Paired (CrN H r fl) (((fnm f).take i).map (gof f)) X
   refine .inl ⟨⟨_,SqL.of (s2 _ _ d)⟩,fg (K:=K) (a:=W) (xs:=(fnm f).map V.str) Pw4 ⟨x2,x4,[],rfl,s2,ae,.nil⟩ (λi S r _ h=>by obtain⟨_,_,_,_,s3,_⟩:=h;exact SqL.of (s3 _ _ d)) ?_ ?_⟩
   .rintro i x S r Z ⟨y2,y4,X,rfl,s3,u,G⟩
    rw[List.getElem?_map]at Z
    obtain⟨nm,hnm,rfl⟩:∃ nm,(fnm f)[i]? = some nm/\V.str nm=x:=by
     cases e:(fnm f)[i]? with
     | none=>rw[e]at Z;cases Z
     | some nm=>rw[e]at Z;cases Z;exact⟨nm,rfl,rfl⟩
    have b3:i<(fnm f).length:=(List.getElem?_eq_some_iff.mp hnm).1;have yl:X.length=i:=by rw[<- G.length,length_map,length_take];lia
    have as:=L.trans s3;have a4:=as _ _ hl;refine⟨.inl ⟨rfl,_,SqL.of u⟩,?_⟩;refine .inl ⟨⟨_,SqL.of a4⟩,λD hD=>?_⟩;have nD:fl≠D:=λz=>by rw[z,hD]at u;cases u
    let Pw5:PvL:=λj M I=>Same r I/\I D=some (.lst M)/\j<=xs.length/\CrAt I (gof (f.take j) nm) M
    refine aM (K:=K) (a:=l) (xs:=xs) Pw5 ⟨Same.new hD,ae,Nat.zero_le _,.nil⟩ (λj M I h=>SqL.of (h.1 _ _ a4)) (λj M I h=>h.2.1) ?_ ?_
    .rintro j y M I P2 hy ⟨s4,O,hj,hz⟩ a5
     obtain⟨m,hm,q1,pt,rfl,ad,ap⟩:=hC.get hy;have a7:j<xs.length:=(List.getElem?_eq_some_iff.mp hy).1;have a2:=as.trans s4;obtain⟨B,F,p⟩:=m;have aS:=a6 _ (List.mem_of_getElem? hm);have et:f.take (j+1)=f.take j++[(B,F,p)]:=by rw[take_add_one,hm];rfl
     have eg:=kq (f.take j) (B,F,p) nm
     have zl:M.length<=24:=by
      rw[<- hz.length];unfold gof;rw[length_map];have:=length_filter_le (λm=>decide (hd m=nm)) (f.take j);rw[length_take]at this;lia
     cases p with
     | nil=>exact absurd rfl aS.1
     | cons n0 ps =>
      have hq:=a2 _ _ ad;have hp:I pt=some (.tup (V.str n0::ps.map V.str)):=a2 _ _ ap;have eh:hd (B,F,n0::ps)=n0:=rfl;rw[eh]at eg
      have nw:¬(HT.sIx (V.str n0::ps.map V.str).length 0 (some 1)=0/\HT.sIx (V.str n0::ps.map V.str).length (V.str n0::ps.map V.str).length none=(V.str n0::ps.map V.str).length):=λz=>by
       have z1:=z.1;rw[show(some (1:Int))=some ((1:Nat):Int) from rfl,HT.sIx_nat,length_cons]at z1;lia
      have a9:fN (V.str n0::ps.map V.str) (some 1) none=ps.map V.str:=i5 _ 1;refine⟨⟨rfl,trivial⟩,ixT hq 2 _ rfl _ (ixT hp 0 _ (bj 0 rfl rfl) _ ?_)⟩;refine rd (λc=>?_) (λc=>?_)
      .have c':n0=nm:=by simpa using c
       refine ixT hq 0 _ rfl _ (ixT hq 1 _ rfl _ (ixT hq 2 _ rfl _ ⟨_,rfl,.inr ⟨_,SqT.of hp,nw,λY bl=>?_⟩⟩));rw[a9];have s5:=Same.new (o:=.tup (ps.map V.str)) bl;have e5:(upd I Y (.tup (ps.map V.str))) Y=some (.tup (ps.map V.str)):=ae;generalize upd I Y (.tup (ps.map V.str))=H5 at s5 e5;refine⟨(by decide:3<=sizeLine),λa1 a'=>?_⟩;have s6:=Same.new (o:=.tup [.int B,.int F,.ref Y]) a';have e6:(upd H5 a1 (.tup [.int B,.int F,.ref Y])) a1=some (.tup [.int B,.int F,.ref Y]):=ae;generalize upd H5 a1 (.tup [.int B,.int F,.ref Y])=H6 at s6 e6;have an:=s5.trans s6;have a0:=an _ _ O;have tk:TK H6 (upd H6 D (.lst (M++[.ref a1]))):=TK.lst a0;refine⟨a0,by lia,a5 _ _ ⟨(s4.trans an).put hD,ae,a7,?_⟩⟩;rw[et,eg,if_pos c'];exact CrAt.snoc (m:=tl (B,F,n0::ps)) ⟨a1,Y,rfl,tk _ _ e6,tk _ _ (s6 _ _ e5)⟩ (hz.tk (an.tk.trans tk))
      .have c':¬n0=nm:=by simpa using c
       refine a5 _ _ ⟨s4,O,a7,?_⟩;rw[et,eg,if_neg c',append_nil];exact hz
    .rintro M I ⟨s4,O,_,hz⟩
     rw[<- xl,take_length]at hz;have al:=s4 _ _ u;refine⟨fl,X,.ref D,rfl,rfl,al,by lia,?_⟩;refine⟨_,_,X++[.ref D],rfl,(s3.trans s4).put R,ae,?_⟩;rw[take_add_one,hnm,map_append];exact da (CrN.put al _ _ ⟨⟨D,M,rfl,O,hz⟩,λz=>nD (by cases z;rfl),λb e=>by cases e;exact as.free hD⟩) (aH (λg v h=>CrN.put al _ _ (CrN.same s4 _ _ h)) G)
   .rintro S r ⟨y2,y4,X,rfl,s3,u,G⟩
    rw[length_map,take_length]at G;refine q _ _ X (L.trans s3) (L.free R) u ?_;rw[rW];exact aH (λg v h=>⟨h.1,h.2.2⟩) G
theorem wj{c:List Mb}(h:∀(i:Nat) m,c[i]? = some m->m.1=(i:Int)):(plc c).Nodup:=by
 have e:plc c=(List.range c.length).map λk:Nat=>(k:Int):=by
  unfold plc;refine List.ext_getElem? λi=>?_
  rw[List.getElem?_map,List.getElem?_map]
  by_cases hi:i<c.length
  .rw[List.getElem?_range hi,List.getElem?_eq_getElem hi]
   show some _=some _
   congr 1
   exact h i _ (List.getElem?_eq_getElem hi)
  .rw[List.getElem?_eq_none (by lia),List.getElem?_eq_none (by rw[length_range];lia)]
   rfl
 rw[e];exact List.Pairwise.map _ (λa b h z=>h (by lia)) List.nodup_range
theorem qk(T:Txt K mg a):FnOk P w K mg base CX0 2 a.f_S a.d_S ["_law_cell_here"] spLCrowd:=by
 have O:FnOk P w K mg base CX0 1 _ _ _ spMixed:=mI T;refine T.F_S.ok sc_S (λvs H Q E h=>?_) (λcdv A outer s H vs Q E hr h=>?_)
 .obtain⟨c,rfl,_⟩:=h;rfl
 .obtain⟨c,rfl,q⟩:=h
  have al:sizeLine=16777216:=sizeLine_eq;refine⟨_,(af (ay (i:=1) sc_S.nd rfl (Or.inl rfl) (aZ ac)) (af (ay (i:=2) sc_S.nd rfl (Or.inl rfl) (aA bE ag (aA cP (aA bn (aj O hr rfl T.m_A T.F_A.kp T.B_A .nil ai (aa (vr 0) (aa ag ac))) ag) ag))) (af (cb PassesOwn.never rfl (cZ rfl T.z_range (aa (aA bE ag (aA cP (aj O hr rfl T.m_A T.F_A.kp T.B_A .nil ai (aa (vr 0) (aa ag ac))) ag)) ac)) (au (i:=3) sc_S.nd rfl (Or.inl rfl)) (af (ay (i:=4) sc_S.nd rfl (Or.inl rfl) (aj O hr rfl T.m_A T.F_A.kp T.B_A .nil ai (aa (vr 0) (aa (aA bE ag (vr 3)) ac)))) (af (ay (i:=5) sc_S.nd rfl (Or.inl rfl) (aA bE ag (aA cP (aA bn (vr 4) ag) (aq am (aZ (aa (aA nA ag ag) (aa ag ac))) (aA cP (vr 4) ag) (λ_ _=>rfl))))) (af (ay (i:=6) sc_S.nd rfl (Or.inl rfl) (aZ ac)) (af (ay (i:=4) sc_S.nd rfl (Or.inl rfl) (aA bn (vr 4) (aA nA ag ag))) (af (cb PassesOwn.never rfl (cZ rfl T.z_range (aa ag ac)) (au (i:=7) sc_S.nd rfl (Or.inl rfl)) (af (aV (pe_m.append (vr 6) (aa (aq am (aZ (cQ aE (cQ aE (cQ aE (cQ aE (cQ aE ac)))))) (aA cP (vr 4) (vr 2)) (λ_ _=>rfl)) ac))) (ah (ay (i:=4) sc_S.nd rfl (Or.inl rfl) (aA bn (vr 4) (vr 2)))))) (ah (aV (pe_m.append (vr 1) (aa (aK (aa (vr 3) (aa (vr 5) (aa (b7 kI rfl T.z_tuple mY (aa (vr 6) ac)) ac)))) ac)))))))))) (ah (aw (vr 1)))))),nq ?_⟩;intro a5 bo b1;refine⟨Nat.zero_le _,λr ab=>?_⟩;have s0:Same H (upd H r (.lst [])):=Same.new ab;refine⟨c,4,rfl,by decide,by decide,λu bl bm=>?_⟩;refine⟨cdK,cp,?_⟩;have a8:1<=1+u/24 % 5:=by lia
  have a9:1+u/24 % 5<=5:=by lia
  refine⟨c,4,rfl,by decide,by decide,λr2 a7 a'=>?_⟩;refine⟨cp,?_⟩;refine⟨_,rfl,by lia,by lia,?_⟩
  let Pw6:PvS:=λi N v=>∃(p:List Mb) (B:List V) (x3 x4 x5 x6 x7:Option V),N=[some (.int c),some (.ref r),some (.int (1+u/24 % 5)),x3,x4,x5,x6,x7]/\Same H v/\v r=some (.lst B)/\CrAt v p B/\p.length=i/\i<=24/\(∀ m∈p,(1<=m.2.1/\m.2.1<=1000000)/\m.2.2.length=3/\∀ n∈m.2.2,n∈nms)/\(∀(i:Nat) m,p[i]? = some m->m.1=(i:Int))
  refine fX Pw6 ⟨[],[],none,none,none,none,none,rfl,s0,ae,.nil,rfl,Nat.zero_le _,λm hm=>(by cases hm),λi m h=>(by simp at h)⟩ ?_ ?_
  .rintro i N v hi ⟨p,B,x3,x4,x5,x6,x7,rfl,s1,x,hC,W,Z,f,G⟩
   have a4:i<24:=by lia
   have xl:=hC.len;refine⟨c,5+(0+(i:Int)),rfl,by lia,by lia,λd b0 a6=>?_⟩;refine⟨cdK,?_⟩;refine⟨cw,⟨(by decide:2<=sizeLine),λl1 an=>?_⟩⟩
   obtain⟨z,hz,hz0,hz1⟩:∃ z:Int,atI [V.int (10 ^ Int.toNat 6),.int 6] (d % 2)=some (.int z)/\0<z/\z<=1000000:=by
    rcases(by lia:d % 2=0\/d % 2=1) with e | e <;> rw[e]
    .exact⟨_,rfl,by decide +kernel,by decide +kernel⟩
    .exact⟨6,rfl,by decide,by decide⟩
   refine⟨cp,.inl ⟨l1,_,_,.int z,rfl,rfl,SqL.of ae,hz,cp (by lia),?_⟩⟩;have m0:=Int.emod_nonneg (d/2) (show z≠0 by lia);have m1:=Int.emod_lt_of_pos (d/2) hz0;have s2:=Same.new (o:=.lst [V.int (10 ^ Int.toNat 6),.int 6]) an;refine⟨Nat.zero_le _,λF S=>?_⟩;have ap:v F=none:=s2.free S;have s3:=s2.trans (Same.new (o:=.lst []) S);have Y:=ae (H:=upd v l1 (.lst [V.int (10 ^ Int.toNat 6),.int 6])) (a:=F) (o:=.lst []);generalize upd (upd v l1 (.lst [V.int (10 ^ Int.toNat 6),.int 6])) F (.lst [])=H3 at s3 Y;refine⟨cw,cdK (by decide +kernel) (by decide +kernel),?_⟩;refine⟨_,rfl,by decide,by decide,?_⟩
   let Pw7:PvS:=λj N R=>∃(b:Int) (g:List Str) (y7:Option V),N=[some (.int c),some (.ref r),some (.int (1+u/24 % 5)),some (.int (0+(i:Int))),some (.int b),some (.int (1+d/2 % z)),some (.ref F),y7]/\Same v R/\R F=some (.lst (g.map V.str))/\g.length=j/\∀ n∈g,n∈nms
   refine fX Pw7 ⟨_,[],x7,rfl,s3,Y,rfl,λn hn=>by cases hn⟩ ?_ ?_
   .rintro j N R hj ⟨b,g,y7,rfl,s4,y,D,L⟩
    have bN:j<3:=hj
    obtain⟨nm,hat,hnm⟩:∃ nm:Str,atI [V.str "north",.str "n",.str "south",.str "no",.str "z"] (b % (1+u/24 % 5))=some (.str nm)/\nm∈nms:=by
     have e0:=Int.emod_nonneg b (show(1+u/24 % 5)≠0 by lia);have e1:=Int.emod_lt_of_pos b (show 0<(1+u/24 % 5) by lia)
     rcases(by lia:b % (1+u/24 % 5)=0\/b % (1+u/24 % 5)=1\/b % (1+u/24 % 5)=2\/b % (1+u/24 % 5)=3\/b % (1+u/24 % 5)=4) with e | e | e | e | e <;> rw[e]
     .exact⟨_,rfl,by unfold nms;simp⟩
     .exact⟨_,rfl,by unfold nms;simp⟩
     .exact⟨_,rfl,by unfold nms;simp⟩
     .exact⟨_,rfl,by unfold nms;simp⟩
     .exact⟨_,rfl,by unfold nms;simp⟩
    refine⟨.inl ⟨rfl,_,SqL.of y⟩,⟨(by decide:5<=sizeLine),λl3 as=>?_⟩⟩;have X:=Same.new (o:=.lst [V.str "north",.str "n",.str "south",.str "no",.str "z"]) as;refine⟨cp (by lia),.inl ⟨l3,_,_,.str nm,rfl,rfl,SqL.of ae,hat,?_⟩⟩;refine⟨F,_,.str nm,rfl,rfl,X _ _ y,by rw[length_map];lia,?_⟩;refine⟨cdB (n:=10) (by lia) (by unfold Bt;lia),?_⟩;refine⟨_,g++[nm],_,rfl,(s4.trans X).put ap,by rw[ae,map_append];rfl,by rw[length_append,D];rfl,λn hn=>?_⟩
    rcases mem_append.mp hn with hn | hn
    .exact L n hn
    .rw[mem_singleton.mp hn];exact hnm
   .rintro N R ⟨b,g,y7,rfl,s4,y,D,L⟩
    have a3:=s4 _ _ x;refine⟨.inl ⟨rfl,_,SqL.of a3⟩,?_⟩;refine⟨F,_,rfl,.inl ⟨SqL.of y,λC a0=>?_⟩⟩;have X:=Same.new (o:=.tup (g.map V.str)) a0;have e5:(upd R C (.tup (g.map V.str))) C=some (.tup (g.map V.str)):=ae;generalize upd R C (.tup (g.map V.str))=H5 at X e5;refine⟨(by decide:3<=sizeLine),λI a2=>?_⟩;have s6:=Same.new (o:=.tup [.int (0+(i:Int)),.int (1+d/2 % z),.ref C]) a2;have e6:(upd H5 I (.tup [.int (0+(i:Int)),.int (1+d/2 % z),.ref C])) I=some (.tup [.int (0+(i:Int)),.int (1+d/2 % z),.ref C]):=ae;generalize upd H5 I (.tup [.int (0+(i:Int)),.int (1+d/2 % z),.ref C])=H6 at s6 e6;have M:=s4.trans (X.trans s6);have ad:=M _ _ x;have tk:TK H6 (upd H6 r (.lst (B++[.ref I]))):=TK.lst ad;refine⟨r,B,.ref I,rfl,rfl,ad,by lia,?_⟩;refine⟨p++[(0+(i:Int),1+d/2 % z,g)],B++[.ref I],_,_,_,_,_,rfl,(s1.trans M).put ab,ae,?_,by rw[length_append,W];rfl,by lia,λm hm=>?_,λk m hk=>?_⟩
    .exact CrAt.snoc (m:=(0+(i:Int),1+d/2 % z,g)) ⟨I,C,rfl,tk _ _ e6,tk _ _ (s6 _ _ e5)⟩ (hC.tk (M.tk.trans tk))
    .rcases mem_append.mp hm with hm | hm
     .exact f m hm
     .rw[mem_singleton.mp hm]
      exact⟨⟨by show 1<=1+d/2 % z;lia,by show 1+d/2 % z<=1000000;lia⟩,D,L⟩
    .by_cases c:k<p.length
     .rw[List.getElem?_append_left c]at hk;exact G k m hk
     .have e:k=p.length:=by
       have:=(List.getElem?_eq_some_iff.mp hk).1;rw[length_append,List.length_singleton]at this;lia
      subst e;simp at hk;subst hk
      first | lia | (show(i:Int)=(p.length:Int);lia)
  .rintro N v ⟨p,B,x3,x4,x5,x6,x7,rfl,s1,x,hC,W,Z,f,G⟩
   refine q _ r p B s1 x hC ⟨?_,wj G⟩;refine⟨⟨by lia,by lia⟩,λm hm=>(f m hm).1.1,?_,λm hm=>by rw[(f m hm).2.1];exact⟨Nat.le_refl _,Nat.le_refl _⟩,λm hm=>(f m hm).2.2⟩
   have aS:∀ l:List Mb,(∀ m∈l,m.2.1<=1000000)->(szs l).sum<=1000000*(l.length:Int):=λl=>by
    induction l with
    | nil=>intro _;simp[szs]
    | cons m l ih =>
     intro h;have h1:=h m mem_cons_self;have h2:=ih λm hm=>h m (mem_cons_of_mem _ hm)
     have e:(szs (m::l)).sum=m.2.1+(szs l).sum:=by unfold szs;rw[map_cons,sum_cons]
     rw[e,length_cons];lia
   have:=aS p λm hm=>(f m hm).1.2
   lia
theorem iq(T:Txt K mg a):FnOk P w K mg base CX0 2 a.f_E a.d_E ["_law_sizes","_law_many"] (spWished K):=by
 have cs:FnOk P w K mg base CX0 1 _ _ _ spLowest:=jc T;refine T.F_E.ok sc_E (λvs H Q E h=>?_) (λcdv A outer s H vs Q E hr h=>?_)
 .obtain⟨l,z,m,rfl,_⟩:=h;rfl
 .obtain⟨l,z,m,rfl,hl,hz,m0,m1,q⟩:=h
  refine⟨_,(af (aI (aG xQ (vr 1) (av aF rfl T.z_len aQ (aa (vr 0) ac)) (aB _)) (ah (aw (aA jX (aZ (aa (aK (aa ag (aa ag ac))) ac)) (av aF rfl T.z_len aQ (aa (vr 0) ac))))) aD) (af (ay (i:=2) sc_E.nd rfl (Or.inr rfl) (aZ ac)) (af (ay (i:=3) sc_E.nd rfl (Or.inl rfl) (iK vT (vr 1) ag (aB _))) (af (fh PassesOwn.never (dY (vr 3)) (af (ay (i:=4) sc_E.nd rfl (Or.inr rfl) (av (bH rfl) rfl T.z_sum dI (aa (aT rfl (N:=["_law_k","_law_size","_law_aside"]) (ix:=[none,none,some 2]) ⟨rfl,rfl,rfl,rfl,⟨rfl,rfl,rfl,trivial⟩⟩ (dX rfl T.z_enumerate (aa (vr 0) ac)) ⟨λC s H fp=>(dU (K:=K) (n:=2) rfl rfl (ax (au (i:=0) (show List.Nodup (["_law_k","_law_size","_law_aside"]:List Str) by decide +kernel) rfl (Or.inl rfl)) (ax (au (i:=1) (show List.Nodup (["_law_k","_law_size","_law_aside"]:List Str) by decide +kernel) rfl (Or.inl rfl)) aO))),λC s H fp=>iD (aG (fO (K:=K) rfl) (vr 0) (vr 2) (by with_unfolding_all rfl)),λC s H fp=>(vr 1)⟩) ac))) (af (dR rfl (i:=5) sc_E.nd rfl rfl (by with_unfolding_all rfl) (N:=["_law_k","_law_size","_law_aside","_law_total","_law_many"]) (ix:=[none,none,some 2,some 4,some 1]) ⟨rfl,rfl,rfl,rfl,⟨rfl,rfl,rfl,⟨rfl,rfl,rfl,⟨rfl,rfl,rfl,trivial⟩⟩⟩⟩ (dX rfl T.z_enumerate (aa (vr 0) ac)) ⟨λC s H fp=>(dU (K:=K) (n:=2) rfl rfl (ax (au (i:=0) (show List.Nodup (["_law_k","_law_size","_law_aside","_law_total","_law_many"]:List Str) by decide +kernel) rfl (Or.inl rfl)) (ax (au (i:=1) (show List.Nodup (["_law_k","_law_size","_law_aside","_law_total","_law_many"]:List Str) by decide +kernel) rfl (Or.inl rfl)) aO))),λC s H fp=>iD (PW.pt (gY (aG (fO (K:=K) rfl) (vr 0) (vr 2) (by with_unfolding_all rfl)) (fJ (aG xQ (aA bF (vr 1) (vr 4)) (vr 3) (aB _))))),λC s H fp=>(vr 0)⟩) (af (ay (i:=2) sc_E.nd rfl (Or.inr rfl) (aA vQ (vr 2) (vr 5))) (af (ay (i:=1) sc_E.nd rfl (Or.inr rfl) (aA d9 (vr 1) (av aF rfl T.z_len aQ (aa (vr 5) ac)))) (ah (ay (i:=3) sc_E.nd rfl (Or.inl rfl) (iK (jo hr.units) (vr 5) (aZ ac) (aB _))))))))) (af (ay (i:=4) sc_E.nd rfl (Or.inr rfl) (av (bH rfl) rfl T.z_sum dI (aa (aT rfl (N:=["_law_k","_law_size","_law_aside"]) (ix:=[none,none,some 2]) ⟨rfl,rfl,rfl,rfl,⟨rfl,rfl,rfl,trivial⟩⟩ (dX rfl T.z_enumerate (aa (vr 0) ac)) ⟨λC s H fp=>(dU (K:=K) (n:=2) rfl rfl (ax (au (i:=0) (show List.Nodup (["_law_k","_law_size","_law_aside"]:List Str) by decide +kernel) rfl (Or.inl rfl)) (ax (au (i:=1) (show List.Nodup (["_law_k","_law_size","_law_aside"]:List Str) by decide +kernel) rfl (Or.inl rfl)) aO))),λC s H fp=>iD (aG (fO (K:=K) rfl) (vr 0) (vr 2) (by with_unfolding_all rfl)),λC s H fp=>(vr 1)⟩) ac))) (af (ay (i:=6) sc_E.nd rfl (Or.inl rfl) (aZ ac)) (af (cb PassesOwn.never rfl (dX rfl T.z_enumerate (aa (vr 0) ac)) (bA rfl (ax (au (i:=7) sc_E.nd rfl (Or.inl rfl)) (ax (au (i:=8) sc_E.nd rfl (Or.inl rfl)) aO))) (ah (aI (aG i8 (vr 7) (vr 2) (by with_unfolding_all rfl)) (ah (aV (pe_m.append (vr 6) (aa (aK (aa ag (aa ag ac))) ac)))) (ah (aV (pe_m.append (vr 6) (aa (aj cs hr rfl T.m_K T.F_K.kp T.B_K .nil ai (aa (aA bF (vr 8) (vr 1)) (aa (vr 4) ac))) ac))))))) (ah (aw (vr 6)))))))))),xG ?_⟩
  intro cW cT cO c1 cC c4 c5;have sl:sizeLine=16777216:=sizeLine_eq;have zl:=hz.len;have Y:∀ k,k<z.length->1<=sz z k:=λk hk=>hz.lo _ (lW hk)
  have a6:∀ k,k<z.length->sz z k<=24000000:=λk hk=>hz.hi _ (lW hk)
  refine⟨_,.inl (SqL.of hl),?_⟩;rw[length_map];refine ifC (λc=>?_) (λc=>?_)
  .have B:(z.length:Int)<=m:=c
   have ap:due z m=z.map λ_=>(1,1):=by unfold due;rw[if_pos B]
   refine⟨bp _ _,λp hp=>⟨by show 1<=sizeLine;lia,λD hD=>?_⟩⟩;have s1:=(Same.new (o:=.tup [.int 1,.int 1]) hp).trans (Same.new (o:=.lst [.ref p]) hD);refine⟨_,.inl (SqL.of (s1 _ _ hl)),⟨D,_,[.ref p],rfl,rfl,ae,by rw[length_map];lia,by rw[length_map];lia,by rw[length_map,Int.toNat_natCast];show 1*_<=_;lia,λr a5=>?_⟩⟩;have f:=s1.trans (Same.new (o:=.lst (List.replicate (((z.map V.int).length:Nat):Int).toNat [V.ref p]).flatten) a5);refine q _ r _ f (s1.free a5) ae ?_;rw[ap,Int.toNat_natCast,length_map,List.map_const'];rw[length_map,Int.toNat_natCast]at f;refine nN ⟨p,rfl,.inl ?_⟩ _;exact Same.new a5 _ _ (Same.new hD _ _ ae)
  have B:¬(z.length:Int)<=m:=c;refine⟨Nat.zero_le _,λy O=>?_⟩
  let Pw9:PvS:=λc σ H'=>∃(y:Addr) (A L:List Nat) (w:Int) (b:Bool) (x4 x5:Option V),c=2*L.length+(if b then 1 else 0)/\Same H H'/\H' y=some (.lst (nV A))/\Asd z.length A L/\Rnd z z.length m L w/\0<=w /\
    (m=0->b=false/\w=0/\L=List.range z.length)/\(m≠0->FrM.fin z L w=FrM.fin z (List.range z.length) m)/\(m≠0->b=false->(stay z L w).length=L.length)/\σ=[some (.ref l),some (.int w),some (.ref y),some (.bl b),x4,x5,none,none,none]
  refine⟨Pw9,
   ⟨_,y,[],List.range z.length,m,decide (0<m),none,none,rfl,Same.new O,ae,Asd.start _,Rnd.start (by lia) (by lia),m0,λe=>⟨by rw[e];rfl,e,rfl⟩,λ_=>rfl,λe1 e2=>absurd (of_decide_eq_false e2) (by lia),rfl⟩,?_⟩
  clear O y;rintro c0 σ H' ⟨y,A,L,w,b,x4,x5,rfl,sm,O,hA,R,w0,bN,a7,cc,rfl⟩;have Z:=sm _ _ hl;have Ll:=R.len;have wb:w<=24:=by have:=R.dif;have:=R.lt;lia
  have S:∀ L:List Nat,(nV L).length=L.length:=λL=>by unfold nV;rw[length_map]
  refine ifB (λhb=>?_) (λhb=>?_)
  .subst hb
   have hm:m≠0:=λe=>by have:=(bN e).1;cases this
   let Pw10:St->Hp->Prop:=λb1 a9=>∃(y:Addr) (A:List Nat) (w':Int) (b':Bool) (x4 x5:Option V),w'=w - ((L.length:Int) - ((stay z L w).length:Int))/\b'=decide ((stay z L w).length≠L.length)/\Same H a9/\a9 y=some (.lst (nV A))/\Asd z.length A (stay z L w)/\b1=[some (.ref l),some (.int w'),some (.ref y),some (.bl b'),x4,x5,none,none,none]
   refine⟨Pw10,?_,?_⟩
   .rintro b1 a9 ⟨y,A,w',b',x4,x5,rfl,rfl,b2,h',bl,rfl⟩
    have cS:=iB z L w
    by_cases e:(stay z L w).length=L.length
    .have es:stay z L w=L:=by
      unfold stay;rw[List.filter_eq_self];exact λk hk=>(List.length_filter_eq_length_iff.mp e) k hk
     have ew:w - ((L.length:Int) - ((stay z L w).length:Int))=w:=by lia
     have eb:decide ((stay z L w).length≠L.length)=false:=decide_eq_false (λh=>h e);rw[ew,eb];refine⟨_,?_,y,A,L,w,false,x4,x5,rfl,b2,h',by rw[es]at bl;exact bl,R,w0,λz=>absurd z hm,a7,λ_ _=>e,rfl⟩;simp
    .have eb:decide ((stay z L w).length≠L.length)=true:=decide_eq_true e
     rw[eb];refine⟨_,?_,y,A,_,_,true,x4,x5,rfl,b2,h',bl,R.step Y,vD (λk hk=>Y k (R.sub k hk)) R.pos w0,λz=>absurd z hm,λz=>by rw[<- a7 z];exact(lZ e).symm,λ_ z=>(by cases z),rfl⟩;simp;lia
   .skip
    refine⟨l,_,rfl,Z,λD hD=>?_⟩;refine fR (a:=l) (xs:=z.map V.int) (λj g d=>j<=z.length/\Same H' d/\d D=some (.lst g)/\g=((((List.range z.length).take j).filter λk=>decide (k∈L)).map (sz z)).map V.int) ⟨Nat.zero_le _,Same.new hD,ae,rfl⟩ (λj g d h=>h.2.1 _ _ Z) (λj g d h=>h.2.2.1) ?_ ?_
    .rintro j x g d p P' hx ⟨b5,t2,X,rfl⟩ hp hP
     obtain⟨G,rfl⟩:=uF hx;have f:Same d (upd d p (.tup [.int (j:Nat),.int (sz z j)])):=Same.new hp;refine⟨p,_,rfl,SqT.of ae,rfl,_,_,rfl,_,_,rfl,rfl,⟨rfl,trivial⟩,?_⟩;generalize upd d p (.tup [.int (j:Nat),.int (sz z j)])=H5 at f;have F:=f _ _ X;have v:=la (L:=L) G;refine⟨y,_,rfl,.inl (SqL.of ((t2.trans f) _ _ O)),rfl,jZ A,?_⟩;rw[sZ,hA.2 j G];refine ifB (λc=>?_) (λc=>?_)
     .have B:j∈L:=by simpa using c
      rw[if_pos B]at v;refine⟨F,?_,hP _ _ ⟨G,(t2.trans f).put hD,ae,?_⟩⟩
      .rw[length_map,length_map]
       have:=length_filter_le (λk=>decide (k∈L)) ((List.range z.length).take j);rw[length_take]at this;lia
      .rw[v,map_append,map_append];rfl
     .have B:j ∉ L:=by simpa using c
      rw[if_neg B,append_nil]at v;exact hP _ _ ⟨G,t2.trans f,F,by rw[v]⟩
    rintro g H3 ⟨_,sD,ab,rfl⟩
    have eS:(((List.range z.length).take (z.map V.int).length).filter λk=>decide (k∈L))=L:=by
     rw[length_map,take_of_length_le (by rw[length_range];exact Nat.le_refl _)];exact R.fil.symm
    rw[eS]at ab;refine⟨D,L.map (sz z),rfl,SqL.of ab,?_⟩;have a1:=sD _ _ Z;have I:=sD _ _ O;refine⟨l,_,rfl,a1,λD2 X=>?_⟩;refine fR (a:=l) (xs:=z.map V.int) (λj g d=>j<=z.length/\Same H3 d/\d D2=some (.lst g)/\g=nV (((List.range z.length).take j).filter λk=>decide (k∈L) && !decide (sz z k*w<aR z L))) ⟨Nat.zero_le _,Same.new X,ae,rfl⟩ (λj g d h=>h.2.1 _ _ a1) (λj g d h=>h.2.2.1) ?_ ?_
    .rintro j x g d p P' hx ⟨b5,t2,co,rfl⟩ hp hP
     obtain⟨G,rfl⟩:=uF hx;have f:Same d (upd d p (.tup [.int (j:Nat),.int (sz z j)])):=Same.new hp;refine⟨p,_,rfl,SqT.of ae,rfl,_,_,rfl,_,_,rfl,rfl,⟨rfl,rfl,rfl,trivial⟩,?_⟩;generalize upd d p (.tup [.int (j:Nat),.int (sz z j)])=H5 at f;have F:=f _ _ co;have v:=qE (L:=L) (λk=>!decide (sz z k*w<aR z L)) G;have b9:=Y j G;have ch:=a6 j G;refine⟨y,_,rfl,.inl (SqL.of ((t2.trans f) _ _ I)),rfl,jZ A,?_⟩;rw[sZ,hA.2 j G];refine ifB (λc=>?_) (λc=>?_)
     .have B:j∈L:=by simpa using c
      refine⟨crB (by lia) (by lia),?_⟩;refine ifC (λc2=>?_) (λc2=>?_)
      .have b0:aR z L<=sz z j*w:=c2
       rw[if_pos (by simp[B];exact b0)]at v;refine⟨F,?_,hP _ _ ⟨G,(t2.trans f).put X,ae,?_⟩⟩
       .rw[S]
        have:=length_filter_le (λk=>decide (k∈L) && !decide (sz z k*w<aR z L)) ((List.range z.length).take j);rw[length_take]at this;lia
       .rw[v];unfold nV;rw[map_append];rfl
      .have b0:¬aR z L<=sz z j*w:=c2
       rw[if_neg (by simp[B];lia),append_nil]at v;exact hP _ _ ⟨G,t2.trans f,F,by rw[v]⟩
     .have B:j ∉ L:=by simpa using c
      rw[if_neg (by simp[B]),append_nil]at v;exact qp (hP _ _ ⟨G,t2.trans f,F,by rw[v]⟩)
    rintro g H4 ⟨_,b6,a8,rfl⟩
    obtain⟨u,hhi⟩:∃ u,u=L.filter λk=>!decide (sz z k*w<aR z L):=⟨_,rfl⟩
    have eT:nV (((List.range z.length).take (z.map V.int).length).filter λk=>decide (k∈L) && !decide (sz z k*w<aR z L))=nV u:=by
     rw[length_map,take_of_length_le (by rw[length_range];exact Nat.le_refl _),hhi]
     congr 1
     exact uD R.fil _
    rw[eT]at a8;have W:u.length+(stay z L w).length=L.length:=by rw[hhi];exact n9 _ L
    have as:=b6 _ _ I;have al:=hA.1;refine⟨y,D2,_,_,rfl,rfl,as,a8,by rw[S,S];lia,λa2 a4=>?_⟩;have s5:=sD.trans (b6.trans (Same.new (o:=.lst (nV A++nV u)) a4));have an:=Same.new (o:=.lst (nV A++nV u)) a4 _ _ a8;have h5:(upd H4 a2 (.lst (nV A++nV u))) a2=some (.lst (nV (A++u))):=by rw[ae];unfold nV;rw[map_append]
    generalize upd H4 a2 (.lst (nV A++nV u))=H5 at s5 an h5;refine⟨_,.inl (SqL.of an),Nat.zero_le _,λp hp=>?_⟩;have sp:=Same.new (o:=.lst []) hp;refine tj (sp _ _ an) ae ?_;refine⟨a2,A++u,_,_,_,_,?_,?_,sm.trans (s5.trans sp),sp _ _ h5,hA.more W hhi rfl,rfl⟩
    .rw[S];lia
    .rw[Bool.eq_iff_iff,decide_eq_true_eq]
     cases u with
     | nil=>simp at W;simp[W]
     | cons k u=>simp at W;simp;lia
  .subst hb
   have ap:due z m=(List.range z.length).map λk=>if decide (k∈L)=true then gB (sz z k*w) (aR z L) else (1,1):=by
    unfold due;rw[if_neg B]
    by_cases hm:m=0
    .obtain⟨_,hw,hL⟩:=bN hm
     rw[if_pos hm,hw,hL];refine List.ext_getElem? λi=>?_
     rw[List.getElem?_map,List.getElem?_map]
     by_cases u:i<z.length
     .rw[List.getElem?_range u,List.getElem?_eq_getElem u]
      show some ((0:Int),(1:Int))=some _
      congr 1
      show((0:Int),(1:Int))=if decide (i∈List.range z.length)=true then gB (sz z i*0) (aR z (List.range z.length)) else (1,1)
      rw[if_pos (decide_eq_true (mem_range.mpr u))];refine(oO ?_).symm;have:=fq z (List.range z.length) λk hk=>Y k (mem_range.mp hk)
      rw[length_range]at this;lia
     .rw[List.getElem?_eq_none (by lia),List.getElem?_eq_none (by rw[length_range];lia)]
      rfl
    .have a3:=iJ (cc hm rfl)
     rw[a7 hm]at a3;rw[if_neg hm,a3]
   have hS:0<aR z L:=by have:=fq z L λk hk=>Y k (R.sub k hk);have:=R.pos;lia
   have ct:Bt 40 (aR z L):=by
    have:=jI z 24000000 L λk hk=>a6 k (R.sub k hk)
    unfold Bt;have ca:(2:Nat) ^ 40=1099511627776:=by decide
    rw[ca];lia
   refine⟨l,_,rfl,Z,λD hD=>?_⟩;refine fR (a:=l) (xs:=z.map V.int) (λj g d=>j<=z.length/\Same H' d/\d D=some (.lst g)/\g=((((List.range z.length).take j).filter λk=>decide (k∈L)).map (sz z)).map V.int) ⟨Nat.zero_le _,Same.new hD,ae,rfl⟩ (λj g d h=>h.2.1 _ _ Z) (λj g d h=>h.2.2.1) ?_ ?_
   .rintro j x g d p P' hx ⟨b5,t2,X,rfl⟩ hp hP
    obtain⟨G,rfl⟩:=uF hx;have f:Same d (upd d p (.tup [.int (j:Nat),.int (sz z j)])):=Same.new hp;refine⟨p,_,rfl,SqT.of ae,rfl,_,_,rfl,_,_,rfl,rfl,⟨rfl,trivial⟩,?_⟩;generalize upd d p (.tup [.int (j:Nat),.int (sz z j)])=H5 at f;have F:=f _ _ X;have v:=la (L:=L) G;refine⟨y,_,rfl,.inl (SqL.of ((t2.trans f) _ _ O)),rfl,jZ A,?_⟩;rw[sZ,hA.2 j G];refine ifB (λc=>?_) (λc=>?_)
    .have B:j∈L:=by simpa using c
     rw[if_pos B]at v;refine⟨F,?_,hP _ _ ⟨G,(t2.trans f).put hD,ae,?_⟩⟩
     .rw[length_map,length_map]
      have:=length_filter_le (λk=>decide (k∈L)) ((List.range z.length).take j);rw[length_take]at this;lia
     .rw[v,map_append,map_append];rfl
    .have B:j ∉ L:=by simpa using c
     rw[if_neg B,append_nil]at v;exact hP _ _ ⟨G,t2.trans f,F,by rw[v]⟩
   rintro g H3 ⟨_,sD,ab,rfl⟩
   have eS:(((List.range z.length).take (z.map V.int).length).filter λk=>decide (k∈L))=L:=by
    rw[length_map,take_of_length_le (by rw[length_range];exact Nat.le_refl _)];exact R.fil.symm
   rw[eS]at ab;refine⟨D,L.map (sz z),rfl,SqL.of ab,?_⟩;have a1:=sD _ _ Z;have I:=sD _ _ O;refine⟨Nat.zero_le _,λfd aS=>?_⟩;have s3:Same H H3:=sm.trans sD;have bm:H fd=none:=s3.free aS;have as:=Same.new (o:=.lst []) aS _ _ I;have b3:fd≠y:=(aJ I aS).symm;refine⟨l,_,rfl,Same.new aS _ _ a1,?_⟩
   let Pw8:PvS:=λi σ d=>∃(g:List V) (x7 x8:Option V),i<=z.length/\Same H d/\d y=some (.lst (nV A))/\d fd=some (.lst g)/\AllF K d ((due z m).take i) g/\σ=[some (.ref l),some (.int w),some (.ref y),some (.bl false),some (.int (L.map (sz z)).sum),x5,some (.ref fd),x7,x8]
   refine gM (a:=l) (xs:=z.map V.int) Pw8 ⟨[],none,none,Nat.zero_le _,s3.trans (Same.new aS),as,ae,by rw[take_zero];exact .nil,rfl⟩ (λi σ d h=>by obtain⟨_,_,_,_,t1,_⟩:=h;exact t1 _ _ hl) ?_ ?_
   .rintro i x σ d p hx ⟨g,x7,x8,c3,t1,b4,a',hF,rfl⟩ hp
    obtain⟨u,rfl⟩:=uF hx;have b9:=Y i u;have ch:=a6 i u;have yl:g.length=i:=by rw[<- hF.len,length_take,cI];lia
    have f:Same d (upd d p (.tup [.int (i:Nat),.int (sz z i)])):=Same.new hp;refine⟨p,_,rfl,SqT.of ae,rfl,_,_,rfl,_,_,rfl,rfl,?_⟩;generalize upd d p (.tup [.int (i:Nat),.int (sz z i)])=H5 at f;have bo:=f _ _ b4;have a0:=f _ _ a'
    have v:(due z m).take (i+1)=(due z m).take i++[if decide (i∈L)=true then gB (sz z i*w) (aR z L) else (1,1)]:=by
     rw[take_add_one]
     congr 1
     rw[ap,List.getElem?_map,List.getElem?_range u];rfl
    refine⟨y,_,rfl,.inl (SqL.of bo),rfl,jZ A,?_⟩;rw[sZ,hA.2 i u];refine ifB (λc=>?_) (λc=>?_)
    .have B:i ∉ L:=by simpa using c
     rw[if_neg (by simp[B])]at v;refine⟨.inl ⟨rfl,_,SqL.of a0⟩,bp _ _,λp2 cB=>?_⟩;have sp:=Same.new (o:=.tup [.int 1,.int 1]) cB;have M:=sp _ _ a0;refine⟨fd,_,_,rfl,rfl,M,by lia,⟨_,_,_,u,(t1.trans (f.trans sp)).put bm,by rw[az b3.symm];exact sp _ _ bo,ae,?_,rfl⟩⟩;rw[v];exact AllF.snoc ⟨p2,rfl,.inl (TK.lst M _ _ ae)⟩ (hF.tk ((f.trans sp).tk.trans (TK.lst M)))
    .have B:i∈L:=by simpa using c
     rw[if_pos (decide_eq_true B)]at v;refine⟨.inl ⟨rfl,_,SqL.of a0⟩,crB (by lia) (by lia),⟨_,_,rfl,Int.mul_nonneg (by lia) w0,hS,((show Bt 30 (sz z i) by unfold Bt;lia).mul (show Bt 5 w by unfold Bt;lia)).mono (by decide),ct.mono (by decide),λH6 p6 s6 e6=>?_⟩⟩;have M:=s6 _ _ a0;refine⟨fd,_,_,rfl,rfl,M,by lia,⟨_,_,_,u,(t1.trans (f.trans s6)).put bm,by rw[az b3.symm];exact s6 _ _ bo,ae,?_,rfl⟩⟩;rw[v];exact AllF.snoc ⟨p6,rfl,.inl (TK.lst M _ _ e6)⟩ (hF.tk ((f.trans s6).tk.trans (TK.lst M)))
   .rintro σ d ⟨g,x7,x8,_,t1,b4,a',hF,rfl⟩
    rw[take_of_length_le (by rw[cI,length_map];exact Nat.le_refl _)]at hF;exact q _ fd g t1 bm a' hF
end
open Nm (dL fY gp bi eS fAt eL seat cU ent)
def TellL(K:Frag)(e:EF)(n:Nat)(H:Hp)(Q:VK):Prop:=∀ H' p rows,Same H H'->H p=none->H' p=some (.lst rows)->(∀ q,V.ref q∈rows->H q=none)->Mx K (Ex e) H' n (.ref p)->Q (.ref p) H'
inductive spLT(K:Frag)(vs:List V)(H:Hp)(Q:VK)(_E:XK):Prop
 | mk(x y:V)(f g:Int×Int)(b c:Nat)(h0:vs=[x,y])(h1:IsF K H f x)(h2:IsF K H g y)(h3:Nm.Ok b f)(h4:Nm.Ok c g)(h5:b<=1000)(h6:c<=1000)(h7:∀ H' p,Same H H'->H' p=some (.tup [.int (dL f g).1,.int (dL f g).2])->Q (.ref p) H'):spLT K vs H Q _E
inductive spLPlain(K:Frag)(vs:List V)(H:Hp)(Q:VK)(_E:XK):Prop
 | mk(n:Nat)(v:V)(l:Addr)(zs:List V)(ms:List Mb)(pl:Pl)(h0:vs=[v,.ref l])(h1:d5 pl)(h2:IsTr H v pl)(h3:H l=some (.lst zs))(h4:CrAt H ms zs)(h5:Cok n ms)(h6:TellL K (ent pl ms) ms.length H Q):spLPlain K vs H Q _E
abbrev RowE(K:Frag)(e:EF)(i:Nat)(H:Hp)(es:List V):Prop:=∀(k:Nat) y,es[k]? = some y->∃ f,IsF K H f y/\Ex e i k f
theorem RowE.snoc{K:Frag}{e:EF}{i:Nat}{H d:Hp}{b:List V}{y:V}(k:TK H d)(h:RowE K e i H b)(o:IsF K d (e i b.length) y):RowE K e i d (b++[y]):=λj z a=>by
 rcases Nat.lt_or_ge j b.length with c | c
 .rw[List.getElem?_append_left c]at a
  obtain⟨f,l,p⟩:=h j z a;exact⟨f,l.tk k,p⟩
 .have g:j=b.length:=by
   have:=(List.getElem?_eq_some_iff.mp a).1;rw[length_append]at this;simp at this;lia
  rw[List.getElem?_append_right c,g,Nat.sub_self]at a;cases a;exact⟨_,o,by rw[g];rfl⟩
structure RowsL(K:Frag)(e:EF)(n:Nat)(H0 H:Hp)(fl:Addr)(rows:List V):Prop where
 s:Same H0 H
 f:H fl=some (.lst rows)
 z:H0 fl=none
 w:∀ q,V.ref q∈rows->H0 q=none
 r:∀(k:Nat) x,rows[k]? = some x->RowM K (Ex e) (gA H fl) n k x
theorem RowsL.start{K:Frag}{e:EF}{n:Nat}{a H:Hp}{b:Addr}(s:Same a H)(z:a b=none)(f:H b=some (.lst [])):RowsL K e n a H b []:=⟨s,f,z,λq h=>(by cases h),λk x h=>by simp at h⟩
theorem RowsL.same{K:Frag}{e:EF}{n:Nat}{d H f:Hp}{c:Addr}{a:List V}(s:Same H f)(h:RowsL K e n d H c a):RowsL K e n d f c a:=⟨h.s.trans s,s _ _ h.f,h.z,h.w,λk x g=>(h.r k x g).q λb o _ e=>by
 by_cases hb:b=c
 .rw[hb,dg]at e;cases e
 .rw[dk hb]at e ⊢
  exact s _ _ e⟩
theorem RowsL.next{K:Frag}{e:EF}{n:Nat}{p l i:Hp}{d g:Addr}{a j:List V}(h:RowsL K e n p l d a)(s:Same l i)(f:l g=none)(A:i g=some (.lst j))(C:j.length=n)(y:RowE K e a.length i j) :
  RowsL K e n p (upd i d (.lst (a++[.ref g]))) d (a++[.ref g]):=by
 have D:g≠d:=λz=>by rw[z,h.f]at f;cases f
 have B:=s _ _ h.f;have v:=h.same s
 have r:SQ (gA i d) (gA (upd i d (.lst (a++[.ref g]))) d):=λb o c e=>by
  by_cases hb:b=d
  .rw[hb,dg]at e;cases e
  .rw[dk hb]at e ⊢
   rw[az hb];exact e
 refine⟨v.s.put h.z,ae,h.z,λq w=>?_,λk x hx=>?_⟩
 .rcases mem_append.mp w with z | z
  .exact h.w q z
  .cases mem_singleton.mp z
   exact h.s.free f
 .rcases Nat.lt_or_ge k a.length with c | c
  .rw[List.getElem?_append_left c]at hx
   exact(v.r k x hx).q r
  .have u:k=a.length:=by
    have:=(List.getElem?_eq_some_iff.mp hx).1;rw[length_append]at this;simp at this;lia
   rw[List.getElem?_append_right c,u,Nat.sub_self]at hx;cases hx;rw[u];exact(RowM.cut B D ⟨g,j,rfl,A,C,y⟩).q r
theorem RowsL.done{K:Frag}{e:EF}{n:Nat}{c H:Hp}{b:Addr}{a:List V}{Q:VK}(q:TellL K e n c Q)(h:RowsL K e n c H b a)(f:a.length=n):Q (.ref b) H:=q H b a h.s h.z h.f h.w ⟨b,a,rfl,h.f,f,λk x d=>(h.r k x d).q pF⟩
theorem iU{H:Hp}{v:V}{pl:Pl}(a:d5 pl)(h:IsTr H v pl):∃ x,v=.ref x/\H x=some (.tup [.str (nmP pl),.int (nP pl:Nat)]):=by
 cases pl <;> first | exact h | exact a.elim
def SharesAt(K:Frag)(pl:Pl)(ms:List Mb)(fl:Addr)(H:Hp)(sh:V):Prop:=∀ m,pl=.loose m->∃ s ys,sh=.ref s/\s≠fl/\H s=some (.lst ys)/\AllF K H (due (szs ms) (m:Nat)) ys
theorem SharesAt.same{K:Frag}{pl:Pl}{f:List Mb}{c:Addr}{H d:Hp}{b:V}(s:Same H d)(h:SharesAt K pl f c H b):SharesAt K pl f c d b:=λm e=>by
 obtain⟨a,i,g,l,j,o⟩:=h m e;exact⟨a,i,g,l,s _ _ j,o.tk s.tk⟩
abbrev JP(K:Frag)(H:Hp)(x l fl:Addr)(n k:Nat)(pl:Pl)(ms:List Mb):St->Hp->Prop:=λσ H'=>∃ sh:V,σ=[some (.ref x),some (.ref l),some (.int (n:Nat)),some (.int (k:Nat)),some (.ref fl),some sh,none,none,none]/\Same H H'/\H fl=none/\H' fl=some (.lst [])/\SharesAt K pl ms fl H' sh
abbrev JO(K:Frag)(H:Hp)(x l fl:Addr)(n k:Nat)(pl:Pl)(ms:List Mb)(sh:V)(i:Nat):St->Hp->Prop:=λσ H'=>∃(rows:List V) (x6 x7 x8:Option V),σ=[some (.ref x),some (.ref l),some (.int (n:Nat)),some (.int (k:Nat)),some (.ref fl),some sh,x6,x7,x8]/\RowsL K (ent pl ms) n H H' fl rows/\rows.length=i/\i<=n/\SharesAt K pl ms fl H' sh
abbrev JI(K:Frag)(H':Hp)(x l fl:Addr)(n k:Nat)(sh:V)(i:Nat)(rl:Addr)(e:EF)(j:Nat):St->Hp->Prop:=λσ H3=>∃(es:List V) (y8:Option V),σ=[some (.ref x),some (.ref l),some (.int (n:Nat)),some (.int (k:Nat)),some (.ref fl),some sh,some (.int (0+(i:Int))),some (.ref rl),y8]/\Same H' H3/\H3 rl=some (.lst es)/\es.length=j/\j<=n/\RowE K e i H3 es
section
variable {P:Program}{w:World}{K:Frag}{mg:Str->Option Value}{base:Heap}{a:Ad}
theorem i7(T:Txt K mg a):FnOk P w K mg base CX0 2 a.f_J a.d_J ["_law_one","_law_other"] (spLT K):=by
 have j:FnOk P w K mg base CX0 1 _ _ _ spLowest:=jc T;refine T.F_J.ok oH (λB H Q E h=>?_) (λcdv A outer s H B Q E hr h=>?_)
 .obtain⟨x,y,f,g,b,c,rfl,_⟩:=h;rfl
 .obtain⟨x,y,f,g,b,c,rfl,⟨x,rfl,C⟩,⟨y,rfl,D⟩,e,i,v,o,q⟩:=h
  have z:=C.sq;have d:=D.sq;have r:=e.bt.1.mono v;have l:=e.bt.2.mono v;have u:=i.bt.1.mono o;have p:=i.bt.2.mono o;refine⟨_,(ah (aw (aj j hr rfl T.m_K T.F_K.kp T.B_K .nil ai (aa (aA bF (aq am (vr 0) ag (λ_ _=>rfl)) (aq am (vr 1) ag (λ_ _=>rfl))) (aa (aA bF (aq am (vr 0) ag (λ_ _=>rfl)) (aq am (vr 1) ag (λ_ _=>rfl))) ac))))),?_⟩;refine px0 z (px0 d ⟨cmB r u,px1 z (px1 d ⟨cmB l p,?_⟩)⟩);exact⟨_,_,rfl,Int.mul_nonneg e.1 i.1,Int.mul_pos e.2.2.1 i.2.2.1,(r.mul u).mono (by decide),(l.mul p).mono (by decide),q⟩
theorem kO(T:Txt K mg a):FnOk P w K mg base CX0 3 a.f_T a.d_T ["_law_tree_here","_law_crowd_here"] (spLPlain K):=by
 have aS:FnOk P w K mg base CX0 2 _ _ _ _:=(jc T).mono (by decide);have bN:FnOk P w K mg base CX0 2 _ _ _ (spLT K):=i7 T;have a5:FnOk P w K mg base CX0 2 _ _ _ (spWished K):=iq T;refine T.F_T.ok sc_T (λvs H Q E h=>?_) (λcdv A outer s H vs Q E hr h=>?_)
 .obtain⟨n,v,l,zs,b,f,rfl,_⟩:=h;rfl
 .obtain⟨n,v,l,zs,b,f,rfl,hf,bl,hl,hC,hk,q⟩:=h
  have a4:sizeLine=16777216:=sizeLine_eq;have zl:=hC.len;have b5:=hk.len.2;obtain⟨x,rfl,hx⟩:=iU hf bl
  refine⟨_,(af (ay (i:=2) sc_T.nd rfl (Or.inl rfl) (av aF rfl T.z_len aQ (aa (vr 1) ac))) (af (ay (i:=3) sc_T.nd rfl (Or.inl rfl) (av (cY rfl) rfl T.z_min gS (aa (aq am (vr 0) ag (λ_ _=>rfl)) (aa (vr 2) ac)))) (af (ay (i:=4) sc_T.nd rfl (Or.inl rfl) (aZ ac)) (af (ay (i:=5) sc_T.nd rfl (Or.inl rfl) (aZ ac)) (db (aI (aG be (aq am (vr 0) ag (λ_ _=>rfl)) aE (aB _)) (ah (ay (i:=5) sc_T.nd rfl (Or.inl rfl) (aj a5 hr rfl T.m_E T.F_E.kp T.B_E .nil ai (aa (aT rfl (N:=["_law_member"]) (ix:=[none]) ⟨rfl,rfl,rfl,rfl,trivial⟩ (aP (vr 1)) ⟨λC s H fp=>au (i:=0) (show List.Nodup (["_law_member"]:List Str) by decide +kernel) rfl (Or.inl rfl),λC s H fp=>aN,λC s H fp=>(aq (aY (K:=K) rfl) (vr 0) ag (λ_ _=>rfl))⟩) (aa (aq am (vr 0) ag (λ_ _=>rfl)) ac))))) aD) (af (cb PassesOwn.never rfl (cZ rfl T.z_range (aa (vr 2) ac)) (au (i:=6) sc_T.nd rfl (Or.inl rfl)) (af (ay (i:=7) sc_T.nd rfl (Or.inl rfl) (aZ ac)) (af (cb PassesOwn.never rfl (cZ rfl T.z_range (aa (vr 2) ac)) (au (i:=8) sc_T.nd rfl (Or.inl rfl)) (ah (aI (aG be (aq am (vr 0) ag (λ_ _=>rfl)) aE (aB _)) (ah (aV (pe_m.append (vr 7) (aa (aq am (aZ (aa (aK (aa ag (aa ag ac))) (aa (aK (aa ag (aa (aq am (vr 0) ag (λ_ _=>rfl)) ac))) ac))) (b7 qL rfl T.z_int oZ (aa (iK be (aA cP (aA d9 (vr 6) (vr 8)) (aq am (vr 0) ag (λ_ _=>rfl))) ag (aB _)) ac)) (λ_ _=>rfl)) ac)))) (ah (aI (PW.pt (gY (aG be (aq am (vr 0) ag (λ_ _=>rfl)) aE (aB _)) (fJ (aG be (vr 6) (vr 8) (aB _))))) (ah (aV (pe_m.append (vr 7) (aa (aq am (vr 5) (vr 6) (λ_ _=>rfl)) ac)))) (ah (aI (aG be (aq am (vr 0) ag (λ_ _=>rfl)) aE (aB _)) (ah (aV (pe_m.append (vr 7) (aa (aj bN hr rfl T.m_J T.F_J.kp T.B_J .nil ai (aa (aq am (vr 5) (vr 6) (λ_ _=>rfl)) (aa (aq am (vr 5) (vr 8) (λ_ _=>rfl)) ac))) ac)))) (ah (aI (aG be (vr 6) (vr 8) (aB _)) (ah (aV (pe_m.append (vr 7) (aa (aj aS hr rfl T.m_K T.F_K.kp T.B_K .nil ai (aa (vr 3) (aa (vr 2) ac))) ac)))) (ah (aV (pe_m.append (vr 7) (aa (aj aS hr rfl T.m_K T.F_K.kp T.B_K .nil ai (aa (aA bF (vr 3) (aA d9 (vr 3) ag)) (aa (aA bF (vr 2) (aA d9 (vr 2) ag)) ac))) ac))))))))))))) (ah (aV (pe_m.append (vr 4) (aa (vr 7) ac))))))) (ah (aw (vr 4))))))))),?_⟩
  refine⟨_,.inl (SqL.of hl),?_⟩;refine ixT hx 1 _ rfl _ ⟨_,_,rfl,?_⟩
  have e:(if ((zs.length:Int)<((nP f:Nat):Int)) then (zs.length:Int) else ((nP f:Nat):Int))=((min (nP f) b.length:Nat):Int):=by split <;> lia
  rw[e,<- zl];clear e;refine⟨Nat.zero_le _,λfl I=>⟨Nat.zero_le _,λsl hsl=>?_⟩⟩;have s1:Same H (upd H fl (.lst [])):=Same.new I;have G:=s1.trans (Same.new (o:=.lst []) hsl);have g:=Same.new (o:=.lst []) hsl _ _ (ae (H:=H) (a:=fl) (o:=.lst []));generalize upd (upd H fl (.lst [])) sl (.lst [])=H1 at G g;refine⟨JP K H x l fl b.length (min (nP f) b.length) f b,?_,?_⟩
  .cases f with
   | few m=>exact ixT (G _ _ hx) 0 _ rfl _ ⟨.ref sl,rfl,G,I,g,λm' e=>by cases e⟩
   | start m=>exact ixT (G _ _ hx) 0 _ rfl _ ⟨.ref sl,rfl,G,I,g,λm' e=>by cases e⟩
   | each p=>exact hf.elim
   | first p r=>exact hf.elim
   | loose m =>
    refine ixT (G _ _ hx) 0 _ rfl _ ?_;refine .inl ⟨⟨_,SqL.of (G _ _ hl)⟩,λD hD=>?_⟩
    let Pw1:PvL:=λi O H'=>i<=zs.length/\Same H1 H'/\H' D=some (.lst O)/\O=(szs (b.take i)).map V.int
    refine aM (K:=K) (a:=l) (xs:=zs) Pw1 ⟨Nat.zero_le _,Same.new hD,ae,rfl⟩ (λi O H' h=>SqL.of (h.2.1 _ _ (G _ _ hl))) (λi O H' h=>h.2.2.1) ?_ ?_
    .rintro i x O H' P' hx ⟨hi,t1,ab,rfl⟩ hP
     obtain⟨mm,hm,q1,pt,rfl,g1,g2⟩:=(hC.tk (G.trans t1).tk).get hx;have b3:i<zs.length:=(List.getElem?_eq_some_iff.mp hx).1;refine⟨trivial,.inr (.inl ⟨q1,_,_,_,rfl,rfl,SqT.of g1,bj 1 rfl rfl,ab,?_,hP _ _ ⟨b3,t1.put hD,ae,?_⟩⟩)⟩
     .unfold szs;rw[length_map,length_map,length_take];lia
     .unfold szs;rw[take_add_one,hm,map_append,map_append];rfl
    .rintro O H' ⟨_,t1,ab,rfl⟩
     rw[<- zl,take_of_length_le (Nat.le_refl _)]at ab;have Z:=G.trans t1;have hm:m<=24:=hf;refine ixT (Z _ _ hx) 1 _ rfl _ ⟨D,szs b,(m:Nat),rfl,ab,jY hk,by lia,by lia,λH2 r O t3 a1 hr hA=>?_⟩;exact⟨.ref r,rfl,Z.trans t3,I,t3 _ _ (t1 _ _ g),λm' e=>by cases e;exact⟨r,O,rfl,λz=>by rw[z,t1 _ _ g]at a1;(cases a1),hr,hA⟩⟩
  .clear s1 G g hsl
   rintro σ H2 ⟨sh,rfl,G,I,g,a8⟩;have st:=RowsL.start (e:=ent f b) (K:=K) (n:=b.length) G I g;refine⟨_,rfl,by lia,by lia,?_⟩;refine fX (JO K H x l fl b.length (min (nP f) b.length) f b sh) ⟨[],none,none,none,rfl,st,rfl,Nat.zero_le _,a8⟩ ?_ ?_
   .rintro i σ H' hi ⟨X,x6,x7,x8,rfl,R,ad,a',al⟩
    refine⟨Nat.zero_le _,λF an=>?_⟩;have t1:=Same.new (o:=.lst []) an;refine⟨_,rfl,by lia,by lia,?_⟩;refine fX (JI K H' x l fl b.length (min (nP f) b.length) sh i F (ent f b)) ⟨[],_,rfl,t1,ae,rfl,Nat.zero_le _,λk y e=>by simp at e⟩ ?_ ?_
    .rintro j σ H3 hj ⟨M,y8,rfl,Z,B,el,b4,hE⟩
     have d:=(R.s.trans Z) _ _ hx
     have nx:∀{L:Hp}{v:V},Same H3 L->IsF K L (ent f b i j) v->L F=some (.lst M)/\M.length<sizeLine/\JI K H' x l fl b.length (min (nP f) b.length) sh i F (ent f b) (j+1) [some (.ref x),some (.ref l),some (.int (b.length:Nat)),some (.int ((min (nP f) b.length:Nat):Int)),some (.ref fl),some sh,some (.int (0+(i:Int))),some (.ref F),some (.int (0+(j:Int)))] (upd L F (.lst (M++[v]))):=λ{L v} s4 hv=>by
      have a2:=s4 _ _ B;have tk:TK L (upd L F (.lst (M++[v]))):=TK.lst a2;refine⟨a2,by lia,M++[v],_,rfl,(Z.trans s4).put an,ae,by rw[length_append,el];rfl,hj,RowE.snoc (s4.tk.trans tk) hE ?_⟩;rw[el];exact hv.tk tk
     cases f with
     | few m =>
      refine ixT d 0 _ rfl _ (ixT d 0 _ rfl _ (ixT d 0 _ rfl _ ?_));refine ifC (λc=>?_) λc=>?_
      .have c:i=j:=by have c:(0:Int)+(i:Int)=0+(j:Int):=c;lia
       refine⟨.inl ⟨rfl,_,SqL.of B⟩,⟨_,_,rfl,by lia,by lia,?_,?_,λL p s4 h4=>?_⟩⟩
       .exact(show Bt 11 ((min m b.length:Nat):Int) by unfold Bt;lia).mono (by decide)
       .exact(show Bt 11 (b.length:Int) by unfold Bt;lia).mono (by decide)
       obtain⟨Y,n2,S⟩:=nx s4 (v:=.ref p) ⟨p,rfl,.inl (by rw[h4];show _=some (HO.tup [.int (bi b.length (min m b.length) i j).1,.int (bi b.length (min m b.length) i j).2]);unfold bi fY gp;rw[if_pos c,if_pos c];rfl)⟩;exact⟨F,M,.ref p,rfl,rfl,Y,n2,S⟩
      .have c:¬i=j:=λz=>c (by show(0:Int)+(i:Int)=0+(j:Int);lia)
       have b1:Bt 11 ((min m b.length:Nat):Int):=by unfold Bt;lia
       have b2:Bt 11 (b.length:Int):=by unfold Bt;lia
       have c1:Bt 11 (((min m b.length:Nat):Int) - 1):=by unfold Bt;lia
       have c2:Bt 11 ((b.length:Int) - 1):=by unfold Bt;lia
       have a0:(0:Int)<(b.length:Int)*((b.length:Int) - 1):=Int.mul_pos (by lia) (by lia)
       have a9:(0:Int)<=((min m b.length:Nat):Int)*(((min m b.length:Nat):Int) - 1):=by
        by_cases z:min m b.length=0
        .rw[z];decide
        .exact Int.mul_nonneg (by lia) (by lia)
       refine⟨.inl ⟨rfl,_,SqL.of B⟩,⟨cmB b1 c1,cmB b2 c2,⟨_,_,rfl,a9,a0,(b1.mul c1).mono (by decide),(b2.mul c2).mono (by decide),λL p s4 h4=>?_⟩⟩⟩;obtain⟨Y,n2,S⟩:=nx s4 (v:=.ref p) ⟨p,rfl,.inl (by rw[h4];show _=some (HO.tup [.int (bi b.length (min m b.length) i j).1,.int (bi b.length (min m b.length) i j).2]);unfold bi fY gp;rw[if_neg c,if_neg c];rfl)⟩;exact⟨F,M,.ref p,rfl,rfl,Y,n2,S⟩
     | start m =>
      have hf:1<=m/\m<=100:=hf;refine ixT d 0 _ rfl _ ?_;refine⟨.inl ⟨rfl,_,SqL.of B⟩,bp _ _,λp1 bo=>?_⟩;have u1:=Same.new (o:=.tup [.int 0,.int 1]) bo;have v1:=ae (H:=H3) (a:=p1) (o:=.tup [.int 0,.int 1]);generalize upd H3 p1 (.tup [.int 0,.int 1])=L at u1 v1;refine ixT (u1 _ _ d) 1 _ rfl _ ⟨bp _ _,λp2 b0=>?_⟩;have u2:=Same.new (o:=.tup [.int 1,.int (nP (.start m):Nat)]) b0;have v2:=ae (H:=L) (a:=p2) (o:=.tup [.int 1,.int (nP (.start m):Nat)]);generalize upd L p2 (.tup [.int 1,.int (nP (.start m):Nat)])=H5 at u2 v2;refine⟨bp _ _,λl1 a6=>?_⟩;have u3:=Same.new (o:=.lst [.ref p1,.ref p2]) a6;have v3:=ae (H:=H5) (a:=l1) (o:=.lst [.ref p1,.ref p2]);generalize upd H5 l1 (.lst [.ref p1,.ref p2])=H6 at u3 v3;have u:=u1.trans (u2.trans u3);refine ixT (u _ _ d) 1 _ rfl _ ⟨cp (by show(0:Int)<(m:Int);lia),.inr ⟨_,rfl,?_⟩⟩;have mp:(0:Int)<(m:Int):=by lia
      have em:((0:Int)+(i:Int) - (0+(j:Int))) % (m:Int)=0↔i % m=j % m:=by
       rw[show(0:Int)+(i:Int) - (0+(j:Int))=(i:Int) - (j:Int) by lia];exact oh (by lia)
      by_cases c:i % m=j % m
      .refine .inl ⟨l1,_,_,.ref p2,rfl,rfl,SqL.of v3,?_,?_⟩
       .have c1:((0:Int)+(i:Int) - (0+(j:Int))) % ((nP (.start m):Nat):Int)=0:=em.mpr c
        rw[decide_eq_true c1];rfl
       obtain⟨Y,n2,S⟩:=nx u (v:=.ref p2) ⟨p2,rfl,.inl (by rw[u3 _ _ v2];show _=some (HO.tup [.int (eS m i j).1,.int (eS m i j).2]);unfold eS;rw[if_pos c];rfl)⟩;exact⟨F,M,.ref p2,rfl,rfl,Y,n2,S⟩
      .refine .inl ⟨l1,_,_,.ref p1,rfl,rfl,SqL.of v3,?_,?_⟩
       .have c1:¬((0:Int)+(i:Int) - (0+(j:Int))) % ((nP (.start m):Nat):Int)=0:=λz=>c (em.mp z)
        rw[decide_eq_false c1];rfl
       obtain⟨Y,n2,S⟩:=nx u (v:=.ref p1) ⟨p1,rfl,.inl (by rw[(u2.trans u3) _ _ v1];show _=some (HO.tup [.int (eS m i j).1,.int (eS m i j).2]);unfold eS;rw[if_neg c])⟩;exact⟨F,M,.ref p1,rfl,rfl,Y,n2,S⟩
     | loose m =>
      obtain⟨sa,O,rfl,_,bm,hF⟩:=al m rfl;have W:=Z _ _ bm;have as:=hF.tk Z.tk;have dl:(due (szs b) (m:Nat)).length=b.length:=by rw[cI];unfold szs;rw[length_map]
      have a7:=Nm.due_fr hk m;obtain⟨yi,ei,fi⟩:=uC as (i:=i) (by lia);obtain⟨yj,ej,fj⟩:=uC as (i:=j) (by lia);have a3:∀{i},i<(due (szs b) (m:Nat)).length->Nm.Ok 30 (fAt (due (szs b) (m:Nat)) i):=λ{i} h=>Nm.fr_ok (a7 _ (by unfold fAt;rw[List.getD_eq_getElem?_getD,List.getElem?_eq_getElem h];exact getElem_mem h))
      refine ixT d 0 _ rfl _ (ixT d 0 _ rfl _ ?_);refine ifC (λc=>?_) λc=>?_
      .have c:i=j:=by have c:(0:Int)+(i:Int)=0+(j:Int):=c;lia
       refine⟨.inl ⟨rfl,_,SqL.of B⟩,.inl ⟨sa,_,_,yi,rfl,rfl,SqL.of W,bj i (by lia) ei,?_⟩⟩;obtain⟨Y,n2,S⟩:=nx (Same.refl _) (v:=yi) (by show IsF K H3 (eL _ i j) yi;unfold eL;rw[if_pos c];exact fi);exact⟨F,M,yi,rfl,rfl,Y,n2,S⟩
      .have c:¬i=j:=λz=>c (by show(0:Int)+(i:Int)=0+(j:Int);lia)
       refine ixT d 0 _ rfl _ ⟨.inl ⟨rfl,_,SqL.of B⟩,.inl ⟨sa,_,_,yi,rfl,rfl,SqL.of W,bj i (by lia) ei,.inl ⟨sa,_,_,yj,rfl,rfl,SqL.of W,bj j (by lia) ej,?_⟩⟩⟩;refine⟨yi,yj,_,_,30,30,rfl,fi,fj,a3 (by lia),a3 (by lia),by decide,by decide,λL p s4 h4=>?_⟩;obtain⟨Y,n2,S⟩:=nx s4 (v:=.ref p) ⟨p,rfl,.inl (by rw[h4];show _=some (HO.tup [.int (eL (due (szs b) (m:Nat)) i j).1,.int (eL (due (szs b) (m:Nat)) i j).2]);unfold eL;rw[if_neg c])⟩;exact⟨F,M,.ref p,rfl,rfl,Y,n2,S⟩
     | each p=>exact hf.elim
     | first p r=>exact hf.elim
    .rintro σ H3 ⟨M,y8,rfl,Z,B,el,_,hE⟩
     have ap:=Z _ _ R.f;refine⟨.inl ⟨rfl,_,SqL.of ap⟩,⟨fl,X,.ref F,rfl,rfl,ap,by lia,?_⟩⟩
     exact⟨X++[.ref F],_,_,_,rfl,R.next Z an B el (by rw[ad];exact hE),by rw[length_append,ad];rfl,hi,λm e=>by
      obtain⟨sa,O,h1,h0,h2,h3⟩:=(al.same Z) m e
      exact⟨sa,O,h1,h0,by rw[az h0];exact h2,h3.tk (TK.lst ap)⟩⟩
   .rintro σ H' ⟨X,x6,x7,x8,rfl,R,ad,a',al⟩
    exact R.done q ad
end
open Nm (dL fY gp bi eS fAt eL seat cU ent)
theorem TellL.t{K:Frag}{e:EF}{n:Nat}{H b:Hp}{Q:VK}(s:Same H b)(h:TellL K e n H Q):TellL K e n b Q:=λg p a d i c f j=>h g p a (s.trans d) (s.free i) c (λq hq=>s.free (f q hq)) j
def SeatAt(H:Hp)(gs:List (List Mb))(p:Int)(v:V):Prop:=∃ t,v=.ref t/\H t=some (.tup [.int ((Nm.seat gs p).1:Nat),.int ((Nm.seat gs p).2:Nat)])
theorem SeatAt.tk{H b:Hp}{a:List (List Mb)}{p:Int}{v:V}(k:TK H b)(h:SeatAt H a p v):SeatAt b a p v:=let ⟨t,h1,h2⟩:=h;⟨t,h1,k _ _ h2⟩
inductive spLSeat(vs:List V)(H:Hp)(Q:VK)(_E:XK):Prop
 | mk(lg:Addr)(p:Int)(gs:List (List Mb))(ys:List V)(h0:vs=[.ref lg,.int p])(h1:H lg=some (.lst ys))(h2:Paired (CrL H) gs ys)(h3:Nm.Uq gs)(h4:(∃ g s,Nm.At gs g s p))(h5:∀ H' v,Same H H'->SeatAt H' gs p v->Q v H'):spLSeat vs H Q _E
abbrev SO(H:Hp)(lg:Addr)(p:Int)(gs:List (List Mb))(i:Nat):St->Hp->Prop:=λσ H2=>∃(x2 x3 x4 x5:Option V),σ=[some (.ref lg),some (.int p),x2,x3,x4,x5]/\Same H H2/\∀ g s,Nm.At gs g s p->i<=g
abbrev SI(H:Hp)(lg:Addr)(p:Int)(gs:List (List Mb))(i:Nat)(lc:Addr)(j:Nat):St->Hp->Prop:=λσ H2=>∃(x4 x5:Option V),σ=[some (.ref lg),some (.int p),some (.int (i:Nat)),some (.ref lc),x4,x5]/\Same H H2/\(∀ g s,Nm.At gs g s p->i<=g)/\∀ s,Nm.At gs i s p->j<=s
inductive spLM(K:Frag)(N:Nat)(vs:List V)(H:Hp)(Q:VK)(_E:XK):Prop
 | mk(n:Nat)(v:V)(l:Addr)(zs:List V)(ms:List Mb)(pl:Pl)(h0:vs=[v,.ref l])(h1:n<=N)(h2:ht n pl)(h3:IsTr H v pl)(h4:H l=some (.lst zs))(h5:CrAt H ms zs)(h6:Ck n ms)(h7:TellL K (ent pl ms) ms.length H Q):spLM K N vs H Q _E
theorem pj{H:Hp}{v:V}{pl:Pl}{n:Nat}(d:¬d5 pl)(h:IsTr H v pl)(a:ht (n+1) pl):∃ x nm tl u p,v=.ref x/\H x=some (.tup (.str nm::tl))/\atI (.str nm::tl) (-1)=some u/\IsTr H u p/\ht n p/\((nm = "each" /\ pl=.each p)\/∃ o w,nm = "first" /\ pl=.first o p/\d5 o/\tl=[w,u]/\IsTr H w o):=by
 cases pl with
 | each p=>obtain⟨x,u,rfl,b,c⟩:=h;exact⟨x,_,_,u,p,rfl,b,rfl,c,a,.inl ⟨rfl,rfl⟩⟩
 | first o p=>obtain⟨x,w,u,rfl,b,e,c⟩:=h;exact⟨x,_,_,u,p,rfl,b,rfl,c,a.2,.inr ⟨o,w,rfl,rfl,a.1,rfl,e⟩⟩
 | _=>exact absurd (by first | exact a | (cases n <;> exact a)) d
theorem tE{pl:Pl}(h:d5 pl):nmP pl ≠ "each" /\ nmP pl ≠ "first" := by
 cases pl with
 | few _=>exact⟨(by decide +kernel:("few" : Str) ≠ "each"),(by decide +kernel:("few" : Str) ≠ "first")⟩
 | start _=>exact⟨(by decide +kernel:("start" : Str) ≠ "each"),(by decide +kernel:("start" : Str) ≠ "first")⟩
 | loose _=>exact⟨(by decide +kernel:("loose" : Str) ≠ "each"),(by decide +kernel:("loose" : Str) ≠ "first")⟩
 | each p=>exact h.elim
 | first p q=>exact h.elim
theorem lK{a:Type}(x:a):∀ n,(List.replicate n [x]).flatten=List.replicate n x
 | 0=>rfl
 | n+1=>by rw[replicate_succ,replicate_succ,flatten_cons,lK x n];rfl
theorem tK{a:Type}{x y:a}{n i:Nat}(h:(List.replicate n [x]).flatten[i]? = some y):y=x:=by
 rw[lK]at h;exact List.eq_of_mem_replicate (List.mem_of_getElem? h)
theorem pL{a:Type}(x:a)(n:Nat):(List.replicate n [x]).flatten.length=n:=by rw[lK,List.length_replicate]
theorem uK{K:Frag}{H:Hp}{p a r:Addr}{n:Nat}(e:H p=some (.tup [.int 1,.int 1]))(b:H a=some (.lst (List.replicate n [V.ref p]).flatten))(h2:H r=some (.lst (List.replicate n [V.ref a]).flatten)):Mx K (Ex λ_ _=>(1,1)) H n (.ref r) :=
 ⟨r,_,rfl,h2,pL _ n,λi x c=>by
  obtain rfl:=tK c
  exact⟨a,_,rfl,b,pL _ n,λj y d=>by
   obtain rfl:=tK d
   exact⟨_,⟨p,rfl,.inl e⟩,rfl⟩⟩⟩
theorem mG{K:Frag}{R:RE}{H:Hp}{n i j:Nat}{v:V}{Q:VK}(h:Mx K R H n v)(c:i<n)(g:j<n)(q:∀ y f,IsF K H f y->R i j f->Q y H):rIx K v (.int (i:Nat)) H λv2 H2=>rIx K v2 (.int (j:Nat)) H2 Q:=by
 obtain⟨l,a,r,u,y,f,rfl,d,p,o,b,s,e⟩:=mZ h c g;exact .inl ⟨l,_,_,_,rfl,rfl,SqL.of d,aU p,.inl ⟨r,_,_,_,rfl,rfl,SqL.of o,aU b,q y f s e⟩⟩
abbrev JM(K:Frag)(H3:Hp)(x l r D:Addr)(n:Nat)(p pl:Pl)(ms:List Mb):St->Hp->Prop:=λσ H'=>∃(ou:V) (oe:EF),σ=[some (.ref x),some (.ref l),some (.ref r),some (.ref D),some ou,none,none,none,none,none,none,none]/\Same H3 H'/\(∀ i j,i<n->j<n->Nm.Ok 60 (oe i j))/\Mx K (Ex oe) H' n ou/\ent pl ms=cU (ent p) oe ms
abbrev MO(K:Frag)(e:EF)(H:Hp)(x l r D st fl:Addr)(ou:V)(n i:Nat):St->Hp->Prop:=λσ H'=>∃(rows:List V) (x7 x8 x9 x10 x11:Option V),σ=[some (.ref x),some (.ref l),some (.ref r),some (.ref D),some ou,some (.ref st),some (.ref fl),x7,x8,x9,x10,x11]/\RowsL K e n H H' fl rows/\rows.length=i/\i<=n
abbrev MI(K:Frag)(e:EF)(H':Hp)(x l r D st fl rl:Addr)(ou:V)(k s:Nat)(n i j:Nat):St->Hp->Prop:=λσ H3=>∃(es:List V) (x10 x11:Option V),σ=[some (.ref x),some (.ref l),some (.ref r),some (.ref D),some ou,some (.ref st),some (.ref fl),some (.int (k:Nat)),some (.int (s:Nat)),some (.ref rl),x10,x11]/\Same H' H3/\H3 rl=some (.lst es)/\es.length=j/\j<=n/\RowE K e i H3 es
section
variable {P:Program}{w:World}{K:Frag}{mg:Str->Option Value}{base:Heap}{a:Ad}
theorem mW(T:Txt K mg a):FnOk P w K mg base CX0 1 a.f_am a.d_am ["_law_groups_here","_law_place"] spLSeat:=by
 refine T.F_am.ok sc_am (λvs H Q E h=>?_) (λcdv A outer s H vs Q E hr h=>?_)
 .obtain⟨r,p,I,ys,rfl,_⟩:=h;rfl
 .obtain⟨r,p,I,ys,rfl,hl,hP,hu,W,q⟩:=h
  refine⟨_,(af (cb PassesOwn.never rfl (dX rfl T.z_enumerate (aa (vr 0) ac)) (bA rfl (ax (au (i:=2) sc_am.nd rfl (Or.inl rfl)) (ax (au (i:=3) sc_am.nd rfl (Or.inl rfl)) aO))) (ah (cb PassesOwn.never rfl (dX rfl T.z_enumerate (aa (vr 3) ac)) (bA rfl (ax (au (i:=4) sc_am.nd rfl (Or.inl rfl)) (ax (au (i:=5) sc_am.nd rfl (Or.inl rfl)) aO))) (ah (aI (aG be (aq am (vr 5) ag (λ_ _=>rfl)) (vr 1) (aB _)) (ah (aw (aK (aa (vr 2) (aa (vr 4) ac))))) aD))))) (ah (aw (aK (aa ag (aa ag ac)))))),cL ?_⟩;intro al;refine⟨r,_,rfl,hl,?_⟩;refine gM (a:=r) (xs:=ys) (SO H r p I) ⟨none,none,none,none,rfl,Same.refl _,λ_ _ _=>Nat.zero_le _⟩ (λi D o h=>by obtain⟨_,_,_,_,_,t1,_⟩:=h;exact t1 _ _ hl) ?_ ?_
  .rintro i y D o t hy ⟨x2,x3,M,x5,rfl,s1,x⟩ Z
   obtain⟨c,e,u,yc,rfl,B,F⟩:=aL hP hy;have s2:Same o (upd o t (.tup [.int (i:Nat),.ref u])):=Same.new Z;refine⟨t,_,rfl,SqT.of ae,rfl,_,_,rfl,_,_,rfl,rfl,?_⟩;generalize upd o t (.tup [.int (i:Nat),.ref u])=H3 at s2;have s3:=s1.trans s2;refine⟨u,_,rfl,s3 _ _ B,?_⟩;refine gM (a:=u) (xs:=yc) (SI H r p I i u) ⟨_,_,rfl,s3,x,λ_ _=>Nat.zero_le _⟩ (λi D o h=>by obtain⟨_,_,_,t1,_⟩:=h;exact t1 _ _ B) ?_ ?_
   .rintro j y D G S O ⟨M,x5,rfl,X,_,l⟩ Y
    obtain⟨m,C,ad,pp,rfl,ha,ab⟩:=aL F O;have s5:Same G (upd G S (.tup [.int (j:Nat),.ref ad])):=Same.new Y;refine⟨S,_,rfl,SqT.of ae,rfl,_,_,rfl,_,_,rfl,rfl,?_⟩;generalize upd G S (.tup [.int (j:Nat),.ref ad])=H5 at s5;have N:=X.trans s5;refine ixT (N _ _ ha) 0 _ rfl _ (ifC (λf=>?_) λf=>?_)
    .have f:m.1=p:=f
     refine⟨bp _ _,λt3 L=>?_⟩;refine q _ (.ref t3) (N.trans (Same.new L)) ⟨t3,rfl,?_⟩;rw[Nm.seat_at hu ⟨c,m,e,C,f⟩];exact ae
    .have f:¬m.1=p:=f
     refine⟨_,_,rfl,N,x,λs b=>?_⟩;have:=l s b
     rcases Nat.lt_or_ge j s with z | z
     .lia
     .obtain rfl:s=j:=by lia
      obtain⟨c',m',d,v,R⟩:=b;rw[e]at d;cases d;rw[C]at v;cases v;exact absurd R f
   .rintro D G ⟨M,x5,rfl,X,_,l⟩
    refine⟨_,_,_,_,rfl,X,λg s b=>?_⟩;have:=x g s b
    rcases Nat.lt_or_ge i g with z | z
    .lia
    .obtain rfl:g=i:=by lia
     have h1:=l s b;obtain⟨c',m',d,v,R⟩:=b;rw[e]at d;cases d;have h2:=(List.getElem?_eq_some_iff.mp v).1;have h3:=Paired.length F;lia
  .rintro D o ⟨x2,x3,M,x5,rfl,s1,x⟩
   obtain⟨g,s,b⟩:=W;have h1:=x g s b;obtain⟨c',m',d,v,R⟩:=b;have h2:=(List.getElem?_eq_some_iff.mp d).1;have h3:=Paired.length hP;lia
theorem va(T:Txt K mg a):∀ N,N<=3->FnOk P w K mg base CX0 (N+4) a.f_o a.d_o ["_law_tree_here","_law_crowd_here"] (spLM K N)
 | 0,_=>by
  have cs:FnOk P w K mg base CX0 3 _ _ _ (spLPlain K):=kO T;have L:FnOk P w K mg base CX0 3 _ _ _ _:=(i7 T).mono (by decide);have b6:FnOk P w K mg base CX0 3 _ _ _ _:=(gD T).mono (by decide);have ct:FnOk P w K mg base CX0 3 _ _ _ _:=(g9 T).mono (by decide);have a2:FnOk P w K mg base CX0 3 _ _ _ _:=(mW T).mono (by decide);have a1:FnOk P w K mg base CX0 3 a.f_o a.d_o ["_law_tree_here","_law_crowd_here"] mP:=ka;refine T.F_o.ok sc_o (λvs H Q E h=>?_) (λcdv A outer s H vs Q E hr h=>?_)
  .obtain⟨n,v,l,zs,d,W,rfl,_⟩:=h;rfl
  .obtain⟨n,v,l,zs,d,W,rfl,hn,hh,ab,hl,hC,Z,q⟩:=h
   obtain rfl:n=0:=by lia
   refine⟨_,(af (aI (PW.pt (gY (aG nM (aq am (vr 0) ag (λ_ _=>rfl)) aE (aB _)) (fJ (aG nM (aq am (vr 0) ag (λ_ _=>rfl)) aE (aB _))))) (ah (aw (aj cs hr rfl T.m_T T.F_T.kp T.B_T .nil ai (aa (vr 0) (aa (vr 1) ac))))) aD) (af (ay (i:=2) sc_o.nd rfl (Or.inr rfl) (aj b6 hr rfl T.m_H T.F_H.kp T.B_H .nil ai (aa (vr 1) ac))) (af (dR rfl (i:=3) sc_o.nd rfl rfl (by with_unfolding_all rfl) (N:=["_law_group","_law_tree_here"]) (ix:=[none,some 0]) ⟨rfl,rfl,rfl,rfl,⟨rfl,rfl,rfl,trivial⟩⟩ (aP (vr 2)) ⟨λC s H fp=>au (i:=0) (show List.Nodup (["_law_group","_law_tree_here"]:List Str) by decide +kernel) rfl (Or.inl rfl),λC s H fp=>aN,λC s H fp=>(aj a1 hr rfl T.m_o T.F_o.kp T.B_o .nil ai (aa (aq (aY (K:=K) rfl) (vr 1) (ln kY ag) (λ_ _=>rfl)) (aa (vr 0) ac)))⟩) (af (ay (i:=4) sc_o.nd rfl (Or.inl rfl) (aA jX (aZ (aa (aA jX (aZ (aa (aK (aa ag (aa ag ac))) ac)) (av aF rfl T.z_len aQ (aa (vr 2) ac))) ac)) (av aF rfl T.z_len aQ (aa (vr 2) ac)))) (db (aI (aG be (aq am (vr 0) ag (λ_ _=>rfl)) aE (aB _)) (ah (ay (i:=4) sc_o.nd rfl (Or.inl rfl) (aj a1 hr rfl T.m_o T.F_o.kp T.B_o .nil ai (aa (aq am (vr 0) ag (λ_ _=>rfl)) (aa (aj ct hr rfl T.m_U T.F_U.kp T.B_U .nil ai (aa (vr 2) ac)) ac))))) aD) (af (dR rfl (i:=5) sc_o.nd rfl rfl (by with_unfolding_all rfl) (N:=["_law_member","_law_groups_here"]) (ix:=[none,some 2]) ⟨rfl,rfl,rfl,rfl,⟨rfl,rfl,rfl,trivial⟩⟩ (aP (vr 1)) ⟨λC s H fp=>au (i:=0) (show List.Nodup (["_law_member","_law_groups_here"]:List Str) by decide +kernel) rfl (Or.inl rfl),λC s H fp=>aN,λC s H fp=>(aj a2 hr rfl T.m_am T.F_am.kp T.B_am .nil ai (aa (vr 1) (aa (aq (aY (K:=K) rfl) (vr 0) ag (λ_ _=>rfl)) ac)))⟩) (af (ay (i:=6) sc_o.nd rfl (Or.inl rfl) (aZ ac)) (af (cb PassesOwn.never rfl (aP (vr 5)) (bA rfl (ax (au (i:=7) sc_o.nd rfl (Or.inl rfl)) (ax (au (i:=8) sc_o.nd rfl (Or.inl rfl)) aO))) (af (ay (i:=9) sc_o.nd rfl (Or.inl rfl) (aZ ac)) (af (cb PassesOwn.never rfl (aP (vr 5)) (bA rfl (ax (au (i:=10) sc_o.nd rfl (Or.inl rfl)) (ax (au (i:=11) sc_o.nd rfl (Or.inl rfl)) aO))) (ah (aI (aG be (vr 7) (vr 10) (aB _)) (ah (aV (pe_m.append (vr 9) (aa (aj L hr rfl T.m_J T.F_J.kp T.B_J .nil ai (aa (aq am (aq am (vr 4) (vr 7) (λ_ _=>rfl)) (vr 7) (λ_ _=>rfl)) (aa (aq am (aq am (aq am (vr 3) (vr 7) (λ_ _=>rfl)) (vr 8) (λ_ _=>rfl)) (vr 11) (λ_ _=>rfl)) ac))) ac)))) (ah (aV (pe_m.append (vr 9) (aa (aj L hr rfl T.m_J T.F_J.kp T.B_J .nil ai (aa (aq am (aq am (vr 4) (vr 7) (λ_ _=>rfl)) (vr 10) (λ_ _=>rfl)) (aa (aj L hr rfl T.m_J T.F_J.kp T.B_J .nil ai (aa (aq am (aq am (aq am (vr 3) (vr 7) (λ_ _=>rfl)) (vr 8) (λ_ _=>rfl)) (vr 8) (λ_ _=>rfl)) (aa (aq am (aq am (aq am (vr 3) (vr 10) (λ_ _=>rfl)) (vr 11) (λ_ _=>rfl)) (vr 11) (λ_ _=>rfl)) ac))) ac))) ac))))))) (ah (aV (pe_m.append (vr 6) (aa (vr 9) ac))))))) (ah (aw (vr 6))))))))))),?_⟩
   have Y:d5 W:=by cases W <;> exact hh
   obtain⟨x,rfl,hx⟩:=iU Y ab;obtain⟨n1,n2⟩:=tE Y;exact ixT hx 0 _ rfl _ (ifB (λ_=>ixT hx 0 _ rfl _ (ifB (λ_=>⟨0,.ref x,l,zs,d,W,rfl,Y,ab,hl,hC,Z.c,q⟩) λc=>absurd (show nmP W = "first" by simpa using c) n2)) λc=>absurd (show nmP W = "each" by simpa using c) n1)
 | N+1,hN=>by
  have cs:FnOk P w K mg base CX0 (N+4) _ _ _ (spLPlain K):=(kO T).mono (by lia);have L:FnOk P w K mg base CX0 (N+4) _ _ _ (spLT K):=(i7 T).mono (by lia);have b6:FnOk P w K mg base CX0 (N+4) _ _ _ spLGroups:=(gD T).mono (by lia);have ct:FnOk P w K mg base CX0 (N+4) _ _ _ spOuter:=(g9 T).mono (by lia);have a2:FnOk P w K mg base CX0 (N+4) _ _ _ spLSeat:=(mW T).mono (by lia);have a1:FnOk P w K mg base CX0 (N+4) _ _ _ (spLM K N):=va T N (by lia);refine T.F_o.ok sc_o (λvs H Q E h=>?_) (λcdv A outer s H vs Q E hr h=>?_)
  .obtain⟨n,v,l,zs,d,W,rfl,_⟩:=h;rfl
  .obtain⟨n,v,l,zs,d,W,rfl,hn,hh,ab,hl,hC,Z,q⟩:=h
   have dV:sizeLine=16777216:=sizeLine_eq
   refine⟨_,(af (aI (PW.pt (gY (aG nM (aq am (vr 0) ag (λ_ _=>rfl)) aE (aB _)) (fJ (aG nM (aq am (vr 0) ag (λ_ _=>rfl)) aE (aB _))))) (ah (aw (aj cs hr rfl T.m_T T.F_T.kp T.B_T .nil ai (aa (vr 0) (aa (vr 1) ac))))) aD) (af (ay (i:=2) sc_o.nd rfl (Or.inr rfl) (aj b6 hr rfl T.m_H T.F_H.kp T.B_H .nil ai (aa (vr 1) ac))) (af (dR rfl (i:=3) sc_o.nd rfl rfl (by with_unfolding_all rfl) (N:=["_law_group","_law_tree_here"]) (ix:=[none,some 0]) ⟨rfl,rfl,rfl,rfl,⟨rfl,rfl,rfl,trivial⟩⟩ (aP (vr 2)) ⟨λC s H fp=>au (i:=0) (show List.Nodup (["_law_group","_law_tree_here"]:List Str) by decide +kernel) rfl (Or.inl rfl),λC s H fp=>aN,λC s H fp=>(aj a1 hr rfl T.m_o T.F_o.kp T.B_o .nil ai (aa (aq (aY (K:=K) rfl) (vr 1) (ln kY ag) (λ_ _=>rfl)) (aa (vr 0) ac)))⟩) (af (ay (i:=4) sc_o.nd rfl (Or.inl rfl) (aA jX (aZ (aa (aA jX (aZ (aa (aK (aa ag (aa ag ac))) ac)) (av aF rfl T.z_len aQ (aa (vr 2) ac))) ac)) (av aF rfl T.z_len aQ (aa (vr 2) ac)))) (db (aI (aG be (aq am (vr 0) ag (λ_ _=>rfl)) aE (aB _)) (ah (ay (i:=4) sc_o.nd rfl (Or.inl rfl) (aj a1 hr rfl T.m_o T.F_o.kp T.B_o .nil ai (aa (aq am (vr 0) ag (λ_ _=>rfl)) (aa (aj ct hr rfl T.m_U T.F_U.kp T.B_U .nil ai (aa (vr 2) ac)) ac))))) aD) (af (dR rfl (i:=5) sc_o.nd rfl rfl (by with_unfolding_all rfl) (N:=["_law_member","_law_groups_here"]) (ix:=[none,some 2]) ⟨rfl,rfl,rfl,rfl,⟨rfl,rfl,rfl,trivial⟩⟩ (aP (vr 1)) ⟨λC s H fp=>au (i:=0) (show List.Nodup (["_law_member","_law_groups_here"]:List Str) by decide +kernel) rfl (Or.inl rfl),λC s H fp=>aN,λC s H fp=>(aj a2 hr rfl T.m_am T.F_am.kp T.B_am .nil ai (aa (vr 1) (aa (aq (aY (K:=K) rfl) (vr 0) ag (λ_ _=>rfl)) ac)))⟩) (af (ay (i:=6) sc_o.nd rfl (Or.inl rfl) (aZ ac)) (af (cb PassesOwn.never rfl (aP (vr 5)) (bA rfl (ax (au (i:=7) sc_o.nd rfl (Or.inl rfl)) (ax (au (i:=8) sc_o.nd rfl (Or.inl rfl)) aO))) (af (ay (i:=9) sc_o.nd rfl (Or.inl rfl) (aZ ac)) (af (cb PassesOwn.never rfl (aP (vr 5)) (bA rfl (ax (au (i:=10) sc_o.nd rfl (Or.inl rfl)) (ax (au (i:=11) sc_o.nd rfl (Or.inl rfl)) aO))) (ah (aI (aG be (vr 7) (vr 10) (aB _)) (ah (aV (pe_m.append (vr 9) (aa (aj L hr rfl T.m_J T.F_J.kp T.B_J .nil ai (aa (aq am (aq am (vr 4) (vr 7) (λ_ _=>rfl)) (vr 7) (λ_ _=>rfl)) (aa (aq am (aq am (aq am (vr 3) (vr 7) (λ_ _=>rfl)) (vr 8) (λ_ _=>rfl)) (vr 11) (λ_ _=>rfl)) ac))) ac)))) (ah (aV (pe_m.append (vr 9) (aa (aj L hr rfl T.m_J T.F_J.kp T.B_J .nil ai (aa (aq am (aq am (vr 4) (vr 7) (λ_ _=>rfl)) (vr 10) (λ_ _=>rfl)) (aa (aj L hr rfl T.m_J T.F_J.kp T.B_J .nil ai (aa (aq am (aq am (aq am (vr 3) (vr 7) (λ_ _=>rfl)) (vr 8) (λ_ _=>rfl)) (vr 8) (λ_ _=>rfl)) (aa (aq am (aq am (aq am (vr 3) (vr 10) (λ_ _=>rfl)) (vr 11) (λ_ _=>rfl)) (vr 11) (λ_ _=>rfl)) ac))) ac))) ac))))))) (ah (aV (pe_m.append (vr 6) (aa (vr 9) ac))))))) (ah (aw (vr 6))))))))))),?_⟩
   by_cases Y:d5 W
   .obtain⟨x,rfl,hx⟩:=iU Y ab
    obtain⟨n1,n2⟩:=tE Y;exact ixT hx 0 _ rfl _ (ifB (λ_=>ixT hx 0 _ rfl _ (ifB (λ_=>⟨n,.ref x,l,zs,d,W,rfl,Y,ab,hl,hC,Z.c,q⟩) λc=>absurd (show nmP W = "first" by simpa using c) n2)) λc=>absurd (show nmP W = "each" by simpa using c) n1)
   obtain⟨n,rfl⟩:∃ n',n=n'+1:=by
    cases n with
    | zero=>exact absurd (by cases W <;> exact hh) Y
    | succ n=>exact⟨n,rfl⟩
   obtain⟨x,nm,tl,u,p,rfl,hx,ei,hu,b2,an⟩:=pj Y ab hh;have eH:n<=2:=by lia
   have zl:=hC.len;have eh:=Z.c.len.2;have pk:=cu Z.c;have ap:=gX Z;have g5:=pk.len;have cO:atI (.str nm::tl) 0=some (.str nm):=aU (j:=0) rfl;refine ixT hx 0 _ cO _ ?_;refine(λbM=>ifB (λc=>ixT hx 0 _ cO _ (ifB (λc2=>absurd c2 ?_) λ_=>bM)) λ_=>bM) ?_
   .have c':nm ≠ "each" := by simpa using c
    rcases an with⟨e,_⟩ | ⟨o,w,e,_⟩
    .exact absurd e c'
    .rw[e];simp
   refine⟨l,d,zs,rfl,hl,hC,eh,hX Z,λH1 r ys s1 b' b3 c7=>?_⟩;have hP:Paired (CrL H1) (ak d) ys:=aH (λg v h=>h.1) c7;clear c7;refine .inl ⟨⟨_,SqL.of b3⟩,λD hD=>?_⟩
   let Pw1:PvL:=λi bs F=>Same H1 F/\F D=some (.lst bs)/\i<=(ak d).length/\Paired (λ(g:List Mb) v=>Mx K (Ex (ent p g)) (gA F D) g.length v) ((ak d).take i) bs
   refine aM (K:=K) (a:=r) (xs:=ys) Pw1
    ⟨Same.new hD,ae,Nat.zero_le _,.nil⟩ (λi bs F h=>SqL.of (h.1 _ _ b3)) (λi bs F h=>h.2.1) ?_ ?_
   .rintro i y bs F P' hy ⟨t1,as,hi,hc⟩ b1
    obtain⟨g,cS,lg,yg,rfl,ef,en⟩:=aL hP hy;have cT:i<(ak d).length:=(List.getElem?_eq_some_iff.mp cS).1;have gk:=ap g (List.mem_of_getElem? cS);have bl:bs.length<=24:=by rw[<- Paired.length hc,length_take];lia
    have s3:=s1.trans t1;refine⟨⟨rfl,trivial⟩,ixT (s3 _ _ hx) (-1) _ ei _ ⟨n,u,lg,yg,g,p,rfl,by lia,b2,hu.same s3,t1 _ _ ef,en.tk t1.tk,gk,λH2 r2 B t2 b' al de hM=>?_⟩⟩;have c0:=t2 _ _ as;have nr:r2≠D:=λz=>by rw[z,as]at b';cases b'
    have nn:∀ q,V.ref q∈B->q≠D:=λq hq z=>by have:=de q hq;rw[z,as]at this;cases this
    have mo:∀{Ha:Hp},SQ Ha H2->SQ (gA Ha D) (gA (upd H2 D (.lst (bs++[.ref r2]))) D):=λs b o c e=>by
     by_cases hb:b=D
     .rw[hb,dg]at e;cases e
     .rw[dk hb]at e ⊢
      rw[az hb];exact s b o c e
    refine⟨c0,by lia,b1 _ _ ⟨(t1.trans t2).put hD,ae,cT,fE (aH (λg v h=>h.q (mo (SQ.of t2.t))) hc) cS ?_⟩⟩;exact(hM.cut c0 λl' eq e e'=>by cases e;rw[al]at e';cases e';exact⟨nr,nn⟩).q (mo λb o _ e=>e)
   rintro bs H2 ⟨t1,as,_,hc⟩;rw[show ys.length=(ak d).length from(Paired.length hP).symm,take_length]at hc;have hB:Paired (λ(g:List Mb) v=>Mx K (Ex (ent p g)) H2 g.length v) (ak d) bs:=aH (λg v h=>h.q pF) hc;have yl:ys.length=(ak d).length:=(Paired.length hP).symm;have s2:=s1.trans t1;have al:=t1 _ _ b3;clear hc;refine⟨bp _ _,λp1 dv=>?_⟩;have u1:=Same.new (o:=.tup [.int 1,.int 1]) dv;have v1:=ae (H:=H2) (a:=p1) (o:=.tup [.int 1,.int 1]);generalize upd H2 p1 (.tup [.int 1,.int 1])=H3 at u1 v1;refine⟨(by decide:1<=sizeLine),λD1 a8=>?_⟩;have u2:=Same.new (o:=.lst [.ref p1]) a8;have v2:=ae (H:=H3) (a:=D1) (o:=.lst [.ref p1]);generalize upd H3 D1 (.lst [.ref p1])=H4 at u2 v2;have b4:=u1.trans u2;refine⟨_,.inl (SqL.of (b4 _ _ al)),⟨D1,_,[.ref p1],rfl,rfl,v2,by lia,by lia,by show 1*_<=_;lia,λr1 bm=>?_⟩⟩;rw[Int.toNat_natCast,yl];have u3:=Same.new (o:=.lst (List.replicate (ak d).length [V.ref p1]).flatten) bm;have v3:=ae (H:=H4) (a:=r1) (o:=.lst (List.replicate (ak d).length [V.ref p1]).flatten);generalize upd H4 r1 (.lst (List.replicate (ak d).length [V.ref p1]).flatten)=H5 at u3 v3;refine⟨(by decide:1<=sizeLine),λD2 bo=>?_⟩;have u4:=Same.new (o:=.lst [.ref r1]) bo;have v4:=ae (H:=H5) (a:=D2) (o:=.lst [.ref r1]);generalize upd H5 D2 (.lst [.ref r1])=H6 at u4 v4;have co:=b4.trans (u3.trans u4);refine⟨_,.inl (SqL.of (co _ _ al)),⟨D2,_,[.ref r1],rfl,rfl,v4,by lia,by lia,by show 1*_<=_;lia,λa6 a'=>?_⟩⟩;rw[Int.toNat_natCast,yl];have u5:=Same.new (o:=.lst (List.replicate (ak d).length [V.ref r1]).flatten) a';have v5:=ae (H:=H6) (a:=a6) (o:=.lst (List.replicate (ak d).length [V.ref r1]).flatten);generalize upd H6 a6 (.lst (List.replicate (ak d).length [V.ref r1]).flatten)=H7 at u5 v5;have a9:Mx K (Ex λ_ _=>(1,1)) H7 (ak d).length (.ref a6):=uK ((u2.trans (u3.trans (u4.trans u5))) _ _ v1) ((u4.trans u5) _ _ v3) v5;have a7:=co.trans u5;clear u1 v1 u2 v2 u3 v3 u4 v4 u5 v5 b4 co dv a8 bm bo a';have s7:=s2.trans a7
   refine⟨JM K H7 x l r D (ak d).length p W d,?_,?_⟩
   .refine ixT (s7 _ _ hx) 0 _ cO _ ?_
    rcases an with⟨O,rfl⟩ | ⟨o,w',O,rfl,ho,rfl,hw⟩
    .refine ifB (λc=>absurd (show nm = "first" by simpa using c) (by rw[O];decide +kernel)) λc=>?_
     exact⟨.ref a6,λ_ _=>(1,1),rfl,Same.refl _,λ_ _ _ _=>(show Nm.Ok 60 ((1:Int),(1:Int)) from⟨by decide,by decide,by decide,by decide⟩),a9,rfl⟩
    .refine ifB (λc=>?_) λc=>absurd O (by simpa using c)
     have ep:=a7 _ _ al;have et:=aH (CrL.same (t1.trans a7)) hP;have ok:=iR Z;refine ixT (s7 _ _ hx) 1 _ rfl _ ⟨.ref r,ak d,rfl,⟨r,ys,rfl,ep,et⟩,by lia,λc hc=>(pk.each c hc).len.2,λH8 l2 xs2 s8 _ h2 hC2=>?_⟩;refine⟨0,w',l2,xs2,Nst.outer (ak d),o,rfl,Nat.zero_le _,gw ho,hw.same (s7.trans s8),h2,hC2,ok,λH9 ou B s9 _ _ _ hM=>?_⟩;rw[bf]at hM;exact⟨.ref ou,ent o (Nst.outer (ak d)),rfl,s8.trans s9,λi j hi hj=>Nm.flat_ok ho ok.c (by rw[bf];exact hi) (by rw[bf];exact hj),hM,rfl⟩
   clear a9;rintro σ H8 ⟨ou,oe,rfl,s8,dd,ed,eE⟩;have t8:=a7.trans s8;have dm:=(s2.trans t8) _ _ hl;have d':=hC.tk (s2.trans t8).tk;have ev:=t8 _ _ al;have ej:=aH (CrL.same (t1.trans t8)) hP;have uq:=Nm.parts_uq Z.nd;refine .inl ⟨⟨_,SqL.of dm⟩,λS hS=>?_⟩
   let Pw2:PvL:=λi es F=>Same H8 F/\F S=some (.lst es)/\i<=d.length/\Paired (λ(m:Mb) v=>SeatAt F (ak d) m.1 v) (d.take i) es
   refine aM (K:=K) (a:=l) (xs:=zs) Pw2
    ⟨Same.new hS,ae,Nat.zero_le _,.nil⟩ (λi es F h=>SqL.of (h.1 _ _ dm)) (λi es F h=>h.2.1) ?_ ?_
   .rintro i y es F P' hy ⟨s9,X,hi,hc⟩ b1
    obtain⟨m,I,ad,pp,rfl,ha,ez⟩:=aL d' hy;have cT:i<d.length:=(List.getElem?_eq_some_iff.mp I).1;have bl:es.length<=24:=by rw[<- Paired.length hc,length_take];lia
    obtain⟨c,m',O,e2,e3⟩:=Nm.seat_of Z.nd I;refine⟨⟨rfl,trivial⟩,ixT (s9 _ _ ha) 0 _ rfl _ ⟨r,m.1,ak d,ys,rfl,s9 _ _ ev,aH (CrL.same s9) ej,uq,⟨_,_,c,m',O,e2,e3⟩,λH9 v M hv=>?_⟩⟩;have c9:=M _ _ X;have tk:TK H9 (upd H9 S (.lst (es++[v]))):=TK.lst c9;exact⟨c9,by lia,b1 _ _ ⟨(s9.trans M).put hS,ae,cT,fE (aH (λm v h=>h.tk (M.tk.trans tk)) hc) I (hv.tk tk)⟩⟩
   rintro es H9 ⟨s9,X,_,a4⟩;rw[show zs.length=d.length from zl.symm,take_length]at a4;have el:=Paired.length a4;refine⟨Nat.zero_le _,λfl dp=>?_⟩;have M:=Same.new (o:=.lst []) dp;have c4:=ae (H:=H9) (a:=fl) (o:=.lst []);have f9:H9 fl=none:=dp;generalize upd H9 fl (.lst [])=H10 at M c4;have em:=(s2.trans t8).trans s9;have q9:=q.t em;have c5:=M _ _ X;have ek:=(t8.trans s9) _ _ as;have dK:Paired (λ(g:List Mb) v=>Mx K (Ex (ent p g)) H9 g.length v) (ak d) bs:=aH (λg v h=>h.q (SQ.of (t8.trans s9).t)) hB;have c3:=ed.q (SQ.of s9.t);rw[eE]at q9;have ea:=RowsL.start (e:=cU (ent p) oe d) (K:=K) (n:=d.length) M f9 c4;refine .inl ⟨⟨_,SqL.of c5⟩,?_⟩;refine fg (K:=K) (a:=S) (xs:=es) (MO K (cU (ent p) oe d) H9 x l r D S fl ou d.length) ⟨[],none,none,none,none,none,rfl,ea,rfl,Nat.zero_le _⟩ (λi σ F _ h=>by obtain⟨_,_,_,_,_,_,_,R,_⟩:=h;exact SqL.of (R.s _ _ X)) ?_ ?_
   .rintro i y σ F hy ⟨B,x7,x8,x9,dT,eg,rfl,R,ch,eT⟩
    obtain⟨m,I,tp,rfl,b9⟩:=aL a4 hy;have hi:i<d.length:=(List.getElem?_eq_some_iff.mp I).1;obtain⟨c,m',O,e2,e3⟩:=Nm.seat_of Z.nd I;generalize hk1:(Nm.seat (ak d) m.1).1=k at b9 O;generalize hs1:(Nm.seat (ak d) m.1).2=sp at b9 e2;have kl:=(List.getElem?_eq_some_iff.mp O).1;have sl:=(List.getElem?_eq_some_iff.mp e2).1;refine⟨tp,_,rfl,SqT.of (R.s _ _ b9),rfl,_,_,rfl,_,_,rfl,rfl,?_⟩;refine⟨Nat.zero_le _,λrl cB=>?_⟩;have w1:=Same.new (o:=.lst []) cB;refine .inl ⟨⟨_,SqL.of ((R.s.trans w1) _ _ X)⟩,?_⟩;refine fg (K:=K) (a:=S) (xs:=es) (MI K (cU (ent p) oe d) F x l r D S fl rl ou k sp d.length i) ⟨[],_,_,rfl,w1,ae,rfl,Nat.zero_le _,λk y e=>by simp at e⟩ (λj σ F _ h=>by obtain⟨_,_,_,_,w2,_⟩:=h;exact SqL.of ((R.s.trans w2) _ _ X)) ?_ ?_
    .rintro j y2 σ c8 a3 ⟨fs,ew,eb,rfl,w2,aS,cW,eD,hE⟩
     obtain⟨m2,ca,ex,rfl,a0⟩:=aL a4 a3;have hj:j<d.length:=(List.getElem?_eq_some_iff.mp ca).1;obtain⟨c2,ec,g1,g2,g3⟩:=Nm.seat_of Z.nd ca;generalize hk2:(Nm.seat (ak d) m2.1).1=k2 at a0 g1;generalize hs2:(Nm.seat (ak d) m2.1).2=sp2 at a0 g2;have dy:=(List.getElem?_eq_some_iff.mp g1).1;have G:=(List.getElem?_eq_some_iff.mp g2).1;have w3:=R.s.trans w2;refine⟨ex,_,rfl,SqT.of (w3 _ _ a0),rfl,_,_,rfl,_,_,rfl,rfl,?_⟩
     have nx:∀{H4:Hp}{v:V},Same c8 H4->IsF K H4 (cU (ent p) oe d i j) v->H4 rl=some (.lst fs)/\fs.length<sizeLine/\MI K (cU (ent p) oe d) F x l r D S fl rl ou k sp d.length i (j+1) [some (.ref x),some (.ref l),some (.ref r),some (.ref D),some ou,some (.ref S),some (.ref fl),some (.int (k:Nat)),some (.int (sp:Nat)),some (.ref rl),some (.int (k2:Nat)),some (.int (sp2:Nat))] (upd H4 rl (.lst (fs++[v]))):=λ{H4 v} s4 hv=>by
      have ds:=s4 _ _ aS;have tk:TK H4 (upd H4 rl (.lst (fs++[v]))):=TK.lst ds;refine⟨ds,by lia,fs++[v],_,_,rfl,(w2.trans s4).put cB,ae,by rw[length_append,cW];rfl,hj,RowE.snoc (s4.tk.trans tk) hE ?_⟩;rw[cW];exact hv.tk tk
     have d2:Nm.At (ak d) k sp m.1:=⟨c,m',O,e2,e3⟩
     have eu:Nm.At (ak d) k2 sp2 m2.1:=⟨c2,ec,g1,g2,g3⟩
     have eG:=rE (ie:=ent p) (oe:=oe) Z.nd I ca d2 eu O g1
     have bN:Nm.bits n<=420:=by
      rcases(by lia:n=0\/n=1\/n=2) with rfl | rfl | rfl <;> decide
     have cC:=λi j h1 h2=>(Nm.ent_ok b2 (ap c (List.mem_of_getElem? O)).c (ap c (List.mem_of_getElem? O)).nd i j h1 h2).up bN
     have dx:=λi j h1 h2=>(Nm.ent_ok b2 (ap c2 (List.mem_of_getElem? g1)).c (ap c2 (List.mem_of_getElem? g1)).nd i j h1 h2).up bN
     obtain⟨vb,dl,mb⟩:=eI dK O;obtain⟨e0,dt,d1⟩:=eI dK g1;have b0:=w3 _ _ ek;have c1:=c3.q (SQ.of w3.t);have c6:=mb.q (SQ.of w3.t);have eo:=d1.q (SQ.of w3.t);refine ifC (λcc=>?_) λcc=>?_
     .have cc:k=k2:=by have cc:(k:Int)=(k2:Int):=cc;lia
      subst cc;rw[O]at g1;cases g1;rw[if_pos rfl]at eG;refine⟨.inl ⟨rfl,_,SqL.of aS⟩,mG c1 kl kl λy f hy Y=>?_⟩;refine .inl ⟨D,_,_,_,rfl,rfl,SqL.of b0,aU dl,mG c6 sl G λy2 f2 a3 b5=>?_⟩;cases Y;cases b5;refine⟨y,y2,_,_,60,420,rfl,hy,a3,dd _ _ kl kl,cC _ _ sl G,by decide,by decide,λH4 pp s4 h4=>?_⟩;obtain⟨n1,n2,n3⟩:=nx s4 (v:=.ref pp) ⟨pp,rfl,.inl (by rw[eG];exact h4)⟩;exact⟨rl,fs,.ref pp,rfl,rfl,n1,n2,n3⟩
     .have cc:¬k=k2:=λz=>cc (by show(k:Int)=(k2:Int);lia)
      rw[if_neg cc]at eG;refine⟨.inl ⟨rfl,_,SqL.of aS⟩,mG c1 kl dy λy f hy Y=>?_⟩;refine .inl ⟨D,_,_,_,rfl,rfl,SqL.of b0,aU dl,mG c6 sl sl λy2 f2 a3 b5=>?_⟩;refine .inl ⟨D,_,_,_,rfl,rfl,SqL.of b0,aU dt,mG eo G G λy3 f3 ey a5=>?_⟩;cases Y;cases b5;cases a5;refine⟨y2,y3,_,_,420,420,rfl,a3,ey,cC _ _ sl sl,dx _ _ G G,by decide,by decide,λH4 pp s4 h4=>?_⟩;refine⟨y,.ref pp,_,_,60,840,rfl,hy.same s4,⟨pp,rfl,.inl h4⟩,dd _ _ kl dy,Nm.ok_mul (cC _ _ sl sl) (dx _ _ G G),by decide,by decide,λH5 p2 s5 h5=>?_⟩;obtain⟨n1,n2,n3⟩:=nx (s4.trans s5) (v:=.ref p2) ⟨p2,rfl,.inl (by rw[eG];exact h5)⟩;exact⟨rl,fs,.ref p2,rfl,rfl,n1,n2,n3⟩
    .rintro σ c8 ⟨fs,ew,eb,rfl,w2,aS,cW,_,hE⟩
     have a5:=w2 _ _ R.f;refine⟨.inl ⟨rfl,_,SqL.of a5⟩,⟨fl,B,.ref rl,rfl,rfl,a5,by lia,?_⟩⟩;exact⟨B++[.ref rl],_,_,_,_,_,rfl,R.next w2 cB aS (by lia) (by rw[ch];exact hE),by rw[length_append,ch];rfl,hi⟩
   .rintro σ F ⟨B,x7,x8,x9,dT,eg,rfl,R,ch,_⟩
    exact R.done q9 (by lia)
end
open Nm (dL fY gp bi eS fAt eL seat cU ent)
open Tb (so hV iS)
inductive spLLim(N:Nat)(vs:List V)(H:Hp)(Q:VK)(_E:XK):Prop
 | mk(n:Nat)(v:V)(l:Addr)(zs:List V)(ms:List Mb)(pl:Pl)(h0:vs=[v,.ref l])(h1:n<=N)(h2:ht n pl)(h3:IsTr H v pl)(h4:H l=some (.lst zs))(h5:CrAt H ms zs)(h6:Ck n ms)(h7:vc (Nm.lim pl ms) H Q):spLLim N vs H Q _E
theorem sE(l:List Int)(k:Nat)(h:k<=l.length):(l.reverse.take k).sum=(l.drop (l.length - k)).sum:=by
 rw[List.take_reverse,List.sum_reverse]
theorem mH{a b:List Int}(h:a.Perm b):a.sum=b.sum:=by
 induction h with
 | nil=>rfl
 | cons x _ ih=>rw[sum_cons,sum_cons,ih]
 | swap x y l=>rw[sum_cons,sum_cons,sum_cons,sum_cons];lia
 | trans _ _ h1 h2=>exact h1.trans h2
theorem oq(l:List Int):(so l).length=l.length:=(iS l).length_eq
theorem wF{o:Pl}(b:d5 o)(a:List Mb):(Nm.lim o a).2<=(a.length:Int):=by
 cases o with
 | few m=>show((min m a.length:Nat):Int)<=_;lia
 | start m =>
  obtain⟨h1,h2⟩:1<=m/\m<=100:=b;show((a.length:Int)+(m:Int) - 1)/(m:Int)<=_;have c:(0:Int)<=((m:Int) - 1)*(a.length:Int):=Int.mul_nonneg (by lia) (by lia)
  have d:((a.length:Int)+(m:Int) - 1)<(m:Int)*((a.length:Int)+1):=by
   rw[Int.mul_add,Int.mul_one];rw[Int.sub_mul,Int.one_mul]at c;lia
  have:=Int.ediv_lt_of_lt_mul (show(0:Int)<(m:Int) by lia) (by rw[Int.mul_comm];exact d);lia
 | loose m=>show(a.length:Int) - ((_:Nat):Int)<=_;lia
 | each p=>exact b.elim
 | first p q=>exact b.elim
theorem sY(p:Pl)(a:List Mb):Nm.lim (.each p) a=(((so (((ak a).map (Nm.lim p)).map (·.1))).take (ak a).length).sum,((so (((ak a).map (Nm.lim p)).map (·.2))).reverse.take (ak a).length).sum):=by
 have b:(((ak a).map (Nm.lim p)).map (·.1)).sum=(Nm.lim (.each p) a).1:=by rw[map_map];rfl
 have c:(((ak a).map (Nm.lim p)).map (·.2)).sum=(Nm.lim (.each p) a).2:=by rw[map_map];rfl
 have d:(so (((ak a).map (Nm.lim p)).map (·.1))).length=(ak a).length:=by rw[oq,length_map,length_map]
 have e:(so (((ak a).map (Nm.lim p)).map (·.2))).reverse.length=(ak a).length:=by rw[List.length_reverse,oq,length_map,length_map]
 rw[take_of_length_le (by lia),take_of_length_le (by lia),List.sum_reverse,mH (iS _),mH (iS _),b,c]
theorem qI{o:Pl}(b:d5 o)(p:Pl)(a:List Mb):∃ fe mo:Nat,Nm.lim o (Nst.outer (ak a))=((fe:Int),(mo:Int))/\mo<=(ak a).length/\Nm.lim (.first o p) a=(((so (((ak a).map (Nm.lim p)).map (·.1))).take fe).sum,((so (((ak a).map (Nm.lim p)).map (·.2))).reverse.take mo).sum):=by
 obtain⟨c,d⟩:=pR b (Nst.outer (ak a));have e:=wF b (Nst.outer (ak a));rw[bf]at e;refine⟨(Nm.lim o (Nst.outer (ak a))).1.toNat,(Nm.lim o (Nst.outer (ak a))).2.toNat,?_,by lia,?_⟩
 .rw[Int.toNat_of_nonneg c,Int.toNat_of_nonneg d]
 .rw[map_map,map_map];rfl
abbrev JL(H3:Hp)(x l r D:Addr)(n k:Nat)(p pl:Pl)(ms:List Mb):St->Hp->Prop:=λσ H'=>∃ fe mo:Nat,σ=[some (.ref x),some (.ref l),some (.int (k:Nat)),none,some (.ref r),some (.ref D),some (.int (fe:Nat)),some (.int (mo:Nat)),none,none]/\Same H3 H'/\mo<=n/\Nm.lim pl ms=(((so (((ak ms).map (Nm.lim p)).map (·.1))).take fe).sum,((so (((ak ms).map (Nm.lim p)).map (·.2))).reverse.take mo).sum)
section
variable {P:Program}{w:World}{K:Frag}{mg:Str->Option Value}{base:Heap}{a:Ad}
theorem uR(T:Txt K mg a):∀ N,FnOk P w K mg base CX0 (N+3) a.f_q a.d_q ["_law_tree_here","_law_crowd_here"] (spLLim N):=by
 intro N
 induction N with
 | zero =>
  have a2:FnOk P w K mg base CX0 2 _ _ _ (spWished K):=iq T;have a7:FnOk P w K mg base CX0 2 _ _ _ _:=(gD T).mono (by decide);have a9:FnOk P w K mg base CX0 2 _ _ _ _:=(g9 T).mono (by decide);have al:FnOk P w K mg base CX0 2 a.f_q a.d_q ["_law_tree_here","_law_crowd_here"] mP:=ka;refine T.F_q.ok sc_q (λvs H Q E h=>?_) (λcdv A outer s H vs Q E hr h=>?_)
  .obtain⟨n,v,l,zs,f,pl,rfl,_⟩:=h;rfl
  .obtain⟨n,v,l,zs,f,pl,rfl,hn,hh,aS,hl,hC,hk,q⟩:=h
   obtain rfl:n=0:=by lia
   refine⟨_,(af (ay (i:=2) sc_q.nd rfl (Or.inl rfl) (av aF rfl T.z_len aQ (aa (vr 1) ac))) (af (aI (aG be (aq am (vr 0) ag (λ_ _=>rfl)) aE (aB _)) (ah (aw (aK (aa (av (cY rfl) rfl T.z_min gS (aa (aq am (vr 0) ag (λ_ _=>rfl)) (aa (vr 2) ac))) (aa (av (cY rfl) rfl T.z_min gS (aa (aq am (vr 0) ag (λ_ _=>rfl)) (aa (vr 2) ac))) ac))))) aD) (af (aI (aG be (aq am (vr 0) ag (λ_ _=>rfl)) aE (aB _)) (ah (aw (aK (aa (aA bn (vr 2) (aq am (vr 0) ag (λ_ _=>rfl))) (aa (aA bn (aA d9 (aA bE (vr 2) (aq am (vr 0) ag (λ_ _=>rfl))) ag) (aq am (vr 0) ag (λ_ _=>rfl))) ac))))) aD) (af (aI (aG be (aq am (vr 0) ag (λ_ _=>rfl)) aE (aB _)) (af (ay (i:=3) sc_q.nd rfl (Or.inl rfl) (aj a2 hr rfl T.m_E T.F_E.kp T.B_E .nil ai (aa (aT rfl (N:=["_law_member"]) (ix:=[none]) ⟨rfl,rfl,rfl,rfl,trivial⟩ (aP (vr 1)) ⟨λC s H B=>au (i:=0) (show List.Nodup (["_law_member"]:List Str) by decide +kernel) rfl (Or.inl rfl),λC s H B=>aN,λC s H B=>(aq (aY (K:=K) rfl) (vr 0) ag (λ_ _=>rfl))⟩) (aa (aq am (vr 0) ag (λ_ _=>rfl)) ac)))) (ah (aw (aK (aa (pe_m.count hr.units (vr 3) (aa (aK (aa ag (aa ag ac))) ac)) (aa (aA d9 (vr 2) (pe_m.count hr.units (vr 3) (aa (aK (aa ag (aa ag ac))) ac))) ac)))))) aD) (af (ay (i:=4) sc_q.nd rfl (Or.inl rfl) (aj a7 hr rfl T.m_H T.F_H.kp T.B_H .nil ai (aa (vr 1) ac))) (af (dR rfl (i:=5) sc_q.nd rfl rfl (by with_unfolding_all rfl) (N:=["_law_group","_law_tree_here"]) (ix:=[none,some 0]) ⟨rfl,rfl,rfl,rfl,⟨rfl,rfl,rfl,trivial⟩⟩ (aP (vr 4)) ⟨λC s H B=>au (i:=0) (show List.Nodup (["_law_group","_law_tree_here"]:List Str) by decide +kernel) rfl (Or.inl rfl),λC s H B=>aN,λC s H B=>(aj al hr rfl T.m_q T.F_q.kp T.B_q .nil ai (aa (aq (aY (K:=K) rfl) (vr 1) (ln kY ag) (λ_ _=>rfl)) (aa (vr 0) ac)))⟩) (af (j6 rfl sc_q.nd (i:=6) (j:=7) rfl rfl (by decide) rfl rfl (aa (av aF rfl T.z_len aQ (aa (vr 4) ac)) (aa (av aF rfl T.z_len aQ (aa (vr 4) ac)) ac)) rfl) (db (aI (aG be (aq am (vr 0) ag (λ_ _=>rfl)) aE (aB _)) (ah (d4 (aj al hr rfl T.m_q T.F_q.kp T.B_q .nil ai (aa (aq am (vr 0) ag (λ_ _=>rfl)) (aa (aj a9 hr rfl T.m_U T.F_U.kp T.B_U .nil ai (aa (vr 4) ac)) ac))) (bA rfl (ax (au (i:=6) sc_q.nd rfl (Or.inl rfl)) (ax (au (i:=7) sc_q.nd rfl (Or.inl rfl)) aO))))) aD) (af (ay (i:=8) sc_q.nd rfl (Or.inl rfl) (av dq rfl T.z_sorted eM (aa (aT rfl (N:=["_law_row"]) (ix:=[none]) ⟨rfl,rfl,rfl,rfl,trivial⟩ (aP (vr 5)) ⟨λC s H B=>au (i:=0) (show List.Nodup (["_law_row"]:List Str) by decide +kernel) rfl (Or.inl rfl),λC s H B=>aN,λC s H B=>(aq (aY (K:=K) rfl) (vr 0) ag (λ_ _=>rfl))⟩) ac))) (af (ay (i:=9) sc_q.nd rfl (Or.inl rfl) (av dq rfl T.z_sorted eM (aa (aT rfl (N:=["_law_row"]) (ix:=[none]) ⟨rfl,rfl,rfl,rfl,trivial⟩ (aP (vr 5)) ⟨λC s H B=>au (i:=0) (show List.Nodup (["_law_row"]:List Str) by decide +kernel) rfl (Or.inl rfl),λC s H B=>aN,λC s H B=>(aq (aY (K:=K) rfl) (vr 0) ag (λ_ _=>rfl))⟩) ac))) (ah (aw (aK (aa (av (bH rfl) rfl T.z_sum dI (aa (dn gG (vr 8) eC (eF (vr 6))) ac)) (aa (av (bH rfl) rfl T.z_sum dI (aa (dn gG (vr 9) (eF (aA d9 (av aF rfl T.z_len aQ (aa (vr 4) ac)) (vr 7))) eC) ac)) ac))))))))))))))),?_⟩
   have S:d5 pl:=by cases pl <;> exact hh
   obtain⟨x,rfl,d⟩:=iU S aS;have W:sizeLine=16777216:=sizeLine_eq;have zl:=hC.len;have a5:=hk.c.len.2;refine⟨_,.inl (SqL.of hl),?_⟩;rw[<- zl];cases pl with
   | few m =>
    have en:nP (.few m)=m:=rfl
    have e:(if ((f.length:Int)<((nP (.few m):Nat):Int)) then (f.length:Int) else ((nP (.few m):Nat):Int))=((min m f.length:Nat):Int):=by rw[en];split <;> lia
    refine ixT d 0 _ rfl _ (ixT d 1 _ rfl _ ⟨_,_,rfl,ixT d 1 _ rfl _ ⟨_,_,rfl,?_⟩⟩);rw[e];exact⟨bp _ _,λp B=>q _ p (Same.new B) ae⟩
   | start m =>
    have ho:1<=m/\m<=100:=S;have b1:Bt 3000 (m:Int):=(show Bt 10 (m:Int) by unfold Bt;lia).mono (by decide);refine ixT d 0 _ rfl _ (ixT d 0 _ rfl _ (ixT d 1 _ rfl _ ⟨cdB (by show(0:Int)<(m:Int);lia) b1,ixT d 1 _ rfl _ (ixT d 1 _ rfl _ ⟨cdB (by show(0:Int)<(m:Int);lia) b1,bp _ _,λp B=>?_⟩)⟩));exact q _ p (Same.new B) ae
   | loose m =>
    have ho:m<=24:=S;refine ixT d 0 _ rfl _ (ixT d 0 _ rfl _ (ixT d 0 _ rfl _ ?_));refine .inl ⟨⟨_,SqL.of hl⟩,λD hD=>?_⟩
    let Pw1:PvL:=λi z G=>i<=zs.length/\Same H G/\G D=some (.lst z)/\z=(szs (f.take i)).map V.int
    refine aM (K:=K) (a:=l) (xs:=zs) Pw1 ⟨Nat.zero_le _,Same.new hD,ae,rfl⟩ (λi z G h=>SqL.of (h.2.1 _ _ hl)) (λi z G h=>h.2.2.1) ?_ ?_
    .rintro i x z G P' d ⟨hi,I,F,rfl⟩ hP
     obtain⟨mm,hm,q1,pt,rfl,g1,g2⟩:=(hC.tk I.tk).get d;have bN:i<zs.length:=(List.getElem?_eq_some_iff.mp d).1;refine⟨trivial,.inr (.inl ⟨q1,_,_,_,rfl,rfl,SqT.of g1,bj 1 rfl rfl,F,?_,hP _ _ ⟨bN,I.put hD,ae,?_⟩⟩)⟩
     .unfold szs;rw[length_map,length_map,length_take];lia
     .unfold szs;rw[take_add_one,hm,map_append,map_append];rfl
    .rintro z G ⟨_,I,F,rfl⟩
     rw[<- zl,take_of_length_le (Nat.le_refl _)]at F;refine ixT (I _ _ d) 1 _ rfl _ ⟨D,szs f,(m:Nat),rfl,F,jY hk.c,by lia,by lia,λH2 w' z t2 b3 hw hF=>?_⟩;refine⟨.inl ⟨rfl,_,SqL.of hw⟩,bp _ _,λp1 a'=>?_⟩;have u1:=Same.new (o:=.tup [.int 1,.int 1]) a';refine iX (u1 _ _ hw) (hF.tk u1.tk) (SqT.of ae) ?_;refine⟨.inl ⟨rfl,_,SqL.of (u1 _ _ hw)⟩,bp _ _,λp2 bo=>?_⟩;have u2:=u1.trans (Same.new (o:=.tup [.int 0,.int 1]) bo);refine iX (u2 _ _ hw) (hF.tk u2.tk) (SqT.of ae) ?_;rw[fZ,fZ];refine⟨bp _ _,λp3 a3=>q _ p3 (I.trans (t2.trans (u2.trans (Same.new a3)))) ae⟩
   | each p=>exact S.elim
   | first p r=>exact S.elim
 | succ N ih =>
  have a2:FnOk P w K mg base CX0 (N+3) _ _ _ (spWished K):=(iq T).mono (by lia);have a7:FnOk P w K mg base CX0 (N+3) _ _ _ spLGroups:=(gD T).mono (by lia);have a9:FnOk P w K mg base CX0 (N+3) _ _ _ spOuter:=(g9 T).mono (by lia);have al:FnOk P w K mg base CX0 (N+3) _ _ _ (spLLim N):=ih;refine T.F_q.ok sc_q (λvs H Q E h=>?_) (λcdv A outer s H vs Q E hr h=>?_)
  .obtain⟨n,v,l,zs,f,pl,rfl,_⟩:=h;rfl
  .obtain⟨n,v,l,zs,f,pl,rfl,hn,hh,aS,hl,hC,hk,q⟩:=h
   refine⟨_,(af (ay (i:=2) sc_q.nd rfl (Or.inl rfl) (av aF rfl T.z_len aQ (aa (vr 1) ac))) (af (aI (aG be (aq am (vr 0) ag (λ_ _=>rfl)) aE (aB _)) (ah (aw (aK (aa (av (cY rfl) rfl T.z_min gS (aa (aq am (vr 0) ag (λ_ _=>rfl)) (aa (vr 2) ac))) (aa (av (cY rfl) rfl T.z_min gS (aa (aq am (vr 0) ag (λ_ _=>rfl)) (aa (vr 2) ac))) ac))))) aD) (af (aI (aG be (aq am (vr 0) ag (λ_ _=>rfl)) aE (aB _)) (ah (aw (aK (aa (aA bn (vr 2) (aq am (vr 0) ag (λ_ _=>rfl))) (aa (aA bn (aA d9 (aA bE (vr 2) (aq am (vr 0) ag (λ_ _=>rfl))) ag) (aq am (vr 0) ag (λ_ _=>rfl))) ac))))) aD) (af (aI (aG be (aq am (vr 0) ag (λ_ _=>rfl)) aE (aB _)) (af (ay (i:=3) sc_q.nd rfl (Or.inl rfl) (aj a2 hr rfl T.m_E T.F_E.kp T.B_E .nil ai (aa (aT rfl (N:=["_law_member"]) (ix:=[none]) ⟨rfl,rfl,rfl,rfl,trivial⟩ (aP (vr 1)) ⟨λC s H B=>au (i:=0) (show List.Nodup (["_law_member"]:List Str) by decide +kernel) rfl (Or.inl rfl),λC s H B=>aN,λC s H B=>(aq (aY (K:=K) rfl) (vr 0) ag (λ_ _=>rfl))⟩) (aa (aq am (vr 0) ag (λ_ _=>rfl)) ac)))) (ah (aw (aK (aa (pe_m.count hr.units (vr 3) (aa (aK (aa ag (aa ag ac))) ac)) (aa (aA d9 (vr 2) (pe_m.count hr.units (vr 3) (aa (aK (aa ag (aa ag ac))) ac))) ac)))))) aD) (af (ay (i:=4) sc_q.nd rfl (Or.inl rfl) (aj a7 hr rfl T.m_H T.F_H.kp T.B_H .nil ai (aa (vr 1) ac))) (af (dR rfl (i:=5) sc_q.nd rfl rfl (by with_unfolding_all rfl) (N:=["_law_group","_law_tree_here"]) (ix:=[none,some 0]) ⟨rfl,rfl,rfl,rfl,⟨rfl,rfl,rfl,trivial⟩⟩ (aP (vr 4)) ⟨λC s H B=>au (i:=0) (show List.Nodup (["_law_group","_law_tree_here"]:List Str) by decide +kernel) rfl (Or.inl rfl),λC s H B=>aN,λC s H B=>(aj al hr rfl T.m_q T.F_q.kp T.B_q .nil ai (aa (aq (aY (K:=K) rfl) (vr 1) (ln kY ag) (λ_ _=>rfl)) (aa (vr 0) ac)))⟩) (af (j6 rfl sc_q.nd (i:=6) (j:=7) rfl rfl (by decide) rfl rfl (aa (av aF rfl T.z_len aQ (aa (vr 4) ac)) (aa (av aF rfl T.z_len aQ (aa (vr 4) ac)) ac)) rfl) (db (aI (aG be (aq am (vr 0) ag (λ_ _=>rfl)) aE (aB _)) (ah (d4 (aj al hr rfl T.m_q T.F_q.kp T.B_q .nil ai (aa (aq am (vr 0) ag (λ_ _=>rfl)) (aa (aj a9 hr rfl T.m_U T.F_U.kp T.B_U .nil ai (aa (vr 4) ac)) ac))) (bA rfl (ax (au (i:=6) sc_q.nd rfl (Or.inl rfl)) (ax (au (i:=7) sc_q.nd rfl (Or.inl rfl)) aO))))) aD) (af (ay (i:=8) sc_q.nd rfl (Or.inl rfl) (av dq rfl T.z_sorted eM (aa (aT rfl (N:=["_law_row"]) (ix:=[none]) ⟨rfl,rfl,rfl,rfl,trivial⟩ (aP (vr 5)) ⟨λC s H B=>au (i:=0) (show List.Nodup (["_law_row"]:List Str) by decide +kernel) rfl (Or.inl rfl),λC s H B=>aN,λC s H B=>(aq (aY (K:=K) rfl) (vr 0) ag (λ_ _=>rfl))⟩) ac))) (af (ay (i:=9) sc_q.nd rfl (Or.inl rfl) (av dq rfl T.z_sorted eM (aa (aT rfl (N:=["_law_row"]) (ix:=[none]) ⟨rfl,rfl,rfl,rfl,trivial⟩ (aP (vr 5)) ⟨λC s H B=>au (i:=0) (show List.Nodup (["_law_row"]:List Str) by decide +kernel) rfl (Or.inl rfl),λC s H B=>aN,λC s H B=>(aq (aY (K:=K) rfl) (vr 0) ag (λ_ _=>rfl))⟩) ac))) (ah (aw (aK (aa (av (bH rfl) rfl T.z_sum dI (aa (dn gG (vr 8) eC (eF (vr 6))) ac)) (aa (av (bH rfl) rfl T.z_sum dI (aa (dn gG (vr 9) (eF (aA d9 (av aF rfl T.z_len aQ (aa (vr 4) ac)) (vr 7))) eC) ac)) ac))))))))))))))),?_⟩
   by_cases S:d5 pl
   .skip
    obtain⟨x,rfl,d⟩:=iU S aS;have W:sizeLine=16777216:=sizeLine_eq;have zl:=hC.len;have a5:=hk.c.len.2;refine⟨_,.inl (SqL.of hl),?_⟩;rw[<- zl];cases pl with
    | few m =>
     have en:nP (.few m)=m:=rfl
     have e:(if ((f.length:Int)<((nP (.few m):Nat):Int)) then (f.length:Int) else ((nP (.few m):Nat):Int))=((min m f.length:Nat):Int):=by rw[en];split <;> lia
     refine ixT d 0 _ rfl _ (ixT d 1 _ rfl _ ⟨_,_,rfl,ixT d 1 _ rfl _ ⟨_,_,rfl,?_⟩⟩);rw[e];exact⟨bp _ _,λp B=>q _ p (Same.new B) ae⟩
    | start m =>
     have ho:1<=m/\m<=100:=S;have b1:Bt 3000 (m:Int):=(show Bt 10 (m:Int) by unfold Bt;lia).mono (by decide);refine ixT d 0 _ rfl _ (ixT d 0 _ rfl _ (ixT d 1 _ rfl _ ⟨cdB (by show(0:Int)<(m:Int);lia) b1,ixT d 1 _ rfl _ (ixT d 1 _ rfl _ ⟨cdB (by show(0:Int)<(m:Int);lia) b1,bp _ _,λp B=>?_⟩)⟩));exact q _ p (Same.new B) ae
    | loose m =>
     have ho:m<=24:=S;refine ixT d 0 _ rfl _ (ixT d 0 _ rfl _ (ixT d 0 _ rfl _ ?_));refine .inl ⟨⟨_,SqL.of hl⟩,λD hD=>?_⟩
     let Pw2:PvL:=λi z G=>i<=zs.length/\Same H G/\G D=some (.lst z)/\z=(szs (f.take i)).map V.int
     refine aM (K:=K) (a:=l) (xs:=zs) Pw2 ⟨Nat.zero_le _,Same.new hD,ae,rfl⟩ (λi z G h=>SqL.of (h.2.1 _ _ hl)) (λi z G h=>h.2.2.1) ?_ ?_
     .rintro i x z G P' d ⟨hi,I,F,rfl⟩ hP
      obtain⟨mm,hm,q1,pt,rfl,g1,g2⟩:=(hC.tk I.tk).get d;have bN:i<zs.length:=(List.getElem?_eq_some_iff.mp d).1;refine⟨trivial,.inr (.inl ⟨q1,_,_,_,rfl,rfl,SqT.of g1,bj 1 rfl rfl,F,?_,hP _ _ ⟨bN,I.put hD,ae,?_⟩⟩)⟩
      .unfold szs;rw[length_map,length_map,length_take];lia
      .unfold szs;rw[take_add_one,hm,map_append,map_append];rfl
     .rintro z G ⟨_,I,F,rfl⟩
      rw[<- zl,take_of_length_le (Nat.le_refl _)]at F;refine ixT (I _ _ d) 1 _ rfl _ ⟨D,szs f,(m:Nat),rfl,F,jY hk.c,by lia,by lia,λH2 w' z t2 b3 hw hF=>?_⟩;refine⟨.inl ⟨rfl,_,SqL.of hw⟩,bp _ _,λp1 a'=>?_⟩;have u1:=Same.new (o:=.tup [.int 1,.int 1]) a';refine iX (u1 _ _ hw) (hF.tk u1.tk) (SqT.of ae) ?_;refine⟨.inl ⟨rfl,_,SqL.of (u1 _ _ hw)⟩,bp _ _,λp2 bo=>?_⟩;have u2:=u1.trans (Same.new (o:=.tup [.int 0,.int 1]) bo);refine iX (u2 _ _ hw) (hF.tk u2.tk) (SqT.of ae) ?_;rw[fZ,fZ];refine⟨bp _ _,λp3 a3=>q _ p3 (I.trans (t2.trans (u2.trans (Same.new a3)))) ae⟩
    | each p=>exact S.elim
    | first p r=>exact S.elim
   have W:sizeLine=16777216:=sizeLine_eq
   obtain⟨n,rfl⟩:∃ n',n=n'+1:=by
    cases n with
    | zero=>exact absurd (by cases pl <;> exact hh) S
    | succ n=>exact⟨n,rfl⟩
   obtain⟨x,nm,tl,u,p,rfl,d,co,hu,b',Z⟩:=pj S aS hh;have zl:=hC.len;have a5:=hk.c.len.2;have pk:=cu hk.c;have ch:=gX hk;have g5:=pk.len;have a1:atI (.str nm::tl) 0=some (.str nm):=aU (j:=0) rfl
   have nn:nm ≠ "few" /\ nm ≠ "start" /\ nm ≠ "loose" := by
    rcases Z with⟨e,_⟩ | ⟨o,w',e,_⟩
    .rw[e];exact⟨by decide +kernel,by decide +kernel,by decide +kernel⟩
    .rw[e];exact⟨by decide +kernel,by decide +kernel,by decide +kernel⟩
   refine⟨_,.inl (SqL.of hl),?_⟩;rw[<- zl];refine ixT d 0 _ a1 _ (ifB (λc=>absurd (show nm = "few" by simpa using c) nn.1) λ_=>?_);refine ixT d 0 _ a1 _ (ifB (λc=>absurd (show nm = "start" by simpa using c) nn.2.1) λ_=>?_);refine ixT d 0 _ a1 _ (ifB (λc=>absurd (show nm = "loose" by simpa using c) nn.2.2) λ_=>?_);refine⟨l,f,zs,rfl,hl,hC,a5,hX hk,λH1 r z s1 b3 a4 b0=>?_⟩;have hP:Paired (CrL H1) (ak f) z:=aH (λg v h=>h.1) b0;clear b0;have gl:z.length=(ak f).length:=(Paired.length hP).symm;refine .inl ⟨⟨_,SqL.of a4⟩,λD hD=>?_⟩
   let Pw3:PvL:=λi M G=>Same H1 G/\G D=some (.lst M)/\i<=(ak f).length/\Paired (BdAt G) (((ak f).take i).map (Nm.lim p)) M
   refine aM (K:=K) (a:=r) (xs:=z) Pw3
    ⟨Same.new hD,ae,Nat.zero_le _,.nil⟩ (λi M G h=>SqL.of (h.1 _ _ a4)) (λi M G h=>h.2.1) ?_ ?_
   .rintro i y M G P' hy ⟨I,F,hi,hc⟩ X
    obtain⟨g,bm,lg,yg,rfl,cc,cC⟩:=aL hP hy;have an:i<(ak f).length:=(List.getElem?_eq_some_iff.mp bm).1;have gk:=ch g (List.mem_of_getElem? bm);have bl:M.length<=24:=by rw[<- Paired.length hc,length_map,length_take];lia
    have s3:=s1.trans I;refine⟨⟨rfl,trivial⟩,ixT (s3 _ _ d) (-1) _ co _ ⟨n,u,lg,yg,g,p,rfl,by lia,b',hu.same s3,I _ _ cc,cC.tk I.tk,gk,λH2 p2 t2 h2=>?_⟩⟩;have L:=t2 _ _ F;have tk:TK H2 (upd H2 D (.lst (M++[.ref p2]))):=TK.lst L;refine⟨L,by lia,X _ _ ⟨(I.trans t2).put hD,ae,an,?_⟩⟩;rw[take_add_one,bm,map_append];exact da ⟨p2,rfl,tk _ _ h2⟩ (aH (BdAt.tk (t2.tk.trans tk)) hc)
   rintro ap H2 ⟨I,F,_,hz⟩;rw[gl,take_length]at hz;have s2:=s1.trans I;have a0:=I _ _ a4;refine⟨_,.inl (SqL.of a0),⟨_,.inl (SqL.of a0),?_⟩⟩;refine⟨_,_,rfl,?_⟩;rw[gl];refine⟨JL H2 x l r D (ak f).length f.length p pl f,?_,?_⟩
   .refine ixT (s2 _ _ d) 0 _ a1 _ ?_
    rcases Z with⟨e1,rfl⟩ | ⟨o,w',e1,rfl,ho,rfl,hw⟩
    .refine ifB (λc=>absurd (show nm = "first" by simpa using c) (by rw[e1];decide +kernel)) λc=>?_
     exact⟨(ak f).length,(ak f).length,rfl,Same.refl _,Nat.le_refl _,sY p f⟩
    .refine ifB (λc=>?_) λc=>absurd e1 (by simpa using c)
     have ct:=aH (CrL.same I) hP;have ok:=iR hk;refine ixT (s2 _ _ d) 1 _ rfl _ ⟨.ref r,ak f,rfl,⟨r,z,rfl,a0,ct⟩,by lia,λc hc=>(pk.each c hc).len.2,λH8 l2 xs2 s8 _ h2 hC2=>?_⟩;refine⟨0,w',l2,xs2,Nst.outer (ak f),o,rfl,Nat.zero_le _,gw ho,hw.same (s2.trans s8),h2,hC2,ok,λO p9 s9 h9=>?_⟩;obtain⟨fe,mo,e2,e3,e4⟩:=qI ho p f;rw[e2]at h9;exact⟨p9,_,rfl,SqT.of h9,rfl,_,_,rfl,_,_,rfl,rfl,⟨fe,mo,rfl,s8.trans s9,e3,e4⟩⟩
   rintro σ H4 ⟨fe,mo,rfl,s4,ca,ef⟩;have bl:((ak f).map (Nm.lim p)).length=(ak f).length:=length_map _;have ad:=aH (BdAt.tk s4.tk) hz;have R:=s4 _ _ F;generalize (ak f).map (Nm.lim p)=M at ad bl ef;have sz:Same H4 H4:=λb o e=>e
   refine .inl ⟨⟨_,SqL.of R⟩,λD2 L=>?_⟩
   let Pw4:PvL:=λi z O=>Same H4 O/\O D2=some (.lst z)/\i<=M.length/\z=((M.take i).map (·.1)).map V.int
   refine aM (K:=K) (a:=D) (xs:=ap) Pw4 ⟨Same.new L,ae,Nat.zero_le _,rfl⟩ (λi z O h=>SqL.of (h.1 _ _ R)) (λi z O h=>h.2.1) ?_ ?_
   .rintro i y z O P' hy ⟨s9,a8,hi,rfl⟩ X
    obtain⟨b9,ab,q9,rfl,a6⟩:=aL ad hy;have an:i<M.length:=(List.getElem?_eq_some_iff.mp ab).1;refine⟨trivial,ixT (s9 _ _ (sz _ _ a6)) 0 _ rfl _ ⟨a8,by rw[length_map,length_map,length_take];lia,X _ _ ⟨s9.put L,ae,an,?_⟩⟩⟩;rw[take_add_one,ab];simp
   .rintro y2 H5 ⟨s5,L,_,rfl⟩
    rw[show ap.length=M.length from ad.length.symm,take_length]at L;refine⟨D2,_,rfl,SqL.of L,by rw[length_map];lia,λq1 ls cs cS f1=>?_⟩;have s6:=Same.new (o:=.lst (ls.map V.int)) f1;have h6:(upd H5 q1 (.lst (ls.map V.int))) q1=some (.lst (ls.map V.int)):=ae;generalize upd H5 q1 (.lst (ls.map V.int))=H6 at s6 h6;have R:=s6 _ _ (s5 _ _ R);have sz:=s5.trans s6;refine .inl ⟨⟨_,SqL.of R⟩,λD3 Y=>?_⟩
    let Pw5:PvL:=λi z O=>Same H6 O/\O D3=some (.lst z)/\i<=M.length/\z=((M.take i).map (·.2)).map V.int
    refine aM (K:=K) (a:=D) (xs:=ap) Pw5 ⟨Same.new Y,ae,Nat.zero_le _,rfl⟩ (λi z O h=>SqL.of (h.1 _ _ R)) (λi z O h=>h.2.1) ?_ ?_
    .rintro i y z O P' hy ⟨s9,a8,hi,rfl⟩ X
     obtain⟨b9,ab,q9,rfl,a6⟩:=aL ad hy;have an:i<M.length:=(List.getElem?_eq_some_iff.mp ab).1;refine⟨trivial,ixT (s9 _ _ (sz _ _ a6)) 1 _ rfl _ ⟨a8,by rw[length_map,length_map,length_take];lia,X _ _ ⟨s9.put Y,ae,an,?_⟩⟩⟩;rw[take_add_one,ab];simp
    .rintro y3 H7 ⟨s7,Y,_,rfl⟩
     rw[show ap.length=M.length from ad.length.symm,take_length]at Y;refine⟨D3,_,rfl,SqL.of Y,by rw[length_map];lia,λq2 hs cO cW f2=>?_⟩;have s8:=Same.new (o:=.lst (hs.map V.int)) f2;have h8:(upd H7 q2 (.lst (hs.map V.int))) q2=some (.lst (hs.map V.int)):=ae;generalize upd H7 q2 (.lst (hs.map V.int))=H8 at s8 h8;refine⟨_,rfl,.inl ⟨_,SqL.of (s8 _ _ (s7 _ _ h6)),λl9 f9=>?_⟩⟩;rw[j5,<- map_take];have s9:=Same.new (o:=.lst ((ls.take fe).map V.int)) f9;have h9:(upd H8 l9 (.lst ((ls.take fe).map V.int))) l9=some (.lst ((ls.take fe).map V.int)):=ae;generalize upd H8 l9 (.lst ((ls.take fe).map V.int))=O at s9 h9;refine⟨l9,_,rfl,SqL.of h9,?_⟩;have b4:=s4.trans (s5.trans (s6.trans (s7.trans (s8.trans s9))));refine⟨_,.inl (SqL.of (b4 _ _ a0)),?_⟩;refine⟨_,rfl,.inl ⟨_,SqL.of (s9 _ _ h8),λas cT=>?_⟩⟩;rw[show((z.length:Int) - (mo:Int))=(((ak f).length - mo:Nat):Int) by lia,i5,<- List.map_drop];have b6:=Same.new (o:=.lst ((hs.drop ((ak f).length - mo)).map V.int)) cT;have b2:(upd O as (.lst ((hs.drop ((ak f).length - mo)).map V.int))) as=some (.lst ((hs.drop ((ak f).length - mo)).map V.int)):=ae;generalize upd O as (.lst ((hs.drop ((ak f).length - mo)).map V.int))=H10 at b6 b2;refine⟨as,_,rfl,SqL.of b2,?_⟩;refine⟨bp _ _,λp5 cB=>?_⟩;refine q _ p5 (s2.trans (b4.trans (b6.trans (Same.new cB)))) ?_;have b5:(so (M.map (·.2))).length=(ak f).length:=by rw[oq,length_map,bl]
     rw[ef,<- hV cs cS,sE _ _ (by rw[b5];exact ca),b5,<- hV cO cW];exact ae
end
open Nm (dL fY gp bi eS fAt eL seat cU ent)
theorem mr{H:Hp}:∀(l:List Int),DVs K H (l.map PyData.int) (l.map V.int)
 | []=>by simp[DVs]
 | c::l=>by
  rw[map_cons,map_cons,DVs];exact⟨_,_,rfl,by simp[DV],mr l⟩
theorem mR:∀(l:List Int),PyData.canLayAll0 (l.map PyData.int)=true/\PyData.depthAll (l.map PyData.int)<=1
 | []=>by simp[PyData.canLayAll0,PyData.depthAll]
 | t::l=>by
  obtain⟨a,b⟩:=mR l;rw[map_cons,PyData.canLayAll0,PyData.depthAll,a,PyData.canLay0];refine⟨rfl,?_⟩;simp only[PyData.depth];lia
inductive spLFr(K:Frag)(vs:List V)(H:Hp)(Q:VK)(_E:XK):Prop
 | mk(v:V)(e:EF)(n:Nat)(h0:vs=[v])(h1:Mx K (Ex e) H n v)(h2:Q (.bl true) H):spLFr K vs H Q _E
def mD(e:EF)(n:Nat):PyData:=.list ((List.range n).map λi=>.list (pD ((List.range n).map (e i))))
theorem ot{K:Frag}{H:Hp}:∀(l:List PyData) (xs:List V),l.length=xs.length->(∀(i:Nat) d x,l[i]? = some d->xs[i]? = some x->DV K H d x)->DVs K H l xs
 | [],[],_,_=>by simp[DVs]
 | d::l,x::xs,h,hh=>by
  rw[DVs];exact⟨x,xs,rfl,hh 0 d x rfl rfl,ot l xs (by simpa using h) λi d x a b=>hh (i+1) d x (by simpa using a) (by simpa using b)⟩
theorem vA(f:Nat->List (Int×Int)):∀ l:List Nat,PyData.canLayAll0 (l.map λi=>.list (pD (f i)))=true/\PyData.depthAll (l.map λi=>.list (pD (f i)))<=5
 | []=>by simp[PyData.canLayAll0,PyData.depthAll]
 | i::l=>by
  obtain⟨a,d⟩:=vA f l;obtain⟨b,c⟩:=sx (f i);rw[map_cons,PyData.canLayAll0,PyData.depthAll,a,PyData.canLay0,b];refine⟨rfl,?_⟩;simp only[PyData.depth];lia
theorem vt{K:Frag}{e:EF}{H:Hp}{n:Nat}{v:V}(h:Mx K (Ex e) H n v):DV K H (mD e n) v:=by
 obtain⟨l,b,rfl,u,o,E⟩:=h;unfold mD;rw[DV];refine⟨l,b,rfl,SqL.of u,ot _ _ (by simp[o]) λi d x a c=>?_⟩;obtain⟨r,w,rfl,B,g,D⟩:=E i x c;have A:i<n:=by rw[<- o];exact(List.getElem?_eq_some_iff.mp c).1
 rw[List.getElem?_map,List.getElem?_range A]at a;obtain rfl:PyData.list (pD ((List.range n).map (e i)))=d:=Option.some.inj a;rw[DV];refine⟨r,w,rfl,SqL.of B,ot _ _ (by unfold pD;simp[g]) λj d y a s=>?_⟩;obtain⟨f,⟨p,rfl,F⟩,z⟩:=D j y s;have C:j<n:=by rw[<- g];exact(List.getElem?_eq_some_iff.mp s).1
 unfold pD at a;rw[List.getElem?_map,List.getElem?_map,List.getElem?_range C]at a;obtain rfl:=Option.some.inj a;cases z;exact lS F.sq
theorem je(e:EF)(n:Nat):SeqAt.shaped (mD e n)=true:=by
 obtain⟨a,b⟩:=vA (λi=>(List.range n).map (e i)) (List.range n);unfold SeqAt.shaped mD;rw[PyData.canLay0,a,Bool.true_and];refine decide_eq_true ?_;simp only[PyData.depth];lia
theorem pA{K:Frag}{e:EF}{H:Hp}{n:Nat}{v u:V}{Q:VK}(a:Mx K (Ex e) H n v)(h2:Mx K (Ex e) H n u)(q:Q (.bl false) H):rEqD K true v u H Q:=by
 refine⟨mD e n,mD e n,vt a,vt h2,je e n,je e n,?_⟩;rw[SeqAt.eqv_refl _ (SeqAt.canLay_of_shaped (je e n))];exact q
theorem sK{a:Ad}{H:Hp}{v:V}{pl:Pl}{S:(Pl->Bool)->Sp}{Q:VK}{l A s o i:XK}(e:Str)(g:∀ x:V,[(("many" : Str),x)].lookup e=none)(r:∀ x:V,[(("step" : Str),x)].lookup e=none)(j:∀ x:V,[(("inside" : Str),x)].lookup e=none)(w:∀ x y:V,[(("outside" : Str),x),(("inside" : Str),y)].lookup e=none)(f:IsPn a H v pl)(h:∀ c E,c pl=true->S c [v] H Q E) :
  (∃(b dx:Addr) (fs:List (Str×V)),v=.ref b/\H b=some (.ins a.c_r dx fs)/\fs.lookup e=none/\S jC [v] H Q l)\/(∃(b dx:Addr) (fs:List (Str×V)),v=.ref b/\H b=some (.ins a.c_e dx fs)/\fs.lookup e=none/\S d8 [v] H Q A)\/(∃(b dx:Addr) (fs:List (Str×V)),v=.ref b/\H b=some (.ins a.c_g dx fs)/\fs.lookup e=none/\S d6 [v] H Q s)\/(∃(b dx:Addr) (fs:List (Str×V)),v=.ref b/\H b=some (.ins a.c_j dx fs)/\fs.lookup e=none/\S ee [v] H Q o)\/(∃(b dx:Addr) (fs:List (Str×V)),v=.ref b/\H b=some (.ins a.c_a dx fs)/\fs.lookup e=none/\S cN [v] H Q i):=by
 cases pl with
 | few m=>obtain⟨x,dx,rfl,d⟩:=f;exact .inl ⟨x,dx,_,rfl,d,g _,h _ _ rfl⟩
 | start m=>obtain⟨x,dx,rfl,d⟩:=f;exact .inr (.inl ⟨x,dx,_,rfl,d,r _,h _ _ rfl⟩)
 | loose m=>obtain⟨x,dx,rfl,d⟩:=f;exact .inr (.inr (.inl ⟨x,dx,_,rfl,d,g _,h _ _ rfl⟩))
 | each p=>obtain⟨x,dx,u,rfl,d,_⟩:=f;exact .inr (.inr (.inr (.inl ⟨x,dx,_,rfl,d,j _,h _ _ rfl⟩)))
 | first p q=>obtain⟨x,dx,u,z,rfl,d,_⟩:=f;exact .inr (.inr (.inr (.inr ⟨x,dx,_,rfl,d,w _ _,h _ _ rfl⟩)))
abbrev lawK:Nat:=18
section
variable {P:Program}{w:World}{K:Frag}{mg:Str->Option Value}{base:Heap}{a:Ad}
theorem lR{H:Hp}{ns:List Int}{l r:Addr}{Q:VK}(b:H l=some (.tup (ns.map V.int)))(h2:H r=some (.tup (ns.map V.int)))(q:Q (.bl false) H):rEqD K true (.ref l) (.ref r) H Q:=by
 have a:SeqAt.shaped (.tuple (ns.map PyData.int))=true:=by
  obtain⟨c,d⟩:=mR ns;unfold SeqAt.shaped;rw[PyData.canLay0,c,Bool.true_and];refine decide_eq_true ?_;simp only[PyData.depth];lia
 refine⟨.tuple (ns.map PyData.int),.tuple (ns.map PyData.int),?_,?_,a,a,?_⟩
 .rw[DV];exact⟨l,_,rfl,SqT.of b,mr ns⟩
 .rw[DV];exact⟨r,_,rfl,SqT.of h2,mr ns⟩
 rw[SeqAt.eqv_refl _ (SeqAt.canLay_of_shaped a)];exact q
theorem wq(T:Txt K mg a):FnOk P w K mg base CX0 1 a.f_O a.d_O ["_law_found"] (spLFr K):=by
 refine T.F_O.ok sc_O (λG H Q E h=>?_) (λcdv A outer s H G Q E hr h=>?_)
 .obtain⟨v,e,n,rfl,_⟩:=h;rfl
 .obtain⟨v,e,n,rfl,⟨l,g,rfl,u,O,L⟩,q⟩:=h
  refine⟨_,(af (cb PassesOwn.never rfl (aP (vr 0)) (au (i:=1) sc_O.nd rfl (Or.inl rfl)) (af (aI (gU (dY (av cV rfl T.z_isinstance aX (aa (vr 1) (aa (eB (v:=.ty "list") rfl T.z_list eA rfl) ac))))) (ah (aw iF)) aD) (ah (cb PassesOwn.never rfl (aP (vr 1)) (au (i:=2) sc_O.nd rfl (Or.inl rfl)) (ah (aI (PW.pt (jr (gU (dY (av sr rfl T.z_isinstance aX (aa (vr 2) (aa (eB (v:=.ty "tuple") rfl T.z_tuple mY rfl) ac))))) (jr (aG nM (av aF rfl T.z_len aQ (aa (vr 2) ac)) ag (aB _)) (jr (dY (av cV rfl T.z_isinstance aX (aa (aq am (vr 2) ag (λ_ _=>rfl)) (aa (eB (v:=.ty "bool") rfl T.z_bool mw rfl) ac)))) (lJ (dY (av cV rfl T.z_isinstance aX (aa (aq am (vr 2) ag (λ_ _=>rfl)) (aa (eB (v:=.ty "bool") rfl T.z_bool mw rfl) ac))))))))) (ah (aw iF)) aD)))))) (ah (aw (av cV rfl T.z_isinstance aX (aa (vr 0) (aa (eB (v:=.ty "list") rfl T.z_list eA rfl) ac)))))),cL ?_⟩;intro N
  let Pw1:PvS:=λi b d=>d=H/\∃ x c,b=[some (.ref l),x,c]
  refine .inl ⟨⟨_,SqL.of u⟩,fg (K:=K) (a:=l) (xs:=g) Pw1 ⟨rfl,none,none,rfl⟩ (λi b d _ h=>by rw[h.1];exact SqL.of u) ?_ ?_⟩
  .rintro i y b d I ⟨rfl,x,c,rfl⟩
   obtain⟨r,D,rfl,C,S,F⟩:=L i y I;refine⟨_,_,_,true,rfl,rfl,.lst C,rfl,?_⟩
   let Pw2:PvS:=λi b B=>B=d/\∃ c,b=[some (.ref l),some (.ref r),c]
   refine .inl ⟨⟨_,SqL.of C⟩,fg (K:=K) (a:=r) (xs:=D) Pw2 ⟨rfl,_,rfl⟩ (λi b d _ h=>by rw[h.1];exact SqL.of C) ?_ ?_⟩
   .rintro j z b B M ⟨rfl,c,rfl⟩
    obtain⟨f,⟨p,rfl,o⟩,R⟩:=F j z M;refine⟨_,_,_,true,rfl,rfl,.inr ⟨p,_,rfl,rfl,o.sq⟩,rfl,?_⟩;refine⟨_,.inr o.sq,?_⟩;refine px0 o.sq ⟨_,_,_,false,rfl,rfl,.int _,rfl,?_⟩;refine px1 o.sq ⟨_,_,_,false,rfl,rfl,.int _,rfl,?_⟩;exact⟨rfl,_,rfl⟩
   .rintro b B ⟨rfl,c,rfl⟩
    exact⟨rfl,_,_,rfl⟩
  .rintro b d ⟨rfl,x,c,rfl⟩
   exact⟨_,_,_,true,rfl,rfl,.lst u,rfl,q⟩
end
open Nm (dL fY gp bi eS fAt eL seat cU ent)
theorem tw{a:Ad}{c:List Addr}{H:Hp}(b:∀ q∈tabs a,q.1∈c)(h:∀ P∈c,H P=some (.tbl #[])):TabsOk (tabs a) H:=λq d=>⟨#[],h _ (b q d),trivial,λ_ _=>.inl rfl⟩
theorem IsPn.lst{a:Ad}{H:Hp}{f:Addr}{xs ys:List V}(b:H f=some (.lst xs)):∀{pl:Pl}{v:V},IsPn a H v pl->IsPn a (upd H f (.lst ys)) v pl
 | .few m,v,⟨x,dx,e,h⟩=>⟨x,dx,e,rQ b h λ_ z=>(by cases z)⟩
 | .start m,v,⟨x,dx,e,h⟩=>⟨x,dx,e,rQ b h λ_ z=>(by cases z)⟩
 | .loose m,v,⟨x,dx,e,h⟩=>⟨x,dx,e,rQ b h λ_ z=>(by cases z)⟩
 | .each p,v,⟨x,dx,u,e,h,r⟩=>⟨x,dx,u,e,rQ b h (λ_ z=>(by cases z)),IsPn.lst b r⟩
 | .first p q,v,⟨x,dx,u,z,e,h,r1,r2⟩=>⟨x,dx,u,z,e,rQ b h (λ_ z=>(by cases z)),IsPn.lst b r1,IsPn.lst b r2⟩
section
variable {P:Program}{w:World}{K:Frag}{mg:Str->Option Value}{base:Heap}{a:Ad}
theorem ok_law{ts:List Addr}(T:Txt K mg a)(hB:Bm mg base)(et:∀ q∈tabs a,q.1∈ts):FnOk P w K mg base CX0 lawK a.f_au a.d_au ["_law_script"] (spLaw K ts):=by
 have c7:FnOk P w K mg base CX0 17 _ _ _ _:=(uA T).mono (by decide);have b4:FnOk P w K mg base CX0 17 _ _ _ _:=(mI T).mono (by decide);have eq:FnOk P w K mg base CX0 17 _ _ _ _:=(pS T 4 (Nat.le_refl _)).mono (by decide);have ej:FnOk P w K mg base CX0 17 _ _ _ _:=(wx T 3).mono (by decide);have d':FnOk P w K mg base CX0 17 _ _ _ _:=(qk T).mono (by decide);have eu:FnOk P w K mg base CX0 17 _ _ _ _:=(tT T 3).mono (by decide);have ea:FnOk P w K mg base CX0 17 _ _ _ _:=(va T 3 (by decide)).mono (by decide);have ed:FnOk P w K mg base CX0 17 _ _ _ _:=(uR T 3).mono (by decide);have ev:FnOk P w K mg base CX0 17 _ _ _ _:=(wq T).mono (by decide);have bl:FnOk P w K mg base CX0 17 _ _ _ _:=(lL T hB 3).mono (by decide);have a9:FnOk P w K mg base CX0 17 _ _ _ _:=(i3 T hB 3).mono (by decide);have b1:FnOk P w K mg base CX0 17 _ _ _ _:=(jh T hB 3).mono (by decide);have a5:FnOk P w K mg base CX0 17 _ _ _ _:=(lU T hB 3 (by decide)).1.mono (by decide);have a6:FnOk P w K mg base CX0 17 _ _ _ _:=(lU T hB 3 (by decide)).2.mono (by decide);have b3:FnOk P w K mg base CX0 17 _ _ _ _:=(kf T 3).mono (by decide);have a8:FnOk P w K mg base CX0 17 _ _ _ _:=(iA T 3).mono (by decide);have bo:FnOk P w K mg base CX0 17 _ _ _ _:=(ip T 3).mono (by decide);have b0:FnOk P w K mg base CX0 17 _ _ _ _:=(iz T 3).1.mono (by decide);have bm:FnOk P w K mg base CX0 17 _ _ _ _:=(iz T 3).2.mono (by decide);have eo:FnOk P w K mg base CX0 17 _ _ _ _:=(uJ T).mono (by decide);have ep:FnOk P w K mg base CX0 17 _ _ _ _:=(pV T).mono (by decide);have eE:FnOk P w K mg base CX0 17 _ _ _ _:=(qR T).mono (by decide);have ez:FnOk P w K mg base CX0 17 _ _ _ _:=(rz T).mono (by decide);have ey:FnOk P w K mg base CX0 17 _ _ _ _:=(qT T).mono (by decide);have dm:FnOk P w K mg base CX0 17 _ _ _ (spPO a):=xr T;refine T.F_au.ok sc_au (λvs H Q E h=>?_) (λcdv A outer s H vs Q E d h=>?_)
 .obtain⟨p,ns,rfl,_⟩:=h;rfl
 .obtain⟨p,ns,rfl,hS,hl,hP,q⟩:=h
  have ei:sizeLine=16777216:=sizeLine_eq;have hT:=tw et hP
  refine⟨_,(af (cb PassesOwn.never rfl (cZ rfl T.z_range (aa (av (i9 rfl) rfl T.z_max oC (aa ag (aa (av (cY rfl) rfl T.z_min gS (aa ag (aa (av aF rfl T.z_len aQ (aa (vr 0) ac)) ac))) ac))) ac)) (au (i:=1) sc_au.nd rfl (Or.inl rfl)) (af (ay (i:=2) sc_au.nd rfl (Or.inl rfl) (aj c7 d rfl T.m_at T.F_at.kp T.B_at .nil ai (aa (vr 0) (aa (vr 1) ac)))) (af (ay (i:=3) sc_au.nd rfl (Or.inl rfl) (aA bE (aA bE (aj b4 d rfl T.m_A T.F_A.kp T.B_A .nil ai (aa (vr 2) (aa ag ac))) (aA bF (aj b4 d rfl T.m_A T.F_A.kp T.B_A .nil ai (aa (vr 2) (aa ag ac))) (aA nA ag ag))) (aA bF (aj b4 d rfl T.m_A T.F_A.kp T.B_A .nil ai (aa (vr 2) (aa ag ac))) (aA nA ag ag)))) (af (ay (i:=4) sc_au.nd rfl (Or.inl rfl) (aj ej d rfl T.m_x T.F_x.kp T.B_x .nil ai (aa (aq am (aj eq d rfl T.m_V T.F_V.kp T.B_V .nil ai (aa (vr 3) (aa ag (aa iF ac)))) ag (λ_ _=>rfl)) ac))) (af (ay (i:=5) sc_au.nd rfl (Or.inl rfl) (aj d' d rfl T.m_S T.F_S.kp T.B_S .nil ai (aa (vr 2) ac))) (af (ay (i:=6) sc_au.nd rfl (Or.inl rfl) (aj eu d rfl T.m_L T.F_L.kp T.B_L .nil ai (aa (vr 4) ac))) (af (ay (i:=7) sc_au.nd rfl (Or.inl rfl) (aj d' d rfl T.m_S T.F_S.kp T.B_S .nil ai (aa (aj b4 d rfl T.m_A T.F_A.kp T.B_A .nil ai (aa (vr 2) (aa ag ac))) ac))) (af (aI (PW.pt (jr (aG (jo d.units) (PE.or (aC (vr 6) T.cl_r T.mt_i bl d T.B_i .nil ai (aa (vr 7) ac)) (PE.or (aC (vr 6) T.cl_e T.mt_c a9 d T.B_c .nil ai (aa (vr 7) ac)) (PE.or (aC (vr 6) T.cl_g T.mt_d b1 d T.B_d .nil ai (aa (vr 7) ac)) (PE.or (aC (vr 6) T.cl_j T.mt_b a5 d T.B_b .nil ai (aa (vr 7) ac)) (aC (vr 6) T.cl_a T.mt_l a6 d T.B_l .nil ai (aa (vr 7) ac)))))) (aj ea d rfl T.m_o T.F_o.kp T.B_o .nil ai (aa (vr 4) (aa (vr 7) ac))) (aB _)) (lJ (aG (jo d.units) (PE.or (aC (vr 6) T.cl_r T.mt_t b3 d T.B_t .nil ai (aa (vr 7) ac)) (PE.or (aC (vr 6) T.cl_e T.mt_p a8 d T.B_p .nil ai (aa (vr 7) ac)) (PE.or (aC (vr 6) T.cl_g T.mt_n bo d T.B_n .nil ai (aa (vr 7) ac)) (PE.or (aC (vr 6) T.cl_j T.mt_m b0 d T.B_m .nil ai (aa (vr 7) ac)) (aC (vr 6) T.cl_a T.mt_k bm d T.B_k .nil ai (aa (vr 7) ac)))))) (aj ed d rfl T.m_q T.F_q.kp T.B_q .nil ai (aa (vr 4) (aa (vr 7) ac))) (aB _))))) (ah (aw iF)) aD) (af (ay (i:=8) sc_au.nd rfl (Or.inl rfl) (PE.or (aC (vr 6) T.cl_r T.mt_i bl d T.B_i .nil ai (aa (b7 dr rfl T.z_list eA (aa (vr 5) ac)) ac)) (PE.or (aC (vr 6) T.cl_e T.mt_c a9 d T.B_c .nil ai (aa (b7 dr rfl T.z_list eA (aa (vr 5) ac)) ac)) (PE.or (aC (vr 6) T.cl_g T.mt_d b1 d T.B_d .nil ai (aa (b7 dr rfl T.z_list eA (aa (vr 5) ac)) ac)) (PE.or (aC (vr 6) T.cl_j T.mt_b a5 d T.B_b .nil ai (aa (b7 dr rfl T.z_list eA (aa (vr 5) ac)) ac)) (aC (vr 6) T.cl_a T.mt_l a6 d T.B_l .nil ai (aa (b7 dr rfl T.z_list eA (aa (vr 5) ac)) ac))))))) (af (ay (i:=9) sc_au.nd rfl (Or.inl rfl) (aj ea d rfl T.m_o T.F_o.kp T.B_o .nil ai (aa (vr 4) (aa (vr 5) ac)))) (af (aI (PW.pt (jr (gU (dY (aj ev d rfl T.m_O T.F_O.kp T.B_O .nil ai (aa (vr 8) ac)))) (jr (aG (jo d.units) (vr 8) (vr 9) (aB _)) (lJ (aG (jo d.units) (PE.or (aC (vr 6) T.cl_r T.mt_t b3 d T.B_t .nil ai (aa (vr 5) ac)) (PE.or (aC (vr 6) T.cl_e T.mt_p a8 d T.B_p .nil ai (aa (vr 5) ac)) (PE.or (aC (vr 6) T.cl_g T.mt_n bo d T.B_n .nil ai (aa (vr 5) ac)) (PE.or (aC (vr 6) T.cl_j T.mt_m b0 d T.B_m .nil ai (aa (vr 5) ac)) (aC (vr 6) T.cl_a T.mt_k bm d T.B_k .nil ai (aa (vr 5) ac)))))) (aj ed d rfl T.m_q T.F_q.kp T.B_q .nil ai (aa (vr 4) (aa (vr 5) ac))) (aB _)))))) (ah (aw iF)) aD) (af (aV (pe_m.clear (vr 8))) (af (ay (i:=10) sc_au.nd rfl (Or.inl rfl) (aj dm d rfl T.m_an T.F_an.kp T.B_an .nil ai (aa (PE.or (du (vr 6) T.cl_r T.mt_N eo d T.B_N .nil ai) (PE.or (du (vr 6) T.cl_e T.mt_B ep d T.B_B .nil ai) (PE.or (du (vr 6) T.cl_g T.mt_C eE d T.B_C .nil ai) (PE.or (du (vr 6) T.cl_j T.mt_R ez d T.B_R .nil ai) (du (vr 6) T.cl_a T.mt_M ey d T.B_M .nil ai))))) ac))) (ah (aI (PW.pt (jr (aG (jo d.units) (PE.or (aC (vr 10) T.cl_r T.mt_i bl d T.B_i .nil ai (aa (vr 5) ac)) (PE.or (aC (vr 10) T.cl_e T.mt_c a9 d T.B_c .nil ai (aa (vr 5) ac)) (PE.or (aC (vr 10) T.cl_g T.mt_d b1 d T.B_d .nil ai (aa (vr 5) ac)) (PE.or (aC (vr 10) T.cl_j T.mt_b a5 d T.B_b .nil ai (aa (vr 5) ac)) (aC (vr 10) T.cl_a T.mt_l a6 d T.B_l .nil ai (aa (vr 5) ac)))))) (vr 9) (aB _)) (jr (aG (jo d.units) (PE.or (aC (vr 6) T.cl_r T.mt_i bl d T.B_i .nil ai (aa (vr 5) ac)) (PE.or (aC (vr 6) T.cl_e T.mt_c a9 d T.B_c .nil ai (aa (vr 5) ac)) (PE.or (aC (vr 6) T.cl_g T.mt_d b1 d T.B_d .nil ai (aa (vr 5) ac)) (PE.or (aC (vr 6) T.cl_j T.mt_b a5 d T.B_b .nil ai (aa (vr 5) ac)) (aC (vr 6) T.cl_a T.mt_l a6 d T.B_l .nil ai (aa (vr 5) ac)))))) (vr 9) (aB _)) (lJ (aG (jo d.units) (PE.or (aC (vr 10) T.cl_r T.mt_t b3 d T.B_t .nil ai (aa (vr 5) ac)) (PE.or (aC (vr 10) T.cl_e T.mt_p a8 d T.B_p .nil ai (aa (vr 5) ac)) (PE.or (aC (vr 10) T.cl_g T.mt_n bo d T.B_n .nil ai (aa (vr 5) ac)) (PE.or (aC (vr 10) T.cl_j T.mt_m b0 d T.B_m .nil ai (aa (vr 5) ac)) (aC (vr 10) T.cl_a T.mt_k bm d T.B_k .nil ai (aa (vr 5) ac)))))) (PE.or (aC (vr 6) T.cl_r T.mt_t b3 d T.B_t .nil ai (aa (vr 5) ac)) (PE.or (aC (vr 6) T.cl_e T.mt_p a8 d T.B_p .nil ai (aa (vr 5) ac)) (PE.or (aC (vr 6) T.cl_g T.mt_n bo d T.B_n .nil ai (aa (vr 5) ac)) (PE.or (aC (vr 6) T.cl_j T.mt_m b0 d T.B_m .nil ai (aa (vr 5) ac)) (aC (vr 6) T.cl_a T.mt_k bm d T.B_k .nil ai (aa (vr 5) ac)))))) (aB _)))))) (ah (aw iF)) aD))))))))))))))) (ah (aw iF))),?_⟩
  refine⟨_,.inl hS,⟨_,_,rfl,⟨_,_,rfl,?_⟩⟩⟩;rw[length_map];refine⟨_,rfl,by split <;> split <;> lia,by split <;> split <;> lia,?_⟩
  let Pw1:PvS:=λi σ H'=>SameT H H'/\TabsOk (tabs a) H'/\i<=3/\∃(x1 x2 x3 x4 x5 x6 x7 x8 x9 c6:Option V),σ=[some (.ref p),x1,x2,x3,x4,x5,x6,x7,x8,x9,c6]
  refine fX Pw1 ⟨SameT.refl,hT,Nat.zero_le _,none,none,none,none,none,none,none,none,none,none,rfl⟩ ?_ ?_
  .rintro i σ H' hi ⟨t1,c3,e2,x1,x2,x3,x4,x5,x6,x7,x8,x9,c6,rfl⟩
   have e3:i<3:=by split at hi <;> (try split at hi) <;> lia
   have dp:SqL K H' p (ns.map V.int):=hS.imp (λz=>z.imp (λe=>t1.at e) (λ⟨o,e⟩=>⟨o,t1.at e⟩)) id;refine⟨p,ns,0+(i:Int),rfl,dp,hl,by lia,by lia,?_⟩;generalize oK ns (0+(i:Int))=c;refine⟨c,0,rfl,by decide,by decide,λn0 e0 e5=>?_⟩;refine⟨c,2,rfl,by decide,by decide,λn2 eH e9=>?_⟩;refine⟨cw,crB (by decide +kernel) (by decide +kernel),?_⟩;refine⟨c,3,rfl,by decide,by decide,λn3 es e4=>?_⟩;refine⟨cw,cmB (m:=50) (n:=70) (by unfold Bt;lia) (by unfold Bt;decide +kernel),?_⟩;have eg:0<=n0+n2*2 ^ Int.toNat 40+n3*2 ^ Int.toNat 64:=Int.add_nonneg (Int.add_nonneg e0 (Int.mul_nonneg eH (by decide +kernel))) (Int.mul_nonneg es (by decide +kernel));refine⟨_,0,rfl,by decide,by decide,eg,λH2 t2 v2 eD N2 s2 ds eT cs ec=>?_⟩;refine ixT ds 0 _ rfl _ ⟨v2,eD,rfl,cs,ec,Nat.le_refl _,λH3 v3 l s3 a2 M=>?_⟩;refine⟨c,rfl,λH4 F I O s4 ef hC hc=>?_⟩;refine⟨v3,l,rfl,a2.same s4,M,λH5 u s5 hu=>?_⟩;refine⟨c,50,rfl,by decide,by decide,λnb _ _=>⟨nb,rfl,λH6 rb mb xb s6 hrb hCb hcb=>?_⟩⟩;have a':=s5.trans s6;have c1:=s4.trans a';have cO:=s2.trans (s3.trans c1);have dl:=c3.same cO;have t6:=t1.trans cO.t;have a7:=a2.same c1;have ad:=hu.n (cf s6.t);have b9:=a' _ _ ef;have d1:=hC.tk a'.tk;clear hu ef hC a2 cs ds ec eT dp cO c1 a' s2 s3 s4 s5 s6 t1 c3
   refine cx (S:=spMat a K 3) "matrix" (λ_=>rfl) (λ_=>rfl) (λ_=>rfl) (λ_ _=>rfl) (λP=>P (.ref rb) H6) ad λk E hk=>⟨3,u,l,rb,xb,mb,rfl,Nat.le_refl _,hk,M,ad,hrb,hCb,hcb,dl,λH7 p7 rows7 t7 hT7 _ _ _ hM7=>?_⟩
   refine⟨3,v3,rb,xb,mb,l,rfl,Nat.le_refl _,M,a7.n (cf t7),t7.at hrb,hCb.tk (SameT.tk t7),hcb,λH8 p8 ew s8 _ _ _ dK=>?_⟩;refine pA (hM7.q (SQ.of s8.t)) dK ?_;have t8:=t7.trans s8.t;have cW:=ad.n (cf t8)
   refine cx (S:=spBo a 3) "bounds" (λ_=>rfl) (λ_=>rfl) (λ_=>rfl) (λ_ _=>rfl) (λP=>P (.ref rb) H8) cW λk E hk=>⟨3,u,l,rb,xb,mb,rfl,Nat.le_refl _,hk,M,cW,t8.at hrb,hCb.tk (SameT.tk t8),hcb,λH9 p9 s9 h9=>?_⟩
   have t9:=t8.trans s9.t;refine⟨3,v3,rb,xb,mb,l,rfl,Nat.le_refl _,M,a7.n (cf t9),t9.at hrb,hCb.tk (SameT.tk t9),hcb,λc5 e6 b2 dx=>?_⟩;refine lR (ns:=[(Nm.lim l mb).1,(Nm.lim l mb).2]) (b2 _ _ h9) dx ?_;have Y:=t9.trans b2.t;have cB:=((hT7.same s8).same s9).same b2;have C:=ad.n (cf Y);have G:=a7.n (cf Y);have f:=Y.at b9;have v:=d1.tk (SameT.tk Y);have t0:=t6.trans Y;clear cW ad a7 b9 d1 Y hT7 s8 s9 b2 t9 t8 t7 t6 hM7 dK h9 dx dl hrb hCb hcb
   refine cx (S:=spMat a K 3) "matrix" (λ_=>rfl) (λ_=>rfl) (λ_=>rfl) (λ_ _=>rfl) (λP=>rListOf K [.ref F] c5 P) C λk E hk=>⟨F,O,rfl,.inl (SqL.of f),λlh hlh=>?_⟩
   have D:=Same.new (o:=.lst O) hlh;have cS:=ae (H:=c5) (a:=lh) (o:=.lst O);generalize upd c5 lh (.lst O)=H11 at D cS;refine⟨3,u,l,lh,O,I,rfl,Nat.le_refl _,hk,M,C.n (cf D.t),cS,v.tk D.tk,hc,cB.same D,λe1 N em eb b5 cT bN eG dT=>?_⟩;have t1:=D.t.trans eb;have f0:H=H:=rfl;refine⟨3,v3,F,O,I,l,rfl,Nat.le_refl _,M,G.n (cf t1),t1.at f,v.tk (SameT.tk t1),hc,λel pd c4 ab c0 eh dd c2=>?_⟩;have L:=dT.q (SQ.of ab.t);refine⟨.ref N,_,_,rfl,L,?_⟩;refine pA L c2 ?_;have a0:=t1.trans ab.t;have ap:=C.n (cf a0)
   refine cx (S:=spBo a 3) "bounds" (λ_=>rfl) (λ_=>rfl) (λ_=>rfl) (λ_ _=>rfl) (λP=>P (.ref F) el) ap λk E hk=>⟨3,u,l,F,O,I,rfl,Nat.le_refl _,hk,M,ap,a0.at f,v.tk (SameT.tk a0),hc,λH14 p14 s14 h14=>?_⟩
   have as:=a0.trans s14.t;refine⟨3,v3,F,O,I,l,rfl,Nat.le_refl _,M,G.n (cf as),as.at f,v.tk (SameT.tk as),hc,λy e7 a4 c'=>?_⟩;refine lR (ns:=[(Nm.lim l I).1,(Nm.lim l I).2]) (a4 _ _ h14) c' ?_;have a1:=as.trans a4.t;have j:=s14.trans a4;have g:=(ab.trans j) _ _ bN;refine⟨.inl ⟨rfl,_,SqL.of g⟩,N,_,rfl,rfl,g,?_⟩;have b6:=j _ _ eh;have dt:pd≠N:=λz=>by rw[z,bN]at c0;cases c0
   have dv:∀ r,V.ref r∈c4->r≠N:=λr d z=>by have:=dd r d;rw[z,bN]at this;cases this
   have al:=c2.q (SQ.of j.t)
   have a3:Mx K (Ex (ent l I)) (upd y N (.lst [])) I.length (.ref pd):=(al.cut g λl' ex e e'=>by cases e;rw[b6]at e';cases e';exact⟨dt,dv⟩).q λb o _ e=>by
    by_cases hb:b=N
    .rw[hb,dg]at e;cases e
    .rw[dk hb]at e
     rw[az hb];exact e
   have de:TK y (upd y N (.lst [])):=TK.lst g;have c9:F≠N:=λz=>by have:=D _ _ f;rw[z,cT]at this;cases this
   have an:(upd y N (.lst [])) F=some (.lst O):=by rw[az c9];exact a1.at f
   have ct:CrAt (upd y N (.lst [])) I O:=(v.tk (SameT.tk a1)).tk de;have W:IsPn a (upd y N (.lst [])) u l:=(C.n (cf a1)).lst g;have d2:H N=none:=(t0.trans D.t).free cT;have dV:SameT H (upd y N (.lst [])):=(t0.trans a1).put d2;have cC:TabsOk (tabs a) (upd y N (.lst [])):=((b5.same ab).same j).put (λps z=>by rw[g]at z;cases z) λφ z=>by rw[g]at z;cases z
   clear c2 al b6 eh c0 dd dt dv de c9 g bN cT eG dT L h14 c' cS b5 ab s14 a4 j a0 as a1 t1 eb D hlh ap C G f v t0 d2 f0 cB;generalize upd y N (.lst [])=H16 at a3 an ct W dV cC
   refine sK (S:=spTxt a) "text" (λ_=>rfl) (λ_=>rfl) (λ_=>rfl) (λ_ _=>rfl) W λk E hk=>⟨u,l,rfl,hk,M,W,λH17 s17=>?_⟩
   refine⟨l,rfl,M,λek dy en aS=>?_⟩;have Z:=s17.trans en;have co:=W.n (cf Z.t);have c8:=cC.same Z;have x:=Z _ _ an;have X:=ct.tk Z.tk;have ch:=a3.q (SQ.of Z.t)
   refine cx (S:=spMat a K 3) "matrix" (λ_=>rfl) (λ_=>rfl) (λ_=>rfl) (λ_ _=>rfl) (λP=>P (.ref F) ek) aS λk E hk=>⟨3,dy,l,F,O,I,rfl,Nat.le_refl _,hk,M,aS,x,X,hc,c8,λH19 p19 rows19 t19 hT19 _ _ _ hM19=>?_⟩
   refine pA hM19 (ch.q (SQ.of t19)) ?_;have ca:=co.n (cf t19)
   refine cx (S:=spMat a K 3) "matrix" (λ_=>rfl) (λ_=>rfl) (λ_=>rfl) (λ_ _=>rfl) (λP=>P (.ref F) H19) ca λk E hk=>⟨3,u,l,F,O,I,rfl,Nat.le_refl _,hk,M,ca,t19.at x,X.tk (SameT.tk t19),hc,hT19,λH20 p20 rows20 t20 hT20 _ _ _ hM20=>?_⟩
   have B:=t19.trans t20;refine pA hM20 (ch.q (SQ.of B)) ?_;have cc:=aS.n (cf B)
   refine cx (S:=spBo a 3) "bounds" (λ_=>rfl) (λ_=>rfl) (λ_=>rfl) (λ_ _=>rfl) (λP=>P (.ref F) H20) cc λk E hk=>⟨3,dy,l,F,O,I,rfl,Nat.le_refl _,hk,M,cc,B.at x,X.tk (SameT.tk B),hc,λH21 p21 s21 h21=>?_⟩
   have R:=B.trans s21.t;have b':=co.n (cf R)
   refine cx (S:=spBo a 3) "bounds" (λ_=>rfl) (λ_=>rfl) (λ_=>rfl) (λ_ _=>rfl) (λP=>P (.ref F) H21) b' λk E hk=>⟨3,u,l,F,O,I,rfl,Nat.le_refl _,hk,M,b',R.at x,X.tk (SameT.tk R),hc,λH22 p22 s22 h22=>?_⟩
   refine lR (ns:=[(Nm.lim l I).1,(Nm.lim l I).2]) (s22 _ _ h21) h22 ?_;exact⟨dV.trans (Z.t.trans (R.trans s22.t)),(hT20.same s21).same s22,by lia,_,_,_,_,_,_,_,_,_,_,rfl⟩
  .rintro σ H' ⟨t1,c3,_,_⟩
   exact q _
end
end My
namespace My
open PySem L2
abbrev fnS(n q:Str)(st:Stmt):=fnOf n q (iE st) (fF st) (ar st) .none
abbrev fnT(n:Str)(st:Stmt):=fnS n n st
theorem w1{b:Type}{p:List b->Prop}(h:∀ a,p [a]):∀ us:List b,us.length=1->p us
 | [a],_=>h a
theorem w2{c:Type}{p:List c->Prop}(h:∀ a b,p [a,b]):∀ us:List c,us.length=2->p us
 | [a,b],_=>h a b
theorem w3{d:Type}{p:List d->Prop}(h:∀ a b c,p [a,b,c]):∀ us:List d,us.length=3->p us
 | [a,b,c],_=>h a b c
theorem w4{e:Type}{p:List e->Prop}(h:∀ a b c d,p [a,b,c,d]):∀ us:List e,us.length=4->p us
 | [a,b,c,d],_=>h a b c d
theorem us0{a:Type}:∀{us:List a},us.length=0->us=[]
 | [],_=>rfl
theorem txt_mk{K:Frag}{h:Heap}{mg:Str->Option Value}{f0 f1 f2 f3 f4 f5 f6 f7 f8 f9 f10 f11 f12 f13 f14 f15 f16 f17 f18 f19 f20 f21 f22 f23 f24 f25 f26 f27 f28 f29 f30 f31 f32 f33 f34 f35 f36 f37 f38 f39 f40 f41 f42 f43 f44 f45 f46 k_NOUGHT k_WHOLE k_TWICE k_COUNTED c_al c_G i_G c_ar c_aq c_r i_r c_e i_e c_g i_g c_j i_j c_a i_a c_s i_s x_i x_c x_d x_b x_l x_t x_p x_n x_m x_k x_N x_B x_C x_R x_M x_P lc_i lp_i lc_c lp_c lc_d lp_d lc_h lp_h lc_b lp_b:Addr}{od0 an0 od1 an1 od2 an2 od3 an3 od4 an4 od5 an5 od6 an6 od7 an7 od8 an8 od9 an9 od10 an10 od11 an11 od12 an12 od13 an13 od14 an14 od15 an15 od16 an16 od17 an17 od18 an18 od19 an19 od20 an20 od21 an21 od22 an22 od23 an23 od24 an24 od25 an25 od26 an26 od27 an27 od28 an28 od29 an29 od30 an30 od31 an31 od32 an32 od33 an33 od34 an34 od35 an35 od36 an36 od37 an37 od38 an38 od39 an39 od40 an40 od41 an41 od42 an42 od43 an43 od44 an44 od45 an45 od46 an46 od_12 an_12 od_6 an_6 od_13 an_13 od_e an_e od_2 an_2 od_a an_a od_0 an_0 od_8 an_8 od_15 an_15 od_10 an_10 od_4 an_4 od_c an_c od_7 an_7 od_14 an_14 od_f an_f od_3 an_3 od_b an_b od_9 an_9 od_16 an_16 od_11 an_11 od_5 an_5 od_d an_d od_1 an_1 lod_8 lod_15 lod_10 lod_17 lod_4:Option Addr}{sl0 sl1 sl2 sl3 sl4 sl5 sl6 sl7 sl8 sl9 sl10 sl11 sl12 sl13 sl14 sl15 sl16 sl17 sl18 sl19 sl20 sl21 sl22 sl23 sl24 sl25 sl26 sl27 sl28 sl29 sl30 sl31 sl32 sl33 sl34 sl35 sl36 sl37 sl38 sl39 sl40 sl41 sl42 sl43 sl44 sl45 sl46 sl_12 sl_6 sl_13 sl_e sl_2 sl_a sl_0 sl_8 sl_15 sl_10 sl_4 sl_c sl_7 sl_14 sl_f sl_3 sl_b sl_9 sl_16 sl_11 sl_5 sl_d sl_1 lsl_8 lsl_15 lsl_10 lsl_17 lsl_4:Array (Option Value)}{oc0 kV0 dc0 pm0 cd0 ct0 oc1 kV1 dc1 pm1 cd1 ct1 oc2 kV2 dc2 pm2 cd2 ct2 oc3 kV3 dc3 pm3 cd3 ct3 oc4 kV4 dc4 pm4 cd4 ct4 oc5 kV5 dc5 pm5 cd5 ct5 oc6 kV6 dc6 pm6 cd6 ct6 oc7 kV7 dc7 pm7 cd7 ct7 oc8 kV8 dc8 pm8 cd8 ct8 oc9 kV9 dc9 pm9 cd9 ct9 oc10 kV10 dc10 pm10 cd10 ct10 oc11 kV11 dc11 pm11 cd11 ct11 oc12 kV12 dc12 pm12 cd12 ct12 oc13 kV13 dc13 pm13 cd13 ct13 oc14 kV14 dc14 pm14 cd14 ct14 oc15 kV15 dc15 pm15 cd15 ct15 oc16 kV16 dc16 pm16 cd16 ct16 oc17 kV17 dc17 pm17 cd17 ct17 oc18 kV18 dc18 pm18 cd18 ct18 oc19 kV19 dc19 pm19 cd19 ct19 oc20 kV20 dc20 pm20 cd20 ct20 oc21 kV21 dc21 pm21 cd21 ct21 oc22 kV22 dc22 pm22 cd22 ct22 oc23 kV23 dc23 pm23 cd23 ct23 oc24 kV24 dc24 pm24 cd24 ct24 oc25 kV25 dc25 pm25 cd25 ct25 oc26 kV26 dc26 pm26 cd26 ct26 oc27 kV27 dc27 pm27 cd27 ct27 oc28 kV28 dc28 pm28 cd28 ct28 oc29 kV29 dc29 pm29 cd29 ct29 oc30 kV30 dc30 pm30 cd30 ct30 oc31 kV31 dc31 pm31 cd31 ct31 oc32 kV32 dc32 pm32 cd32 ct32 oc33 kV33 dc33 pm33 cd33 ct33 oc34 kV34 dc34 pm34 cd34 ct34 oc35 kV35 dc35 pm35 cd35 ct35 oc36 kV36 dc36 pm36 cd36 ct36 oc37 kV37 dc37 pm37 cd37 ct37 oc38 kV38 dc38 pm38 cd38 ct38 oc39 kV39 dc39 pm39 cd39 ct39 oc40 kV40 dc40 pm40 cd40 ct40 oc41 kV41 dc41 pm41 cd41 ct41 oc42 kV42 dc42 pm42 cd42 ct42 oc43 kV43 dc43 pm43 cd43 ct43 oc44 kV44 dc44 pm44 cd44 ct44 oc45 kV45 dc45 pm45 cd45 ct45 oc46 kV46 dc46 pm46 cd46 ct46 u0 u1 u2 u3 u4 oc_12 kV_12 dc_12 pm_12 cd_12 ct_12 oc_6 kV_6 dc_6 pm_6 cd_6 ct_6 oc_13 kV_13 dc_13 pm_13 cd_13 ct_13 oc_e kV_e dc_e pm_e cd_e ct_e oc_2 kV_2 dc_2 pm_2 cd_2 ct_2 oc_a kV_a dc_a pm_a cd_a ct_a oc_0 kV_0 dc_0 pm_0 cd_0 ct_0 oc_8 kV_8 dc_8 pm_8 cd_8 ct_8 oc_15 kV_15 dc_15 pm_15 cd_15 ct_15 oc_10 kV_10 dc_10 pm_10 cd_10 ct_10 oc_4 kV_4 dc_4 pm_4 cd_4 ct_4 oc_c kV_c dc_c pm_c cd_c ct_c oc_7 kV_7 dc_7 pm_7 cd_7 ct_7 oc_14 kV_14 dc_14 pm_14 cd_14 ct_14 oc_f kV_f dc_f pm_f cd_f ct_f oc_3 kV_3 dc_3 pm_3 cd_3 ct_3 oc_b kV_b dc_b pm_b cd_b ct_b oc_9 kV_9 dc_9 pm_9 cd_9 ct_9 oc_16 kV_16 dc_16 pm_16 cd_16 ct_16 oc_11 kV_11 dc_11 pm_11 cd_11 ct_11 oc_5 kV_5 dc_5 pm_5 cd_5 ct_5 oc_d kV_d dc_d pm_d cd_d ct_d oc_1 kV_1 dc_1 pm_1 cd_1 ct_1 lo_8 lo_15 lo_10 lo_17 lo_4:Value}{lvs_8 lvs_15 lvs_10 lvs_17 lvs_4:Array Value}(X:K.In h) (G:h.Ns mainGlobals mg)
  (a0:nsIn K mainGlobals "greatest_divisor" = some (some (.ref f0))) (l0:K.lookup f0=some ⟨oc0,od0,.func (fnT "greatest_divisor" bc kV0 dc0 pm0 an0 cd0 ct0),sl0⟩) (c0:codeIn K cd0 "greatest_divisor" = true) (k0:keepIn K (.ref f0)=true)
  (a1:nsIn K mainGlobals "share" = some (some (.ref f1))) (l1:K.lookup f1=some ⟨oc1,od1,.func (fnT "share" ia kV1 dc1 pm1 an1 cd1 ct1),sl1⟩) (c1:codeIn K cd1 "share" = true) (k1:keepIn K (.ref f1)=true)
  (a2:nsIn K mainGlobals "times" = some (some (.ref f2))) (l2:K.lookup f2=some ⟨oc2,od2,.func (fnT "times" hJ kV2 dc2 pm2 an2 cd2 ct2),sl2⟩) (c2:codeIn K cd2 "times" = true) (k2:keepIn K (.ref f2)=true)
  (a3:nsIn K mainGlobals "is_whole" = some (some (.ref f3))) (l3:K.lookup f3=some ⟨oc3,od3,.func (fnT "is_whole" dA kV3 dc3 pm3 an3 cd3 ct3),sl3⟩) (c3:codeIn K cd3 "is_whole" = true) (k3:keepIn K (.ref f3)=true)
  (a4:nsIn K mainGlobals "is_made_of" = some (some (.ref f4))) (l4:K.lookup f4=some ⟨oc4,od4,.func (fnT "is_made_of" cE kV4 dc4 pm4 an4 cd4 ct4),sl4⟩) (c4:codeIn K cd4 "is_made_of" = true) (k4:keepIn K (.ref f4)=true)
  (a5:nsIn K mainGlobals "number_of" = some (some (.ref f5))) (l5:K.lookup f5=some ⟨oc5,od5,.func (fnT "number_of" dj kV5 dc5 pm5 an5 cd5 ct5),sl5⟩) (c5:codeIn K cd5 "number_of" = true) (k5:keepIn K (.ref f5)=true)
  (a6:nsIn K mainGlobals "groups_of" = some (some (.ref f6))) (l6:K.lookup f6=some ⟨oc6,od6,.func (fnT "groups_of" di kV6 dc6 pm6 an6 cd6 ct6),sl6⟩) (c6:codeIn K cd6 "groups_of" = true) (k6:keepIn K (.ref f6)=true)
  (a7:nsIn K mainGlobals "wished" = some (some (.ref f7))) (l7:K.lookup f7=some ⟨oc7,od7,.func (fnT "wished" gh kV7 dc7 pm7 an7 cd7 ct7),sl7⟩) (c7:codeIn K cd7 "wished" = true) (k7:keepIn K (.ref f7)=true)
  (a8:nsIn K mainGlobals "wished_of_some" = some (some (.ref f8))) (l8:K.lookup f8=some ⟨oc8,od8,.func (fnT "wished_of_some" bv kV8 dc8 pm8 an8 cd8 ct8),sl8⟩) (c8:codeIn K cd8 "wished_of_some" = true) (k8:keepIn K (.ref f8)=true)
  (a9:nsIn K mainGlobals "wished_by" = some (some (.ref f9))) (l9:K.lookup f9=some ⟨oc9,od9,.func (fnT "wished_by" dc kV9 dc9 pm9 an9 cd9 ct9),sl9⟩) (c9:codeIn K cd9 "wished_by" = true) (k9:keepIn K (.ref f9)=true)
  (a10:nsIn K mainGlobals "matrix_by" = some (some (.ref f10))) (l10:K.lookup f10=some ⟨oc10,od10,.func (fnT "matrix_by" df kV10 dc10 pm10 an10 cd10 ct10),sl10⟩) (c10:codeIn K cd10 "matrix_by" = true) (k10:keepIn K (.ref f10)=true)
  (a11:nsIn K mainGlobals "matrix_row" = some (some (.ref f11))) (l11:K.lookup f11=some ⟨oc11,od11,.func (fnT "matrix_row" cG kV11 dc11 pm11 an11 cd11 ct11),sl11⟩) (c11:codeIn K cd11 "matrix_row" = true) (k11:keepIn K (.ref f11)=true)
  (a12:nsIn K mainGlobals "need_number" = some (some (.ref f12))) (l12:K.lookup f12=some ⟨oc12,od12,.func (fnT "need_number" ci kV12 dc12 pm12 an12 cd12 ct12),sl12⟩) (c12:codeIn K cd12 "need_number" = true) (k12:keepIn K (.ref f12)=true)
  (a13:nsIn K mainGlobals "few_chance" = some (some (.ref f13))) (l13:K.lookup f13=some ⟨oc13,od13,.func (fnT "few_chance" cy kV13 dc13 pm13 an13 cd13 ct13),sl13⟩) (c13:codeIn K cd13 "few_chance" = true) (k13:keepIn K (.ref f13)=true)
  (a14:nsIn K mainGlobals "parted" = some (some (.ref f14))) (l14:K.lookup f14=some ⟨oc14,od14,.func (fnT "parted" gq kV14 dc14 pm14 an14 cd14 ct14),sl14⟩) (c14:codeIn K cd14 "parted" = true) (k14:keepIn K (.ref f14)=true)
  (a15:nsIn K mainGlobals "crowd_of_groups" = some (some (.ref f15))) (l15:K.lookup f15=some ⟨oc15,od15,.func (fnT "crowd_of_groups" bg kV15 dc15 pm15 an15 cd15 ct15),sl15⟩) (c15:codeIn K cd15 "crowd_of_groups" = true) (k15:keepIn K (.ref f15)=true)
  (a16:nsIn K mainGlobals "spots_of" = some (some (.ref f16))) (l16:K.lookup f16=some ⟨oc16,od16,.func (fnT "spots_of" dJ kV16 dc16 pm16 an16 cd16 ct16),sl16⟩) (c16:codeIn K cd16 "spots_of" = true) (k16:keepIn K (.ref f16)=true)
  (a17:nsIn K mainGlobals "groups_matrix" = some (some (.ref f17))) (l17:K.lookup f17=some ⟨oc17,od17,.func (fnT "groups_matrix" bh kV17 dc17 pm17 an17 cd17 ct17),sl17⟩) (c17:codeIn K cd17 "groups_matrix" = true) (k17:keepIn K (.ref f17)=true)
  (a18:nsIn K mainGlobals "spots_chance" = some (some (.ref f18))) (l18:K.lookup f18=some ⟨oc18,od18,.func (fnT "spots_chance" bU kV18 dc18 pm18 an18 cd18 ct18),sl18⟩) (c18:codeIn K cd18 "spots_chance" = true) (k18:keepIn K (.ref f18)=true)
  (a19:nsIn K mainGlobals "text_of" = some (some (.ref f19))) (l19:K.lookup f19=some ⟨oc19,od19,.func (fnT "text_of" eO kV19 dc19 pm19 an19 cd19 ct19),sl19⟩) (c19:codeIn K cd19 "text_of" = true) (k19:keepIn K (.ref f19)=true)
  (a20:nsIn K mainGlobals "plan_of" = some (some (.ref f20))) (l20:K.lookup f20=some ⟨oc20,od20,.func (fnT "plan_of" eR kV20 dc20 pm20 an20 cd20 ct20),sl20⟩) (c20:codeIn K cd20 "plan_of" = true) (k20:keepIn K (.ref f20)=true)
  (a21:nsIn K mainGlobals "plan_at" = some (some (.ref f21))) (l21:K.lookup f21=some ⟨oc21,od21,.func (fnT "plan_at" eK kV21 dc21 pm21 an21 cd21 ct21),sl21⟩) (c21:codeIn K cd21 "plan_at" = true) (k21:keepIn K (.ref f21)=true)
  (a22:nsIn K mainGlobals "word_at" = some (some (.ref f22))) (l22:K.lookup f22=some ⟨oc22,od22,.func (fnT "word_at" eW kV22 dc22 pm22 an22 cd22 ct22),sl22⟩) (c22:codeIn K cd22 "word_at" = true) (k22:keepIn K (.ref f22)=true)
  (a23:nsIn K mainGlobals "behind_word" = some (some (.ref f23))) (l23:K.lookup f23=some ⟨oc23,od23,.func (fnT "behind_word" cg kV23 dc23 pm23 an23 cd23 ct23),sl23⟩) (c23:codeIn K cd23 "behind_word" = true) (k23:keepIn K (.ref f23)=true)
  (a24:nsIn K mainGlobals "counted_at" = some (some (.ref f24))) (l24:K.lookup f24=some ⟨oc24,od24,.func (fnT "counted_at" cJ kV24 dc24 pm24 an24 cd24 ct24),sl24⟩) (c24:codeIn K cd24 "counted_at" = true) (k24:keepIn K (.ref f24)=true)
  (a25:nsIn K mainGlobals "counted_plan" = some (some (.ref f25))) (l25:K.lookup f25=some ⟨oc25,od25,.func (fnT "counted_plan" bW kV25 dc25 pm25 an25 cd25 ct25),sl25⟩) (c25:codeIn K cd25 "counted_plan" = true) (k25:keepIn K (.ref f25)=true)
  (a26:nsIn K mainGlobals "each_at" = some (some (.ref f26))) (l26:K.lookup f26=some ⟨oc26,od26,.func (fnT "each_at" eQ kV26 dc26 pm26 an26 cd26 ct26),sl26⟩) (c26:codeIn K cd26 "each_at" = true) (k26:keepIn K (.ref f26)=true)
  (a27:nsIn K mainGlobals "first_at" = some (some (.ref f27))) (l27:K.lookup f27=some ⟨oc27,od27,.func (fnT "first_at" dQ kV27 dc27 pm27 an27 cd27 ct27),sl27⟩) (c27:codeIn K cd27 "first_at" = true) (k27:keepIn K (.ref f27)=true)
  (a28:nsIn K mainGlobals "bracketed_at" = some (some (.ref f28))) (l28:K.lookup f28=some ⟨oc28,od28,.func (fnT "bracketed_at" bX kV28 dc28 pm28 an28 cd28 ct28),sl28⟩) (c28:codeIn K cd28 "bracketed_at" = true) (k28:keepIn K (.ref f28)=true)
  (a29:nsIn K mainGlobals "_law_cell" = some (some (.ref f29))) (l29:K.lookup f29=some ⟨oc29,od29,.func (fnT "_law_cell" fV kV29 dc29 pm29 an29 cd29 ct29),sl29⟩) (c29:codeIn K cd29 "_law_cell" = true) (k29:keepIn K (.ref f29)=true)
  (a30:nsIn K mainGlobals "_law_mixed" = some (some (.ref f30))) (l30:K.lookup f30=some ⟨oc30,od30,.func (fnT "_law_mixed" eV kV30 dc30 pm30 an30 cd30 ct30),sl30⟩) (c30:codeIn K cd30 "_law_mixed" = true) (k30:keepIn K (.ref f30)=true)
  (a31:nsIn K mainGlobals "_law_tree" = some (some (.ref f31))) (l31:K.lookup f31=some ⟨oc31,od31,.func (fnT "_law_tree" fW kV31 dc31 pm31 an31 cd31 ct31),sl31⟩) (c31:codeIn K cd31 "_law_tree" = true) (k31:keepIn K (.ref f31)=true)
  (a32:nsIn K mainGlobals "_law_lowest" = some (some (.ref f32))) (l32:K.lookup f32=some ⟨oc32,od32,.func (fnT "_law_lowest" dC kV32 dc32 pm32 an32 cd32 ct32),sl32⟩) (c32:codeIn K cd32 "_law_lowest" = true) (k32:keepIn K (.ref f32)=true)
  (a33:nsIn K mainGlobals "_law_wished" = some (some (.ref f33))) (l33:K.lookup f33=some ⟨oc33,od33,.func (fnT "_law_wished" dD kV33 dc33 pm33 an33 cd33 ct33),sl33⟩) (c33:codeIn K cd33 "_law_wished" = true) (k33:keepIn K (.ref f33)=true)
  (a34:nsIn K mainGlobals "_law_groups" = some (some (.ref f34))) (l34:K.lookup f34=some ⟨oc34,od34,.func (fnT "_law_groups" dN kV34 dc34 pm34 an34 cd34 ct34),sl34⟩) (c34:codeIn K cd34 "_law_groups" = true) (k34:keepIn K (.ref f34)=true)
  (a35:nsIn K mainGlobals "_law_outer" = some (some (.ref f35))) (l35:K.lookup f35=some ⟨oc35,od35,.func (fnT "_law_outer" eP kV35 dc35 pm35 an35 cd35 ct35),sl35⟩) (c35:codeIn K cd35 "_law_outer" = true) (k35:keepIn K (.ref f35)=true)
  (a36:nsIn K mainGlobals "_law_needs" = some (some (.ref f36))) (l36:K.lookup f36=some ⟨oc36,od36,.func (fnT "_law_needs" eX kV36 dc36 pm36 an36 cd36 ct36),sl36⟩) (c36:codeIn K cd36 "_law_needs" = true) (k36:keepIn K (.ref f36)=true)
  (a37:nsIn K mainGlobals "_law_fitted" = some (some (.ref f37))) (l37:K.lookup f37=some ⟨oc37,od37,.func (fnT "_law_fitted" dF kV37 dc37 pm37 an37 cd37 ct37),sl37⟩) (c37:codeIn K cd37 "_law_fitted" = true) (k37:keepIn K (.ref f37)=true)
  (a38:nsIn K mainGlobals "_law_plan" = some (some (.ref f38))) (l38:K.lookup f38=some ⟨oc38,od38,.func (fnT "_law_plan" gu kV38 dc38 pm38 an38 cd38 ct38),sl38⟩) (c38:codeIn K cd38 "_law_plan" = true) (k38:keepIn K (.ref f38)=true)
  (a39:nsIn K mainGlobals "_law_crowd" = some (some (.ref f39))) (l39:K.lookup f39=some ⟨oc39,od39,.func (fnT "_law_crowd" eJ kV39 dc39 pm39 an39 cd39 ct39),sl39⟩) (c39:codeIn K cd39 "_law_crowd" = true) (k39:keepIn K (.ref f39)=true)
  (a40:nsIn K mainGlobals "_law_times" = some (some (.ref f40))) (l40:K.lookup f40=some ⟨oc40,od40,.func (fnT "_law_times" eU kV40 dc40 pm40 an40 cd40 ct40),sl40⟩) (c40:codeIn K cd40 "_law_times" = true) (k40:keepIn K (.ref f40)=true)
  (a41:nsIn K mainGlobals "_law_plain" = some (some (.ref f41))) (l41:K.lookup f41=some ⟨oc41,od41,.func (fnT "_law_plain" eN kV41 dc41 pm41 an41 cd41 ct41),sl41⟩) (c41:codeIn K cd41 "_law_plain" = true) (k41:keepIn K (.ref f41)=true)
  (a42:nsIn K mainGlobals "_law_seat" = some (some (.ref f42))) (l42:K.lookup f42=some ⟨oc42,od42,.func (fnT "_law_seat" gm kV42 dc42 pm42 an42 cd42 ct42),sl42⟩) (c42:codeIn K cd42 "_law_seat" = true) (k42:keepIn K (.ref f42)=true)
  (a43:nsIn K mainGlobals "_law_matrix" = some (some (.ref f43))) (l43:K.lookup f43=some ⟨oc43,od43,.func (fnT "_law_matrix" dB kV43 dc43 pm43 an43 cd43 ct43),sl43⟩) (c43:codeIn K cd43 "_law_matrix" = true) (k43:keepIn K (.ref f43)=true)
  (a44:nsIn K mainGlobals "_law_limits" = some (some (.ref f44))) (l44:K.lookup f44=some ⟨oc44,od44,.func (fnT "_law_limits" dG kV44 dc44 pm44 an44 cd44 ct44),sl44⟩) (c44:codeIn K cd44 "_law_limits" = true) (k44:keepIn K (.ref f44)=true)
  (a45:nsIn K mainGlobals "_law_fractions" = some (some (.ref f45))) (l45:K.lookup f45=some ⟨oc45,od45,.func (fnT "_law_fractions" ck kV45 dc45 pm45 an45 cd45 ct45),sl45⟩) (c45:codeIn K cd45 "_law_fractions" = true) (k45:keepIn K (.ref f45)=true)
  (a46:nsIn K mainGlobals "law" = some (some (.ref f46))) (l46:K.lookup f46=some ⟨oc46,od46,.func (fnT "law" mE kV46 dc46 pm46 an46 cd46 ct46),sl46⟩) (c46:codeIn K cd46 "law" = true) (k46:keepIn K (.ref f46)=true)
  (b_NOUGHT:nsIn K mainGlobals "NOUGHT" = some (some (.ref k_NOUGHT))) (bt_NOUGHT:jq K k_NOUGHT [(.int 0),(.int 1)]=true)
  (b_WHOLE:nsIn K mainGlobals "WHOLE" = some (some (.ref k_WHOLE))) (bt_WHOLE:jq K k_WHOLE [(.int 1),(.int 1)]=true)
  (b_TWICE:nsIn K mainGlobals "TWICE" = some (some (.ref k_TWICE))) (bt_TWICE:jq K k_TWICE [(.int 2),(.int 1)]=true)
  (b_COUNTED:nsIn K mainGlobals "COUNTED" = some (some (.ref k_COUNTED))) (bt_COUNTED:lH K k_COUNTED [(.str "few"),(.str "start"),(.str "loose"),(.str "duel")]=true)
  (b0:nsIn K mainGlobals "FIGURES" = some (some u0))
  (b1:nsIn K mainGlobals "MOST_FIGURES" = some (some u1))
  (b2:nsIn K mainGlobals "MOST_MANY" = some (some u2))
  (b3:nsIn K mainGlobals "MOST_STEP" = some (some u3))
  (b4:nsIn K mainGlobals "MOST_AROUND" = some (some u4))
  (ca_al:nsIn K mainGlobals "SpeakError" = some (some (.ref c_al))) (cb_al:keepIn K (.ref c_al)=true) (cc_al:ox K c_al=true)
  (cx_al:xIn K c_al none=true)
  (ca_G:nsIn K mainGlobals "NoPlan" = some (some (.ref c_G))) (cb_G:keepIn K (.ref c_G)=true) (cc_G:ox K c_G=true)
  (cf_G:findIn K (.ref c_G) "__init__" = some (some (.ref i_G))) (cx_G:xIn K c_G (some (.ref i_G))=true) (cg_G:isFn K (.ref i_G)=true)
  (cl_G:K.lookup i_G=some ⟨oc_12,od_12,.func (fnS "__init__" "NoPlan.__init__" fu kV_12 dc_12 pm_12 an_12 cd_12 ct_12),sl_12⟩) (co_G:codeIn K cd_12 "NoPlan.__init__" = true) (ck_G:keepIn K (.ref i_G)=true)
  (cs_NoPlan_place:vE K c_G "place" = true)
  (ca_ar:nsIn K mainGlobals "NoLevel" = some (some (.ref c_ar))) (cb_ar:keepIn K (.ref c_ar)=true) (cc_ar:ox K c_ar=true)
  (cx_ar:xIn K c_ar none=true)
  (ca_aq:nsIn K mainGlobals "Plan" = some (some (.ref c_aq))) (pa_aq:plainGet K c_aq Str.empty=true) (pb_aq:hasDictIn K c_aq=true) (pc_aq:plainOver K c_aq=true)
  (pd_aq:findIn K (.ref c_aq) "__setattr__" = some (some (.builtin "object.__setattr__"))) (pe_aq:findIn K (.ref c_aq) "__class__" = some (some (.builtin "object.__class__"))) (pf_aq:specialIn K (.builtin "object.__class__") "__get__" = some (some (.builtin "getset_descriptor.__get__"))) (pg_aq:takesIn K (.builtin "object.__class__")=some true) (ph_aq:mroIn K c_aq (.type "object")=some true)
  (ca_r:nsIn K mainGlobals "Few" = some (some (.ref c_r))) (pa_r:plainGet K c_r Str.empty=true) (pb_r:hasDictIn K c_r=true) (pc_r:plainOver K c_r=true)
  (pd_r:findIn K (.ref c_r) "__setattr__" = some (some (.builtin "object.__setattr__"))) (pe_r:findIn K (.ref c_r) "__class__" = some (some (.builtin "object.__class__"))) (pf_r:specialIn K (.builtin "object.__class__") "__get__" = some (some (.builtin "getset_descriptor.__get__"))) (pg_r:takesIn K (.builtin "object.__class__")=some true) (ph_r:mroIn K c_r (.type "object")=some true)
  (qa_r:makesIn K c_r=true) (qb_r:findIn K (.ref c_r) "__init__" = some (some (.ref i_r))) (qc_r:isFn K (.ref i_r)=true) (qd_r:keepIn K (.ref c_r)=true)
  (qn_Few_many:findIn K (.ref c_r) "many" = some none)
  (cl_r:K.lookup i_r=some ⟨oc_6,od_6,.func (fnS "__init__" "Few.__init__" bS kV_6 dc_6 pm_6 an_6 cd_6 ct_6),sl_6⟩) (co_r:codeIn K cd_6 "Few.__init__" = true) (ck_r:keepIn K (.ref i_r)=true)
  (ca_e:nsIn K mainGlobals "Start" = some (some (.ref c_e))) (pa_e:plainGet K c_e Str.empty=true) (pb_e:hasDictIn K c_e=true) (pc_e:plainOver K c_e=true)
  (pd_e:findIn K (.ref c_e) "__setattr__" = some (some (.builtin "object.__setattr__"))) (pe_e:findIn K (.ref c_e) "__class__" = some (some (.builtin "object.__class__"))) (pf_e:specialIn K (.builtin "object.__class__") "__get__" = some (some (.builtin "getset_descriptor.__get__"))) (pg_e:takesIn K (.builtin "object.__class__")=some true) (ph_e:mroIn K c_e (.type "object")=some true)
  (qa_e:makesIn K c_e=true) (qb_e:findIn K (.ref c_e) "__init__" = some (some (.ref i_e))) (qc_e:isFn K (.ref i_e)=true) (qd_e:keepIn K (.ref c_e)=true)
  (qn_Start_step:findIn K (.ref c_e) "step" = some none)
  (cl_e:K.lookup i_e=some ⟨oc_13,od_13,.func (fnS "__init__" "Start.__init__" br kV_13 dc_13 pm_13 an_13 cd_13 ct_13),sl_13⟩) (co_e:codeIn K cd_13 "Start.__init__" = true) (ck_e:keepIn K (.ref i_e)=true)
  (ca_g:nsIn K mainGlobals "Loose" = some (some (.ref c_g))) (pa_g:plainGet K c_g Str.empty=true) (pb_g:hasDictIn K c_g=true) (pc_g:plainOver K c_g=true)
  (pd_g:findIn K (.ref c_g) "__setattr__" = some (some (.builtin "object.__setattr__"))) (pe_g:findIn K (.ref c_g) "__class__" = some (some (.builtin "object.__class__"))) (pf_g:specialIn K (.builtin "object.__class__") "__get__" = some (some (.builtin "getset_descriptor.__get__"))) (pg_g:takesIn K (.builtin "object.__class__")=some true) (ph_g:mroIn K c_g (.type "object")=some true)
  (qa_g:makesIn K c_g=true) (qb_g:findIn K (.ref c_g) "__init__" = some (some (.ref i_g))) (qc_g:isFn K (.ref i_g)=true) (qd_g:keepIn K (.ref c_g)=true)
  (qn_Loose_many:findIn K (.ref c_g) "many" = some none)
  (cl_g:K.lookup i_g=some ⟨oc_e,od_e,.func (fnS "__init__" "Loose.__init__" bx kV_e dc_e pm_e an_e cd_e ct_e),sl_e⟩) (co_g:codeIn K cd_e "Loose.__init__" = true) (ck_g:keepIn K (.ref i_g)=true)
  (ca_j:nsIn K mainGlobals "Each" = some (some (.ref c_j))) (pa_j:plainGet K c_j Str.empty=true) (pb_j:hasDictIn K c_j=true) (pc_j:plainOver K c_j=true)
  (pd_j:findIn K (.ref c_j) "__setattr__" = some (some (.builtin "object.__setattr__"))) (pe_j:findIn K (.ref c_j) "__class__" = some (some (.builtin "object.__class__"))) (pf_j:specialIn K (.builtin "object.__class__") "__get__" = some (some (.builtin "getset_descriptor.__get__"))) (pg_j:takesIn K (.builtin "object.__class__")=some true) (ph_j:mroIn K c_j (.type "object")=some true)
  (qa_j:makesIn K c_j=true) (qb_j:findIn K (.ref c_j) "__init__" = some (some (.ref i_j))) (qc_j:isFn K (.ref i_j)=true) (qd_j:keepIn K (.ref c_j)=true)
  (qn_Each_inside:findIn K (.ref c_j) "inside" = some none)
  (cl_j:K.lookup i_j=some ⟨oc_2,od_2,.func (fnS "__init__" "Each.__init__" bG kV_2 dc_2 pm_2 an_2 cd_2 ct_2),sl_2⟩) (co_j:codeIn K cd_2 "Each.__init__" = true) (ck_j:keepIn K (.ref i_j)=true)
  (ca_a:nsIn K mainGlobals "First" = some (some (.ref c_a))) (pa_a:plainGet K c_a Str.empty=true) (pb_a:hasDictIn K c_a=true) (pc_a:plainOver K c_a=true)
  (pd_a:findIn K (.ref c_a) "__setattr__" = some (some (.builtin "object.__setattr__"))) (pe_a:findIn K (.ref c_a) "__class__" = some (some (.builtin "object.__class__"))) (pf_a:specialIn K (.builtin "object.__class__") "__get__" = some (some (.builtin "getset_descriptor.__get__"))) (pg_a:takesIn K (.builtin "object.__class__")=some true) (ph_a:mroIn K c_a (.type "object")=some true)
  (qa_a:makesIn K c_a=true) (qb_a:findIn K (.ref c_a) "__init__" = some (some (.ref i_a))) (qc_a:isFn K (.ref i_a)=true) (qd_a:keepIn K (.ref c_a)=true)
  (qn_First_outside:findIn K (.ref c_a) "outside" = some none)
  (qn_First_inside:findIn K (.ref c_a) "inside" = some none)
  (cl_a:K.lookup i_a=some ⟨oc_a,od_a,.func (fnS "__init__" "First.__init__" bu kV_a dc_a pm_a an_a cd_a ct_a),sl_a⟩) (co_a:codeIn K cd_a "First.__init__" = true) (ck_a:keepIn K (.ref i_a)=true)
  (ca_s:nsIn K mainGlobals "Duel" = some (some (.ref c_s))) (pa_s:plainGet K c_s Str.empty=true) (pb_s:hasDictIn K c_s=true) (pc_s:plainOver K c_s=true)
  (pd_s:findIn K (.ref c_s) "__setattr__" = some (some (.builtin "object.__setattr__"))) (pe_s:findIn K (.ref c_s) "__class__" = some (some (.builtin "object.__class__"))) (pf_s:specialIn K (.builtin "object.__class__") "__get__" = some (some (.builtin "getset_descriptor.__get__"))) (pg_s:takesIn K (.builtin "object.__class__")=some true) (ph_s:mroIn K c_s (.type "object")=some true)
  (qa_s:makesIn K c_s=true) (qb_s:findIn K (.ref c_s) "__init__" = some (some (.ref i_s))) (qc_s:isFn K (.ref i_s)=true) (qd_s:keepIn K (.ref c_s)=true)
  (qn_Duel_many:findIn K (.ref c_s) "many" = some none)
  (cl_s:K.lookup i_s=some ⟨oc_0,od_0,.func (fnS "__init__" "Duel.__init__" d7 kV_0 dc_0 pm_0 an_0 cd_0 ct_0),sl_0⟩) (co_s:codeIn K cd_0 "Duel.__init__" = true) (ck_s:keepIn K (.ref i_s)=true)
  (mf_8:findIn K (.ref c_r) "matrix" = some (some (.ref x_i)))
  (ml_8:K.lookup x_i=some ⟨oc_8,od_8,.func (fnS "matrix" "Few.matrix" b8 kV_8 dc_8 pm_8 an_8 cd_8 ct_8),sl_8⟩) (mo_8:codeIn K cd_8 "Few.matrix" = true) (mk_8:keepIn K (.ref x_i)=true) (mi_8:isFn K (.ref x_i)=true)
  (mf_15:findIn K (.ref c_e) "matrix" = some (some (.ref x_c)))
  (ml_15:K.lookup x_c=some ⟨oc_15,od_15,.func (fnS "matrix" "Start.matrix" bB kV_15 dc_15 pm_15 an_15 cd_15 ct_15),sl_15⟩) (mo_15:codeIn K cd_15 "Start.matrix" = true) (mk_15:keepIn K (.ref x_c)=true) (mi_15:isFn K (.ref x_c)=true)
  (mf_10:findIn K (.ref c_g) "matrix" = some (some (.ref x_d)))
  (ml_10:K.lookup x_d=some ⟨oc_10,od_10,.func (fnS "matrix" "Loose.matrix" bC kV_10 dc_10 pm_10 an_10 cd_10 ct_10),sl_10⟩) (mo_10:codeIn K cd_10 "Loose.matrix" = true) (mk_10:keepIn K (.ref x_d)=true) (mi_10:isFn K (.ref x_d)=true)
  (mf_4:findIn K (.ref c_j) "matrix" = some (some (.ref x_b)))
  (ml_4:K.lookup x_b=some ⟨oc_4,od_4,.func (fnS "matrix" "Each.matrix" bL kV_4 dc_4 pm_4 an_4 cd_4 ct_4),sl_4⟩) (mo_4:codeIn K cd_4 "Each.matrix" = true) (mk_4:keepIn K (.ref x_b)=true) (mi_4:isFn K (.ref x_b)=true)
  (mf_c:findIn K (.ref c_a) "matrix" = some (some (.ref x_l)))
  (ml_c:K.lookup x_l=some ⟨oc_c,od_c,.func (fnS "matrix" "First.matrix" bQ kV_c dc_c pm_c an_c cd_c ct_c),sl_c⟩) (mo_c:codeIn K cd_c "First.matrix" = true) (mk_c:keepIn K (.ref x_l)=true) (mi_c:isFn K (.ref x_l)=true)
  (mf_7:findIn K (.ref c_r) "bounds" = some (some (.ref x_t)))
  (ml_7:K.lookup x_t=some ⟨oc_7,od_7,.func (fnS "bounds" "Few.bounds" cD kV_7 dc_7 pm_7 an_7 cd_7 ct_7),sl_7⟩) (mo_7:codeIn K cd_7 "Few.bounds" = true) (mk_7:keepIn K (.ref x_t)=true) (mi_7:isFn K (.ref x_t)=true)
  (mf_14:findIn K (.ref c_e) "bounds" = some (some (.ref x_p)))
  (ml_14:K.lookup x_p=some ⟨oc_14,od_14,.func (fnS "bounds" "Start.bounds" bZ kV_14 dc_14 pm_14 an_14 cd_14 ct_14),sl_14⟩) (mo_14:codeIn K cd_14 "Start.bounds" = true) (mk_14:keepIn K (.ref x_p)=true) (mi_14:isFn K (.ref x_p)=true)
  (mf_f:findIn K (.ref c_g) "bounds" = some (some (.ref x_n)))
  (ml_f:K.lookup x_n=some ⟨oc_f,od_f,.func (fnS "bounds" "Loose.bounds" bT kV_f dc_f pm_f an_f cd_f ct_f),sl_f⟩) (mo_f:codeIn K cd_f "Loose.bounds" = true) (mk_f:keepIn K (.ref x_n)=true) (mi_f:isFn K (.ref x_n)=true)
  (mf_3:findIn K (.ref c_j) "bounds" = some (some (.ref x_m)))
  (ml_3:K.lookup x_m=some ⟨oc_3,od_3,.func (fnS "bounds" "Each.bounds" cj kV_3 dc_3 pm_3 an_3 cd_3 ct_3),sl_3⟩) (mo_3:codeIn K cd_3 "Each.bounds" = true) (mk_3:keepIn K (.ref x_m)=true) (mi_3:isFn K (.ref x_m)=true)
  (mf_b:findIn K (.ref c_a) "bounds" = some (some (.ref x_k)))
  (ml_b:K.lookup x_k=some ⟨oc_b,od_b,.func (fnS "bounds" "First.bounds" bY kV_b dc_b pm_b an_b cd_b ct_b),sl_b⟩) (mo_b:codeIn K cd_b "First.bounds" = true) (mk_b:keepIn K (.ref x_k)=true) (mi_b:isFn K (.ref x_k)=true)
  (mf_9:findIn K (.ref c_r) "text" = some (some (.ref x_N)))
  (ml_9:K.lookup x_N=some ⟨oc_9,od_9,.func (fnS "text" "Few.text" dM kV_9 dc_9 pm_9 an_9 cd_9 ct_9),sl_9⟩) (mo_9:codeIn K cd_9 "Few.text" = true) (mk_9:keepIn K (.ref x_N)=true) (mi_9:isFn K (.ref x_N)=true)
  (mf_16:findIn K (.ref c_e) "text" = some (some (.ref x_B)))
  (ml_16:K.lookup x_B=some ⟨oc_16,od_16,.func (fnS "text" "Start.text" cz kV_16 dc_16 pm_16 an_16 cd_16 ct_16),sl_16⟩) (mo_16:codeIn K cd_16 "Start.text" = true) (mk_16:keepIn K (.ref x_B)=true) (mi_16:isFn K (.ref x_B)=true)
  (mf_11:findIn K (.ref c_g) "text" = some (some (.ref x_C)))
  (ml_11:K.lookup x_C=some ⟨oc_11,od_11,.func (fnS "text" "Loose.text" cA kV_11 dc_11 pm_11 an_11 cd_11 ct_11),sl_11⟩) (mo_11:codeIn K cd_11 "Loose.text" = true) (mk_11:keepIn K (.ref x_C)=true) (mi_11:isFn K (.ref x_C)=true)
  (mf_5:findIn K (.ref c_j) "text" = some (some (.ref x_R)))
  (ml_5:K.lookup x_R=some ⟨oc_5,od_5,.func (fnS "text" "Each.text" cX kV_5 dc_5 pm_5 an_5 cd_5 ct_5),sl_5⟩) (mo_5:codeIn K cd_5 "Each.text" = true) (mk_5:keepIn K (.ref x_R)=true) (mi_5:isFn K (.ref x_R)=true)
  (mf_d:findIn K (.ref c_a) "text" = some (some (.ref x_M)))
  (ml_d:K.lookup x_M=some ⟨oc_d,od_d,.func (fnS "text" "First.text" cH kV_d dc_d pm_d an_d cd_d ct_d),sl_d⟩) (mo_d:codeIn K cd_d "First.text" = true) (mk_d:keepIn K (.ref x_M)=true) (mi_d:isFn K (.ref x_M)=true)
  (mf_1:findIn K (.ref c_s) "text" = some (some (.ref x_P)))
  (ml_1:K.lookup x_P=some ⟨oc_1,od_1,.func (fnS "text" "Duel.text" dh kV_1 dc_1 pm_1 an_1 cd_1 ct_1),sl_1⟩) (mo_1:codeIn K cd_1 "Duel.text" = true) (mk_1:keepIn K (.ref x_P)=true) (mi_1:isFn K (.ref x_P)=true)
  (lca_8:cd_8=.ref lc_i) (lct_8:K.lookup lc_i=some ⟨lo_8,lod_8,.fields lvs_8,lsl_8⟩) (lcq_8:lvs_8[11]? = some (.ref lp_i)) (lch_i:codeHdIn K lc_i lp_i=true)
  (lca_15:cd_15=.ref lc_c) (lct_15:K.lookup lc_c=some ⟨lo_15,lod_15,.fields lvs_15,lsl_15⟩) (lcq_15:lvs_15[11]? = some (.ref lp_c)) (lch_c:codeHdIn K lc_c lp_c=true)
  (lca_10:cd_10=.ref lc_d) (lct_10:K.lookup lc_d=some ⟨lo_10,lod_10,.fields lvs_10,lsl_10⟩) (lcq_10:lvs_10[11]? = some (.ref lp_d)) (lch_d:codeHdIn K lc_d lp_d=true)
  (lca_17:cd17=.ref lc_h) (lct_17:K.lookup lc_h=some ⟨lo_17,lod_17,.fields lvs_17,lsl_17⟩) (lcq_17:lvs_17[11]? = some (.ref lp_h)) (lch_h:codeHdIn K lc_h lp_h=true)
  (lca_4:cd_4=.ref lc_b) (lct_4:K.lookup lc_b=some ⟨lo_4,lod_4,.fields lvs_4,lsl_4⟩) (lcq_4:lvs_4[11]? = some (.ref lp_b)) (lch_b:codeHdIn K lc_b lp_b=true)
  (ltnd:([lp_i,lp_c,lp_d,lp_h,lp_b]:List Addr).Nodup)
  (fact_sf:kitOne K (.ref c_r) (.type "str")=some false)
  (fact_ss:kitOne K (.ref c_e) (.type "str")=some false)
  (fact_sl:kitOne K (.ref c_g) (.type "str")=some false)
  (fact_sd:kitOne K (.ref c_s) (.type "str")=some false)
  (fact_se:kitOne K (.ref c_j) (.type "str")=some false)
  (fact_sa:kitOne K (.ref c_a) (.type "str")=some false)
  (fact_kfe:kitOne K (.ref c_r) (.ref c_j)=some false)
  (fact_kfa:kitOne K (.ref c_r) (.ref c_a)=some false)
  (fact_kse:kitOne K (.ref c_e) (.ref c_j)=some false)
  (fact_ksa:kitOne K (.ref c_e) (.ref c_a)=some false)
  (fact_kle:kitOne K (.ref c_g) (.ref c_j)=some false)
  (fact_kla:kitOne K (.ref c_g) (.ref c_a)=some false)
  (fact_kde:kitOne K (.ref c_s) (.ref c_j)=some false)
  (fact_kda:kitOne K (.ref c_s) (.ref c_a)=some false)
  (fact_kee:kitOne K (.ref c_j) (.ref c_j)=some true)
  (fact_kea:kitOne K (.ref c_j) (.ref c_a)=some false)
  (fact_kae:kitOne K (.ref c_a) (.ref c_j)=some false)
  (fact_kaa:kitOne K (.ref c_a) (.ref c_a)=some true)
  (z0:nsIn K mainGlobals "abs" = some none)
  (z1:nsIn K mainGlobals "all" = some none)
  (z2:nsIn K mainGlobals "bool" = some none)
  (z3:nsIn K mainGlobals "enumerate" = some none)
  (z4:nsIn K mainGlobals "int" = some none)
  (z5:nsIn K mainGlobals "isinstance" = some none)
  (z6:nsIn K mainGlobals "len" = some none)
  (z7:nsIn K mainGlobals "list" = some none)
  (z8:nsIn K mainGlobals "max" = some none)
  (z9:nsIn K mainGlobals "min" = some none)
  (z10:nsIn K mainGlobals "range" = some none)
  (z11:nsIn K mainGlobals "sorted" = some none)
  (z12:nsIn K mainGlobals "str" = some none)
  (z13:nsIn K mainGlobals "sum" = some none)
  (z14:nsIn K mainGlobals "tuple" = some none) (r0:RelV (.str "0123456789") u0) (r1:RelV (.int 12) u1) (r2:RelV (.int 24) u2) (r3:RelV (.int 100) u3) (r4:RelV (.int 3) u4):∃ a:Ad,Txt K mg a/\(tabs a).map (·.1)=[lp_i,lp_c,lp_d,lp_h,lp_b]:=by
 refine⟨{ f_w:=f0,d_w:=fnT "greatest_divisor" bc kV0 dc0 pm0 an0 cd0 ct0,f_X:=f1,d_X:=fnT "share" ia kV1 dc1 pm1 an1 cd1 ct1,f_ap:=f2,d_ap:=fnT "times" hJ kV2 dc2 pm2 an2 cd2 ct2,f_ao:=f3,d_ao:=fnT "is_whole" dA kV3 dc3 pm3 an3 cd3 ct3,f_ah:=f4,d_ah:=fnT "is_made_of" cE kV4 dc4 pm4 an4 cd4 ct4,f_ac:=f5,d_ac:=fnT "number_of" dj kV5 dc5 pm5 an5 cd5 ct5,f_Y:=f6,d_Y:=fnT "groups_of" di kV6 dc6 pm6 an6 cd6 ct6,f_as:=f7,d_as:=fnT "wished" gh kV7 dc7 pm7 an7 cd7 ct7,f_v:=f8,d_v:=fnT "wished_of_some" bv kV8 dc8 pm8 an8 cd8 ct8,f_aa:=f9,d_aa:=fnT "wished_by" dc kV9 dc9 pm9 an9 cd9 ct9,f_z:=f10,d_z:=fnT "matrix_by" df kV10 dc10 pm10 an10 cd10 ct10,f_ai:=f11,d_ai:=fnT "matrix_row" cG kV11 dc11 pm11 an11 cd11 ct11,f_F:=f12,d_F:=fnT "need_number" ci kV12 dc12 pm12 an12 cd12 ct12,f_aj:=f13,d_aj:=fnT "few_chance" cy kV13 dc13 pm13 an13 cd13 ct13,f_ag:=f14,d_ag:=fnT "parted" gq kV14 dc14 pm14 an14 cd14 ct14,f_f:=f15,d_f:=fnT "crowd_of_groups" bg kV15 dc15 pm15 an15 cd15 ct15,f_ad:=f16,d_ad:=fnT "spots_of" dJ kV16 dc16 pm16 an16 cd16 ct16,f_h:=f17,d_h:=fnT "groups_matrix" bh kV17 dc17 pm17 an17 cd17 ct17,f_D:=f18,d_D:=fnT "spots_chance" bU kV18 dc18 pm18 an18 cd18 ct18,f_ae:=f19,d_ae:=fnT "text_of" eO kV19 dc19 pm19 an19 cd19 ct19,f_an:=f20,d_an:=fnT "plan_of" eR kV20 dc20 pm20 an20 cd20 ct20,f_ab:=f21,d_ab:=fnT "plan_at" eK kV21 dc21 pm21 an21 cd21 ct21,f_af:=f22,d_af:=fnT "word_at" eW kV22 dc22 pm22 an22 cd22 ct22,f_I:=f23,d_I:=fnT "behind_word" cg kV23 dc23 pm23 an23 cd23 ct23,f_Z:=f24,d_Z:=fnT "counted_at" cJ kV24 dc24 pm24 an24 cd24 ct24,f_Q:=f25,d_Q:=fnT "counted_plan" bW kV25 dc25 pm25 an25 cd25 ct25,f_ak:=f26,d_ak:=fnT "each_at" eQ kV26 dc26 pm26 an26 cd26 ct26,f_W:=f27,d_W:=fnT "first_at" dQ kV27 dc27 pm27 an27 cd27 ct27,f_u:=f28,d_u:=fnT "bracketed_at" bX kV28 dc28 pm28 an28 cd28 ct28,f_at:=f29,d_at:=fnT "_law_cell" fV kV29 dc29 pm29 an29 cd29 ct29,f_A:=f30,d_A:=fnT "_law_mixed" eV kV30 dc30 pm30 an30 cd30 ct30,f_V:=f31,d_V:=fnT "_law_tree" fW kV31 dc31 pm31 an31 cd31 ct31,f_K:=f32,d_K:=fnT "_law_lowest" dC kV32 dc32 pm32 an32 cd32 ct32,f_E:=f33,d_E:=fnT "_law_wished" dD kV33 dc33 pm33 an33 cd33 ct33,f_H:=f34,d_H:=fnT "_law_groups" dN kV34 dc34 pm34 an34 cd34 ct34,f_U:=f35,d_U:=fnT "_law_outer" eP kV35 dc35 pm35 an35 cd35 ct35,f_y:=f36,d_y:=fnT "_law_needs" eX kV36 dc36 pm36 an36 cd36 ct36,f_x:=f37,d_x:=fnT "_law_fitted" dF kV37 dc37 pm37 an37 cd37 ct37,f_L:=f38,d_L:=fnT "_law_plan" gu kV38 dc38 pm38 an38 cd38 ct38,f_S:=f39,d_S:=fnT "_law_crowd" eJ kV39 dc39 pm39 an39 cd39 ct39,f_J:=f40,d_J:=fnT "_law_times" eU kV40 dc40 pm40 an40 cd40 ct40,f_T:=f41,d_T:=fnT "_law_plain" eN kV41 dc41 pm41 an41 cd41 ct41,f_am:=f42,d_am:=fnT "_law_seat" gm kV42 dc42 pm42 an42 cd42 ct42,f_o:=f43,d_o:=fnT "_law_matrix" dB kV43 dc43 pm43 an43 cd43 ct43,f_q:=f44,d_q:=fnT "_law_limits" dG kV44 dc44 pm44 an44 cd44 ct44,f_O:=f45,d_O:=fnT "_law_fractions" ck kV45 dc45 pm45 an45 cd45 ct45,f_au:=f46,d_au:=fnT "law" mE kV46 dc46 pm46 an46 cd46 ct46,c_al:=c_al,c_G:=c_G,i_G:=i_G,e_G:=fnS "__init__" "NoPlan.__init__" fu kV_12 dc_12 pm_12 an_12 cd_12 ct_12,c_ar:=c_ar,c_aq:=c_aq,c_r:=c_r,i_r:=i_r,e_r:=fnS "__init__" "Few.__init__" bS kV_6 dc_6 pm_6 an_6 cd_6 ct_6,c_e:=c_e,i_e:=i_e,e_e:=fnS "__init__" "Start.__init__" br kV_13 dc_13 pm_13 an_13 cd_13 ct_13,c_g:=c_g,i_g:=i_g,e_g:=fnS "__init__" "Loose.__init__" bx kV_e dc_e pm_e an_e cd_e ct_e,c_j:=c_j,i_j:=i_j,e_j:=fnS "__init__" "Each.__init__" bG kV_2 dc_2 pm_2 an_2 cd_2 ct_2,c_a:=c_a,i_a:=i_a,e_a:=fnS "__init__" "First.__init__" bu kV_a dc_a pm_a an_a cd_a ct_a,c_s:=c_s,i_s:=i_s,e_s:=fnS "__init__" "Duel.__init__" d7 kV_0 dc_0 pm_0 an_0 cd_0 ct_0,x_i:=x_i,y_i:=fnS "matrix" "Few.matrix" b8 kV_8 dc_8 pm_8 an_8 cd_8 ct_8,x_c:=x_c,y_c:=fnS "matrix" "Start.matrix" bB kV_15 dc_15 pm_15 an_15 cd_15 ct_15,x_d:=x_d,y_d:=fnS "matrix" "Loose.matrix" bC kV_10 dc_10 pm_10 an_10 cd_10 ct_10,x_b:=x_b,y_b:=fnS "matrix" "Each.matrix" bL kV_4 dc_4 pm_4 an_4 cd_4 ct_4,x_l:=x_l,y_l:=fnS "matrix" "First.matrix" bQ kV_c dc_c pm_c an_c cd_c ct_c,x_t:=x_t,y_t:=fnS "bounds" "Few.bounds" cD kV_7 dc_7 pm_7 an_7 cd_7 ct_7,x_p:=x_p,y_p:=fnS "bounds" "Start.bounds" bZ kV_14 dc_14 pm_14 an_14 cd_14 ct_14,x_n:=x_n,y_n:=fnS "bounds" "Loose.bounds" bT kV_f dc_f pm_f an_f cd_f ct_f,x_m:=x_m,y_m:=fnS "bounds" "Each.bounds" cj kV_3 dc_3 pm_3 an_3 cd_3 ct_3,x_k:=x_k,y_k:=fnS "bounds" "First.bounds" bY kV_b dc_b pm_b an_b cd_b ct_b,x_N:=x_N,y_N:=fnS "text" "Few.text" dM kV_9 dc_9 pm_9 an_9 cd_9 ct_9,x_B:=x_B,y_B:=fnS "text" "Start.text" cz kV_16 dc_16 pm_16 an_16 cd_16 ct_16,x_C:=x_C,y_C:=fnS "text" "Loose.text" cA kV_11 dc_11 pm_11 an_11 cd_11 ct_11,x_R:=x_R,y_R:=fnS "text" "Each.text" cX kV_5 dc_5 pm_5 an_5 cd_5 ct_5,x_M:=x_M,y_M:=fnS "text" "First.text" cH kV_d dc_d pm_d an_d cd_d ct_d,x_P:=x_P,y_P:=fnS "text" "Duel.text" dh kV_1 dc_1 pm_1 an_1 cd_1 ct_1,k_NOUGHT:=k_NOUGHT,k_WHOLE:=k_WHOLE,k_TWICE:=k_TWICE,k_COUNTED:=k_COUNTED,lc_i:=lc_i,lp_i:=lp_i,lc_c:=lc_c,lp_c:=lp_c,lc_d:=lc_d,lp_d:=lp_d,lc_h:=lc_h,lp_h:=lp_h,lc_b:=lc_b,lp_b:=lp_b },?_,rfl⟩
 exact {
  lcd_i:=lca_8
  lch_i:=lch_i
  lcd_c:=lca_15
  lch_c:=lch_c
  lcd_d:=lca_10
  lch_d:=lch_d
  lcd_h:=lca_17
  lch_h:=lch_h
  lcd_b:=lca_4
  lch_b:=lch_b
  tnd:=ltnd
  F_w:=ao l0 c0 k0
  B_w:=(ao l0 c0 k0).binds λ_ _ _ _ _ _=>w2 λ_ _=>rfl
  m_w:=mg_of X G a0
  F_X:=ao l1 c1 k1
  B_X:=(ao l1 c1 k1).binds λ_ _ _ _ _ _=>w2 λ_ _=>rfl
  m_X:=mg_of X G a1
  F_ap:=ao l2 c2 k2
  B_ap:=(ao l2 c2 k2).binds λ_ _ _ _ _ _=>w2 λ_ _=>rfl
  m_ap:=mg_of X G a2
  F_ao:=ao l3 c3 k3
  B_ao:=(ao l3 c3 k3).binds λ_ _ _ _ _ _=>w3 λ_ _ _=>rfl
  m_ao:=mg_of X G a3
  F_ah:=ao l4 c4 k4
  B_ah:=(ao l4 c4 k4).binds λ_ _ _ _ _ _=>w3 λ_ _ _=>rfl
  m_ah:=mg_of X G a4
  F_ac:=ao l5 c5 k5
  B_ac:=(ao l5 c5 k5).binds λ_ _ _ _ _ _=>w3 λ_ _ _=>rfl
  m_ac:=mg_of X G a5
  F_Y:=ao l6 c6 k6
  B_Y:=(ao l6 c6 k6).binds λ_ _ _ _ _ _=>w1 λ_=>rfl
  m_Y:=mg_of X G a6
  F_as:=ao l7 c7 k7
  B_as:=(ao l7 c7 k7).binds λ_ _ _ _ _ _=>w2 λ_ _=>rfl
  m_as:=mg_of X G a7
  F_v:=ao l8 c8 k8
  B_v:=(ao l8 c8 k8).binds λ_ _ _ _ _ _=>w2 λ_ _=>rfl
  m_v:=mg_of X G a8
  F_aa:=ao l9 c9 k9
  B_aa:=(ao l9 c9 k9).binds λ_ _ _ _ _ _=>w2 λ_ _=>rfl
  m_aa:=mg_of X G a9
  F_z:=ao l10 c10 k10
  B_z:=(ao l10 c10 k10).binds λ_ _ _ _ _ _=>w2 λ_ _=>rfl
  m_z:=mg_of X G a10
  F_ai:=ao l11 c11 k11
  B_ai:=(ao l11 c11 k11).binds λ_ _ _ _ _ _=>w3 λ_ _ _=>rfl
  m_ai:=mg_of X G a11
  F_F:=ao l12 c12 k12
  B_F:=(ao l12 c12 k12).binds λ_ _ _ _ _ _=>w3 λ_ _ _=>rfl
  m_F:=mg_of X G a12
  F_aj:=ao l13 c13 k13
  B_aj:=(ao l13 c13 k13).binds λ_ _ _ _ _ _=>w3 λ_ _ _=>rfl
  m_aj:=mg_of X G a13
  F_ag:=ao l14 c14 k14
  B_ag:=(ao l14 c14 k14).binds λ_ _ _ _ _ _=>w1 λ_=>rfl
  m_ag:=mg_of X G a14
  F_f:=ao l15 c15 k15
  B_f:=(ao l15 c15 k15).binds λ_ _ _ _ _ _=>w1 λ_=>rfl
  m_f:=mg_of X G a15
  F_ad:=ao l16 c16 k16
  B_ad:=(ao l16 c16 k16).binds λ_ _ _ _ _ _=>w2 λ_ _=>rfl
  m_ad:=mg_of X G a16
  F_h:=ao l17 c17 k17
  B_h:=(ao l17 c17 k17).binds λ_ _ _ _ _ _=>w4 λ_ _ _ _=>rfl
  m_h:=mg_of X G a17
  F_D:=ao l18 c18 k18
  B_D:=(ao l18 c18 k18).binds λ_ _ _ _ _ _=>w4 λ_ _ _ _=>rfl
  m_D:=mg_of X G a18
  F_ae:=ao l19 c19 k19
  B_ae:=(ao l19 c19 k19).binds λ_ _ _ _ _ _=>w1 λ_=>rfl
  m_ae:=mg_of X G a19
  F_an:=ao l20 c20 k20
  B_an:=(ao l20 c20 k20).binds λ_ _ _ _ _ _=>w1 λ_=>rfl
  m_an:=mg_of X G a20
  F_ab:=ao l21 c21 k21
  B_ab:=(ao l21 c21 k21).binds λ_ _ _ _ _ _=>w3 λ_ _ _=>rfl
  m_ab:=mg_of X G a21
  F_af:=ao l22 c22 k22
  B_af:=(ao l22 c22 k22).binds λ_ _ _ _ _ _=>w2 λ_ _=>rfl
  m_af:=mg_of X G a22
  F_I:=ao l23 c23 k23
  B_I:=(ao l23 c23 k23).binds λ_ _ _ _ _ _=>w3 λ_ _ _=>rfl
  m_I:=mg_of X G a23
  F_Z:=ao l24 c24 k24
  B_Z:=(ao l24 c24 k24).binds λ_ _ _ _ _ _=>w2 λ_ _=>rfl
  m_Z:=mg_of X G a24
  F_Q:=ao l25 c25 k25
  B_Q:=(ao l25 c25 k25).binds λ_ _ _ _ _ _=>w2 λ_ _=>rfl
  m_Q:=mg_of X G a25
  F_ak:=ao l26 c26 k26
  B_ak:=(ao l26 c26 k26).binds λ_ _ _ _ _ _=>w3 λ_ _ _=>rfl
  m_ak:=mg_of X G a26
  F_W:=ao l27 c27 k27
  B_W:=(ao l27 c27 k27).binds λ_ _ _ _ _ _=>w3 λ_ _ _=>rfl
  m_W:=mg_of X G a27
  F_u:=ao l28 c28 k28
  B_u:=(ao l28 c28 k28).binds λ_ _ _ _ _ _=>w3 λ_ _ _=>rfl
  m_u:=mg_of X G a28
  F_at:=ao l29 c29 k29
  B_at:=(ao l29 c29 k29).binds λ_ _ _ _ _ _=>w2 λ_ _=>rfl
  m_at:=mg_of X G a29
  F_A:=ao l30 c30 k30
  B_A:=(ao l30 c30 k30).binds λ_ _ _ _ _ _=>w2 λ_ _=>rfl
  m_A:=mg_of X G a30
  F_V:=ao l31 c31 k31
  B_V:=(ao l31 c31 k31).binds λ_ _ _ _ _ _=>w3 λ_ _ _=>rfl
  m_V:=mg_of X G a31
  F_K:=ao l32 c32 k32
  B_K:=(ao l32 c32 k32).binds λ_ _ _ _ _ _=>w2 λ_ _=>rfl
  m_K:=mg_of X G a32
  F_E:=ao l33 c33 k33
  B_E:=(ao l33 c33 k33).binds λ_ _ _ _ _ _=>w2 λ_ _=>rfl
  m_E:=mg_of X G a33
  F_H:=ao l34 c34 k34
  B_H:=(ao l34 c34 k34).binds λ_ _ _ _ _ _=>w1 λ_=>rfl
  m_H:=mg_of X G a34
  F_U:=ao l35 c35 k35
  B_U:=(ao l35 c35 k35).binds λ_ _ _ _ _ _=>w1 λ_=>rfl
  m_U:=mg_of X G a35
  F_y:=ao l36 c36 k36
  B_y:=(ao l36 c36 k36).binds λ_ _ _ _ _ _=>w1 λ_=>rfl
  m_y:=mg_of X G a36
  F_x:=ao l37 c37 k37
  B_x:=(ao l37 c37 k37).binds λ_ _ _ _ _ _=>w1 λ_=>rfl
  m_x:=mg_of X G a37
  F_L:=ao l38 c38 k38
  B_L:=(ao l38 c38 k38).binds λ_ _ _ _ _ _=>w1 λ_=>rfl
  m_L:=mg_of X G a38
  F_S:=ao l39 c39 k39
  B_S:=(ao l39 c39 k39).binds λ_ _ _ _ _ _=>w1 λ_=>rfl
  m_S:=mg_of X G a39
  F_J:=ao l40 c40 k40
  B_J:=(ao l40 c40 k40).binds λ_ _ _ _ _ _=>w2 λ_ _=>rfl
  m_J:=mg_of X G a40
  F_T:=ao l41 c41 k41
  B_T:=(ao l41 c41 k41).binds λ_ _ _ _ _ _=>w2 λ_ _=>rfl
  m_T:=mg_of X G a41
  F_am:=ao l42 c42 k42
  B_am:=(ao l42 c42 k42).binds λ_ _ _ _ _ _=>w2 λ_ _=>rfl
  m_am:=mg_of X G a42
  F_o:=ao l43 c43 k43
  B_o:=(ao l43 c43 k43).binds λ_ _ _ _ _ _=>w2 λ_ _=>rfl
  m_o:=mg_of X G a43
  F_q:=ao l44 c44 k44
  B_q:=(ao l44 c44 k44).binds λ_ _ _ _ _ _=>w2 λ_ _=>rfl
  m_q:=mg_of X G a44
  F_O:=ao l45 c45 k45
  B_O:=(ao l45 c45 k45).binds λ_ _ _ _ _ _=>w1 λ_=>rfl
  m_O:=mg_of X G a45
  F_au:=ao l46 c46 k46
  m_au:=mg_of X G a46
  g_NOUGHT:=⟨_,mg_of X G b_NOUGHT,rfl⟩
  t_NOUGHT:=bt_NOUGHT
  g_WHOLE:=⟨_,mg_of X G b_WHOLE,rfl⟩
  t_WHOLE:=bt_WHOLE
  g_COUNTED:=⟨_,mg_of X G b_COUNTED,rfl⟩
  t_COUNTED:=bt_COUNTED
  F_i:=ao ml_8 mo_8 mk_8
  B_i:=(ao ml_8 mo_8 mk_8).binds λ_ _ _ _ _ _=>w2 λ_ _=>rfl
  F_c:=ao ml_15 mo_15 mk_15
  B_c:=(ao ml_15 mo_15 mk_15).binds λ_ _ _ _ _ _=>w2 λ_ _=>rfl
  F_d:=ao ml_10 mo_10 mk_10
  B_d:=(ao ml_10 mo_10 mk_10).binds λ_ _ _ _ _ _=>w2 λ_ _=>rfl
  F_b:=ao ml_4 mo_4 mk_4
  B_b:=(ao ml_4 mo_4 mk_4).binds λ_ _ _ _ _ _=>w2 λ_ _=>rfl
  F_l:=ao ml_c mo_c mk_c
  B_l:=(ao ml_c mo_c mk_c).binds λ_ _ _ _ _ _=>w2 λ_ _=>rfl
  F_t:=ao ml_7 mo_7 mk_7
  B_t:=(ao ml_7 mo_7 mk_7).binds λ_ _ _ _ _ _=>w2 λ_ _=>rfl
  F_p:=ao ml_14 mo_14 mk_14
  B_p:=(ao ml_14 mo_14 mk_14).binds λ_ _ _ _ _ _=>w2 λ_ _=>rfl
  F_n:=ao ml_f mo_f mk_f
  B_n:=(ao ml_f mo_f mk_f).binds λ_ _ _ _ _ _=>w2 λ_ _=>rfl
  F_m:=ao ml_3 mo_3 mk_3
  B_m:=(ao ml_3 mo_3 mk_3).binds λ_ _ _ _ _ _=>w2 λ_ _=>rfl
  F_k:=ao ml_b mo_b mk_b
  B_k:=(ao ml_b mo_b mk_b).binds λ_ _ _ _ _ _=>w2 λ_ _=>rfl
  F_N:=ao ml_9 mo_9 mk_9
  B_N:=(ao ml_9 mo_9 mk_9).binds λ_ _ _ _ _ _=>w1 λ_=>rfl
  F_B:=ao ml_16 mo_16 mk_16
  B_B:=(ao ml_16 mo_16 mk_16).binds λ_ _ _ _ _ _=>w1 λ_=>rfl
  F_C:=ao ml_11 mo_11 mk_11
  B_C:=(ao ml_11 mo_11 mk_11).binds λ_ _ _ _ _ _=>w1 λ_=>rfl
  F_R:=ao ml_5 mo_5 mk_5
  B_R:=(ao ml_5 mo_5 mk_5).binds λ_ _ _ _ _ _=>w1 λ_=>rfl
  F_M:=ao ml_d mo_d mk_d
  B_M:=(ao ml_d mo_d mk_d).binds λ_ _ _ _ _ _=>w1 λ_=>rfl
  F_P:=ao ml_1 mo_1 mk_1
  B_P:=(ao ml_1 mo_1 mk_1).binds λ_ _ _ _ _ _=>w1 λ_=>rfl
  mt_i:=⟨mf_8,mi_8,mk_8⟩
  mt_c:=⟨mf_15,mi_15,mk_15⟩
  mt_d:=⟨mf_10,mi_10,mk_10⟩
  mt_b:=⟨mf_4,mi_4,mk_4⟩
  mt_l:=⟨mf_c,mi_c,mk_c⟩
  mt_t:=⟨mf_7,mi_7,mk_7⟩
  mt_p:=⟨mf_14,mi_14,mk_14⟩
  mt_n:=⟨mf_f,mi_f,mk_f⟩
  mt_m:=⟨mf_3,mi_3,mk_3⟩
  mt_k:=⟨mf_b,mi_b,mk_b⟩
  mt_N:=⟨mf_9,mi_9,mk_9⟩
  mt_B:=⟨mf_16,mi_16,mk_16⟩
  mt_C:=⟨mf_11,mi_11,mk_11⟩
  mt_R:=⟨mf_5,mi_5,mk_5⟩
  mt_M:=⟨mf_d,mi_d,mk_d⟩
  mt_P:=⟨mf_1,mi_1,mk_1⟩
  mc_r:=mg_of X G ca_r
  cl_r:=⟨pa_r,pb_r,pc_r,pd_r⟩
  ty_r:=λH x dx fs e=>.ins e ⟨pa_r,pb_r,pc_r,pd_r⟩ pe_r pf_r pg_r ph_r
  mk_r:=⟨qa_r,qb_r,qc_r,qd_r⟩
  na_Few_many:=qn_Few_many
  Fi_r:=ao cl_r co_r ck_r
  Bi_r:=(ao cl_r co_r ck_r).binds λ_ _ _ _ _ _=>w2 λ_ _=>rfl
  mc_e:=mg_of X G ca_e
  cl_e:=⟨pa_e,pb_e,pc_e,pd_e⟩
  ty_e:=λH x dx fs e=>.ins e ⟨pa_e,pb_e,pc_e,pd_e⟩ pe_e pf_e pg_e ph_e
  mk_e:=⟨qa_e,qb_e,qc_e,qd_e⟩
  na_Start_step:=qn_Start_step
  Fi_e:=ao cl_e co_e ck_e
  Bi_e:=(ao cl_e co_e ck_e).binds λ_ _ _ _ _ _=>w2 λ_ _=>rfl
  mc_g:=mg_of X G ca_g
  cl_g:=⟨pa_g,pb_g,pc_g,pd_g⟩
  ty_g:=λH x dx fs e=>.ins e ⟨pa_g,pb_g,pc_g,pd_g⟩ pe_g pf_g pg_g ph_g
  mk_g:=⟨qa_g,qb_g,qc_g,qd_g⟩
  na_Loose_many:=qn_Loose_many
  Fi_g:=ao cl_g co_g ck_g
  Bi_g:=(ao cl_g co_g ck_g).binds λ_ _ _ _ _ _=>w2 λ_ _=>rfl
  mc_j:=mg_of X G ca_j
  g_j:=⟨_,mg_of X G ca_j,rfl⟩
  cl_j:=⟨pa_j,pb_j,pc_j,pd_j⟩
  ty_j:=λH x dx fs e=>.ins e ⟨pa_j,pb_j,pc_j,pd_j⟩ pe_j pf_j pg_j ph_j
  mk_j:=⟨qa_j,qb_j,qc_j,qd_j⟩
  na_Each_inside:=qn_Each_inside
  Fi_j:=ao cl_j co_j ck_j
  Bi_j:=(ao cl_j co_j ck_j).binds λ_ _ _ _ _ _=>w2 λ_ _=>rfl
  mc_a:=mg_of X G ca_a
  g_a:=⟨_,mg_of X G ca_a,rfl⟩
  cl_a:=⟨pa_a,pb_a,pc_a,pd_a⟩
  ty_a:=λH x dx fs e=>.ins e ⟨pa_a,pb_a,pc_a,pd_a⟩ pe_a pf_a pg_a ph_a
  mk_a:=⟨qa_a,qb_a,qc_a,qd_a⟩
  na_First_outside:=qn_First_outside
  na_First_inside:=qn_First_inside
  Fi_a:=ao cl_a co_a ck_a
  Bi_a:=(ao cl_a co_a ck_a).binds λ_ _ _ _ _ _=>w3 λ_ _ _=>rfl
  mc_s:=mg_of X G ca_s
  cl_s:=⟨pa_s,pb_s,pc_s,pd_s⟩
  ty_s:=λH x dx fs e=>.ins e ⟨pa_s,pb_s,pc_s,pd_s⟩ pe_s pf_s pg_s ph_s
  mk_s:=⟨qa_s,qb_s,qc_s,qd_s⟩
  na_Duel_many:=qn_Duel_many
  Bi_s:=(ao cl_s co_s ck_s).binds λ_ _ _ _ _ _=>w2 λ_ _=>rfl
  g_FIGURES:=⟨u0,mg_of X G b0,r0⟩
  g_MOST_FIGURES:=⟨u1,mg_of X G b1,r1⟩
  g_MOST_MANY:=⟨u2,mg_of X G b2,r2⟩
  g_MOST_STEP:=⟨u3,mg_of X G b3,r3⟩
  g_MOST_AROUND:=⟨u4,mg_of X G b4,r4⟩
  mc_G:=mg_of X G ca_G
  xh_G:=xq cc_G
  sf:=fact_sf
  ss:=fact_ss
  sl:=fact_sl
  sd:=fact_sd
  se:=fact_se
  sa:=fact_sa
  kfe:=fact_kfe
  kfa:=fact_kfa
  kse:=fact_kse
  ksa:=fact_ksa
  kle:=fact_kle
  kla:=fact_kla
  kde:=fact_kde
  kda:=fact_kda
  kee:=fact_kee
  kae:=fact_kae
  kaa:=fact_kaa
  z_abs:=mg_none_of X G z0
  z_all:=mg_none_of X G z1
  z_bool:=mg_none_of X G z2
  z_enumerate:=mg_none_of X G z3
  z_int:=mg_none_of X G z4
  z_isinstance:=mg_none_of X G z5
  z_len:=mg_none_of X G z6
  z_list:=mg_none_of X G z7
  z_max:=mg_none_of X G z8
  z_min:=mg_none_of X G z9
  z_range:=mg_none_of X G z10
  z_sorted:=mg_none_of X G z11
  z_str:=mg_none_of X G z12
  z_sum:=mg_none_of X G z13
  z_tuple:=mg_none_of X G z14
  bl:=λs u=>.of_eq rfl }
end My
open PySem PySem.W PyProof.Rows
namespace PySem.W.Fast
def tw10909570865199575943:=0
def tw11056518751252123701:=0
def tw6035179416989481378:=0
def tw5016404135616474634:=0
def tw11411681223737496298:=0
def tw9623329974306778829:=0
def tw1356300216299857295:=0
def tw3322733365328853711:=0
def tw18248131413174965424:=0
def tw6078712965685712048:=0
def tw6611892890736587316:=0
def tw12739312730820486740:=0
def tw6699171778798573333:=0
def tw12902885142410353558:=0
def tw5935824165320191960:=0
def tw14980038265639970681:=0
def tw2198947810082914362:=0
def tw905906092327022234:=0
def tw17135967550179976090:=0
def tw11909843195693755804:=0
def tw3323969871858921021:=0
def tw13861913017267226174:=0
def tw17135961191189519007:=0
def tw10005021839875725903:=0
def tw10008680187092366239:=0
def tw10018779649282556516:=0
def tw10088702252437478637:=0
def tw10102945685433897931:=0
def tw10109240888800837164:=0
def tw10112908996273350414:=0
def tw10190905837117283128:=0
def tw10212258280546434887:=0
def tw10212657369492405150:=0
def tw10257184183422385913:=0
def tw10268931000719090914:=0
def tw10272009108532414355:=0
def tw10331370034927280586:=0
def tw10333745270692152966:=0
def tw10354491477991237136:=0
def tw10371847577500844930:=0
def tw10388185456512327893:=0
def tw1040508988167958609:=0
def tw10470162332827683517:=0
def tw10486827896813089281:=0
def tw1049121411975531793:=0
def tw1050197410331542358:=0
def tw10615599348510872538:=0
def tw10626833092941239151:=0
def tw10632815166866900330:=0
def tw10655046435906462121:=0
def tw10666035953322766319:=0
def tw1071725856209501489:=0
def tw10758229714897122981:=0
def tw10761865715729087483:=0
def tw10816184638377170038:=0
def tw10899784824832119592:=0
def tw10971724015055989175:=0
def tw10986362497079976727:=0
def tw11028414320893942030:=0
def tw11047946196461122259:=0
def tw11080423947063707793:=0
def tw11094732057826881411:=0
def tw11115810005664568458:=0
def tw11123313140654811872:=0
def tw1112645205871032098:=0
def tw11136294156220244135:=0
def tw1116634616542601698:=0
def tw11166589061701852223:=0
def tw11221445256584438910:=0
def tw11241437082204220060:=0
def tw11247680276731871297:=0
def tw11257932036963645563:=0
def tw11315068546592139982:=0
def tw11324858519723275:=0
def tw11327820957464062317:=0
def tw11360553862975495241:=0
def tw11429597390597171569:=0
def tw11471077053390610382:=0
def tw11512903008805163427:=0
def tw11524051422449580564:=0
def tw11534380118535203051:=0
def tw11605101700341414184:=0
def tw11636665148118557435:=0
def tw11713592508871437754:=0
def tw11716265458291765108:=0
def tw11738312557338825127:=0
def tw11768708336942885496:=0
def tw1177802304675038652:=0
def tw11809576600777907790:=0
def tw11812690027120694113:=0
def tw11818127106502223280:=0
def tw11858200540065925649:=0
def tw11865637427151003775:=0
def tw11871034227107086694:=0
def tw11891284818044441300:=0
def tw11891986951552510312:=0
def tw11932633653943080465:=0
def tw11947362309753224651:=0
def tw11986666954753544804:=0
def tw11990846170942597399:=0
def tw12003288618784869107:=0
def tw12004922725966854370:=0
def tw12029364950194112220:=0
def tw12029666340084760862:=0
def tw12062873103552642892:=0
def tw12085549485541552673:=0
def tw12115329677406257154:=0
def tw12120320799110425214:=0
def tw12143484591871536416:=0
def tw12154850380645970641:=0
def tw12164497848010676190:=0
def tw12217738638914152002:=0
def tw12238621165257099835:=0
def tw12263534413868499561:=0
def tw12292821459153101432:=0
def tw12330012624186420762:=0
def tw12341795693028092109:=0
def tw12345959505515754067:=0
def tw1234657153125209186:=0
def tw1238503234604513286:=0
def tw12413128634421738339:=0
def tw12448167211182734524:=0
def tw12472473314628190595:=0
def tw12503183872145806966:=0
def tw12572025499060016233:=0
def tw12582314643767728734:=0
def tw12625288136430338079:=0
def tw12639691119553560041:=0
def tw1265811541906677790:=0
def tw12674761712630072626:=0
def tw12677017410673002952:=0
def tw12695486811944947531:=0
def tw12698281115512949581:=0
def tw12703486472366068541:=0
def tw12781641351621731577:=0
def tw12785572967866501304:=0
def tw12804427250467547138:=0
def tw12816228084591393388:=0
def tw1287812352714178050:=0
def tw12899968940302407267:=0
def tw12906752634910969657:=0
def tw12907529933101825814:=0
def tw12947463309817515941:=0
def tw12954121658308014749:=0
def tw12964529587256987345:=0
def tw13003988490780738970:=0
def tw1301407478325783765:=0
def tw130334215792212039:=0
def tw13047948329684872585:=0
def tw1310005790048797231:=0
def tw13142066712813988491:=0
def tw13143533801750627802:=0
def tw13215240623158894615:=0
def tw13240572365872170598:=0
def tw13241848494194768516:=0
def tw13257341269173469288:=0
def tw13281879373306919438:=0
def tw13319517434606959497:=0
def tw13427140754812148211:=0
def tw13480464086249353214:=0
def tw13487997278551003375:=0
def tw13495263119089672191:=0
def tw1350488360931393204:=0
def tw13538177268689523918:=0
def tw13544655020118998117:=0
def tw13546570817105311288:=0
def tw13583675443255049206:=0
def tw13589408064643777030:=0
def tw13649491013628727780:=0
def tw13676103213155091838:=0
def tw13739731168896835496:=0
def tw13745786563152684239:=0
def tw137574161441649022:=0
def tw13772324307289412149:=0
def tw13876497663601775986:=0
def tw1389846904498644166:=0
def tw13906598122609718175:=0
def tw13948436323812388504:=0
def tw1397723240452806664:=0
def tw14019091634051718250:=0
def tw14119192470337071040:=0
def tw1417433349047742371:=0
def tw14182597705478691270:=0
def tw14213130059182540712:=0
def tw14225597978329204268:=0
def tw14274958302510896107:=0
def tw14300760500140915427:=0
def tw14328884391418656697:=0
def tw14368504401631422085:=0
def tw14380416150378656827:=0
def tw14381646403986932310:=0
def tw14554239703022258271:=0
def tw14566272180095569693:=0
def tw14596312162363761104:=0
def tw1462501761954687257:=0
def tw14643772821308602259:=0
def tw14680848160205431960:=0
def tw14701784351200563888:=0
def tw14734913625725880812:=0
def tw14742687577899675664:=0
def tw14825085710821337552:=0
def tw14829543056325942548:=0
def tw14830111496323158625:=0
def tw14839059391308253090:=0
def tw14866172012732111301:=0
def tw14873505819877919927:=0
def tw14953656058195193015:=0
def tw14962664510145154221:=0
def tw14972755453435071:=0
def tw15021615184212807909:=0
def tw15053087952930912373:=0
def tw15095348082163639718:=0
def tw15120456229578071883:=0
def tw15169696459987399010:=0
def tw15195265195644199091:=0
def tw15195996501872848861:=0
def tw15198817998864451439:=0
def tw15216614209506145108:=0
def tw15241036039732723272:=0
def tw15242998766325503465:=0
def tw15261167269914675777:=0
def tw15272192151328448571:=0
def tw15291024141768428823:=0
def tw15321521008752100031:=0
def tw15331641866657704497:=0
def tw15389602675044623485:=0
def tw15396793740757500830:=0
def tw15397505380527791349:=0
def tw15448750197886817025:=0
def tw15451253220241548023:=0
def tw15507633462446599635:=0
def tw15519223923380079833:=0
def tw15557520282168056627:=0
def tw1561255469698192622:=0
def tw1562344116514877621:=0
def tw15657789554469303342:=0
def tw15731593975975308389:=0
def tw15732561591542668020:=0
def tw15742710884337068700:=0
def tw15772658424322778559:=0
def tw15784837026123715102:=0
def tw15798409770776884683:=0
def tw15812239391335801841:=0
def tw15858630597621544102:=0
def tw15896266774010452960:=0
def tw1590291097441786635:=0
def tw15924677534342247472:=0
def tw15941649133905463085:=0
def tw1595710981492568737:=0
def tw15959878004870414886:=0
def tw16084117145902720991:=0
def tw16087211215078739366:=0
def tw16123818507515585660:=0
def tw16175686184962690357:=0
def tw16206369013870646249:=0
def tw1623338373916417398:=0
def tw16241661317412776819:=0
def tw16263873658861435769:=0
def tw16273886637086822113:=0
def tw1627959882245084862:=0
def tw16293903318937008735:=0
def tw16294403311522601664:=0
def tw16307386118707453994:=0
def tw16345315715204137904:=0
def tw16363643307475792060:=0
def tw16374901353861968268:=0
def tw16381386828079441549:=0
def tw16430013548910639762:=0
def tw16436230894371108075:=0
def tw16462260763217654079:=0
def tw16587344581414349872:=0
def tw1659117370039629872:=0
def tw16594032382584959435:=0
def tw16615671745507068996:=0
def tw16615950813536382726:=0
def tw16623304162199788907:=0
def tw16673002249925308517:=0
def tw16679611412114599569:=0
def tw16687180515473391318:=0
def tw16768313443355202710:=0
def tw16772447222285970816:=0
def tw16777264859796995101:=0
def tw16780449733487554863:=0
def tw16801635467694507712:=0
def tw16835356493506893032:=0
def tw16853523764665551542:=0
def tw16861290536170685601:=0
def tw16876791579015047029:=0
def tw16916424102557171793:=0
def tw16918214898000779004:=0
def tw16922042166022919648:=0
def tw16934667963765516131:=0
def tw16971652837999471553:=0
def tw1701020812582106543:=0
def tw17019939475850606369:=0
def tw17026871975505405881:=0
def tw17069274796126229696:=0
def tw17099031776803088148:=0
def tw17100054853029700664:=0
def tw17101919943503765037:=0
def tw1712768843365188155:=0
def tw1715467367261804842:=0
def tw17178838088163439024:=0
def tw17216168323600559476:=0
def tw17225597042765699483:=0
def tw17226635647504032547:=0
def tw17238239395422803771:=0
def tw17246895537198807284:=0
def tw17322954542759795116:=0
def tw17334635817263087527:=0
def tw17349289419067152064:=0
def tw17381874918895938405:=0
def tw17383274748461034790:=0
def tw17390255229214913491:=0
def tw17391850137459633127:=0
def tw17398232985397277921:=0
def tw17400696336524203357:=0
def tw17405808290430425983:=0
def tw17410781171144150645:=0
def tw17426915750004702650:=0
def tw17455471811485404911:=0
def tw17486835919299794024:=0
def tw17504140903135646645:=0
def tw17541335407266390510:=0
def tw17552832458876900348:=0
def tw17650865810367035916:=0
def tw17686184452242894962:=0
def tw17688469786629967620:=0
def tw17717337256085453133:=0
def tw17751843291389952405:=0
def tw17833208112442585737:=0
def tw17836232080376431381:=0
def tw17871729693435210148:=0
def tw17880932668994450282:=0
def tw1788302821997046029:=0
def tw17957588422035986426:=0
def tw18000759096882179607:=0
def tw18066705699574322626:=0
def tw1807343601669370497:=0
def tw18098437775628427527:=0
def tw18106283539083458103:=0
def tw18106652145989346625:=0
def tw1812075908617194473:=0
def tw18159264009016595421:=0
def tw18169814013129861393:=0
def tw18184040496014906647:=0
def tw18199336311010598199:=0
def tw18267894949278393517:=0
def tw18315580406350077721:=0
def tw18330400945130561283:=0
def tw18334320057144364628:=0
def tw18358390402216562662:=0
def tw18366182989718725668:=0
def tw1849428229039942998:=0
def tw1863821081550705597:=0
def tw1867383887488957715:=0
def tw1919492575780254950:=0
def tw192431333105347506:=0
def tw195505009386163132:=0
def tw1955143601747230799:=0
def tw1997154320829236835:=0
def tw2003061639082440583:=0
def tw2014551945504761721:=0
def tw2043853277823753230:=0
def tw2062928811779389883:=0
def tw2126734937223054727:=0
def tw2234450183315806225:=0
def tw2241166142708021808:=0
def tw2256672872597143735:=0
def tw2260577391404400674:=0
def tw2315486932203858788:=0
def tw2339394410951051330:=0
def tw2356272444911309174:=0
def tw2356896736766001581:=0
def tw2365709745567715926:=0
def tw2369020451973446397:=0
def tw2399227719649190030:=0
def tw2407258857678466602:=0
def tw2430101126637503560:=0
def tw2432094410741210743:=0
def tw2432684831448781542:=0
def tw2461503229508407432:=0
def tw2473506861010532050:=0
def tw2542012619319935698:=0
def tw255739530171281292:=0
def tw2593543152949320275:=0
def tw2613110987633151345:=0
def tw2626795831190544168:=0
def tw2653109436178725475:=0
def tw2679504662669376158:=0
def tw2689743809278358197:=0
def tw2690316953772933958:=0
def tw2701570434172016349:=0
def tw2751506111204007187:=0
def tw2776853560515633112:=0
def tw2793525357373660596:=0
def tw2812841980598255656:=0
def tw2815083576367576336:=0
def tw2850776552091070706:=0
def tw2870780416862211827:=0
def tw287388917013636818:=0
def tw2900452311584058204:=0
def tw2911912832795351811:=0
def tw2921353626843617874:=0
def tw2937402961882249969:=0
def tw2967244002468462095:=0
def tw2975552123610253514:=0
def tw300094657210608010:=0
def tw309282613889119858:=0
def tw3105587192043056040:=0
def tw31335894702639628:=0
def tw3166827227603850100:=0
def tw3171120329131479880:=0
def tw3216689868681220639:=0
def tw3302899678837631660:=0
def tw3317886766103862021:=0
def tw3420193081253023946:=0
def tw3421632985255486759:=0
def tw3429973383518661588:=0
def tw3432603273662912930:=0
def tw3433766644356823868:=0
def tw3457708228277678929:=0
def tw3460296304453782444:=0
def tw3466034482364604470:=0
def tw3478304789355171811:=0
def tw3480732575641984060:=0
def tw3529727009106989141:=0
def tw3538794175356410572:=0
def tw3542898131346875016:=0
def tw3550859259615812364:=0
def tw358968479102839230:=0
def tw3602133024480855731:=0
def tw3604165852604749:=0
def tw3623635671656716343:=0
def tw3662820014275631603:=0
def tw3705035803225342176:=0
def tw3715071523250625054:=0
def tw3739344643930151282:=0
def tw3772240508068838157:=0
def tw3817919928712548975:=0
def tw3836986240216743637:=0
def tw3845767334674316294:=0
def tw3882956589255585110:=0
def tw3894192973919303467:=0
def tw3894319821214993574:=0
def tw3925612303505500079:=0
def tw3961629158145446383:=0
def tw396511547337217589:=0
def tw3983091524327407841:=0
def tw3995562362511412183:=0
def tw4037240280768987207:=0
def tw4045328509966818414:=0
def tw4048940215743684569:=0
def tw4063424568218380076:=0
def tw4078280662423908316:=0
def tw408976763588618096:=0
def tw4102328758556844732:=0
def tw4114166684909561143:=0
def tw4122159796673606240:=0
def tw4137395135477150735:=0
def tw4155523454888496843:=0
def tw4204022911835855313:=0
def tw4235349694057659804:=0
def tw428537745756964896:=0
def tw4353285920589000261:=0
def tw4362446803737509684:=0
def tw4395250087071137908:=0
def tw4405212950249650162:=0
def tw4411794405406358082:=0
def tw4420898511840497879:=0
def tw4466234850544744461:=0
def tw4468581426798373601:=0
def tw4519282448501926288:=0
def tw4528543508868361220:=0
def tw4569159370755279154:=0
def tw4596427000387091276:=0
def tw4599330165607378674:=0
def tw4684048308950556757:=0
def tw4710019851034210122:=0
def tw4772085711797072457:=0
def tw4777523609222069146:=0
def tw4780012882659333306:=0
def tw4789689243667355873:=0
def tw4802655820280649563:=0
def tw4857274658641589841:=0
def tw4857318256159975047:=0
def tw4858323965041359130:=0
def tw4876215458697393592:=0
def tw494817109679691511:=0
def tw4985700189770600133:=0
def tw5006689572693122012:=0
def tw5040838649378108270:=0
def tw5064776413737621719:=0
def tw5070614980462361063:=0
def tw5072007603688183563:=0
def tw5152337619958684136:=0
def tw5158525530659787063:=0
def tw5174798793078431061:=0
def tw5177395765982628384:=0
def tw520735046038471072:=0
def tw5260888794013998299:=0
def tw5262358014725309689:=0
def tw5266134232026225173:=0
def tw5285435059722894639:=0
def tw5288845113928710945:=0
def tw5303786978898142941:=0
def tw5337190279284846561:=0
def tw5391391426595920557:=0
def tw5394005400479765054:=0
def tw5397188716836791433:=0
def tw5488560664875169671:=0
def tw5535284749795803479:=0
def tw5551496667610930861:=0
def tw55613975739306614:=0
def tw5631897049357178065:=0
def tw565133685609463072:=0
def tw565359907200821588:=0
def tw5710547251208699325:=0
def tw5744628641160989390:=0
def tw5750936430111546248:=0
def tw5760648088839088765:=0
def tw5790339362148554270:=0
def tw5797047470228584133:=0
def tw5829249387524693061:=0
def tw5835800093665766055:=0
def tw5894717348233848218:=0
def tw5938562206784942481:=0
def tw5939042335504985474:=0
def tw5952762868120248102:=0
def tw5965447339442840417:=0
def tw6045793382664695877:=0
def tw6105701553412653078:=0
def tw6188647616827322337:=0
def tw6211122033946438160:=0
def tw6215396771297017738:=0
def tw6221545498976094566:=0
def tw6221818072195026644:=0
def tw6254500368257658916:=0
def tw6270614172471348031:=0
def tw6378848468054116870:=0
def tw6390857842448758936:=0
def tw6500800077563084278:=0
def tw6502275894010023191:=0
def tw6516104758778657723:=0
def tw6537188379536955842:=0
def tw6572492156055727380:=0
def tw660627275982412363:=0
def tw6611541398889421896:=0
def tw6656660336015573908:=0
def tw669183558827272562:=0
def tw673446978685396208:=0
def tw6812435866971837622:=0
def tw682889708147213886:=0
def tw6872229112749935632:=0
def tw6873360270253823510:=0
def tw6904890806998330085:=0
def tw690889420322379011:=0
def tw6937433555576603100:=0
def tw6970345089961224745:=0
def tw6970694116257956977:=0
def tw701349022585274551:=0
def tw7034777106057799710:=0
def tw7040117249876205348:=0
def tw707069714333467521:=0
def tw7086482607085629250:=0
def tw7103120349932628429:=0
def tw7117181128845420904:=0
def tw7142457044995223463:=0
def tw7150587175595663903:=0
def tw7168467035231708023:=0
def tw7177891400343807520:=0
def tw7178827080420141602:=0
def tw7235425576506182486:=0
def tw7245410386738229735:=0
def tw7252785064669092796:=0
def tw7276143586557549181:=0
def tw7279704332078844724:=0
def tw7300672648143593870:=0
def tw7304651421176389066:=0
def tw7343613384563266674:=0
def tw7348974358025260374:=0
def tw7398288549977317178:=0
def tw7410433789138847080:=0
def tw7446321239183546817:=0
def tw7468381016250443241:=0
def tw7573756639744981559:=0
def tw7597255060949870978:=0
def tw7604792009632294188:=0
def tw7612278100351735956:=0
def tw7652297488806614351:=0
def tw7729268066465201079:=0
def tw774111630247975420:=0
def tw7756123756019470122:=0
def tw7758139760320154646:=0
def tw7773386325589350568:=0
def tw7793869344785651305:=0
def tw7819951495028194200:=0
def tw7861160703378199378:=0
def tw7873395352333351376:=0
def tw7898543852019940291:=0
def tw7908369661723485239:=0
def tw7916479349221813870:=0
def tw7924480357337940844:=0
def tw7955486266655245532:=0
def tw8033730687381449884:=0
def tw8071539104491652210:=0
def tw8118527966868294728:=0
def tw812028713279330376:=0
def tw8120891603606836043:=0
def tw8162402561636901951:=0
def tw8169455846849427369:=0
def tw8178923997226712320:=0
def tw820613604265627181:=0
def tw8213426196856563158:=0
def tw8254492138004873202:=0
def tw8305453753931766655:=0
def tw8305733097567936991:=0
def tw8326780175018334176:=0
def tw8331963601889079252:=0
def tw8392670813321281710:=0
def tw839711929875594144:=0
def tw8409501156820143654:=0
def tw8412989056956677830:=0
def tw843092943328027104:=0
def tw8435443746011717838:=0
def tw8440880058049264355:=0
def tw8443382636403920960:=0
def tw8444359566046575470:=0
def tw844994413537890471:=0
def tw8453144145076751683:=0
def tw8461330670298664695:=0
def tw8461520705694403898:=0
def tw850047401335487129:=0
def tw8529461160959982070:=0
def tw8589041771242130695:=0
def tw8594309227825722092:=0
def tw859444433003011413:=0
def tw8620114031065059644:=0
def tw8630527773464754473:=0
def tw8657830978378226466:=0
def tw8669076294496486754:=0
def tw8672076056778430473:=0
def tw8701208786804041565:=0
def tw8731942538280073420:=0
def tw8735190576187816042:=0
def tw8779889640886492382:=0
def tw878431253002387752:=0
def tw8799053829141348275:=0
def tw8801959740644638833:=0
def tw8819922897853596503:=0
def tw8893410248220212001:=0
def tw8919316538203803919:=0
def tw8940222830907959726:=0
def tw8944424975817396676:=0
def tw8952993633037205842:=0
def tw8959410580306660407:=0
def tw8964399538112584163:=0
def tw8964406560996157997:=0
def tw8979903563697874778:=0
def tw8994903661443713465:=0
def tw9068758743471553343:=0
def tw9202169800874334209:=0
def tw9236403540773741594:=0
def tw9301185556736894821:=0
def tw9334536007513139360:=0
def tw9353851000889728531:=0
def tw9385175373390893088:=0
def tw9413512279754186283:=0
def tw9431986784081163170:=0
def tw9462071070875413463:=0
def tw9469582944087895541:=0
def tw948050721755183874:=0
def tw9482890292402861715:=0
def tw9499537820264564018:=0
def tw9528987205233500708:=0
def tw9557707918834535388:=0
def tw9563795411798236713:=0
def tw9567177670024115361:=0
def tw9608534016097248884:=0
def tw9716924923208815733:=0
def tw9719878181987558287:=0
def tw9816261072030089754:=0
def tw9838174881817856127:=0
def tw9928096091873416811:=0
def tw9947328190745524947:=0
def tw9952278707307709323:=0
end PySem.W.Fast
set_option maxRecDepth 100000 in
set_option maxHeartbeats 0 in
theorem PySem.Challenge.cw_fewspeak_k44_whole_nested_matrices_holds : PySem.Challenge.rw_fewspeak_k44_whole_nested_matrices.Holds := by
 w_on;o_law;k_head;(case hw=>w_witness2)
 k_fill
 refine L2.walk_ofT (l:=PySem.Challenge.rw_fewspeak_k44_whole_nested_matrices) (n:=63) (k:=My.lawK) (x := "_law_script") (CX:=L2.CX0) (sp:=My.spLaw) rfl (by decide) rfl ⟨rfl,by decide,by decide⟩ (λw h Y=>⟨PySem.W.km_in_of Y,PySem.W.km_tabs_of Y⟩) ?F ?S ?C
 case F =>
  intro ts' hts w mg fa h KX G hmg
  have T:∃ a,My.Txt (L2.KOf KX) mg a/\(My.tabs a).map (·.1)=[218,272,319,367,400]:=by
   dsimp only[L2.KOf]
   refine' My.txt_mk KX G ?a0 ?l0 ?c0 ?k0 ?a1 ?l1 ?c1 ?k1 ?a2 ?l2 ?c2 ?k2 ?a3 ?l3 ?c3 ?k3 ?a4 ?l4 ?c4 ?k4 ?a5 ?l5 ?c5 ?k5 ?a6 ?l6 ?c6 ?k6 ?a7 ?l7 ?c7 ?k7 ?a8 ?l8 ?c8 ?k8 ?a9 ?l9 ?c9 ?k9 ?a10 ?l10 ?c10 ?k10 ?a11 ?l11 ?c11 ?k11 ?a12 ?l12 ?c12 ?k12 ?a13 ?l13 ?c13 ?k13 ?a14 ?l14 ?c14 ?k14 ?a15 ?l15 ?c15 ?k15 ?a16 ?l16 ?c16 ?k16 ?a17 ?l17 ?c17 ?k17 ?a18 ?l18 ?c18 ?k18 ?a19 ?l19 ?c19 ?k19 ?a20 ?l20 ?c20 ?k20 ?a21 ?l21 ?c21 ?k21 ?a22 ?l22 ?c22 ?k22 ?a23 ?l23 ?c23 ?k23 ?a24 ?l24 ?c24 ?k24 ?a25 ?l25 ?c25 ?k25 ?a26 ?l26 ?c26 ?k26 ?a27 ?l27 ?c27 ?k27 ?a28 ?l28 ?c28 ?k28 ?a29 ?l29 ?c29 ?k29 ?a30 ?l30 ?c30 ?k30 ?a31 ?l31 ?c31 ?k31 ?a32 ?l32 ?c32 ?k32 ?a33 ?l33 ?c33 ?k33 ?a34 ?l34 ?c34 ?k34 ?a35 ?l35 ?c35 ?k35 ?a36 ?l36 ?c36 ?k36 ?a37 ?l37 ?c37 ?k37 ?a38 ?l38 ?c38 ?k38 ?a39 ?l39 ?c39 ?k39 ?a40 ?l40 ?c40 ?k40 ?a41 ?l41 ?c41 ?k41 ?a42 ?l42 ?c42 ?k42 ?a43 ?l43 ?c43 ?k43 ?a44 ?l44 ?c44 ?k44 ?a45 ?l45 ?c45 ?k45 ?a46 ?l46 ?c46 ?k46 ?b_NOUGHT ?bt_NOUGHT ?b_WHOLE ?bt_WHOLE ?b_TWICE ?bt_TWICE ?b_COUNTED ?bt_COUNTED ?b0 ?b1 ?b2 ?b3 ?b4 ?ca_al ?cb_al ?cc_al ?cx_al ?ca_G ?cb_G ?cc_G ?cf_G ?cx_G ?cg_G ?cl_G ?co_G ?ck_G ?cs_NoPlan_place ?ca_ar ?cb_ar ?cc_ar ?cx_ar ?ca_aq ?pa_aq ?pb_aq ?pc_aq ?pd_aq ?pe_aq ?pf_aq ?pg_aq ?ph_aq ?ca_r ?pa_r ?pb_r ?pc_r ?pd_r ?pe_r ?pf_r ?pg_r ?ph_r ?qa_r ?qb_r ?qc_r ?qd_r ?qn_Few_many ?cl_r ?co_r ?ck_r ?ca_e ?pa_e ?pb_e ?pc_e ?pd_e ?pe_e ?pf_e ?pg_e ?ph_e ?qa_e ?qb_e ?qc_e ?qd_e ?qn_Start_step ?cl_e ?co_e ?ck_e ?ca_g ?pa_g ?pb_g ?pc_g ?pd_g ?pe_g ?pf_g ?pg_g ?ph_g ?qa_g ?qb_g ?qc_g ?qd_g ?qn_Loose_many ?cl_g ?co_g ?ck_g ?ca_j ?pa_j ?pb_j ?pc_j ?pd_j ?pe_j ?pf_j ?pg_j ?ph_j ?qa_j ?qb_j ?qc_j ?qd_j ?qn_Each_inside ?cl_j ?co_j ?ck_j ?ca_a ?pa_a ?pb_a ?pc_a ?pd_a ?pe_a ?pf_a ?pg_a ?ph_a ?qa_a ?qb_a ?qc_a ?qd_a ?qn_First_outside ?qn_First_inside ?cl_a ?co_a ?ck_a ?ca_s ?pa_s ?pb_s ?pc_s ?pd_s ?pe_s ?pf_s ?pg_s ?ph_s ?qa_s ?qb_s ?qc_s ?qd_s ?qn_Duel_many ?cl_s ?co_s ?ck_s ?mf_8 ?ml_8 ?mo_8 ?mk_8 ?mi_8 ?mf_15 ?ml_15 ?mo_15 ?mk_15 ?mi_15 ?mf_10 ?ml_10 ?mo_10 ?mk_10 ?mi_10 ?mf_4 ?ml_4 ?mo_4 ?mk_4 ?mi_4 ?mf_c ?ml_c ?mo_c ?mk_c ?mi_c ?mf_7 ?ml_7 ?mo_7 ?mk_7 ?mi_7 ?mf_14 ?ml_14 ?mo_14 ?mk_14 ?mi_14 ?mf_f ?ml_f ?mo_f ?mk_f ?mi_f ?mf_3 ?ml_3 ?mo_3 ?mk_3 ?mi_3 ?mf_b ?ml_b ?mo_b ?mk_b ?mi_b ?mf_9 ?ml_9 ?mo_9 ?mk_9 ?mi_9 ?mf_16 ?ml_16 ?mo_16 ?mk_16 ?mi_16 ?mf_11 ?ml_11 ?mo_11 ?mk_11 ?mi_11 ?mf_5 ?ml_5 ?mo_5 ?mk_5 ?mi_5 ?mf_d ?ml_d ?mo_d ?mk_d ?mi_d ?mf_1 ?ml_1 ?mo_1 ?mk_1 ?mi_1 ?lca_8 ?lct_8 ?lcq_8 ?lch_i ?lca_15 ?lct_15 ?lcq_15 ?lch_c ?lca_10 ?lct_10 ?lcq_10 ?lch_d ?lca_17 ?lct_17 ?lcq_17 ?lch_h ?lca_4 ?lct_4 ?lcq_4 ?lch_b ?ltnd ?fact_sf ?fact_ss ?fact_sl ?fact_sd ?fact_se ?fact_sa ?fact_kfe ?fact_kfa ?fact_kse ?fact_ksa ?fact_kle ?fact_kla ?fact_kde ?fact_kda ?fact_kee ?fact_kea ?fact_kae ?fact_kaa ?z0 ?z1 ?z2 ?z3 ?z4 ?z5 ?z6 ?z7 ?z8 ?z9 ?z10 ?z11 ?z12 ?z13 ?z14 ?r0 ?r1 ?r2 ?r3 ?r4
   case a0|l0|c0|k0|a1|l1|c1|k1|a2|l2|c2|k2|a3|l3|c3|k3|a4|l4|c4|k4|a5|l5|c5|k5|a6|l6|c6|k6|a7|l7|c7|k7|a8|l8|c8|k8|a9|l9|c9|k9|a10|l10|c10|k10|a11|l11|c11|k11|a12|l12|c12|k12|a13|l13|c13|k13|a14|l14|c14|k14|a15|l15|c15|k15|a16|l16|c16|k16|a17|l17|c17|k17|a18|l18|c18|k18|a19|l19|c19|k19|a20|l20|c20|k20|a21|l21|c21|k21|a22|l22|c22|k22|a23|l23|c23|k23|a24|l24|c24|k24|a25|l25|c25|k25|a26|l26|c26|k26|a27|l27|c27|k27|a28|l28|c28|k28|a29|l29|c29|k29|a30|l30|c30|k30|a31|l31|c31|k31|a32|l32|c32|k32|a33|l33|c33|k33|a34|l34|c34|k34|a35|l35|c35|k35|a36|l36|c36|k36|a37|l37|c37|k37|a38|l38|c38|k38|a39|l39|c39|k39|a40|l40|c40|k40|a41|l41|c41|k41|a42|l42|c42|k42|a43|l43|c43|k43|a44|l44|c44|k44|a45|l45|c45|k45|a46|l46|c46|k46|b_NOUGHT =>k_is
   case bt_NOUGHT =>kernel_rfl
   case b_WHOLE =>k_is
   case bt_WHOLE =>kernel_rfl
   case b_TWICE =>k_is
   case bt_TWICE =>kernel_rfl
   case b_COUNTED =>k_is
   case bt_COUNTED =>kernel_rfl
   case b0|b1|b2|b3|b4|ca_al|cb_al =>k_is
   case cc_al|cx_al =>kernel_rfl
   case ca_G|cb_G =>k_is
   case cc_G =>kernel_rfl
   case cf_G =>k_is
   case cx_G =>kernel_rfl
   case cg_G|cl_G|co_G|ck_G =>k_is
   case cs_NoPlan_place =>kernel_rfl
   case ca_ar|cb_ar =>k_is
   case cc_ar|cx_ar =>kernel_rfl
   case ca_aq =>k_is
   case pa_aq|pb_aq|pc_aq|pd_aq|pe_aq|pf_aq|pg_aq|ph_aq =>(first | k_is | kernel_rfl)
   case ca_r =>k_is
   case pa_r|pb_r|pc_r|pd_r|pe_r|pf_r|pg_r|ph_r|qa_r|qb_r|qc_r|qd_r|qn_Few_many =>(first | k_is | kernel_rfl)
   case cl_r|co_r|ck_r|ca_e =>k_is
   case pa_e|pb_e|pc_e|pd_e|pe_e|pf_e|pg_e|ph_e|qa_e|qb_e|qc_e|qd_e|qn_Start_step =>(first | k_is | kernel_rfl)
   case cl_e|co_e|ck_e|ca_g =>k_is
   case pa_g|pb_g|pc_g|pd_g|pe_g|pf_g|pg_g|ph_g|qa_g|qb_g|qc_g|qd_g|qn_Loose_many =>(first | k_is | kernel_rfl)
   case cl_g|co_g|ck_g|ca_j =>k_is
   case pa_j|pb_j|pc_j|pd_j|pe_j|pf_j|pg_j|ph_j|qa_j|qb_j|qc_j|qd_j|qn_Each_inside =>(first | k_is | kernel_rfl)
   case cl_j|co_j|ck_j|ca_a =>k_is
   case pa_a|pb_a|pc_a|pd_a|pe_a|pf_a|pg_a|ph_a|qa_a|qb_a|qc_a|qd_a|qn_First_outside|qn_First_inside =>(first | k_is | kernel_rfl)
   case cl_a|co_a|ck_a|ca_s =>k_is
   case pa_s|pb_s|pc_s|pd_s|pe_s|pf_s|pg_s|ph_s|qa_s|qb_s|qc_s|qd_s|qn_Duel_many =>(first | k_is | kernel_rfl)
   case cl_s|co_s|ck_s =>k_is
   case mf_8 =>(first | k_is | kernel_rfl)
   case ml_8|mo_8|mk_8 =>k_is
   case mi_8|mf_15 =>(first | k_is | kernel_rfl)
   case ml_15|mo_15|mk_15 =>k_is
   case mi_15|mf_10 =>(first | k_is | kernel_rfl)
   case ml_10|mo_10|mk_10 =>k_is
   case mi_10|mf_4 =>(first | k_is | kernel_rfl)
   case ml_4|mo_4|mk_4 =>k_is
   case mi_4|mf_c =>(first | k_is | kernel_rfl)
   case ml_c|mo_c|mk_c =>k_is
   case mi_c|mf_7 =>(first | k_is | kernel_rfl)
   case ml_7|mo_7|mk_7 =>k_is
   case mi_7|mf_14 =>(first | k_is | kernel_rfl)
   case ml_14|mo_14|mk_14 =>k_is
   case mi_14|mf_f =>(first | k_is | kernel_rfl)
   case ml_f|mo_f|mk_f =>k_is
   case mi_f|mf_3 =>(first | k_is | kernel_rfl)
   case ml_3|mo_3|mk_3 =>k_is
   case mi_3|mf_b =>(first | k_is | kernel_rfl)
   case ml_b|mo_b|mk_b =>k_is
   case mi_b|mf_9 =>(first | k_is | kernel_rfl)
   case ml_9|mo_9|mk_9 =>k_is
   case mi_9|mf_16 =>(first | k_is | kernel_rfl)
   case ml_16|mo_16|mk_16 =>k_is
   case mi_16|mf_11 =>(first | k_is | kernel_rfl)
   case ml_11|mo_11|mk_11 =>k_is
   case mi_11|mf_5 =>(first | k_is | kernel_rfl)
   case ml_5|mo_5|mk_5 =>k_is
   case mi_5|mf_d =>(first | k_is | kernel_rfl)
   case ml_d|mo_d|mk_d =>k_is
   case mi_d|mf_1 =>(first | k_is | kernel_rfl)
   case ml_1|mo_1|mk_1 =>k_is
   case mi_1 =>(first | k_is | kernel_rfl)
   case lca_8 =>exact rfl
   case lct_8 =>k_is
   case lcq_8 =>exact rfl
   case lch_i =>kernel_rfl
   case lca_15 =>exact rfl
   case lct_15 =>k_is
   case lcq_15 =>exact rfl
   case lch_c =>kernel_rfl
   case lca_10 =>exact rfl
   case lct_10 =>k_is
   case lcq_10 =>exact rfl
   case lch_d =>kernel_rfl
   case lca_17 =>exact rfl
   case lct_17 =>k_is
   case lcq_17 =>exact rfl
   case lch_h =>kernel_rfl
   case lca_4 =>exact rfl
   case lct_4 =>k_is
   case lcq_4 =>exact rfl
   case lch_b =>kernel_rfl
   case ltnd =>decide
   case fact_sf|fact_ss|fact_sl|fact_sd|fact_se|fact_sa|fact_kfe|fact_kfa|fact_kse|fact_ksa|fact_kle|fact_kla|fact_kde|fact_kda|fact_kee|fact_kea|fact_kae|fact_kaa =>kernel_rfl
   case z0|z1|z2|z3|z4|z5|z6|z7|z8|z9|z10|z11|z12|z13|z14 =>k_is
   case r0|r1|r2|r3|r4 =>first | exact rfl | exact⟨_,rfl⟩
  obtain⟨a,T,e1⟩:=T;have e0:=hmg.symm.trans T.m_au;cases e0;refine' ⟨a.d_au,?b,?t,?u,λbase kb nb hB=>My.ok_law T hB ?v⟩
  case b=>exact T.bl
  case t =>
   have key:([367,400,491,319,272,218]:List PySem.Addr).all (λP=>(List.range 700).any λc=>codeHdIn (L2.KOf KX) c P)=true:=by kernel_rfl
   intro P hP;obtain⟨c,_,hc⟩:=any_eq_true.mp (all_eq_true.mp key P hP);exact⟨c,hc⟩
  case u =>
   intro P hP;simp only[mem_cons,not_mem_nil,or_false]at hP
   rcases hP with rfl | rfl | rfl | rfl | rfl | rfl <;> kernel_rfl
  case v =>
   intro q hq;have:=List.mem_map_of_mem (f:=Prod.fst) hq;have e1':(My.tabs a).map Prod.fst=[218,272,319,367,400]:=e1;rw[e1']at this;exact(by decide:∀ x∈[218,272,319,367,400],x∈[367,400,491,319,272,218]) _ this
 case S=>exact λK H a ns hl hO hS=>My.law_start hl hO hS
 case C=>exact λH s e s' z=>z
