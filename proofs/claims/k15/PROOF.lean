import PyProof.Rows.All
import Wide.All
import OpenK.AllK
import Wide.FinOn
import Lean
import PyProof.EqAt
import PyProof.EqKinds
import PyProof.TupleCall
import PySem.Challenge.RW_fewspeak_k15_one_behind_another
open PySem.W(CodeHd FnAt Frag InstAt any_some callWith_K callWith_K0 cellsFrom_some clsIn codeHdIn codeHd_of_K codeIn codeRec_of emptyDict findIn fnOf handedIn hasDictIn instObj isFn keepIn kitOne kitx_dict kitx_list kitx_tuple kla_fn kla_obj lookIn looks_clsIn looks_findIn looks_mroIn makesIn methodCall_KW methodObj mg_none_of mg_of mroIn nsIn nsOkIn osa_eq plainGet plainGet_of plainOver specialIn tabObj tailIn takerIn takesIn typeIn)
open List(all_eq_true all_map all_toArray any_cons append_assoc append_nil cons_append drop_drop drop_eq_getElem_cons drop_sublist drop_take drop_zero ext_getElem flatMap_cons foldl_cons getElem_map getElem_mem getElem_range length_append length_cons length_drop length_map length_nil length_pos_iff length_range length_singleton length_take lookup_cons mapM_toArray map_append map_congr_left map_cons map_drop map_id map_map map_nil map_take mem_append mem_append_left mem_append_right mem_cons mem_cons_of_mem mem_cons_self mem_flatMap mem_map mem_of_mem_drop mem_of_mem_take mem_range mem_singleton nil_append nodup_append nodup_cons nodup_nil nodup_range not_mem_nil of_mem_zip pairwise_append pairwise_cons pairwise_iff_getElem pairwise_map perm_append_comm singleton_append size_toArray sum_cons sum_nil take_add take_add_one take_append_drop take_length take_of_length_le take_sublist take_zero toList_toArray)
noncomputable section
set_option Elab.async false
set_option linter.all false
set_option maxRecDepth 100000
namespace L2
open PySem PySem.Spec PyProof.Rows
abbrev Key:=Sum Int Str
def jF:Key->Value->Bool
 | .inl k,v=>Value.isInt k v
 | .inr x,v=>Value.isStrOf x v
def BO(w:World):Key->Int
 | .inl k=>hashInt k
 | .inr x=>hashStr w x
theorem bw:∀{k:Key}{v:Value},jF k v=true->(∃ i t,k=Sum.inl i/\v=Value.int i t)\/(∃ x t,k=Sum.inr x/\v=Value.str x t)
 | .inl i,v,h=>by
  obtain⟨t,e⟩:=Value.isInt_shape (k:=i) (v:=v) h;exact .inl ⟨i,t,rfl,e⟩
 | .inr x,v,h=>by
  obtain⟨t,e⟩:=Value.isStrOf_shape (x:=x) (v:=v) h;exact .inr ⟨x,t,rfl,e⟩
theorem q8(i:Int)(t:Tok):jF (.inl i) (.int i t)=true:=by simp[jF,Value.isInt]
theorem re(x:Str)(t:Tok):jF (.inr x) (.str x t)=true:=by simp[jF,Value.isStrOf]
theorem zU(a b:Int):decide ((Sum.inl a:Key)=Sum.inl b)=(a == b):=by
 by_cases e:a=b
 .subst e;simp
 .have h:¬(Sum.inl a:Key)=Sum.inl b:=λq=>e (Sum.inl.inj q)
  rw[decide_eq_false h];exact(beq_eq_false_iff_ne.mpr e).symm
theorem yO(a b:Str):decide ((Sum.inr a:Key)=Sum.inr b)=decide (a=b):=by
 by_cases e:a=b
 .subst e;simp
 .have h:¬(Sum.inr a:Key)=Sum.inr b:=λq=>e (Sum.inr.inj q)
  rw[decide_eq_false h,decide_eq_false e]
theorem zF(a:Int)(b:Str):decide ((Sum.inl a:Key)=Sum.inr b)=false:=decide_eq_false (λq=>nomatch q)
theorem y6(a:Str)(b:Int):decide ((Sum.inr a:Key)=Sum.inl b)=false:=decide_eq_false (λq=>nomatch q)
def aW(prog:Program)(w:World):PySem.KeyKind prog w Key where
 is:=jF
 hash:=BO w
 inj:=λv a b ha hb=>by
  rcases bw ha with⟨i,t,rfl,rfl⟩ | ⟨x,t,rfl,rfl⟩
  .rcases bw hb with⟨j,u,rfl,e⟩ | ⟨y,u,rfl,e⟩
   .injection e with e1 _;rw[e1]
   .exact nomatch e
  .rcases bw hb with⟨j,u,rfl,e⟩ | ⟨y,u,rfl,e⟩
   .exact nomatch e
   .injection e with e1 _;rw[e1]
 byValue:=λk v h=>by
  rcases bw h with⟨i,t,rfl,rfl⟩ | ⟨x,t,rfl,rfl⟩ <;> rfl
 pyHash:=λhv h=>by
  rcases bw hv with⟨i,t,rfl,rfl⟩ | ⟨x,t,rfl,rfl⟩
  .exact wpAny_pyHash_int h
  .exact wpAny_pyHash_str h
 eqBool:=λhu hv h=>by
  rcases bw hu with⟨i,t,rfl,rfl⟩ | ⟨x,t,rfl,rfl⟩
  .rcases bw hv with⟨j,u,rfl,rfl⟩ | ⟨y,u,rfl,rfl⟩
   .rw[zU]at h;exact wpAny_eqBool_int h
   .rw[zF]at h;exact SeqAt.EqAt.int_str i t y u _ _ _ _ h
  .rcases bw hv with⟨j,u,rfl,rfl⟩ | ⟨y,u,rfl,rfl⟩
   .rw[y6]at h;exact SeqAt.EqAt.str_int x t j u _ _ _ _ h
   .rw[yO]at h;exact wpAny_eqBool_str h
 «strs»:=λk x t v h=>by
  rcases bw h with⟨i,u,rfl,e⟩ | ⟨y,u,rfl,e⟩
  .exact nomatch e
  .injection e with e1 _
   subst e1
   cases v <;> rfl
theorem nv(prog:Program)(w:World)(i:Int)(t:Tok):(aW prog w).is (.inl i) (.int i t)=true:=q8 i t
theorem m5(prog:Program)(w:World)(x:Str)(t:Tok):(aW prog w).is (.inr x) (.str x t)=true:=re x t
inductive V where
 | non | bl (b:Bool) | int (i:Int) | str (x:Str) | byt (b:Array UInt8) | flt (b:UInt64) | ref (a:Addr) | ty (n:String)
 deriving DecidableEq
def RelV:V->Value->Prop
 | .non,u=>u=Value.none
 | .bl b,u=>u=Value.bool b
 | .int i,u=>∃ t,u=Value.int i t
 | .str x,u=>∃ t,u=Value.str x t
 | .byt b,u=>∃ t,u=Value.bytes b t
 | .flt b,u=>∃ t,u=Value.float b t
 | .ref a,u=>u=Value.ref a
 | .ty n,u=>u=Value.type n
abbrev Vals:List V->List Value->Prop:=Paired RelV
theorem Vals.length{xs:List V}{us:List Value}(r:Vals xs us):xs.length=us.length:=Paired.length r
theorem Vals.get:∀{xs:List V}{us:List Value}{i:Nat}{x:V},Vals xs us->xs[i]? = some x->∃ u,us[i]? = some u/\RelV x u
 | _,_,_,_,.nil,e=>by simp at e
 | _,_,0,_,.cons r _,e=>by simp at e;subst e;exact⟨_,rfl,r⟩
 | _,_,i+1,x,.cons _ t,e=>by
  obtain⟨u,b,a⟩:=Vals.get (i:=i) (x:=x) t (by simpa using e);exact⟨u,by simpa using b,a⟩
theorem Vals.set{x:V}{u:Value}(r:RelV x u):∀{xs:List V}{us:List Value}(i:Nat),Vals xs us->Vals (xs.set i x) (us.set i u)
 | _,_,_,.nil=>.nil
 | _,_,0,.cons _ t=>.cons r t
 | _,_,i+1,.cons q t=>.cons q (Vals.set r i t)
theorem Vals.append:∀{xs ys:List V}{us ws:List Value},Vals xs us->Vals ys ws->Vals (xs++ys) (us++ws)
 | _,_,_,_,.nil,s=>s
 | _,_,_,_,.cons r t,s=>.cons r (Vals.append t s)
theorem Vals.take:∀{xs:List V}{us:List Value}(n:Nat),Vals xs us->Vals (xs.take n) (us.take n)
 | _,_,0,_=>.nil
 | _,_,_+1,.nil=>.nil
 | _,_,n+1,.cons r t=>.cons r (Vals.take n t)
theorem Vals.drop:∀{xs:List V}{us:List Value}(n:Nat),Vals xs us->Vals (xs.drop n) (us.drop n)
 | _,_,0,r=>r
 | _,_,_+1,.nil=>.nil
 | _,_,n+1,.cons _ t=>Vals.drop n t
def RelO:Option V->Option Value->Prop
 | some v,some u=>RelV v u
 | none,none=>True
 | _,_=>False
def KV{κ:Type}:List (κ×V)->List (κ×Value)->Prop:=Paired λ(p:κ×V) (q:κ×Value)=>p.1=q.1/\RelV p.2 q.2
def kV:Key->V
 | .inl i=>.int i
 | .inr x=>.str x
inductive HO where
 | lst (xs:List V)
 | tup (xs:List V)
 | dK (kvs:List (Key×V)) | dT (kvs:List (List Key×V))
 | set (S:Int->Bool) (n:Nat)
 | ins (C dx:Addr) (fs:List (Str×V))
 | own (x:Addr)
 | xd (fs:List (Str×V))
 | met (f x:Addr)
 | rng (lo hi:Int)
 | frz (o:Obj) (u:HO)
 | tbl (ps:Array Value)
 | ext (φ:Heap->Prop)
abbrev Hp:=Addr->Option HO
def upd(H:Hp)(a:Addr)(o:HO):Hp:=λb=>if b=a then some o else H b
theorem ad{H:Hp}{a:Addr}{o:HO}:upd H a o a=some o:=by unfold upd;rw[if_pos rfl]
theorem ag{H:Hp}{a b:Addr}{o:HO}(h:b≠a):upd H a o b=H b:=by unfold upd;rw[if_neg h]
theorem cY{H:Hp}{a b:Addr}{o u:HO}(h:H a=some o)(h':H b=some u)(d:o≠u):a≠b:=by
 intro e;subst e;rw[h]at h';exact d (Option.some.inj h')
theorem aw{H:Hp}{a b:Addr}{o:HO}(h:H a=some o)(h':H b=none):a≠b:=by
 intro e;subst e;rw[h]at h';cases h'
section
variable (P:Program) (w:World)
def ObjOk(H:Hp)(h:Heap)(a:Addr):HO->Prop
 | .lst xs=>xs.length<=sizeLine/\∃(its:List Value) (n:Nat),Vals xs its/\h.get? a=some { cls:=.type "list",data:=.seq its.toArray n }
 | .tup xs=>xs.length<=sizeLine/\∃ its:List Value,Vals xs its/\IsTup h a its.toArray
 | .dK kvs=>kvs.length<=sizeLine/\(a == sysModules)=false/\∃ vs,KV kvs vs/\h.DictOf (aW P w) a vs
 | .dT kvs=>kvs.length<=sizeLine/\(a == sysModules)=false/\∃ xs:List (List Key×Addr×Value),
   Paired (λ(p:List Key×V) (q:List Key×Addr×Value)=>p.1=q.1/\H q.2.1=some (.tup (p.1.map kV))/\RelV p.2 q.2.2) kvs xs /\
   ∃ o es ep,h.get? a=some o/\o.ExactDict/\o.data=.dict es ep/\es.toList=xs.map (entryOfKey (tupleKind (aW P w)))/\(xs.map (·.1)).Nodup
 | .set S n=>h.SetOf (intKind P w) a S n
 | .ins C dx fs=>H dx=some (.own a)/\fs.length<=1000/\dx≠a/\h.get? a=some (instObj C dx) /\
   ∃ mA,h.Ns1 dx mA/\(∀ f,RelO (fs.lookup f) (mA f))/\PySem.Within mA (fs.map (·.1))
 | .own _=>∃ o,h.get? a=some o
 | .xd fs=>∃ mA,h.Ns1 a mA/\∀ f,RelO (fs.lookup f) (mA f)
 | .rng lo hi=>∃ t u v,h.get? a=some { cls:=.type "range",data:=.fields #[.int lo t,.int hi u,.int 1 v] }
 | .frz o u=>h.get? a=some o/\ObjOk H h a u
 | .tbl ps=>h.get? a=some { cls:=.none,data:=.fields ps }
 | .met f x=>h.get? a=some (methodObj (.ref f) (.ref x))
 | .ext φ=>φ h/\(∃ o,h.get? a=some o)/\∀ h1 h2:Heap,φ h1->(∀ o,h1.get? a=some o->h2.get? a=some o)->φ h2
def HOk(H:Hp)(h:Heap):Prop:=∀ a o,H a=some o->ObjOk P w H h a o
end
section
variable {P:Program}{w:World}{H H':Hp}{h h':Heap}{a:Addr}{o:HO}
theorem ObjOk.lt(x:ObjOk P w H h a o):a<h.objs.size:=by
 cases o with
 | lst xs=>obtain⟨_,_,_,_,e⟩:=x;exact Heap.lt_size e
 | tup xs=>obtain⟨_,_,_,p⟩:=x;exact p.lt
 | dK kvs=>obtain⟨_,_,_,_,o,_,_,e,_⟩:=x;exact Heap.lt_size e
 | dT kvs=>obtain⟨_,_,_,_,o,_,_,e,_⟩:=x;exact Heap.lt_size e
 | set S n=>obtain⟨o,_,_,_,e,_⟩:=x;exact Heap.lt_size e
 | ins C dx fs=>obtain⟨_,_,_,e,_⟩:=x;exact Heap.lt_size e
 | own y=>obtain⟨_,e⟩:=x;exact Heap.lt_size e
 | xd fs=>obtain⟨_,⟨_,_,_,e,_⟩,_⟩:=x;exact Heap.lt_size e
 | rng lo hi=>obtain⟨_,_,_,e⟩:=x;exact Heap.lt_size e
 | frz ob u=>obtain⟨e,_⟩:=x;exact Heap.lt_size e
 | tbl ps=>exact Heap.lt_size (show h.get? a=some _ from x)
 | met f y=>exact Heap.lt_size (show h.get? a=some _ from x)
 | ext φ=>obtain⟨_,⟨_,e⟩,_⟩:=x;exact Heap.lt_size e
theorem Paired.mapP{c d:Type}{F G:c->d->Prop}:∀{l₁:List c}{l₂:List d},Paired F l₁ l₂->(∀ a b,F a b->G a b)->Paired G l₁ l₂
 | _,_,.nil,_=>.nil
 | _,_,.cons r t,f=>.cons (f _ _ r) (Paired.mapP t f)
theorem ObjOk.stay(x:ObjOk P w H h a o)(k:∀ b u,(b=a\/H b=some (.own a))->h.get? b=some u->h'.get? b=some u)
  (D:∀ b,H b=some (.own a)->H' b=some (.own a)) (I:∀ b xs,H b=some (.tup xs)->H' b=some (.tup xs)):ObjOk P w H' h' a o:=by
 induction o with
 | lst xs=>obtain⟨z,l,n,r,e⟩:=x;exact⟨z,l,n,r,k _ _ (.inl rfl) e⟩
 | tup xs=>obtain⟨z,l,r,g,e,c⟩:=x;exact⟨z,l,r,g,k _ _ (.inl rfl) e,c⟩
 | dK kvs=>obtain⟨z,y,G,r,g,i,j,e,c⟩:=x;exact⟨z,y,G,r,g,i,j,k _ _ (.inl rfl) e,c⟩
 | dT kvs =>
  obtain⟨z,y,xs,r,g,i,j,e,c⟩:=x;exact⟨z,y,xs,Paired.mapP r λp q z=>⟨z.1,I _ _ z.2.1,z.2.2⟩,g,i,j,k _ _ (.inl rfl) e,c⟩
 | set S n=>obtain⟨g,i,j,t,e,c⟩:=x;exact⟨g,i,j,t,k _ _ (.inl rfl) e,c⟩
 | ins C dx fs =>
  obtain⟨d,z,E,e,s,⟨A,i,j,F,c⟩,r⟩:=x;exact⟨D _ d,z,E,k _ _ (.inl rfl) e,s,⟨A,i,j,k _ _ (.inr d) F,c⟩,r⟩
 | own y=>obtain⟨g,e⟩:=x;exact⟨g,k _ _ (.inl rfl) e⟩
 | xd fs=>obtain⟨s,⟨A,i,j,e,c⟩,r⟩:=x;exact⟨s,⟨A,i,j,k _ _ (.inl rfl) e,c⟩,r⟩
 | rng lo hi=>obtain⟨t,u,v,e⟩:=x;exact⟨t,u,v,k _ _ (.inl rfl) e⟩
 | frz g u ih=>obtain⟨e,q⟩:=x;exact⟨k _ _ (.inl rfl) e,ih q⟩
 | tbl ps =>
  have e:h.get? a=some { cls:=.none,data:=.fields ps }:=x;show h'.get? a=some { cls:=.none,data:=.fields ps };exact k a _ (.inl rfl) e
 | met f y =>
  have e:h.get? a=some (methodObj (.ref f) (.ref y)):=x;show h'.get? a=some (methodObj (.ref f) (.ref y));exact k a _ (.inl rfl) e
 | ext φ=>obtain⟨p,⟨o,e⟩,B⟩:=x;exact⟨B _ _ p λo q=>k _ _ (.inl rfl) q,⟨o,k _ _ (.inl rfl) e⟩,B⟩
theorem HOk.lt(x:HOk P w H h)(e:H a=some o):a<h.objs.size:=(x a o e).lt
theorem HOk.fresh(x:HOk P w H h)(e:h.objs.size<=a):H a=none:=by
 cases q:H a with
 | none=>rfl
 | some u=>exact absurd (Nat.lt_of_lt_of_le (x.lt q) e) (Nat.lt_irrefl _)
theorem HOk.kept(x:HOk P w H h)(k:∀ b u,h.get? b=some u->h'.get? b=some u):HOk P w H h':=λa o e =>
 (x a o e).stay (λb u _ q=>k b u q) (λ_ q=>q) λ_ _ q=>q
theorem HOk.laid(x:HOk P w H h)(k:∀ b u,h.get? b=some u->h'.get? b=some u)(g:h.objs.size<=a)(d:ObjOk P w (upd H a o) h' a o):HOk P w (upd H a o) h':=λb u e=>by
 have f:=x.fresh g
 by_cases hb:b=a
 .subst hb;rw[ad]at e;cases e;exact d
 .rw[ag hb]at e
  exact(x b u e).stay (λc v _ q=>k c v q) (λc q=>by rw[ag (aw q f)];exact q) λc xs q=>by rw[ag (aw q f)];exact q
end
def Rd(H:Hp)(a:Addr)(u:HO):Prop:=H a=some u\/∃ o,H a=some (.frz o u)
theorem Rd.ok{P:Program}{w:World}{H:Hp}{h:Heap}{a:Addr}{u:HO}(r:Rd H a u)(x:HOk P w H h):ObjOk P w H h a u:=by
 rcases r with r | ⟨o,r⟩
 .exact x a u r
 .obtain⟨_,q⟩:=x a _ r
  exact q
def Mut:Option HO->Prop
 | some (.lst _)=>True
 | some (.dK _)=>True
 | some (.dT _)=>True
 | some (.set _ _)=>True
 | some (.ins _ _ _)=>True
 | some (.ext _)=>True
 | _=>False
section
variable {P:Program}{w:World}{H:Hp}{h h':Heap}{x e:Addr}{o':HO}
theorem HOk.write(p:HOk P w H h)(g:Mut (H x))(n:e=x\/H e=some (.own x))(k:∀ b u,b≠e->h.get? b=some u->h'.get? b=some u)(i:∃ u,h'.get? e=some u)
  (j:ObjOk P w (upd H x o') h' x o'):HOk P w (upd H x o') h':=λb u q=>by
 have a:∀ c y,H c=some (.own y)->c≠x:=λc y r z=>by subst z;rw[r]at g;exact g
 have d:∀ c f,H c=some (.tup f)->c≠x:=λc f r z=>by subst z;rw[r]at g;exact g
 by_cases hb:b=x
 .subst hb;rw[ad]at q;cases q;exact j
 .rw[ag hb]at q
  by_cases hbe:b=e
  .have l:H b=some (.own x):=by
    rcases n with z | z
    .exact absurd (hbe.trans z) hb
    .rw[hbe];exact z
   rw[q]at l;cases l;obtain⟨v,o⟩:=i;exact⟨v,by rw[hbe];exact o⟩
  .refine(p b u q).stay (λc v hc r=>k c v ?_ r) (λc r=>by rw[ag (a c b r)];exact r) λc f r=>by rw[ag (d c f r)];exact r
   rcases hc with rfl | hc
   .exact hbe
   .rintro rfl
    rcases n with z | z
    .exact a c b hc z
    .rw[hc]at z;cases z;exact hb rfl
end
structure Un(fs ex:List Addr)(H H':Hp)(h h':Heap):Prop where
 keep:∀ b o,h.get? b=some o->H b=none->b ∉ fs->b ∉ ex->h'.get? b=some o
 slot:∀ b o,h.get? b=some o->H b=none->b∈fs->b ∉ ex->∃ sl,h'.get? b=some { o with slots:=sl }
 free:∀ b o,h.get? b=some o->H b=none->b ∉ ex->H' b=none
 there:∀ b o,h.get? b=some o->b ∉ ex->∃ o',h'.get? b=some o'
 tups:∀ b xs,H b=some (.tup xs)->H' b=some (.tup xs)
 frzs:∀ b o u,H b=some (.frz o u)->H' b=some (.frz o u)
 tbls:∀ b ps,H b=some (.tbl ps)->∃ more,H' b=some (.tbl (ps++more))
section
variable {fs fs' ex ex':List Addr}{H H1 H2:Hp}{h h1 h2 h':Heap}{a x e:Addr}{o:HO}
theorem Un.any(u:Un fs ex H H1 h h1){b:Addr}{ob:Obj}(q:h.get? b=some ob)(n:H b=none)(a:b ∉ ex):∃ sl,h1.get? b=some { ob with slots:=sl }:=by
 by_cases hb:b∈fs
 .exact u.slot b ob q n hb a
 .exact⟨ob.slots,u.keep b ob q n hb a⟩
theorem Un.kept(k:∀ b u,h.get? b=some u->h'.get? b=some u):Un fs ex H H h h' :=
 ⟨λb a q _ _ _=>k b a q,λb a q _ _ _=>⟨a.slots,k b a q⟩,λ_ _ _ n _=>n,λb a q _=>⟨a,k b a q⟩,λ_ _ q=>q,λ_ _ _ q=>q,λ_ ps q=>⟨#[],by rw[q];simp⟩⟩
theorem Un.refl:Un fs ex H H h h:=Un.kept λ_ _ q=>q
theorem Un.laid(k:∀ b u,h.get? b=some u->h'.get? b=some u)(d:h.objs.size<=a)(c:H a=none):Un fs ex H (upd H a o) h h' where
 keep:=λb u q _ _ _=>k b u q
 slot:=λb u q _ _ _=>⟨u.slots,k b u q⟩
 free:=λb u q n _=>by rw[ag (Nat.ne_of_lt (Nat.lt_of_lt_of_le (Heap.lt_size q) d))];exact n
 there:=λb u q _=>⟨u,k b u q⟩
 tups:=λb f q=>by rw[ag (aw q c)];exact q
 frzs:=λb u f q=>by rw[ag (aw q c)];exact q
 tbls:=λb g q=>⟨#[],by rw[ag (aw q c),q];simp⟩
theorem Un.write(a:Mut (H x))(l:e=x\/H e=some (.own x))(k:∀ b u,b≠e->h.get? b=some u->h'.get? b=some u)(d:∃ u,h'.get? e=some u):Un fs ex H (upd H x o) h h':=by
 have g:∀ b,H b=none->b≠x:=λb n z=>by subst z;rw[n]at a;exact a
 have f:∀ b,H b=none->b≠e:=λb n z=>by
  subst z
  rcases l with r | r
  .exact g b n r
  .rw[n]at r;cases r
 have c:∀ b u,H b=some u->¬Mut (some u)->b≠x:=λb u q j z=>by subst z;rw[q]at a;exact j a
 refine⟨λb u q n _ _=>k b u (f b n) q,λb u q n _ _=>⟨u.slots,k b u (f b n) q⟩,λb u q n _=>by rw[ag (g b n)];exact n,λb u q _=>?_,
  λb i q=>by rw[ag (c b _ q λz=>z)];exact q,λb u i q=>by rw[ag (c b _ q λz=>z)];exact q,λb ps q=>⟨#[],by rw[ag (c b _ q λz=>z),q];simp⟩⟩
 by_cases hbe:b=e
 .subst hbe;exact d
 .exact⟨u,k b u hbe q⟩
end
def trk(h:Heap)(H:Hp):List Addr:=(List.range h.objs.size).filter λa=>(H a).isSome
def jN(h:Heap)(H:Hp):Heap:=PySem.W.hideAll h (trk h H)
theorem rj(h:Heap)(H:Hp):(jN h H).objs.size=h.objs.size:=PySem.W.hideAll_size _ _
theorem uG{h:Heap}{H:Hp}{b:Addr}{o:Obj}(e:h.get? b=some o)(n:H b=none):(jN h H).get? b=some o :=
 PySem.W.hideAll_get _ e λa=>by
  have q:(H b).isSome=true:=(List.mem_filter.mp a).2;rw[n]at q;simp at q
theorem xu{h:Heap}{H:Hp}{b:Addr}{o:Obj}(e:(jN h H).get? b=some o):h.get? b=some o/\H b=none:=by
 have a:h.get? b=some o:=PySem.W.of_hideAll (trk h H) e;refine⟨a,?_⟩;cases q:H b with
 | none=>rfl
 | some x =>
  have c:b∈trk h H:=List.mem_filter.mpr ⟨mem_range.mpr (Heap.lt_size a),by simp[q]⟩;have z:(jN h H).get? b=none:=PySem.W.hideAll_none (trk h H) c;rw[z]at e;cases e
def v4(g h:Heap)(L:Addr):List (Addr×Obj):=(List.range h.objs.size).filterMap λa=>if a=L\/(g.get? a).isSome=true then none else (h.get? a).map λo=>(a,o)
def rest(g h:Heap)(L d:Addr):List (Addr×Obj):=(v4 g h L).filter λp=>decide (p.1≠d)
structure Mod(K:Frag)(mg:Str->Option Value)(base:Heap):Prop where
 kin:K.In base
 glob:base.Ns mainGlobals mg
 blt:∃ mb,base.Ns builtinsNs mb/\∀ x:Str,x ≠ "__name__" -> mb x=bootBuiltins x
 nolimit:base.NoLimit
structure Cx where
 prog:Program
 w:World
 K:Frag
 mg:Str->Option Value
 base:Heap
 A:Around
 N:List Str
 s₀:Shared
 H₀:Hp
 env:Env
 outer:List Env
 stack:List Env
 ex:List Addr
 fn:Str->Bool
 calm:Bool
 pn:List (Addr×Obj)
 xe:Value->Shared->Prop
def frs(l:List Env):List Addr:=l.filterMap (·.frame)
abbrev Cx.fs(X:Cx):List Addr:=frs X.outer
def Vis(sc:Scope)(x:Str):Prop:=sc.names.lookup x = some .local\/sc.names.lookup x = some .cell\/sc.names.lookup x = some .free
def Loc(sc:Scope)(x:Str):Prop:=sc.names.lookup x = some .local\/sc.names.lookup x = some .cell
def BR(env:Env)(h:Heap)(m:Str->Option Value)(x:Str)(u:Value):Prop :=
 (env.kindOf x = some .local/\m x = some u)\/((env.kindOf x = some .cell\/env.kindOf x = some .free)/\∃ c,env.cells.lookup x = some c/\h.IsCell c (some u))
structure Cx.Ok(X:Cx):Prop where
 mod:Mod X.K X.mg X.base
 kind:X.env.scope.kind=.function
 glob:X.env.globals=mainGlobals
 blt:X.env.builtins=builtinsNs
 above:X.s₀.heap.objs.size<=X.env.locals
 inj:∀ x y c,X.env.cells.lookup x=some c->X.env.cells.lookup y=some c->x=y
 has:∀ x,(X.env.kindOf x=some .cell\/X.env.kindOf x=some .free)->∃ c,X.env.cells.lookup x=some c
 cab:∀ x c,X.fn x=true->X.env.cells.lookup x=some c->X.s₀.heap.objs.size<=c
 hd:X.calm=true->X.A.handled=none
 frames:X.A.frames=some X.stack
 stk:X.stack = X.outer\/(X.stack = X.env :: X.outer/\X.env.frame = some X.env.locals)
 exf:∀ b ∈ X.ex,b≠X.env.locals/\∀ x c,X.env.cells.lookup x = some c->c≠b
 bs:∀ b o,X.base.get? b=some o->X.s₀.heap.get? b=some o/\X.H₀ b=none
 bsz:X.base.objs.size<=X.s₀.heap.objs.size
 noex:∀ b o,X.base.get? b=some o->b ∉ X.ex
 exfs:∀ b∈X.ex,b ∉ X.fs
 funs:X.s₀.heap.FunFrames X.base X.outer
 frf:∀ b∈X.fs,X.H₀ b=none
structure Inv(X:Cx)(pins:List (Addr×Obj))(σ:List (Option V))(H:Hp)(s:Shared):Prop where
 ok:X.Ok
 os:s.os=X.s₀.os
 bare:AllBare s.gens
 base:Un X.fs X.ex X.H₀ H X.s₀.heap s.heap
 loc:∃ m,s.heap.Ns X.env.locals m/\∀(i:Nat) (x:Str) (v:V),X.N[i]? = some x->σ[i]? = some (some v)->Vis X.env.scope x->∃ u,RelV v u/\BR X.env s.heap m x u
 cell:∀ x c,X.env.cells.lookup x=some c->∃ v,s.heap.IsCell c v
 free:H X.env.locals = none
 freeC:∀ x c,X.env.cells.lookup x=some c->H c=none
 pin:∀ p ∈ X.pn ++ pins,s.heap.get? p.1 = some p.2/\H p.1 = none/\p.1≠X.env.locals/\p.1 ∉ X.fs/\∀ v,p.2.data≠.cell v
 hok:HOk X.prog X.w H s.heap
 len:σ.length=X.N.length
section
variable {X:Cx}{pins:List (Addr×Obj)}{σ:List (Option V)}{H H':Hp}{s:Shared}{h':Heap}
theorem Cx.Ok.nofr(c:X.Ok){b:Addr}{o:Obj}(e:X.base.get? b=some o):b ∉ X.fs:=λa=>by
 have:=(c.funs.mem a).1;rw[e]at this;cases this
theorem Inv.bs(I:Inv X pins σ H s):∀ b o,X.base.get? b=some o->s.heap.get? b=some o/\H b=none:=λb o e =>
 ⟨I.base.keep b o (I.ok.bs b o e).1 (I.ok.bs b o e).2 (I.ok.nofr e) (I.ok.noex b o e),I.base.free b o (I.ok.bs b o e).1 (I.ok.bs b o e).2 (I.ok.noex b o e)⟩
theorem Inv.bk(I:Inv X pins σ H s):∀ b o,X.base.get? b=some o->s.heap.get? b=some o:=λb o e=>(I.bs b o e).1
theorem Inv.mod(I:Inv X pins σ H s):Mod X.K X.mg X.base:=I.ok.mod
theorem Inv.kIn(I:Inv X pins σ H s):X.K.In s.heap:=I.ok.mod.kin.keeps I.bk
theorem Inv.lt(I:Inv X pins σ H s):X.env.locals < s.heap.objs.size:=let ⟨_,hn,_⟩:=I.loc;hn.lt
theorem Inv.sz(I:Inv X pins σ H s):X.s₀.heap.objs.size<=s.heap.objs.size:=Nat.le_trans I.ok.above (Nat.le_of_lt I.lt)
theorem Inv.nofs(I:Inv X pins σ H s){a:Addr}(h:s.heap.objs.size<=a):a ∉ X.fs:=λb=>by
 obtain⟨_,o,c,_⟩:=I.ok.funs.mem b;exact absurd (Nat.lt_of_lt_of_le (Heap.lt_size c) (Nat.le_trans I.sz h)) (Nat.lt_irrefl _)
theorem Inv.cne(I:Inv X pins σ H s):∀ x c,X.env.cells.lookup x = some c->c≠X.env.locals:=λx c e z=>by
 obtain⟨v,o,d,f⟩:=I.cell x c e;obtain⟨m,⟨h,g,i,b,a,_⟩,_⟩:=I.loc;rw[z,b]at d;cases d;rw[a]at f;cases f
theorem Inv.funs(I:Inv X pins σ H s):s.heap.FunFrames X.base X.outer:=by
 have c:∀(l:List Env),(∀ b∈frs l,b∈X.fs)->X.s₀.heap.FunFrames X.base l->s.heap.FunFrames X.base l:=by
  intro l
  induction l with
  | nil=>intro _ _;trivial
  | cons env r ih =>
   intro g i;obtain⟨p,⟨L,o,f,k,h,j⟩,n⟩:=i;have d:L∈X.fs:=g L (by unfold frs;rw[List.filterMap_cons,f];exact mem_cons_self);obtain⟨q,e⟩:=I.base.slot L o h (I.ok.frf L d) d λz=>I.ok.exfs L z d
   exact⟨p,⟨L,_,f,k,e,j⟩,ih (λb a=>g b (by unfold frs;rw[List.filterMap_cons,f];exact mem_cons_of_mem _ a)) n⟩
 exact c X.outer (λ_ a=>a) I.ok.funs
theorem Inv.stack(I:Inv X pins σ H s):s.heap.FunFrames X.base X.stack:=by
 rcases I.ok.stk with e | ⟨e,a⟩
 .rw[e];exact I.funs
 .rw[e]
  obtain⟨m,b,_⟩:=I.loc;refine .cons (by rw[I.ok.kind];decide) a b ?_ I.funs;exact Heap.get?_none_of_le (Nat.le_trans I.ok.bsz I.ok.above)
theorem Inv.stkSub(I:Inv X pins σ H s):∀ b ∈ frs X.stack,b ∈ X.env.locals :: X.fs:=λb a=>by
 rcases I.ok.stk with e | ⟨e,c⟩
 .rw[e]at a;exact mem_cons_of_mem _ a
 .rw[e]at a
  unfold frs at a;rw[List.filterMap_cons,c]at a;exact a
theorem Inv.stkFree(I:Inv X pins σ H s):∀ b∈frs X.stack,H b=none:=λb hb=>by
 rcases mem_cons.mp (I.stkSub b hb) with e | hb
 .rw[e];exact I.free
 .obtain⟨_,o,a,_⟩:=I.ok.funs.mem hb
  exact I.base.free b o a (I.ok.frf b hb) λz=>I.ok.exfs b z hb
theorem Inv.step{g':Array GenState}{t':Nat}{d':Drawn}{ch:List Addr}(I:Inv X pins σ H s)
  (h:∀ b ∈ ch,(b ∈ X.ex\/X.s₀.heap.objs.size<=b)/\b≠X.env.locals/\(∀ x c,X.env.cells.lookup x = some c->c≠b)/\∀ p ∈ X.pn ++ pins,p.1≠b)
  (j:∀ b o,b≠X.env.locals->b ∉ X.fs->b ∉ ch->s.heap.get? b = some o->H b = none->h'.get? b = some o)
  (B:∀ b o,b≠X.env.locals->b ∈ X.fs->b ∉ ch->s.heap.get? b = some o->H b = none->∃ sl,h'.get? b = some { o with slots:=sl }) (f:∀ b o,b ∉ ch->s.heap.get? b = some o->H b = none->H' b = none)
  (D:∀ b o,b ∉ ch->s.heap.get? b=some o->∃ o',h'.get? b=some o')
  (J:∀ b xs,H b=some (.tup xs)->H' b=some (.tup xs)) (K:∀ b o u,H b=some (.frz o u)->H' b=some (.frz o u)) (F:∀ b ps,H b=some (.tbl ps)->∃ more,H' b=some (.tbl (ps++more)))
  (ns:∀ m,s.heap.Ns X.env.locals m->h'.Ns X.env.locals m) (M:HOk X.prog X.w H' h') (W:AllBare g') :
  Inv X pins σ H' { s with heap:=h',gens:=g',drawn:=d',toks:=t' }:=by
 have L:∀ b o,X.s₀.heap.get? b = some o->b≠X.env.locals:=λb o e=>Nat.ne_of_lt (Nat.lt_of_lt_of_le (Heap.lt_size e) I.ok.above)
 have y:∀ b o,X.s₀.heap.get? b=some o->b ∉ X.ex->b ∉ ch:=λb o e a C=>by
  rcases(h b C).1 with z | z
  .exact a z
  .exact absurd (Nat.lt_of_lt_of_le (Heap.lt_size e) z) (Nat.lt_irrefl _)
 have g:∀ x c,X.env.cells.lookup x=some c->∀ v,s.heap.IsCell c v->h'.IsCell c v:=λx c e v ⟨o,E,P⟩=>by
  have w:c ∉ ch:=λz=>(h c z).2.2.1 x c e rfl
  by_cases hc:c∈X.fs
  .obtain⟨sl,q⟩:=B c o (I.cne x c e) hc w E (I.freeC x c e)
   exact⟨_,q,P⟩
  .exact⟨o,j c o (I.cne x c e) hc w E (I.freeC x c e),P⟩
 refine⟨I.ok,I.os,W,⟨λb o e n C a=>?_,λb o e n C a=>?_,λb o e n a=>?_,λb o e a=>?_,λb xs e=>J b xs (I.base.tups b xs e),λb o xs e=>K b o xs (I.base.frzs b o xs e),λb ps e=>?_⟩,?_,λx c e=>?_,?_,λx c e=>?_,λp hp=>?_,M,I.len⟩
 .exact j b o (L b o e) C (y b o e a) (I.base.keep b o e n C a) (I.base.free b o e n a)
 .obtain⟨sl,A⟩:=I.base.slot b o e n C a
  obtain⟨N,G⟩:=B b _ (L b o e) C (y b o e a) A (I.base.free b o e n a);exact⟨N,G⟩
 .obtain⟨o',A⟩:=I.base.there b o e a
  exact f b o' (y b o e a) A (I.base.free b o e n a)
 .obtain⟨o',A⟩:=I.base.there b o e a
  exact D b o' (y b o e a) A
 .obtain⟨Z,A⟩:=I.base.tbls b ps e
  obtain⟨T,G⟩:=F b _ A;exact⟨Z++T,by rw[G,Array.append_assoc]⟩
 .obtain⟨m,hn,Y⟩:=I.loc
  refine⟨m,ns m hn,λi x v A G e3=>?_⟩;obtain⟨u,r,l⟩:=Y i x v A G e3;refine⟨u,r,?_⟩
  rcases l with l | ⟨k,c,e,z⟩
  .exact .inl l
  .exact .inr ⟨k,c,e,g x c e _ z⟩
 .obtain⟨v,z⟩:=I.cell x c e
  exact⟨v,g x c e v z⟩
 .obtain⟨m,⟨o,_,_,E,_⟩,_⟩:=I.loc
  exact f _ o (λz=>(h _ z).2.1 rfl) E I.free
 .obtain⟨v,o,E,P⟩:=I.cell x c e
  exact f c o (λz=>(h c z).2.2.1 x c e rfl) E (I.freeC x c e)
 .obtain⟨e,n,Q,R,d⟩:=I.pin p hp
  have w:p.1 ∉ ch:=λz=>(h p.1 z).2.2.2 p hp rfl
  exact⟨j p.1 p.2 Q R w e n,f p.1 p.2 w e n,Q,R,d⟩
theorem Inv.un{t':Nat}(I:Inv X pins σ H s)(u:Un X.fs [] H H' s.heap h')(c:HOk X.prog X.w H' h'):Inv X pins σ H' { s with heap:=h',toks:=t' }:=by
 obtain⟨m,⟨o,k,p,g,r⟩,_⟩:=id I.loc;obtain⟨j,h⟩:=u.any g I.free (by simp)
 exact I.step (g':=s.gens) (d':=s.drawn) (ch:=[]) (λ_ z=>nomatch z) (λb o _ hb _ e n=>u.keep b o e n hb (by simp)) (λb o _ hb _ e n=>u.slot b o e n hb (by simp)) (λb o _ e n=>u.free b o e n (by simp)) (λb o _ e=>u.there b o e (by simp)) u.tups u.frzs u.tbls (λm' hm=>by
  obtain⟨l,f,d,a,i⟩:=hm;rw[g]at a;cases a
  exact⟨_,f,d,h,i⟩) c I.bare
theorem Inv.call{g':Array GenState}{t':Nat}{d':Drawn}{ch:List Addr}(I:Inv X pins σ H s)(u:Un (frs X.stack) ch H H' s.heap h')(h:HOk X.prog X.w H' h')(v:AllBare g')
  (d:∀ b ∈ ch,(b ∈ X.ex\/X.s₀.heap.objs.size<=b)/\b≠X.env.locals/\(∀ x c,X.env.cells.lookup x = some c->c≠b)/\∀ p ∈ X.pn ++ pins,p.1≠b) :
  Inv X pins σ H' { s with heap:=h',gens:=g',drawn:=d',toks:=t' }:=by
 obtain⟨m,⟨o,y,B,k,r⟩,_⟩:=id I.loc;obtain⟨w,g⟩:=u.any k I.free λz=>(d _ z).2.1 rfl
 exact I.step (ch:=ch) d (λb o g l a e n=>u.keep b o e n (λz=>(mem_cons.mp (I.stkSub b z)).elim g l) a) (λb o _ _ a e n=>u.any e n a) (λb o a e n=>u.free b o e n a) (λb o a e=>u.there b o e a) u.tups u.frzs u.tbls (λm' hm=>by
  obtain⟨A,j,i,f,q⟩:=hm;rw[k]at f;cases f
  exact⟨_,j,i,g,q⟩) h v
theorem Inv.turned{t':Nat}{a:Addr}(I:Inv X pins σ H s)(k:∀ b o,b≠a->s.heap.get? b = some o->h'.get? b = some o)(A:H a = none)(g:a≠X.env.locals)
  (l:a∈X.ex\/X.s₀.heap.objs.size<=a) (i:∀ x c,X.env.cells.lookup x=some c->c≠a) (w:∀ p∈X.pn++pins,p.1≠a):Inv X pins σ H { s with heap:=h',toks:=t' }:=by
 have f:∀ b u,H b=some u->b≠a:=λb u e z=>by rw[z,A]at e;cases e
 refine I.step (g':=s.gens) (d':=s.drawn) (ch:=[a]) (λb h=>?_) (λb o _ _ d e _=>k b o (λz=>d (by simp[z])) e) (λb o _ _ d e _=>⟨o.slots,k b o (λz=>d (by simp[z])) e⟩) (λ_ _ _ _ n=>n)
  (λb o d e=>⟨o,k b o (λz=>d (by simp[z])) e⟩) (λ_ _ e=>e) (λ_ _ _ e=>e) (λb ps e=>⟨#[],by rw[e];simp⟩) (λm hm=>?_) (λb u e=>?_) I.bare
 .have e:b=a:=by simpa using h
  subst e;exact⟨l,g,i,w⟩
 .obtain⟨o,y,B,j,r⟩:=hm
  exact⟨o,y,B,k _ o (Ne.symm g) j,r⟩
 .refine(I.hok b u e).stay (λc v d q=>k c v ?_ q) (λ_ q=>q) λ_ _ q=>q
  rcases d with z | z
  .rw[z];exact f b u e
  .exact f c _ z
theorem Inv.tok(I:Inv X pins σ H s)(t:Nat):Inv X pins σ H { s with toks:=t }:=I.un (h':=s.heap) (t':=t) Un.refl I.hok
theorem Inv.kept{t':Nat}(I:Inv X pins σ H s)(k:∀ b u,s.heap.get? b=some u->h'.get? b=some u):Inv X pins σ H { s with heap:=h',toks:=t' }:=I.un (Un.kept k) (I.hok.kept k)
theorem Inv.laid{a:Addr}{o:HO}{t':Nat}(I:Inv X pins σ H s)(k:∀ b u,s.heap.get? b=some u->h'.get? b=some u)(d:s.heap.objs.size<=a)(c:ObjOk X.prog X.w (upd H a o) h' a o) :
  Inv X pins σ (upd H a o) { s with heap:=h',toks:=t' }:=I.un (Un.laid k d (I.hok.fresh d)) (I.hok.laid k d c)
theorem Inv.write{x e:Addr}{o:HO}{t':Nat}(I:Inv X pins σ H s)(d:Mut (H x))(f:e=x\/H e=some (.own x))(k:∀ b u,b≠e->s.heap.get? b=some u->h'.get? b=some u)(a:∃ u,h'.get? e=some u)
  (c:ObjOk X.prog X.w (upd H x o) h' x o):Inv X pins σ (upd H x o) { s with heap:=h',toks:=t' }:=I.un (Un.write d f k a) (I.hok.write d f k a c)
theorem Inv.weak{σ':List (Option V)}(I:Inv X pins σ H s)(a:σ'.length=σ.length)(w:∀(i:Nat) v,σ'[i]? = some (some v)->σ[i]? = some (some v)):Inv X pins σ' H s :=
 ⟨I.ok,I.os,I.bare,I.base,let ⟨m,hn,hl'⟩:=I.loc;⟨m,hn,λi x v b d c=>hl' i x v b (w i v d) c⟩,I.cell,I.free,I.freeC,I.pin,I.hok,a.trans I.len⟩
theorem Inv.pins_of{a:List (Addr×Obj)}(I:Inv X pins σ H s)(h:∀ p ∈ a,s.heap.get? p.1 = some p.2/\H p.1 = none/\p.1≠X.env.locals/\p.1 ∉ X.fs/\∀ v,p.2.data≠.cell v):Inv X a σ H s :=
 ⟨I.ok,I.os,I.bare,I.base,I.loc,I.cell,I.free,I.freeC,λp b=>(mem_append.mp b).elim (λz=>I.pin p (mem_append_left _ z)) (h p),I.hok,I.len⟩
theorem jA{N:List Str}(c:N.Nodup){i j:Nat}{x:Str}(a:N[i]? = some x)(b:N[j]? = some x):i=j:=by
 obtain⟨h,f⟩:=List.getElem?_eq_some_iff.mp a;obtain⟨g,d⟩:=List.getElem?_eq_some_iff.mp b;exact(List.getElem_inj c).mp (f.trans d.symm)
theorem j7{M:Model}{A:Around}{E:Value->Shared->Prop}{i:Nat}{x:Str}{v:V}{u:Value}{Q:Unit->Shared->Prop}(I:Inv X pins σ H s)(hN:X.N.Nodup)(L:X.N[i]? = some x)(w:Loc X.env.scope x)(r:RelV v u)
  (h:∀ s',Inv X pins (σ.set i (some v)) H s'->(∃ a,Heap.SameBut a s.heap s'.heap/\(a = X.env.locals\/X.env.cells.lookup x = some a))->Q () s') (hf:X.fn x = true\/X.env.scope.names.lookup x = some .local:=by first | exact .inl rfl | exact .inr rfl | assumption):wpAny M A (storeName X.env x u) Q E s:=by
 obtain⟨m,hn,hl⟩:=id I.loc;have N:(X.env.scope.kind == .class || (X.env.scope.kind == .module && X.env.locals != X.env.globals)) = false:=by rw[I.ok.kind];rfl
 have C:i<σ.length:=by rw[I.len];exact(List.getElem?_eq_some_iff.mp L).1
 have D:=I.cne
 have g:∀{a:Addr}{J:Heap},(∃ o,s.heap.get? a=some o/\H a=none)->Heap.SameBut a s.heap J->HOk X.prog X.w H J:=λ{a J} ha f b ob e=>by
  obtain⟨_,_,B⟩:=ha;refine(I.hok b ob e).stay (λc T hc q=>(f.2 c ?_).trans q) (λ_ q=>q) λ_ _ q=>q
  rintro rfl
  rcases hc with rfl | hc
  .rw[B]at e;cases e
  .rw[B]at hc;cases hc
 rcases w with hk | hk
 .refine wpAny_storeName_local hk hn (λJ ac f=>?_) N
  obtain⟨oL,_,_,ab,_⟩:=id hn;refine h _ ⟨I.ok,I.os,I.bare,⟨λb o e n F w=>?_,λb o e n F w=>?_,I.base.free,λb o e w=>?_,I.base.tups,I.base.frzs,I.base.tbls⟩,⟨_,ac,λj y v' l e2 e3=>?_⟩,λy c e=>?_,I.free,I.freeC,λp hp=>?_,g ⟨oL,ab,I.free⟩ f,by simpa using I.len⟩ ⟨_,f,.inl rfl⟩
  .exact(f.2 b (Nat.ne_of_lt (Nat.lt_of_lt_of_le (Heap.lt_size e) I.ok.above))).trans (I.base.keep b o e n F w)
  .obtain⟨sl,l⟩:=I.base.slot b o e n F w
   exact⟨sl,(f.2 b (Nat.ne_of_lt (Nat.lt_of_lt_of_le (Heap.lt_size e) I.ok.above))).trans l⟩
  .obtain⟨o',l⟩:=I.base.there b o e w
   exact⟨o',(f.2 b (Nat.ne_of_lt (Nat.lt_of_lt_of_le (Heap.lt_size e) I.ok.above))).trans l⟩
  .by_cases hj:j=i
   .subst hj
    rw[L]at l;cases l;rw[List.getElem?_set_self C]at e2;cases e2;exact⟨u,r,.inl ⟨hk,by simp⟩⟩
   .rw[List.getElem?_set_ne (Ne.symm hj)]at e2
    obtain⟨Z,r',q⟩:=hl j y v' l e2 e3;refine⟨Z,r',?_⟩
    rcases q with⟨k,e⟩ | ⟨k,c,e,z⟩
    .refine .inl ⟨k,?_⟩
     have:y≠x:=λe=>hj (jA hN l (e ▸ L))
     simp[this,e]
    .exact .inr ⟨k,c,e,z.sameBut f (D y c e)⟩
  .obtain⟨T,z⟩:=I.cell y c e
   exact⟨T,z.sameBut f (D y c e)⟩
  .obtain⟨e,n,W,nf,d⟩:=I.pin p hp
   exact⟨(f.2 p.1 W).trans e,n,W,nf,d⟩
 .have G:X.fn x=true:=by
   rcases hf with z | z
   .exact z
   .rw[z]at hk;cases hk
  obtain⟨c,hc⟩:=I.ok.has x (.inl hk);obtain⟨T,z⟩:=I.cell x c hc;refine wpAny_storeName_cell I.ok.kind hk hc z (λJ P f=>?_);obtain⟨oc,K,R⟩:=id z;refine h { s with heap:=J } ⟨I.ok,I.os,I.bare,⟨λb o e n F w=>?_,λb o e n F w=>?_,I.base.free,λb o e w=>?_,I.base.tups,I.base.frzs,I.base.tbls⟩,⟨m,hn.sameBut f (Ne.symm (D x c hc)),λj y v' l e2 e3=>?_⟩,λy Y e=>?_,I.free,I.freeC,λp hp=>?_,g ⟨oc,K,I.freeC x c hc⟩ f,by simpa using I.len⟩ ⟨c,f,.inr hc⟩
  .exact(f.2 b (Nat.ne_of_lt (Nat.lt_of_lt_of_le (Heap.lt_size e) (I.ok.cab x c G hc)))).trans (I.base.keep b o e n F w)
  .obtain⟨sl,l⟩:=I.base.slot b o e n F w
   exact⟨sl,(f.2 b (Nat.ne_of_lt (Nat.lt_of_lt_of_le (Heap.lt_size e) (I.ok.cab x c G hc)))).trans l⟩
  .obtain⟨o',l⟩:=I.base.there b o e w
   exact⟨o',(f.2 b (Nat.ne_of_lt (Nat.lt_of_lt_of_le (Heap.lt_size e) (I.ok.cab x c G hc)))).trans l⟩
  .by_cases hj:j=i
   .subst hj
    rw[L]at l;cases l;rw[List.getElem?_set_self C]at e2;cases e2;exact⟨u,r,.inr ⟨.inl hk,c,hc,P⟩⟩
   .rw[List.getElem?_set_ne (Ne.symm hj)]at e2
    obtain⟨Z,r',q⟩:=hl j y v' l e2 e3;refine⟨Z,r',?_⟩
    rcases q with q | ⟨k,Y,e,z'⟩
    .exact .inl q
    .refine .inr ⟨k,Y,e,z'.sameBut f ?_⟩
     rintro rfl;exact hj (jA hN l (I.ok.inj _ _ _ e hc ▸ L))
  .by_cases hcc:Y=c
   .subst hcc;exact⟨_,P⟩
   .obtain⟨w2,z2⟩:=I.cell y Y e
    exact⟨w2,z2.sameBut f hcc⟩
  .obtain⟨e,n,W,nf,d⟩:=I.pin p hp
   refine⟨(f.2 p.1 ?_).trans e,n,W,nf,d⟩;intro q;rw[q,K]at e;have q':oc=p.2:=Option.some.inj e;exact d T (by rw[<- q'];exact R)
theorem fw{M:Model}{A:Around}{E:Value->Shared->Prop}{i:Nat}{x:Str}{v:V}{u:Value}{Q:Unit->Shared->Prop}(I:Inv X pins σ H s)(a:X.N.Nodup)(c:X.N[i]? = some x)(f:Loc X.env.scope x)(r:RelV v u)
  (h:∀ s',Inv X pins (σ.set i (some v)) H s'->Q () s') (b:X.fn x = true\/X.env.scope.names.lookup x = some .local:=by first | exact .inl rfl | exact .inr rfl | assumption):wpAny M A (storeName X.env x u) Q E s :=
 j7 I a c f r (λs' d _=>h s' d) b
theorem Inv.call'{a:Shared}{ch:List Addr}(I:Inv X pins σ H s)(g:a.os=s.os)(u:Un (frs X.stack) ch H H' s.heap a.heap)(f:HOk X.prog X.w H' a.heap)(i:AllBare a.gens)
  (d:∀ b ∈ ch,(b ∈ X.ex\/X.s₀.heap.objs.size<=b)/\b≠X.env.locals/\(∀ x c,X.env.cells.lookup x = some c->c≠b)/\∀ p ∈ X.pn ++ pins,p.1≠b):Inv X pins σ H' a:=by
 obtain⟨j,g',d',t',h⟩:=a;have e:h=s.os:=g;subst e;exact I.call (g':=g') (t':=t') (d':=d') u f i d
end
abbrev XK:=Value->Option Addr->Hp->Prop
abbrev St:=List (Option V)
abbrev VK:=V->Hp->Prop
abbrev TE:=St->Hp->VK->Prop
abbrev TT:=St->Hp->(Bool->Hp->Prop)->Prop
abbrev TA:=St->Hp->(List V->Hp->Prop)->Prop
structure Ends where
 nx:St->Hp->Prop
 rt:VK
 bk:St->Hp->Prop:=λ_ _=>False
 ct:St->Hp->Prop:=λ_ _=>False
abbrev TS:=Ends->St->Hp->Prop
def EP(X:Cx)(pins:List (Addr×Obj))(σ:St)(Q:VK)(u:Value)(s':Shared):Prop:=∃ v H',Inv X pins σ H' s'/\RelV v u/\Q v H'
def TP(X:Cx)(pins:List (Addr×Obj))(σ:St)(Q:Bool->Hp->Prop)(b:Bool)(s':Shared):Prop:=∃ H',Inv X pins σ H' s'/\Q b H'
def AP(X:Cx)(pins:List (Addr×Obj))(σ:St)(Q:List V->Hp->Prop)(us:List Value)(s':Shared):Prop:=∃ vs H',Inv X pins σ H' s'/\Vals vs us/\Q vs H'
def SP(X:Cx)(pins:List (Addr×Obj))(D:Ends)(f:Flow)(s':Shared):Prop :=
 match f with
 | .next=>∃ σ' H',Inv X pins σ' H' s'/\D.nx σ' H'
 | .brk=>∃ σ' H',Inv X pins σ' H' s'/\D.bk σ' H'
 | .cont=>∃ σ' H',Inv X pins σ' H' s'/\D.ct σ' H'
 | .ret u=>∃ v σ' H',Inv X pins σ' H' s'/\RelV v u/\D.rt v H'
def PE(X:Cx)(e:Expr)(t:TE):Prop :=
 ∀(pins:List (Addr×Obj)) (s:Shared) (σ:St) (H:Hp) (Q:VK),Inv X pins σ H s->t σ H Q->wpAny (model X.prog X.w) X.A (eval e X.env) (EP X pins σ Q) X.xe s
def PT(X:Cx)(e:Expr)(t:TT):Prop :=
 ∀(pins:List (Addr×Obj)) (s:Shared) (σ:St) (H:Hp) (Q:Bool->Hp->Prop),Inv X pins σ H s->t σ H Q->wpAny (model X.prog X.w) X.A (isTrue e X.env (eval e X.env)) (TP X pins σ Q) X.xe s
def PW(X:Cx)(e:Expr)(t:TT):Prop :=
 ∀(whole:Sem Value) (pins:List (Addr×Obj)) (s:Shared) (σ:St) (H:Hp) (Q:Bool->Hp->Prop),Inv X pins σ H s->t σ H Q->wpAny (model X.prog X.w) X.A (isTrue e X.env whole) (TP X pins σ Q) X.xe s
theorem PW.pt{X:Cx}{e:Expr}{t:TT}(h:PW X e t):PT X e t:=h _
def PA(X:Cx)(es:List Expr)(t:TA):Prop :=
 ∀(pos:Pos) (pins:List (Addr×Obj)) (s:Shared) (σ:St) (H:Hp) (Q:List V->Hp->Prop),Inv X pins σ H s->t σ H Q->wpAny (model X.prog X.w) X.A (spliced (backTo pos (starEach es X.env))) (AP X pins σ Q) X.xe s
def PS(X:Cx)(st:Stmt)(t:TS):Prop :=
 ∀(pins:List (Addr×Obj)) (s:Shared) (σ:St) (H:Hp) (D:Ends),Inv X pins σ H s->t D σ H->wpAny (model X.prog X.w) X.A (exec st X.env) (SP X pins D) X.xe s
def PSs(X:Cx)(st:List Stmt)(t:TS):Prop :=
 ∀(pins:List (Addr×Obj)) (s:Shared) (σ:St) (H:Hp) (D:Ends),Inv X pins σ H s->t D σ H->wpAny (model X.prog X.w) X.A (execs st X.env) (SP X pins D) X.xe s
theorem thn{b:Type}{t:Sem b}{Q c:b->Shared->Prop}{M:Model}{A:Around}{E:Value->Shared->Prop}{s:Shared}(h:wpAny M A t Q E s)(d:∀ a s,Q a s->c a s):wpAny M A t c E s:=wpAny_mono h d λ_ _ x=>x
section
variable {X:Cx}
def BT(i:Nat):TE:=λσ H Q=>∃ v,σ[i]? = some (some v)/\Q v H
def tC(v:V):TE:=λ_ H Q=>Q v H
theorem yE{i:Nat}{x:Str}{j:Pos}(w:X.N[i]? = some x)(q:Vis X.env.scope x)(g:(x == ("__debug__" : Str))=false:=by decide)(f:(x == ("__classdict__" : Str))=false:=by decide):PE X (.Name x j) (BT i):=by
 intro d s y H Q I h;obtain⟨v,e,h⟩:=h;obtain⟨m,p,o⟩:=I.loc;obtain⟨u,r,l⟩:=o i x v w e q
 have b:EP X d y Q u s:=⟨v,H,I,r,h⟩
 rcases l with⟨hk,n⟩ | ⟨hk,c,k,a⟩
 .exact wpAny_Name (wpAny_loadName_local I.ok.kind hk p n b) g
 .rcases hk with hk | hk
  .exact wpAny_Name (wpAny_loadName_cell I.ok.kind hk k a b) g
  .exact wpAny_Name (wpAny_loadName_free I.ok.kind hk k a b f) g
theorem ak{i j pos}:PE X (.Constant (.int i) j pos) (tC (.int i)):=λ_ _ _ H _ I h=>wpAny_Constant_int ⟨.int i,H,I.tok _,⟨_,rfl⟩,h⟩
theorem mR{b j pos}:PE X (.Constant (.bool b) j pos) (tC (.bl b)):=λ_ _ _ H _ I h=>Constant_bool ⟨.bl b,H,I,rfl,h⟩
theorem zo{j pos}:PE X (.Constant .none j pos) (tC .non):=λ_ _ _ H _ I h=>Constant_none ⟨.non,H,I,rfl,h⟩
def Gl(X:Cx)(x:Str):Prop:=X.env.kindOf x=some .globalImplicit
theorem fV{E:Value->Shared->Prop}{a:List (Addr×Obj)}{s:Shared}{f:St}{H:Hp}{x:Str}{u:Value}{b:Pos}{Q:Value->Shared->Prop}(I:Inv X a f H s)(g:Gl X x)(c:X.mg x=some u)(h:Q u s)
  (d:(x == ("__debug__" : Str))=false:=by decide):wpAny (model X.prog X.w) X.A (eval (.Name x b) X.env) Q E s :=
 Calls.Name_function_global I.ok.kind g (Calls.loadGlobal_global (by rw[I.ok.glob];exact I.mod.glob.keeps I.bk) c h) d
theorem jd{E:Value->Shared->Prop}{a:List (Addr×Obj)}{s:Shared}{k:St}{H:Hp}{x:Str}{u:Value}{b:Pos}{Q:Value->Shared->Prop}(I:Inv X a k H s)(l:Gl X x)(g:X.mg x=none)(j:bootBuiltins x=some u)(h:Q u s)
  (i:x ≠ "__name__" := by decide) (f:(x == ("__debug__" : Str))=false:=by decide):wpAny (model X.prog X.w) X.A (eval (.Name x b) X.env) Q E s:=by
 obtain⟨n,d,c⟩:=I.mod.blt;exact Calls.Name_function_global I.ok.kind l (Calls.loadGlobal_builtin (by rw[I.ok.glob];exact I.mod.glob.keeps I.bk) g (by rw[I.ok.blt];exact d.keeps I.bk) ((c x i).trans j) h) f
theorem vV{x:Str}{v:V}{u:Value}{a:Pos}(d:Gl X x)(b:X.mg x=some u)(r:RelV v u)(c:(x == ("__debug__" : Str))=false:=by decide):PE X (.Name x a) (tC v) :=
 λ_ _ _ H _ I h=>fV I d b ⟨v,H,I,r,h⟩ c
theorem fj{x:Str}{v:V}{u:Value}{a:Pos}(g:Gl X x)(b:X.mg x=none)(f:bootBuiltins x=some u)(r:RelV v u)(d:x ≠ "__name__" := by decide)(c:(x == ("__debug__" : Str))=false:=by decide):PE X (.Name x a) (tC v) :=
 λ_ _ _ H _ I h=>jd I g b f ⟨v,H,I,r,h⟩ d c
variable {a b:Expr}{ta tb:TE}{pos:Pos}
variable {tA tB':TT}{rest:List Expr}
def BE(t u:TT):TT:=λσ H Q=>t σ H λc H1=>if c=true then u σ H1 Q else Q false H1
def tOr(t u:TT):TT:=λσ H Q=>t σ H λc H1=>if c=true then Q true H1 else u σ H1 Q
def BV(t:TT):TT:=λσ H Q=>t σ H λc H1=>Q (!c) H1
theorem wv(f:PT X a tA):PW X (.BoolOp .And [a] pos) tA:=by
 intro g b s d H Q I h;refine isTrue_and (thn (f b s d H Q I h) λc i e=>?_);cases c with
 | true=>exact isTrue_and_nil e
 | false=>exact e
theorem yX(f:PT X a tA):PW X (.BoolOp .Or [a] pos) tA:=by
 intro g b s d H Q I h;refine isTrue_or (thn (f b s d H Q I h) λc i e=>?_);cases c with
 | false=>exact isTrue_or_nil e
 | true=>exact e
theorem y3(n:PT X a tA)(k:PW X (.BoolOp .And (b::rest) pos) tB'):PW X (.BoolOp .And (a::b::rest) pos) (BE tA tB'):=by
 intro l d s g H Q I h;refine isTrue_and (thn (n d s g H _ I h) λc o ⟨j,f,i⟩=>?_);cases c with
 | true=>exact k l d o g j Q f i
 | false=>exact⟨j,f,i⟩
theorem Bs(n:PT X a tA)(k:PW X (.BoolOp .Or (b::rest) pos) tB'):PW X (.BoolOp .Or (a::b::rest) pos) (tOr tA tB'):=by
 intro l d s g H Q I h;refine isTrue_or (thn (n d s g H _ I h) λc o ⟨j,f,i⟩=>?_);cases c with
 | true=>exact⟨j,f,i⟩
 | false=>exact k l d o g j Q f i
theorem ly(d:PT X a tA):PT X (.UnaryOp .Not a pos) (BV tA):=by
 intro b s f H Q I h;exact isTrue_not (d b s f H (λc g=>Q (!c) g) I h)
theorem yw{op}{t:TE}(h:PE X a t):PE X (.BoolOp op [a] pos) t:=λb s d H Q I c=>BoolOp_one (h b s d H Q I c)
end
def SqL(K:Frag)(H:Hp)(a:Addr)(xs:List V):Prop :=
 Rd H a (.lst xs) \/
  ∃(o:Obj) (its:Array Value) (n:Nat),K.lookup a=some o/\o.cls=.type "list" /\ o.dict=none/\o.data=.seq its n/\its.size<=sizeLine/\Vals xs its.toList
def SqT(K:Frag)(H:Hp)(a:Addr)(xs:List V):Prop :=
 Rd H a (.tup xs) \/
  ∃(o:Obj) (its:Array Value) (n:Nat),K.lookup a=some o/\o.cls=.type "tuple" /\ o.data=.seq its n/\its.size<=sizeLine/\Vals xs its.toList
def BJ:Value->Option V
 | .none=>some .non
 | .bool b=>some (.bl b)
 | .int i _=>some (.int i)
 | .str x _=>some (.str x)
 | .bytes b _=>some (.byt b)
 | .float b _=>some (.flt b)
 | .ref a=>some (.ref a)
 | .type n=>some (.ty n)
 | _=>none
theorem RelV.abs{x:V}{u:Value}(r:RelV x u):BJ u=some x:=by
 cases x with
 | non=>cases r;rfl
 | bl _=>cases r;rfl
 | int _=>obtain⟨t,rfl⟩:=r;rfl
 | str _=>obtain⟨t,rfl⟩:=r;rfl
 | byt _=>obtain⟨t,rfl⟩:=r;rfl
 | flt _=>obtain⟨t,rfl⟩:=r;rfl
 | ref _=>cases r;rfl
 | ty _=>cases r;rfl
theorem RelV.inj{x y:V}{u:Value}(r:RelV x u)(q:RelV y u):x=y:=Option.some.inj (r.abs.symm.trans q.abs)
theorem Vals.inj:∀{xs ys:List V}{us:List Value},Vals xs us->Vals ys us->xs=ys
 | _,_,_,.nil,.nil=>rfl
 | _,_,_,.cons r t,.cons r' t'=>by rw[r.inj r',Vals.inj t t']
section
variable {X:Cx}{pins:List (Addr×Obj)}{σ:St}{H:Hp}{s:Shared}{a:Addr}{xs ys:List V}
theorem SqL.of{K:Frag}(h:H a=some (.lst xs)):SqL K H a xs:=.inl (.inl h)
theorem SqT.of{K:Frag}(h:H a=some (.tup xs)):SqT K H a xs:=.inl (.inl h)
theorem Inv.list(I:Inv X pins σ H s)(h:SqL X.K H a xs):∃ its:List Value,Vals xs its/\PlainL s.heap a its.toArray/\xs.length<=sizeLine:=by
 rcases h with h | ⟨o,its,n,c,d,b,f,g,r⟩
 .obtain⟨z,its,n,r,e⟩:=h.ok I.hok
  exact⟨its,r,⟨_,n,e,rfl,rfl,rfl⟩,z⟩
 .refine⟨its.toList,r,⟨o,n,I.kIn a o c,d,b,by simpa using f⟩,?_⟩
  have e:=r.length;simp only[Array.length_toList]at e;lia
theorem Inv.tuple(I:Inv X pins σ H s)(h:SqT X.K H a xs):∃ its:List Value,Vals xs its/\IsTup s.heap a its.toArray/\xs.length<=sizeLine:=by
 rcases h with h | ⟨o,its,n,c,b,d,f,r⟩
 .obtain⟨z,its,r,p⟩:=h.ok I.hok
  exact⟨its,r,p,z⟩
 .refine⟨its.toList,r,⟨o,I.kIn a o c,b,n,by simpa using d⟩,?_⟩
  have e:=r.length;simp only[Array.length_toList]at e;lia
theorem Inv.list_inj(I:Inv X pins σ H s)(h:SqL X.K H a xs)(h':SqL X.K H a ys):xs=ys:=by
 obtain⟨c,r,⟨o,n,e,_,_,d⟩,_⟩:=I.list h;obtain⟨b,i,⟨k,j,f,_,_,g⟩,_⟩:=I.list h';rw[e]at f;cases f;rw[d]at g;injection g with d1 _
 have:c=b:=by simpa using congrArg Array.toList d1
 subst this;exact r.inj i
theorem Inv.tuple_inj(I:Inv X pins σ H s)(h:SqT X.K H a xs)(h':SqT X.K H a ys):xs=ys:=by
 obtain⟨c,r,⟨o,e,_,n,d⟩,_⟩:=I.tuple h;obtain⟨b,i,⟨k,f,_,j,g⟩,_⟩:=I.tuple h';rw[e]at f;cases f;rw[d]at g;injection g with d1 _
 have:c=b:=by simpa using congrArg Array.toList d1
 subst this;exact r.inj i
end
abbrev Cx.wish(X:Cx)(E:Value->Shared->Prop):Cx:={ X with xe:=E }
abbrev Cx.nox(X:Cx):Cx:=X.wish λ_ _=>False
theorem Cx.Ok.wish{X:Cx}(a:X.Ok)(E:Value->Shared->Prop):(X.wish E).Ok :=
 ⟨a.mod,a.kind,a.glob,a.blt,a.above,a.inj,a.has,a.cab,a.hd,a.frames,a.stk,a.exf,a.bs,a.bsz,a.noex,a.exfs,a.funs,a.frf⟩
theorem Cx.Ok.unwish{X:Cx}{E:Value->Shared->Prop}(a:(X.wish E).Ok):X.Ok :=
 ⟨a.mod,a.kind,a.glob,a.blt,a.above,a.inj,a.has,a.cab,a.hd,a.frames,a.stk,a.exf,a.bs,a.bsz,a.noex,a.exfs,a.funs,a.frf⟩
section
variable {X:Cx}{pins:List (Addr×Obj)}{σ:St}{H:Hp}{s:Shared}{E:Value->Shared->Prop}
theorem Inv.wish(I:Inv X pins σ H s)(E:Value->Shared->Prop):Inv (X.wish E) pins σ H s:=⟨I.ok.wish E,I.os,I.bare,I.base,I.loc,I.cell,I.free,I.freeC,I.pin,I.hok,I.len⟩
theorem Inv.unwish(I:Inv (X.wish E) pins σ H s):Inv X pins σ H s:=⟨I.ok.unwish,I.os,I.bare,I.base,I.loc,I.cell,I.free,I.freeC,I.pin,I.hok,I.len⟩
theorem SP.unwish{D:Ends}{f:Flow}{c:Shared}(h:SP (X.wish E) pins D f c):SP X pins D f c:=by
 cases f with
 | next=>obtain⟨a,b,I,q⟩:=h;exact⟨a,b,I.unwish,q⟩
 | brk=>obtain⟨a,b,I,q⟩:=h;exact⟨a,b,I.unwish,q⟩
 | cont=>obtain⟨a,b,I,q⟩:=h;exact⟨a,b,I.unwish,q⟩
 | ret u=>obtain⟨v,a,b,I,r,q⟩:=h;exact⟨v,a,b,I.unwish,r,q⟩
theorem PSs.nox{st:List Stmt}{t:TS}(h:PSs X.nox st t):PSs X st t:=λa s c H D I b =>
 wpAny_mono (h a s c H D (I.wish _) b) (λ_ _ q=>q.unwish) λ_ _ z=>False.elim z
end
section
variable {X:Cx}{st:Stmt}{rest:List Stmt}{t u:TS}{e:Expr}{te:TE}{pos:Pos}
def Br:TS:=λD σ H=>D.nx σ H
def bG(t u:TS):TS:=λD σ H=>t { D with nx:=u D } σ H
theorem bO:PSs X [] Br:=λ_ _ a H _ I h=>wpAny_execs_nil ⟨a,H,I,h⟩
theorem aj(d:PS X st t)(c:PSs X rest u):PSs X (st::rest) (bG t u):=by
 intro a s g H D I h;refine wpAny_execs_cons (thn (d a s g H { D with nx:=u D } I h) λf k q=>?_);cases f with
 | next =>
  obtain⟨b,i,j,q⟩:=q;exact c a k b i D j q
 | ret v=>exact q
 | brk=>exact q
 | cont=>exact q
theorem am(c:PS X st t):PSs X [st] t:=by
 intro a s b H D I h;refine wpAny_execs_cons (thn (c a s b H D I h) λf d q=>?_);cases f with
 | next=>exact wpAny_execs_nil q
 | ret v=>exact q
 | brk=>exact q
 | cont=>exact q
def zi:TS:=λD σ H=>D.bk σ H
theorem uK:PS X (.Break pos) zi:=λ_ _ a H _ I h=>wpAny_Break ⟨a,H,I,h⟩
theorem Inv.quiet{a:List (Addr×Obj)}{b:St}{H:Hp}{s:Shared}(I:Inv X a b H s):interactive X.env=false:=by simp[interactive,I.ok.kind]
def AM(te:TE):TS:=λD σ H=>te σ H λ_ H1=>D.nx σ H1
theorem fg(f:PE X e te)(i:swapsWith e none pos.line X.env=pure false:=by rfl):PS X (.Expr e pos) (AM te):=by
 intro a s b H D I h;exact wpAny_Expr_any (thn (f a s b H _ I h) λv k ⟨x,g,c,j,d⟩=>⟨b,g,c,d⟩) I.quiet i
def Cf(te:TE):TS:=λD σ H=>te σ H D.rt
theorem aB(g:PE X e te):PS X (.Return (some e) pos) (Cf te):=by
 intro a s b H D I h;exact wpAny_Return_some (thn (g a s b H _ I h) λv j ⟨x,i,c,d,f⟩=>⟨x,b,i,c,d,f⟩)
def B9(c:TT)(t u:TS):TS:=λD σ H=>c σ H λb H1=>if b=true then t D σ H1 else u D σ H1
theorem cX{c:Expr}{a b:List Stmt}{j:TT}(q:PT X c j)(p:PSs X a t)(o:PSs X b u):PS X (.If c a b pos) (B9 j t u):=by
 intro f s g H D I h;refine wpAny_If (thn (q f s g H _ I h) λd n ⟨l,i,k⟩=>?_);cases d with
 | true=>exact p f n g l D i k
 | false=>exact o f n g l D i k
end
abbrev TG:=V->St->Hp->(St->Hp->Prop)->Prop
abbrev TGs:=List V->St->Hp->(St->Hp->Prop)->Prop
def PG(X:Cx)(target:Expr)(t:TG):Prop :=
 ∀(pins:List (Addr×Obj)) (s:Shared) (σ:St) (H:Hp) (v:V) (u:Value) (Q:St->Hp->Prop),Inv X pins σ H s->RelV v u->t v σ H Q ->
  wpAny (model X.prog X.w) X.A (assign target X.env u) (λ_ s'=>∃ σ' H',Inv X pins σ' H' s'/\Q σ' H') X.xe s
def PGs(X:Cx)(ts:List Expr)(t:TGs):Prop :=
 ∀(pins:List (Addr×Obj)) (s:Shared) (σ:St) (H:Hp) (vs:List V) (us:List Value) (Q:St->Hp->Prop),Inv X pins σ H s->Vals vs us->t vs σ H Q ->
  wpAny (model X.prog X.w) X.A (assignInOrder ((assignEach ts X.env).map (·.2)) us) (λ_ s'=>∃ σ' H',Inv X pins σ' H' s'/\Q σ' H') X.xe s
abbrev zT:=V->V->V->Hp->(Hp->Prop)->Prop
def AK(X:Cx)(t:zT):Prop :=
 ∀(pins:List (Addr×Obj)) (s:Shared) (σ:St) (H:Hp) (o i v:V) (ov iv u:Value) (Q:Hp->Prop),Inv X pins σ H s->RelV o ov->RelV i iv->RelV v u->t o i v H Q ->
  wpAny (model X.prog X.w) X.A (setItem ov iv u) (λ_ s'=>∃ H',Inv X pins σ H' s'/\Q H') X.xe s
abbrev TIp:=V->V->Hp->VK->Prop
def PIp(X:Cx)(op:Operator)(t:TIp):Prop :=
 ∀(pins:List (Addr×Obj)) (s:Shared) (σ:St) (H:Hp) (x y:V) (v u:Value) (Q:VK),Inv X pins σ H s->RelV x v->RelV y u->t x y H Q ->
  wpAny (model X.prog X.w) X.A (inplaceOp op v u) (EP X pins σ Q) X.xe s
section
variable {X:Cx}{pos:Pos}
def mq(i:Nat):TG:=λv σ H Q=>Q (σ.set i (some v)) H
theorem au{i:Nat}{x:Str}(b:X.N.Nodup)(d:X.N[i]? = some x)(g:Loc X.env.scope x)(c:X.fn x = true\/X.env.scope.names.lookup x = some .local:=by first | exact .inl rfl | exact .inr rfl | assumption):PG X (.Name x pos) (mq i):=by
 intro a s k H v u Q I r h;exact wpAny_assign_Name (fw I b d g r (λj f=>⟨_,H,f,h⟩) c)
def Cb:TGs:=λvs σ H Q=>vs=[]/\Q σ H
inductive gCons(t:TG)(u:TGs)(vs:List V)(σ:St)(H:Hp)(Q:St->Hp->Prop):Prop
 | mk(v:V)(r:List V)(h0:vs=v::r)(h1:t v σ H λσ' H'=>u r σ' H' Q):gCons t u vs σ H Q
theorem bi:PGs X [] Cb:=by
 intro a s b H d c Q I r h;obtain⟨e,h⟩:=h;subst e;cases r;exact assignInOrder_nil ⟨b,H,I,h⟩
theorem av{e:Expr}{es:List Expr}{t:TG}{u:TGs}(f:PG X e t)(c:PGs X es u)
  (l:(assignEach (e::es) X.env).map (·.2)=assign e X.env::(assignEach es X.env).map (·.2):=by rfl):PGs X (e::es) (gCons t u):=by
 intro a s g H o q Q I r h;obtain⟨v,p,i,h⟩:=h;subst i;cases r with
 | cons r rr =>
  rw[l];refine assignInOrder_cons (thn (f a s g H _ _ _ I r h) λ_ n ⟨b,k,d,j⟩=>?_);exact c a n b k _ _ Q d rr j
inductive gTup(K:Frag)(n:Nat)(t:TGs)(v:V)(σ:St)(H:Hp)(Q:St->Hp->Prop):Prop
 | mk(a:Addr)(xs:List V)(h0:v=.ref a)(h1:SqT K H a xs)(h2:xs.length=n)(h3:t xs σ H Q):gTup K n t v σ H Q
theorem eh{es:List Expr}{k:Nat}{t:TGs}{n:Nat}(q:X.calm=true)(h:PGs X es t)
  (x:(assignEach es X.env).length=n:=by rfl) (f:(assignEach es X.env).findIdx? (·.1)=none:=by rfl):PG X (.Tuple es k pos) (gTup X.K n t):=by
 intro c s g H v u Q I r d;obtain⟨a,l,C,B,p,d⟩:=d;subst C;cases r;obtain⟨y,i,A,D⟩:=I.tuple B;refine assign_Tuple_tuple (I.ok.hd q) A (by simp[x,<- p,i.length]) f λw z=>?_
 have j:Inv X c g H { s with heap:=w }:=I.kept (t':=s.toks) λb o e=>z b o (Nat.ne_of_lt (Heap.lt_size e)) e
 exact h c _ g H l _ Q j (by simpa using i) d
def BN(to ti:TE)(t:zT):TG:=λv σ H Q=>to σ H λo H1=>ti σ H1 λi H2=>t o i v H2 λH3=>Q σ H3
theorem zy{o i:Expr}{c d:TE}{t:zT}(F:PE X o c)(g:PE X i d)(G:AK X t)
  (C:∀ v,assign (.Subscript o i pos) X.env v=(do
   let ov <- holding [v] (eval o X.env)
   let iv <- holding [v,ov] (eval i X.env)
   standAt pos
   holding [v,ov,iv] (setItem ov iv v)
   release [v,ov,iv] []):=by intro _;rfl):PG X (.Subscript o i pos) (BN c d t):=by
 intro a s b H v u Q I r h;rw[C];refine wpAny_bind (wpAny_holding (thn (F a s b H _ I h) λov D ⟨x,l,E,q,j⟩=>?_));refine wpAny_bind (wpAny_holding (thn (g a D b l _ E j) λiv n ⟨y,A,z,f,w⟩=>?_));refine wpAny_bind (wpAny_standAt (wpAny_bind (wpAny_holding (thn (G a n b A x y v ov iv u _ z q f r w) λ_ J ⟨B,p,k⟩=>?_))));exact wpAny_release ⟨b,B,p,k⟩
def wu(te:TE)(g:TG):TS:=λD σ H=>te σ H λx H1=>g x σ H1 D.nx
theorem jD{tg e:Expr}{c:TE}{g:TG}(l:PE X e c)(o:PG X tg g)(p:swapsWithSole [tg] e pos.line X.env=pure false:=by rfl)(d:swappedStores [tg] e X.env=pure none:=by rfl)
  (i:(assignEach [tg] X.env).map (·.2)=[assign tg X.env]:=by rfl):PS X (.Assign [tg] e pos) (wu c g):=by
 intro a s b H D I h;refine wpAny_Assign_stores (thn (l a s b H _ I h) λv r ⟨x,n,f,j,k⟩=>?_) p d;rw[i];exact thn (o a r b n x v _ f j k) λ_ u q=>q
theorem aL{i:Nat}{x:Str}{e:Expr}{c:TE}{a:Pos}(g:X.N.Nodup)(l:X.N[i]? = some x)(r:Loc X.env.scope x)(p:PE X e c)(u:swapsWith e (some (.Name x a)) pos.line X.env = pure false:=by rfl)(k:X.fn x = true\/X.env.scope.names.lookup x = some .local:=by first | exact .inl rfl | exact .inr rfl | assumption) :
  PS X (.Assign [.Name x a] e pos) (wu c (mq i)):=by
 intro b s j H D I h;refine wpAny_Assign_Name (thn (p b s j H _ I h) λv z ⟨y,q,d,n,o⟩=>?_) u;exact fw d g l r n (λw f=>⟨_,q,f,o⟩) k
def BS(i j:Nat)(ta:TA):TS:=λD σ H=>ta σ H λvs H1=>∃ v w,vs=[v,w]/\D.nx ((σ.set i (some v)).set j (some w)) H1
theorem vn{i j:Nat}{x y:Str}{a b:Expr}{E:TA}{k n g:Pos}{kt k2 pt2}(R:X.calm=true)(A:X.N.Nodup)(J:X.N[i]? = some x)(K:X.N[j]? = some y)(r:i≠j)
  (F:X.env.scope.names.lookup x = some .local) (C:X.env.scope.names.lookup y = some .local) (Q:PA X [a,b] E)
  (G:swappedStores [.Tuple [.Name x k,.Name y n] kt g] (.Tuple [a,b] k2 pt2) X.env=pure (some [x,y]))
  (Y:swapsWithSole [.Tuple [.Name x k,.Name y n] kt g] (.Tuple [a,b] k2 pt2) pos.line X.env=pure false:=by rfl) :
  PS X (.Assign [.Tuple [.Name x k,.Name y n] kt g] (.Tuple [a,b] k2 pt2) pos) (BS i j E):=by
 intro c s B H D I h;rw[exec_Assign_arm];refine wpAny_bind (wpAny_standAt ?_);rw[Y];refine wpAny_bind (wpAny_pure ?_);rw[if_neg (by decide)];refine wpAny_bind (Tuple_ (thn (Q _ c s B H _ I h) λL d ⟨vs,u,W,N,f⟩=>?_));obtain⟨v,w,Z,f⟩:=f;subst Z
 obtain⟨u1,u2,rfl,rv,rw'⟩:∃ u1 u2,L=[u1,u2]/\RelV v u1/\RelV w u2:=by
  cases N with
  | cons p q =>
   cases q with
   | cons p' q' =>
    cases q';exact⟨_,_,rfl,p,p'⟩
 refine wpAny_newObj_type ?_ (by show 2<=sizeLine;decide);have P:Inv X c B u { d with heap:=d.heap.push { cls:=.type "tuple",data:=.seq [u1,u2].toArray } }:=W.kept (t':=d.toks) λb o e=>Heap.get?_push_of_some _ e
 rw[G];refine wpAny_bind (wpAny_pure ?_);show wpAny (model X.prog X.w) X.A (do rule "assign.swapped-stores";let items <- unpackItems (.ref d.heap.objs.size) 2 none;assignInOrder [λv=>bindName X.env y v,λv=>bindName X.env x v] items.reverse;pure Flow.next) _ _ _;refine wpAny_bind (wpAny_rule (wpAny_bind (unpackItems_tuple (items:=#[u1,u2]) (I.ok.hd R) (IsTup.new d.heap _) λh' l=>?_)));have M:=P.kept (h':=h') (t':=d.toks) λb o e=>l b o (Nat.ne_of_lt (Heap.lt_size e)) e
 show wpAny _ _ (assignInOrder [λv=>bindName X.env y v,λv=>bindName X.env x v] [u2,u1] >>= λ_=>pure Flow.next) _ _ _;refine wpAny_bind (assignInOrder_cons (wpAny_bindName (fw M A K (.inl C) rw' (λs2 T=>?_) (.inr C))));refine assignInOrder_cons (wpAny_bindName (fw T A J (.inl F) rv (λs3 z=>assignInOrder_nil (wpAny_pure ?_)) (.inr F)));rw[List.set_comm _ _ (Ne.symm r)]at z;exact⟨_,u,z,f⟩
def BK(i:Nat)(te:TE)(ti:TIp):TS:=λD σ H=>∃ x,σ[i]? = some (some x)/\te σ H λy H1=>ti x y H1 λz H2=>D.nx (σ.set i (some z)) H2
theorem vI{i:Nat}{x:Str}{e:Expr}{n:TE}{op:Operator}{p:TIp}{d:Pos}(L:X.N.Nodup)(o:X.N[i]? = some x)(j:Loc X.env.scope x)(he:PE X e n)(Z:PIp X op p)(C:X.fn x = true\/X.env.scope.names.lookup x = some .local:=by first | exact .inl rfl | exact .inr rfl | assumption) :
  PS X (.AugAssign (.Name x d) op e pos) (BK i n p):=by
 intro a s q H D I h;obtain⟨v,e1,h⟩:=h;obtain⟨m,J,G⟩:=I.loc;have g:Vis X.env.scope x:=by rcases j with k | k;exact .inl k;exact .inr (.inl k)
 obtain⟨u,r,l⟩:=G i x v o e1 g;refine wpAny_AugAssign_Name ?_
 have A:wpAny (model X.prog X.w) X.A (eval e X.env) (λw f=>wpAny (model X.prog X.w) X.A (inplaceOp op u w) (λr s₃=>wpAny (model X.prog X.w) X.A (storeName X.env x r) (λ_=>SP X a D .next) X.xe s₃) X.xe f) X.xe s:=by
  refine thn (he a s q H _ I h) λw W ⟨y,F,Y,M,E⟩=>?_
  refine thn (Z a W q F v y u w _ Y r M E) λz s2 ⟨zv,R,Q,B,N⟩=>?_
  exact fw Q L o j B (λs3 K=>⟨_,R,K,N⟩) C
 rcases l with⟨hk,P⟩ | ⟨hk,c,T,b⟩
 .exact wpAny_loadName_local I.ok.kind hk J P A
 .rcases hk with hk | hk
  .exact wpAny_loadName_cell I.ok.kind hk T b A
  .rcases j with k | k
   .have:X.env.scope.names.lookup x=some .free:=hk
    rw[k]at this;cases this
   .have:X.env.scope.names.lookup x=some .free:=hk
    rw[k]at this;cases this
def ipI(f:Int->Int->Int):TIp:=λx y H Q=>∃ i j,x=.int i/\y=.int j/\Q (.int (f i j)) H
theorem vz:PIp X .Add (ipI λi j=>i+j):=by
 intro a s k H x y v u Q I c d h;obtain⟨i,j,f,b,q⟩:=h;subst f;subst b;obtain⟨t,rfl⟩:=c;obtain⟨g,rfl⟩:=d;exact iadd_int ⟨.int _,H,I.tok _,⟨_,rfl⟩,q⟩
end
section
variable {X:Cx}{pos:Pos}
def yr(c:TT)(tb:TS):TS:=λD σ H=>∃ W:Nat->St->Hp->Prop,(∃ m,W m σ H)/\∀ m σ H,W m σ H ->
 c σ H λb H1=>if b=true then ∃ N:St->Hp->Prop,(∀ σ' H',N σ' H'->∃ m',m'<m/\W m' σ' H')/\tb { D with nx:=N,ct:=N,bk:=D.nx } σ H1 else D.nx σ H1
theorem fH{c:Expr}{body:List Stmt}{x:TT}{B:TS}(C:PassesOwn (model X.prog X.w) X.A X.env X.xe)(M:PT X c x)(J:PSs X body B):PS X (.While c body [] pos) (yr x B):=by
 intro a s L H D I h;obtain⟨W,⟨G,R⟩,i⟩:=h;refine wpAny_While (codeAny_whileLoop (λn F=>∃ σ' H',Inv X a σ' H' F/\W n σ' H') ?_ G ⟨L,H,I,R⟩);rintro n P ⟨g,w,Q,E⟩;refine wpAny_passesOwn C (thn (M a P g w _ Q (i n g w E)) λb K ⟨A,z,l⟩=>?_);cases b with
 | true =>
  obtain⟨N,y,l⟩:=l;rw[if_pos rfl];refine wpAny_passesOwn C (thn (J a K g A _ z l) λf T k=>?_);cases f with
  | next =>
   obtain⟨d,j,o,r⟩:=k;obtain⟨u,p,q⟩:=y d j r;exact⟨u,p,d,j,o,q⟩
  | cont =>
   obtain⟨d,j,o,r⟩:=k;obtain⟨u,p,q⟩:=y d j r;exact⟨u,p,d,j,o,q⟩
  | brk=>exact k
  | ret v=>exact k
 | false =>
  rw[if_neg Bool.false_ne_true];exact wpAny_execs_nil ⟨g,A,z,l⟩
end
structure It where
 go:Nat->Hp->Prop
 yld:Nat->Hp->V->Hp->Prop
 stop:Nat->Hp->Prop
def gz(X:Cx)(pins:List (Addr×Obj))(H:Hp)(b:Addr):Prop :=
 H b = none/\b≠X.env.locals/\b ∉ X.fs/\(b ∈ X.ex\/X.s₀.heap.objs.size<=b)/\(∀ x c,X.env.cells.lookup x = some c->c≠b)/\∀ p ∈ X.pn ++ pins,p.1≠b
theorem Inv.fpOk{X:Cx}{a:List (Addr×Obj)}{f:St}{H H':Hp}{s:Shared}{b:Addr}(I:Inv X a f H s)(d:s.heap.objs.size<=b)(g:H' b=none):gz X a H' b:=by
 refine⟨g,Nat.ne_of_gt (Nat.lt_of_lt_of_le I.lt d),I.nofs d,.inr (Nat.le_trans I.sz d),λx c e z=>?_,λp hp z=>?_⟩
 .obtain⟨v,q⟩:=I.cell x c e
  exact absurd (Nat.lt_of_lt_of_le q.lt (by rw[z];exact d)) (Nat.lt_irrefl _)
 .exact absurd (Nat.lt_of_lt_of_le (Heap.lt_size (I.pin p hp).1) (by rw[z];exact d)) (Nat.lt_irrefl _)
structure Turn(P:Program)(w:World)(K:Frag)(tg:Expr)(J:It)(fp:List Addr)(it:Addr)(tn:Nat->Heap->Prop):Prop where
 mem:it∈fp
 obj:∀ i h,tn i h->∀ b∈fp,∃ o,h.get? b=some o/\∀ v,o.data≠.cell v
 keep:∀ i h h',tn i h->(∀ b∈fp,∀ o,h.get? b=some o->h'.get? b=some o)->tn i h'
 item:∀(X:Cx),X.prog=P->X.w=w->X.K=K->X.calm=true->∀(i:Nat) (pins:List (Addr×Obj)) (s:Shared) (σ:St) (H:Hp) (E:Value->Shared->Prop),Inv X pins σ H s->(∀ b∈fp,gz X pins H b)->tn i s.heap->J.go i H ->
  wpAny (model P w) X.A (pyNext (.ref it)) (λr s1=>∃ u,r=some u /\
   wpAny (model P w) X.A (letOwnedTupleGo tg (.ref it) u) (λ_ s2=>∃ x H',Inv X pins σ H' s2/\RelV x u/\J.yld i H x H'/\tn (i+1) s2.heap/\∀ b∈fp,H' b=none) E s1) E s
 done:∀(X:Cx),X.prog=P->X.w=w->X.K=K->X.calm=true->∀(i:Nat) (pins:List (Addr×Obj)) (s:Shared) (σ:St) (H:Hp) (E:Value->Shared->Prop),Inv X pins σ H s->(∀ b∈fp,gz X pins H b)->tn i s.heap->J.stop i H ->
  wpAny (model P w) X.A (pyNext (.ref it)) (λr s1=>r=none/\Inv X pins σ H s1) E s
 self:∀(A:Around) (i:Nat) (s:Shared) (Q:Value->Shared->Prop) (E:Value->Shared->Prop),tn i s.heap->Q (.ref it) s->wpAny (model P w) A (pyIter (.ref it)) Q E s
abbrev TI:=St->Hp->(It->Hp->Prop)->Prop
def PIE(X:Cx)(pins:List (Addr×Obj))(σ:St)(tg:Expr)(R:It->Hp->Prop)(itv:Value)(s2:Shared):Prop :=
 ∃(it:Addr) (fp:List Addr) (tn:Nat->Heap->Prop) (J:It) (H':Hp),itv=.ref it/\Inv X pins σ H' s2/\Turn X.prog X.w X.K tg J fp it tn/\tn 0 s2.heap/\(∀ b∈fp,gz X pins H' b)/\R J H'
def PI(X:Cx)(tg iter:Expr)(wi:TI):Prop :=
 ∀(pins:List (Addr×Obj)) (s:Shared) (σ:St) (H:Hp) (R:It->Hp->Prop),Inv X pins σ H s->wi σ H R ->
  wpAny (model X.prog X.w) X.A (eval iter X.env) (λv s1=>wpAny (model X.prog X.w) X.A (pyIter v) (PIE X pins σ tg R) X.xe s1) X.xe s
theorem km{M:Model}{A:Around}{E:Value->Shared->Prop}{s:Shared}{tg:Expr}{b:Addr}{u:Value}{o:Obj}{n:String}{vs:Array Value}{Q:Unit->Shared->Prop}(c:s.heap.get? b=some o)(g:o.cls=.type n)(d:o.data=.fields vs)
  (f:["enumerate","zip","dict_itemiterator","dict_reverseitemiterator","odict_iterator","itertools.zip_longest","itertools.pairwise"].contains n=false) (a:Q () s):wpAny M A (letOwnedTupleGo tg (.ref b) u) Q E s:=by
 unfold letOwnedTupleGo
 cases tg <;> first
  | exact wpAny_pure a
  | (cases u <;> first
    | exact wpAny_pure a
    | (refine wpAny_bind (wpAny_load c ?_)
       rw[g,d];show wpAny M A (if (["enumerate","zip","dict_itemiterator","dict_reverseitemiterator","odict_iterator","itertools.zip_longest","itertools.pairwise"].contains n && vs[0]? == some (rawInt _))=true then _ else _) Q E s;rw[if_neg (by intro h;rw[f,Bool.false_and]at h;cases h)]
       exact wpAny_pure a))
def Itl(K:Frag)(a:Addr):It :=
 ⟨λi H=>∃ xs x,SqL K H a xs/\xs[i]? = some x,λi H x H'=>H'=H/\∀ xs,SqL K H a xs->xs[i]? = some x,λi H=>∃ xs,SqL K H a xs/\xs.length<=i⟩
def Itt(K:Frag)(a:Addr):It :=
 ⟨λi H=>∃ xs x,SqT K H a xs/\xs[i]? = some x,λi H x H'=>H'=H/\∀ xs,SqT K H a xs->xs[i]? = some x,λi H=>∃ xs,SqT K H a xs/\xs.length<=i⟩
def Itr(lo:Int)(n:Nat):It:=⟨λi _=>i<n,λi H x H'=>H'=H/\x=.int (lo+i),λi _=>n<=i⟩
theorem sf{P:Program}{w:World}{K:Frag}{tg:Expr}(a l:Addr):Turn P w K tg (Itl K a) [l] l (λi h=>h.IsListIter l a i) where
 mem:=by simp
 obj:=λi h f b j=>by
  have e:b=l:=by simpa using j
  subst e;obtain⟨o,e,c,d⟩:=f;exact⟨o,e,λv z=>by rw[d]at z;cases z⟩
 keep:=λi h y f k=>f.at λo e=>k l (by simp) o e
 item:=by
  intro X D A M W i g s T H E I q f F;subst D A M;obtain⟨Y,x,r,R⟩:=F;obtain⟨N,G,p,Z⟩:=I.list r;obtain⟨u,hu,ru⟩:=G.get R;obtain⟨C,Q,f2,B,L,J⟩:=q l (by simp);refine wpAny_pyNext_list_item f p.isList (x:=u) (by simpa using hu) λy n sb=>?_
  have I1:Inv X g T H { s with heap:=y }:=I.turned (t':=s.toks) (λb o j e=>(sb.2 b j).trans e) C Q B L J;obtain⟨o,e,c,d⟩:=id n;exact⟨u,rfl,km (s:={ s with heap:=y }) e c d (by decide) ⟨x,H,I1,ru,⟨rfl,λys hy=>by rw[I.list_inj hy r];exact R⟩,n,λb j=>(q b j).1⟩⟩
 done:=by
  intro X D A M W i g s T H E I q f F;subst D A M;obtain⟨Y,r,R⟩:=F;obtain⟨N,G,p,Z⟩:=I.list r;obtain⟨C,Q,f2,B,L,J⟩:=q l (by simp);have hl:=G.length
  exact wpAny_pyNext_list_end (I.ok.hd W) f p.isList (by simp;lia) λy eb=>⟨rfl,I.turned (t':=s.toks) (λb o j e=>eb b o j e) C Q B L J⟩
 self:=λ_ _ _ _ _ f h=>wpAny_pyIter_listiter f h
theorem oF{P:Program}{w:World}{K:Frag}{tg:Expr}(a l:Addr):Turn P w K tg (Itt K a) [l] l (λi h=>h.IsTupleIter l a i) where
 mem:=by simp
 obj:=λi h f b j=>by
  have e:b=l:=by simpa using j
  subst e;obtain⟨o,e,c,d⟩:=f;exact⟨o,e,λv z=>by rw[d]at z;cases z⟩
 keep:=λi h A f k=>f.at λo e=>k l (by simp) o e
 item:=by
  intro X F B N W i g s T H E I r f G;subst F B N;obtain⟨Y,x,y,R⟩:=G;obtain⟨n,J,p,Z⟩:=I.tuple y;obtain⟨u,hu,ru⟩:=J.get R;obtain⟨D,Q,f2,C,M,L⟩:=r l (by simp);refine wpAny_pyNext_tuple_item f (show s.heap.IsTuple a n.toArray from p) (x:=u) (by simpa using hu) λA q sb=>?_
  have I1:Inv X g T H { s with heap:=A }:=I.turned (t':=s.toks) (λb o j e=>(sb.2 b j).trans e) D Q C M L;obtain⟨o,e,c,d⟩:=id q;exact⟨u,rfl,km (s:={ s with heap:=A }) e c d (by decide) ⟨x,H,I1,ru,⟨rfl,λys hy=>by rw[I.tuple_inj hy y];exact R⟩,q,λb j=>(r b j).1⟩⟩
 done:=by
  intro X F B N W i g s T H E I r f G;subst F B N;obtain⟨Y,y,R⟩:=G;obtain⟨n,J,p,Z⟩:=I.tuple y;obtain⟨D,Q,f2,C,M,L⟩:=r l (by simp);have hl:=J.length
  exact wpAny_pyNext_tuple_end (I.ok.hd W) f (show s.heap.IsTuple a n.toArray from p) (by simp;lia) λA eb=>⟨rfl,I.turned (t':=s.toks) (λb o j e=>eb b o j e) D Q C M L⟩
 self:=λ_ _ _ _ _ f h=>wpAny_pyIter_tupleiter f h
theorem nZ{P:Program}{w:World}{K:Frag}{tg:Expr}(d:Addr)(lo:Int)(n:Nat):Turn P w K tg (Itr lo n) [d] d (λi h=>IsRangeIter h d (lo+(i:Nat)*1) ((n:Int) - (i:Nat)) 1) where
 mem:=by simp
 obj:=λi h a b f=>by
  have e:b=d:=by simpa using f
  subst e
  exact⟨_,a,λv z=>by
   have N:Data.fields _=Data.cell v:=z
   cases N⟩
 keep:=λi h l a k=>k d (by simp) _ a
 item:=by
  intro X u p B C i c s F H E I j a x;subst u p B;obtain⟨r,D,M,q,A,y⟩:=j d (by simp);have W:=Walks.range (prog:=X.prog) (w:=X.w) (I.ok.hd C) d lo 1 n;refine W.item i s _ _ x a λv l G J g Q=>?_
  obtain⟨t,rfl⟩:=J;have R:Inv X c F H { s with heap:=l,toks:=G }:=I.turned (λb o f e=>Q b o (by simpa using f) e) r D q A y;refine⟨_,rfl,km (s:={ s with heap:=l,toks:=G }) (n := "range_iterator") g rfl rfl (by decide) ⟨.int (lo+i),H,R,⟨t,?_⟩,⟨rfl,rfl⟩,g,λb f=>(j b f).1⟩⟩;rw[Int.mul_one]
 done:=by
  intro X u p B C i c s F H E I j a x;subst u p B;obtain⟨r,D,M,q,A,y⟩:=j d (by simp)
  exact wpAny_pyNext_range_end (I.ok.hd C) a (by have:n<=i:=x;lia) λl L=>⟨rfl,I.turned (t':=s.toks) (λb o f e=>L b o f e) r D q A y⟩
 self:=λ_ _ _ _ _ a h=>wpAny_pyIter_rangeiter a h
section
variable {X:Cx}{tg:Expr}
theorem tP{c:List (Addr×Obj)}{f:St}{H:Hp}{s:Shared}{R:It->Hp->Prop}{E:Value->Shared->Prop}{lo a:Int}{t u v:Tok}{tk:Nat}(I:Inv X c f H s)(g:-(2 ^ 62)<=lo)(i:lo<2 ^ 62)(h:-(2 ^ 62)<=a)(k:a<2 ^ 62)
  (q:R (Itr lo (a - lo).toNat) H):wpAny (model X.prog X.w) X.A (pyIter (.ref s.heap.objs.size)) (PIE X c f tg R) E { s with heap:=s.heap.push { cls:=.type "range",data:=.fields #[.int lo t,.int a u,.int 1 v] },toks:=tk }:=by
 refine wpAny_pyIter_range (IsRange.new ..) (small_one g i h k) ?_;have d:Inv X c f H { s with heap:=s.heap.push { cls:=.type "range",data:=.fields #[.int lo t,.int a u,.int 1 v] },toks:=tk }:=I.kept λb o e=>Heap.get?_push_of_some _ e
 refine⟨(s.heap.push { cls:=.type "range",data:=.fields #[.int lo t,.int a u,.int 1 v] }).objs.size,[(s.heap.push { cls:=.type "range",data:=.fields #[.int lo t,.int a u,.int 1 v] }).objs.size],_,_,H,rfl,
  d.kept (t':=tk) λb o e=>Heap.get?_push_of_some _ e,nZ _ lo (a - lo).toNat,?_,λb hb=>?_,q⟩
 .have l:lo+((0:Nat):Int)*1=lo:=by simp
  have j:(((a - lo).toNat:Nat):Int) - ((0:Nat):Int)=Builtin.Range.rangeSize lo a 1:=by rw[rangeSize_one];split <;> lia
  show IsRangeIter _ _ (lo+((0:Nat):Int)*1) ((((a - lo).toNat:Nat):Int) - ((0:Nat):Int)) 1;rw[l,j];exact Heap.get?_push_size _ rfl
 .have e:b=(s.heap.push { cls:=.type "range",data:=.fields #[.int lo t,.int a u,.int 1 v] }).objs.size:=by simpa using hb
  subst e;exact d.fpOk (Nat.le_refl _) (d.hok.fresh (Nat.le_refl _))
def Ak(ta:TA):TI:=λσ H R=>ta σ H λvs H1=>∃ j:Int,vs=[.int j]/\-(2 ^ 62)<=j/\j<2 ^ 62/\R (Itr 0 j.toNat) H1
theorem fX{a:Expr}{f:TA}{p b:Pos}(u:Gl X "range")(g:X.mg "range" = none)(n:PA X [a] f)(v:starEach [a] X.env=[(false,eval a X.env)]:=by rfl):PI X tg (.Call (.Name "range" p) [a] [] b) (Ak f):=by
 intro c s k H R I h;refine Call_ (jd I u g boot_range (PyProof.Rows.callWith_type1 (thn (n b c s k H _ I h) λw z ⟨x,y,i,l,d⟩=>?_) v rfl));obtain⟨j,e,d,o,q⟩:=d;subst e;cases l with
 | cons r rr =>
  cases rr;obtain⟨t,rfl⟩:=r;exact call_range_1 (tP i (by lia) (by lia) d o (by simpa using q))
def BG(wi:TI)(g:TG)(tb:TS):TS:=λD σ H=>wi σ H λJ H1=>∃ W:Nat->Nat->St->Hp->Prop,(∃ m,W 0 m σ H1)/\∀ i m σ H,W i m σ H ->
 (J.stop i H/\D.nx σ H)\/(J.go i H/\∃ N:St->Hp->Prop,(∀ σ' H',N σ' H'->∃ m',m'<m/\W (i+1) m' σ' H')/\∀ x H',J.yld i H x H'->g x σ H' λσ2 H2=>tb { D with nx:=N,ct:=N,bk:=D.nx } σ2 H2)
def jB(fp:List Addr)(h:Heap):List (Addr×Obj):=fp.filterMap λb=>(h.get? b).map λo=>(b,o)
theorem fc{a:List Addr}{h:Heap}{b:Addr}{o:Obj}(c:b∈a)(e:h.get? b=some o):(b,o)∈jB a h:=List.mem_filterMap.mpr ⟨b,c,by rw[e];rfl⟩
theorem rN{a:List Addr}{h:Heap}{p:Addr×Obj}(d:p∈jB a h):p.1∈a/\h.get? p.1=some p.2:=by
 obtain⟨b,c,e⟩:=List.mem_filterMap.mp d;cases q:h.get? b with
 | none=>rw[q]at e;cases e
 | some o =>
  rw[q]at e;have f:(b,o)=p:=Option.some.inj e;subst f;exact⟨c,q⟩
theorem Inv.pinned{a:List (Addr×Obj)}{h:St}{H:Hp}{s:Shared}{c:List Addr}(I:Inv X a h H s)(n:∀ b∈c,gz X a H b)(i:∀ b∈c,∃ o,s.heap.get? b=some o/\∀ v,o.data≠.cell v):Inv X (a++jB c s.heap) h H s :=
 I.pins_of λp q=>(mem_append.mp q).elim (λz=>I.pin p (mem_append_right _ z)) λz=>by
  obtain⟨f,e⟩:=rN z;obtain⟨j,k,l,_⟩:=n p.1 f;obtain⟨o,g,d⟩:=i p.1 f;rw[e]at g;cases g;exact⟨e,j,k,l,d⟩
theorem Inv.unpinned{a pl:List (Addr×Obj)}{b:St}{H:Hp}{s:Shared}(I:Inv X (a++pl) b H s):Inv X a b H s:=I.pins_of λp c=>I.pin p (mem_append_right _ (mem_append_left _ c))
theorem d9{j:Expr}{body:List Stmt}{wi:TI}{g:TG}{tb:TS}{Y:Pos}(M:PassesOwn (model X.prog X.w) X.A X.env X.xe)(hc:X.calm=true)(hi:PI X tg j wi)(hg:PG X tg g)(l:PSs X body tb)
  (hs:∀ x,foldedSetIterable j X.env x=pure x:=by intro _;rfl):PS X (.For tg j body [] Y) (BG wi g tb):=by
 intro a s σ H D I h;refine wpAny_For (thn (hi a s σ H _ I h) λv s1 h1=>thn h1 λitv s2 h2=>?_) hs;obtain⟨it,G,tn,J,H2,e,I2,T,ab,f2,W,⟨m0,w0⟩,K⟩:=h2;subst e
 have y:∀{H':Hp},(∀ b∈G,H' b=none)->∀ b∈G,gz X a H' b:=λhn b l=>⟨hn b l,(f2 b l).2⟩
 refine codeAny_forLoop_any (λn s'=>∃ i σ' H',Inv X a σ' H' s'/\tn i s'.heap/\(∀ b∈G,H' b=none)/\W i n σ' H') ?_ m0 ⟨0,σ,H2,I2,ab,λb l=>(f2 b l).1,w0⟩;rintro n s3 ⟨i,p,P,I3,E,L,w3⟩
 rcases K i n p P w3 with⟨C,qn⟩ | ⟨go,N,hN,F⟩
 .refine wpAny_passesOwn M (thn (T.done X rfl rfl rfl hc i a s3 p P X.xe I3 (y L) E C) λr s4 ⟨Q,I4⟩=>?_)
  subst Q;exact wpAny_execs_nil ⟨p,P,I4,qn⟩
 .refine wpAny_passesOwn M (thn (T.item X rfl rfl rfl hc i a s3 p P X.xe I3 (y L) E go) λr s4 ⟨u,Q,h4⟩=>?_)
  subst Q;refine wpAny_passesOwn M (thn h4 λ_ s5 ⟨x,H5,I5,r5,y5,A,al⟩=>?_);have Z:=I5.pinned (y al) (T.obj _ _ A);refine wpAny_passesOwn M (thn (hg _ s5 p H5 x u _ Z r5 (F x H5 y5)) λ_ s6 ⟨ac,H6,I6,q6⟩=>?_);refine wpAny_passesOwn M (thn (l _ s6 ac H6 _ I6 q6) λf R z=>?_)
  have q:∀{c:St}{w:Hp},Inv X (a++jB G s5.heap) c w R->N c w->∃ m,m<n/\∃ i σ' H',Inv X a σ' H' R/\tn i R.heap/\(∀ b∈G,H' b=none)/\W i m σ' H':=λ{c w} k B=>by
   obtain⟨m',hm,w7⟩:=hN c w B;refine⟨m',hm,i+1,c,w,k.unpinned,T.keep _ _ _ A λb l o e=>(k.pin (b,o) (mem_append_right _ (mem_append_right _ (fc l e)))).1,λb l=>?_,w7⟩;obtain⟨o,e,d⟩:=T.obj _ _ A b l;exact(k.pin (b,o) (mem_append_right _ (mem_append_right _ (fc l e)))).2.1
  cases f with
  | next=>obtain⟨c,w,k,B⟩:=z;exact q k B
  | cont=>obtain⟨c,w,k,B⟩:=z;exact q k B
  | brk=>obtain⟨c,w,k,z⟩:=z;exact⟨c,w,k.unpinned,z⟩
  | ret v=>obtain⟨x7,c,w,k,r7,z⟩:=z;exact⟨x7,c,w,k.unpinned,r7,z⟩
end
theorem gQ{K:Frag}{a:Addr}{xs:List V}{g:TG}{c:TS}{D:Ends}{b:St}{H:Hp}(Pv:Nat->St->Hp->Prop)(h0:Pv 0 b H)(f:∀ i b H,i<=xs.length->Pv i b H->SqL K H a xs)
  (j:∀ i x b H,xs[i]? = some x->Pv i b H->g x b H λσ2 H2=>c { D with nx:=Pv (i+1),ct:=Pv (i+1),bk:=D.nx } σ2 H2) (d:∀ b H,Pv xs.length b H->D.nx b H) :
  ∃ W:Nat->Nat->St->Hp->Prop,(∃ m,W 0 m b H)/\∀ i m b H,W i m b H ->
   ((Itl K a).stop i H/\D.nx b H)\/((Itl K a).go i H/\∃ N:St->Hp->Prop,(∀ σ' H',N σ' H'->∃ m',m'<m/\W (i+1) m' σ' H')/\∀ x H',(Itl K a).yld i H x H'->g x b H' λσ2 H2=>c { D with nx:=N,ct:=N,bk:=D.nx } σ2 H2):=by
 refine⟨λi m b H=>m=xs.length - i/\i<=xs.length/\Pv i b H,⟨xs.length,by simp,Nat.zero_le _,h0⟩,?_⟩;rintro i m b H ⟨rfl,h,p⟩;have q:=f i b H h p
 by_cases hlt:i<xs.length
 .refine .inr ⟨⟨xs,xs[i],q,by simp[hlt]⟩,Pv (i+1),λσ' H' k=>⟨xs.length - (i+1),by lia,rfl,hlt,k⟩,λx H' y=>?_⟩
  obtain⟨e,y⟩:=y;subst e;exact j i x b _ (y xs q) p
 .have e:i=xs.length:=by lia
  subst e;exact .inl ⟨⟨xs,q,Nat.le_refl _⟩,d b H p⟩
theorem qo{K:Frag}{a:Addr}{xs:List V}{g:TG}{c:TS}{D:Ends}{b:St}{H:Hp}(Pv:Nat->St->Hp->Prop)(h0:Pv 0 b H)(f:∀ i b H,i<=xs.length->Pv i b H->SqT K H a xs)
  (j:∀ i x b H,xs[i]? = some x->Pv i b H->g x b H λσ2 H2=>c { D with nx:=Pv (i+1),ct:=Pv (i+1),bk:=D.nx } σ2 H2) (d:∀ b H,Pv xs.length b H->D.nx b H) :
  ∃ W:Nat->Nat->St->Hp->Prop,(∃ m,W 0 m b H)/\∀ i m b H,W i m b H ->
   ((Itt K a).stop i H/\D.nx b H)\/((Itt K a).go i H/\∃ N:St->Hp->Prop,(∀ σ' H',N σ' H'->∃ m',m'<m/\W (i+1) m' σ' H')/\∀ x H',(Itt K a).yld i H x H'->g x b H' λσ2 H2=>c { D with nx:=N,ct:=N,bk:=D.nx } σ2 H2):=by
 refine⟨λi m b H=>m=xs.length - i/\i<=xs.length/\Pv i b H,⟨xs.length,by simp,Nat.zero_le _,h0⟩,?_⟩;rintro i m b H ⟨rfl,h,p⟩;have q:=f i b H h p
 by_cases hlt:i<xs.length
 .refine .inr ⟨⟨xs,xs[i],q,by simp[hlt]⟩,Pv (i+1),λσ' H' k=>⟨xs.length - (i+1),by lia,rfl,hlt,k⟩,λx H' y=>?_⟩
  obtain⟨e,y⟩:=y;subst e;exact j i x b _ (y xs q) p
 .have e:i=xs.length:=by lia
  subst e;exact .inl ⟨⟨xs,q,Nat.le_refl _⟩,d b H p⟩
theorem ik{lo:Int}{n:Nat}{g:TG}{b:TS}{D:Ends}{a:St}{H:Hp}(Pv:Nat->St->Hp->Prop)(h0:Pv 0 a H)
  (d:∀ i a H,i<n->Pv i a H->g (.int (lo+i)) a H λσ2 H2=>b { D with nx:=Pv (i+1),ct:=Pv (i+1),bk:=D.nx } σ2 H2) (c:∀ a H,Pv n a H->D.nx a H) :
  ∃ W:Nat->Nat->St->Hp->Prop,(∃ m,W 0 m a H)/\∀ i m a H,W i m a H ->
   ((Itr lo n).stop i H/\D.nx a H)\/((Itr lo n).go i H/\∃ N:St->Hp->Prop,(∀ σ' H',N σ' H'->∃ m',m'<m/\W (i+1) m' σ' H')/\∀ x H',(Itr lo n).yld i H x H'->g x a H' λσ2 H2=>b { D with nx:=N,ct:=N,bk:=D.nx } σ2 H2):=by
 refine⟨λi m a H=>m=n - i/\i<=n/\Pv i a H,⟨n,by simp,Nat.zero_le _,h0⟩,?_⟩;rintro i m a H ⟨rfl,h,p⟩
 by_cases hlt:i<n
 .refine .inr ⟨hlt,Pv (i+1),λσ' H' f=>⟨n - (i+1),by lia,rfl,hlt,f⟩,λx H' y=>?_⟩
  obtain⟨e,y⟩:=y;subst e y;exact d i a _ hlt p
 .have e:i=n:=by lia
  subst e;exact .inl ⟨Nat.le_refl _,c a H p⟩
abbrev R2:=V->V->Hp->VK->Prop
def OpR(X:Cx)(f:Value->Value->Sem Value)(r:R2):Prop :=
 ∀(pins:List (Addr×Obj)) (s:Shared) (σ:St) (H:Hp) (x y:V) (v u:Value) (Q:VK),Inv X pins σ H s->RelV x v->RelV y u->r x y H Q ->
  wpAny (model X.prog X.w) X.A (f v u) (EP X pins σ Q) X.xe s
def UnR(X:Cx)(f:Value->Sem Value)(r:V->Hp->VK->Prop):Prop :=
 ∀(pins:List (Addr×Obj)) (s:Shared) (σ:St) (H:Hp) (x:V) (v:Value) (Q:VK),Inv X pins σ H s->RelV x v->r x H Q ->
  wpAny (model X.prog X.w) X.A (f v) (EP X pins σ Q) X.xe s
def CallR(X:Cx)(f:Value)(r:List V->Hp->VK->Prop):Prop :=
 ∀(pins:List (Addr×Obj)) (s:Shared) (σ:St) (H:Hp) (xs:List V) (us:List Value) (Q:VK),Inv X pins σ H s->Vals xs us->r xs H Q ->
  wpAny (model X.prog X.w) X.A (call f us) (EP X pins σ Q) X.xe s
def BM(X:Cx)(r:V->Hp->(Bool->Hp->Prop)->Prop):Prop :=
 ∀(pins:List (Addr×Obj)) (s:Shared) (σ:St) (H:Hp) (x:V) (v:Value) (Q:Bool->Hp->Prop),Inv X pins σ H s->RelV x v->r x H Q ->
  wpAny (model X.prog X.w) X.A (truthy v) (TP X pins σ Q) X.xe s
def tOp(r:R2)(ta tb:TE):TE:=λσ H Q=>ta σ H λx H1=>tb σ H1 λy H2=>r x y H2 Q
def tUn(r:V->Hp->VK->Prop)(ta:TE):TE:=λσ H Q=>ta σ H λx H1=>r x H1 Q
def rI(C:Int->Int->Prop)(g:Int->Int->V):R2:=λx y H Q=>∃ i j,x=.int i/\y=.int j/\C i j/\Q (g i j) H
def rI0(g:Int->Int->V):R2:=λx y H Q=>∃ i j,x=.int i/\y=.int j/\Q (g i j) H
def rU(g:Int->V):V->Hp->VK->Prop:=λx H Q=>∃ i,x=.int i/\Q (g i) H
section
variable {X:Cx}{a b c:Expr}{ta tb tc:TE}{pos:Pos}
theorem zx(p:PE X a ta)(g:PE X b tb){c:List (Addr×Obj)}{s:Shared}{d:St}{H:Hp}{R:V->V->Hp->Prop}(I:Inv X c d H s)
  (h:ta d H λx H1=>tb d H1 λy H2=>R x y H2){Q:Value->Shared->Prop}{f:Value->Value->Sem Value}
  (l:∀ v u s2 x y H2,Inv X c d H2 s2->RelV x v->RelV y u->R x y H2->wpAny (model X.prog X.w) X.A (f v u) Q X.xe s2) :
  wpAny (model X.prog X.w) X.A (eval a X.env) (λv s₁=>wpAny (model X.prog X.w) X.A (eval b X.env) (λu s₂=>wpAny (model X.prog X.w) X.A (f v u) Q X.xe s₂) X.xe s₁) X.xe s:=by
 refine thn (p c s d H _ I h) λv r ⟨x,H1,i,k,o⟩=>?_
 refine thn (g c r d H1 _ i o) λu s2 ⟨y,H2,j,n,q⟩=>?_
 exact l v u s2 x y H2 j k n q
theorem aA{op:Operator}{r:R2}(f:OpR X (binaryOp op) r)(o:PE X a ta)(d:PE X b tb):PE X (.BinOp a op b pos) (tOp r ta tb):=by
 intro c s n H Q I h;exact wpAny_BinOp (zx o d I h λv u l x y j g k i q=>f c l n j x y v u Q g k i q)
theorem ya{op:UnaryOp}{r:V->Hp->VK->Prop}(d:UnR X (unaryOp op) r)(j:PE X a ta):PE X (.UnaryOp op a pos) (tUn r ta):=by
 intro b s c H Q I h;exact UnaryOp_ (thn (j b s c H _ I h) λv l ⟨x,k,f,g,i⟩=>d b l c k x v Q f g i)
theorem opI{f:Value->Value->Sem Value}{C:Int->Int->Prop}{g:Int->Int->Int}
  (a:∀(i j:Int) (t u:Tok) (s:Shared) (Q:Value->Shared->Prop) (E:Value->Shared->Prop),C i j->Q (.int (g i j) s.toks) { s with toks:=s.toks+1 }->wpAny (model X.prog X.w) X.A (f (.int i t) (.int j u)) Q E s) :
  OpR X f (rI C λi j=>.int (g i j)):=by
 intro b s n H x y v u Q I d c h;obtain⟨i,j,rfl,rfl,l,q⟩:=h;obtain⟨t,rfl⟩:=d;obtain⟨k,rfl⟩:=c;exact a i j t k s _ _ l ⟨.int (g i j),H,I.tok _,⟨_,rfl⟩,q⟩
theorem Ab{f:Value->Value->Sem Value}{g:Int->Int->Int}
  (a:∀(i j:Int) (t u:Tok) (s:Shared) (Q:Value->Shared->Prop) (E:Value->Shared->Prop),Q (.int (g i j) s.toks) { s with toks:=s.toks+1 }->wpAny (model X.prog X.w) X.A (f (.int i t) (.int j u)) Q E s) :
  OpR X f (rI0 λi j=>.int (g i j)):=by
 intro b s l H x y v u Q I d c h;obtain⟨i,j,rfl,rfl,q⟩:=h;obtain⟨t,rfl⟩:=d;obtain⟨k,rfl⟩:=c;exact a i j t k s _ _ ⟨.int (g i j),H,I.tok _,⟨_,rfl⟩,q⟩
theorem zr{f:Value->Value->Sem Value}{g:Int->Int->Bool}
  (a:∀(i j:Int) (t u:Tok) (s:Shared) (Q:Value->Shared->Prop) (E:Value->Shared->Prop),Q (.bool (g i j)) s->wpAny (model X.prog X.w) X.A (f (.int i t) (.int j u)) Q E s) :
  OpR X f (rI0 λi j=>.bl (g i j)):=by
 intro b s l H x y v u Q I d c h;obtain⟨i,j,rfl,rfl,q⟩:=h;obtain⟨t,rfl⟩:=d;obtain⟨k,rfl⟩:=c;exact a i j t k s _ _ ⟨.bl (g i j),H,I,rfl,q⟩
def BP(i j:Int):Prop:=0<j/\j<1073741824
def zS(i j:Int):Prop:=0<=j/\j<=1000000/\i.natAbs<2 ^ 64
def CMul(i j:Int):Prop:=(-(2 ^ 64)<i/\i<2 ^ 64)\/(-(2 ^ 64)<j/\j<2 ^ 64)
theorem CMul.ok{i j:Int}(h:CMul i j):IntMulOk i j:=by
 rcases h with⟨b,a⟩ | ⟨b,a⟩
 .exact .of_left (intBits_le_64 b a)
 .exact .of_right (intBits_le_64 b a)
theorem oQ(k:Nat):(0:Int)<=2 ^ k:=by
 rw[two_pow_cast];exact Int.natCast_nonneg _
theorem op_add:OpR X (binaryOp .Add) (rI0 λi j=>.int (i+j)):=Ab λ_ _ _ _ _ _ _ q=>add_int q
theorem op_sub:OpR X (binaryOp .Sub) (rI0 λi j=>.int (i - j)):=Ab λ_ _ _ _ _ _ _ q=>sub_int q
theorem op_mod:OpR X (binaryOp .Mod) (rI (λ_ j=>0<j) λi j=>.int (i % j)):=opI λi j _ _ _ _ _ a q=>by
 have b:(0:Int)<j:=a;exact mod_int' (by lia) (by rw[Int.fmod_eq_emod_of_nonneg i (by lia)];exact q)
theorem op_pow:OpR X (binaryOp .Pow) (rI zS λi j=>.int (i ^ j.toNat)):=opI λ_ _ _ _ _ _ _ a q=>pow_int_small a.1 a.2.1 a.2.2 q
theorem op_shr:OpR X (binaryOp .RShift) (rI (λ_ j=>0<=j) λi j=>.int (i/2 ^ j.toNat)):=opI λi j _ _ _ _ _ a q =>
 rshift_int a (by rw[Int.fdiv_eq_ediv_of_nonneg i (oQ _)];exact q)
theorem op_and:OpR X (binaryOp .BitAnd) (rI0 λi j=>.int (Builtin.bitAnd i j)):=Ab λ_ _ _ _ _ _ _ q=>and_int q
theorem unI{f:Value->Sem Value}{g:Int->Int}
  (a:∀(i:Int) (t:Tok) (s:Shared) (Q:Value->Shared->Prop) (E:Value->Shared->Prop),Q (.int (g i) s.toks) { s with toks:=s.toks+1 }->wpAny (model X.prog X.w) X.A (f (.int i t)) Q E s) :
  UnR X f (rU λi=>.int (g i)):=by
 intro b s d H x v Q I c h;obtain⟨i,rfl,q⟩:=h;obtain⟨t,rfl⟩:=c;exact a i t s _ _ ⟨.int (g i),H,I.tok _,⟨_,rfl⟩,q⟩
theorem zw:UnR X (unaryOp .USub) (rU λi=>.int (-i)):=unI λ_ _ _ _ _ q=>neg_int q
end
def AC:V->V->Bool
 | .non,.non=>true | .non,.int _=>true | .int _,.non=>true | .non,.bl _=>true | .bl _,.non=>true | .non,.str _=>true | .str _,.non=>true
 | .int _,.int _=>true | .bl _,.bl _=>true | .str _,.str _=>true | .byt _,.byt _=>true
 | .int _,.str _=>true | .str _,.int _=>true | .bl _,.str _=>true | .str _,.bl _=>true
 | _,_=>false
def rEq:R2:=λx y H Q=>AC x y=true/\Q (.bl (decide (x=y))) H
def rNe:R2:=λx y H Q=>AC x y=true/\Q (.bl (!decide (x=y))) H
theorem i6{i j:Int}:decide (V.int i=V.int j)=(i == j):=by
 rw[Bool.eq_iff_iff];simp
theorem lC{i j:Bool}:decide (V.bl i=V.bl j)=(i == j):=by
 rw[Bool.eq_iff_iff];simp
theorem iZ{i j:Str}:decide (V.str i=V.str j)=(i == j):=by
 rw[Bool.eq_iff_iff];simp
theorem qC{i j:Array UInt8}:decide (V.byt i=V.byt j)=(i.toList == j.toList):=by
 rw[Bool.eq_iff_iff];cases i;cases j;simp
section
variable {X:Cx}{a b c:Expr}{ta tb tc:TE}{pos:Pos}
theorem aU{a:List (Addr×Obj)}{b:St}{H:Hp}{s:Shared}{Q:VK}{k c:Bool}(I:Inv X a b H s)(q:Q (.bl k) H)(e:k=c):EP X a b Q (.bool c) s:=by
 subst e;exact⟨.bl k,H,I,rfl,q⟩
theorem op_eq:OpR X (compareOp .Eq) rEq:=by
 intro f s g H x y v u Q I d a h;obtain⟨c,q⟩:=h;cases x with
 | non =>
  cases d;cases y with
  | non=>cases a;exact PySem.EqNone.eq_none_none (aU I q (by simp))
  | bl j=>cases a;exact PySem.EqNone.eq_none_bool (aU I q (by simp))
  | int j=>obtain⟨b,rfl⟩:=a;exact PySem.EqNone.eq_none_int (aU I q (by simp))
  | str j=>obtain⟨b,rfl⟩:=a;exact PySem.EqNone.eq_none_str (aU I q (by simp))
  | _=>exact absurd (show false=true from c) Bool.false_ne_true
 | bl i =>
  cases d;cases y with
  | non=>cases a;exact PySem.EqNone.eq_bool_none (aU I q (by simp))
  | bl j=>cases a;exact eq_bool (aU I q lC)
  | str j=>obtain⟨b,rfl⟩:=a;exact PySem.EqMixed.eq_bool_str (aU I q (by simp))
  | _=>exact absurd (show false=true from c) Bool.false_ne_true
 | int i =>
  obtain⟨t,rfl⟩:=d;cases y with
  | non=>cases a;exact PySem.EqNone.eq_int_none (aU I q (by simp))
  | int j=>obtain⟨b,rfl⟩:=a;exact eq_int (aU I q i6)
  | str j=>obtain⟨b,rfl⟩:=a;exact PySem.EqMixed.eq_int_str (aU I q (by simp))
  | _=>exact absurd (show false=true from c) Bool.false_ne_true
 | str i =>
  obtain⟨t,rfl⟩:=d;cases y with
  | non=>cases a;exact PySem.EqNone.eq_str_none (aU I q (by simp))
  | bl j=>cases a;exact PySem.EqMixed.eq_str_bool (aU I q (by simp))
  | int j=>obtain⟨b,rfl⟩:=a;exact PySem.EqMixed.eq_str_int (aU I q (by simp))
  | str j=>obtain⟨b,rfl⟩:=a;exact eq_str (aU I q iZ)
  | _=>exact absurd (show false=true from c) Bool.false_ne_true
 | byt i =>
  obtain⟨t,rfl⟩:=d;cases y with
  | byt j=>obtain⟨b,rfl⟩:=a;exact PySem.W.eq_bytes (aU I q qC)
  | _=>exact absurd (show false=true from c) Bool.false_ne_true
 | _=>cases y <;> exact absurd (show false=true from c) Bool.false_ne_true
theorem op_ne:OpR X (compareOp .NotEq) rNe:=by
 intro f s g H x y v u Q I d a h;obtain⟨c,q⟩:=h;cases x with
 | non =>
  cases d;cases y with
  | non=>cases a;exact PySem.EqNone.ne_none_none (aU I q (by simp))
  | bl j=>cases a;exact PySem.EqNone.ne_none_bool (aU I q (by simp))
  | int j=>obtain⟨b,rfl⟩:=a;exact PySem.EqNone.ne_none_int (aU I q (by simp))
  | str j=>obtain⟨b,rfl⟩:=a;exact PySem.EqNone.ne_none_str (aU I q (by simp))
  | _=>exact absurd (show false=true from c) Bool.false_ne_true
 | bl i =>
  cases d;cases y with
  | non=>cases a;exact PySem.EqNone.ne_bool_none (aU I q (by simp))
  | bl j=>cases a;exact ne_bool (aU I q (congrArg not lC))
  | str j=>obtain⟨b,rfl⟩:=a;exact PySem.EqMixed.ne_bool_str (aU I q (by simp))
  | _=>exact absurd (show false=true from c) Bool.false_ne_true
 | int i =>
  obtain⟨t,rfl⟩:=d;cases y with
  | non=>cases a;exact PySem.EqNone.ne_int_none (aU I q (by simp))
  | int j=>obtain⟨b,rfl⟩:=a;exact ne_int (aU I q (congrArg not i6))
  | str j=>obtain⟨b,rfl⟩:=a;exact PySem.EqMixed.ne_int_str (aU I q (by simp))
  | _=>exact absurd (show false=true from c) Bool.false_ne_true
 | str i =>
  obtain⟨t,rfl⟩:=d;cases y with
  | non=>cases a;exact PySem.EqNone.ne_str_none (aU I q (by simp))
  | bl j=>cases a;exact PySem.EqMixed.ne_str_bool (aU I q (by simp))
  | int j=>obtain⟨b,rfl⟩:=a;exact PySem.EqMixed.ne_str_int (aU I q (by simp))
  | str j=>obtain⟨b,rfl⟩:=a;exact ne_str (aU I q (congrArg not iZ))
  | _=>exact absurd (show false=true from c) Bool.false_ne_true
 | byt i =>
  obtain⟨t,rfl⟩:=d;cases y with
  | byt j=>obtain⟨b,rfl⟩:=a;exact PySem.W.ne_bytes (aU I q (congrArg not qC))
  | _=>exact absurd (show false=true from c) Bool.false_ne_true
 | _=>cases y <;> exact absurd (show false=true from c) Bool.false_ne_true
theorem op_lt:OpR X (compareOp .Lt) (rI0 λi j=>.bl (decide (i<j))):=zr λ_ _ _ _ _ _ _ q=>lt_int q
theorem op_le:OpR X (compareOp .LtE) (rI0 λi j=>.bl (decide (i<=j))):=zr λ_ _ _ _ _ _ _ q=>le_int q
theorem op_gt:OpR X (compareOp .Gt) (rI0 λi j=>.bl (decide (j<i))):=zr λ_ _ _ _ _ _ _ q=>gt_int q
theorem sg:OpR X (compareOp .Lt) (λx y H Q=>∃ i j,x=.str i/\y=.str j/\Q (.bl (decide (i.cps.toList<j.cps.toList))) H):=by
 intro a s f H x y v u Q I c b h;obtain⟨i,j,rfl,rfl,q⟩:=h;obtain⟨t,rfl⟩:=c;obtain⟨d,rfl⟩:=b;exact lt_str (aU I q rfl)
theorem OpR.or{f:Value->Value->Sem Value}{r g:R2}(h:OpR X f r)(h':OpR X f g):OpR X f (λx y H Q=>r x y H Q\/g x y H Q):=by
 intro a s d H x y v u Q I c b q
 rcases q with q | q
 .exact h a s d H x y v u Q I c b q
 .exact h' a s d H x y v u Q I c b q
theorem cP(b:Expr){op:CmpOp}(h:op≠.In:=by decide)(a:op≠.NotIn:=by decide):behindInMarks op b=false:=by
 have c:(op == CmpOp.In)=false:=by cases op <;> first | rfl | exact absurd rfl h
 have d:(op == CmpOp.NotIn)=false:=by cases op <;> first | rfl | exact absurd rfl a
 cases b <;> simp[behindInMarks,c,d]
theorem wj{op:CmpOp}{r:R2}(g:OpR X (compareOp op) r)(p:PE X a ta)(d:PE X b tb)(f:behindInMarks op b=false):PE X (.Compare a [op] [b] pos) (tOp r ta tb):=by
 intro c s o H Q I h;exact wpAny_Compare1 (zx p d I h λv u n x y k i l j q=>g c n o k x y v u Q i l j q) f
def A9(K:Frag)(x:V)(H:Hp)(k:Bool):Prop :=
 match x with
 | .non=>k=false
 | .bl b=>k=b
 | .int i=>k=(i != 0)
 | .str y=>y.length<=sizeLine/\k=((y.length:Int) != 0)
 | .byt y=>y.size<=sizeLine/\k=((y.size:Int) != 0)
 | .ref p=>(∃ xs,SqL K H p xs/\k = !xs.isEmpty)\/(∃ xs,SqT K H p xs/\k = !xs.isEmpty)\/∃ kvs,H p=some (.dK kvs)/\k = !kvs.isEmpty
 | _=>False
theorem oG{κ:Type}{kvs:List (κ×V)}{vs:List (κ×Value)}(r:KV kvs vs):(!vs.isEmpty) = !kvs.isEmpty:=by
 cases r <;> rfl
theorem jc{xs:List V}{its:List Value}(r:Vals xs its):(!its.toArray.isEmpty) = !xs.isEmpty:=by
 cases r <;> simp
theorem gx:(sizeLine:Nat)<2 ^ 63:=by rw[sizeLine_eq];decide
theorem Aa:BM X (λx H Q=>∃ k,A9 X.K x H k/\Q k H):=by
 intro o s z H x v Q I g h;obtain⟨k,e,q⟩:=h;have w:=gx;have A:sizeLine=16777216:=sizeLine_eq;cases x with
 | non =>
  cases g;have a:k=false:=e;subst a;exact truthy_none ⟨H,I,q⟩
 | bl b =>
  cases g;have a:k=b:=e;subst a;exact wpAny_truthy_bool ⟨H,I,q⟩
 | int i =>
  obtain⟨t,rfl⟩:=g;have a:k=(i != 0):=e;subst a;exact PySem.P.truthy_int ⟨H,I,q⟩
 | str y =>
  obtain⟨t,rfl⟩:=g;obtain⟨hy,a⟩:y.length<=sizeLine/\k=((y.length:Int) != 0):=e;subst a;exact PySem.P.truthy_str (by lia) ⟨H,I.tok _,q⟩
 | byt y =>
  obtain⟨t,rfl⟩:=g;obtain⟨hy,a⟩:y.size<=sizeLine/\k=((y.size:Int) != 0):=e;subst a;exact PySem.W.truthy_bytes (by lia) ⟨H,I.tok _,q⟩
 | ref p =>
  cases g;have a:(∃ f,SqL X.K H p f/\k = !f.isEmpty)\/(∃ f,SqT X.K H p f/\k = !f.isEmpty)\/∃ c,H p=some (.dK c)/\k = !c.isEmpty:=e
  rcases a with⟨f,j,a⟩ | ⟨f,j,a⟩ | ⟨c,j,a⟩
  .subst a
   obtain⟨n,r,l,u⟩:=I.list j;have d:=r.length;exact wpAny_truthy_list l.isList (by simp only[size_toArray];lia) ⟨H,I.tok _,by rw[jc r];exact q⟩
  .subst a
   obtain⟨n,r,l,u⟩:=I.tuple j;have d:=r.length;exact truthy_tuple l (by simp only[size_toArray];lia) ⟨H,I.tok _,by rw[jc r];exact q⟩
  .subst a
   obtain⟨u,hS,vs,r,m⟩:c.length<=sizeLine/\(p == sysModules)=false/\∃ vs,KV c vs/\s.heap.DictOf (aW X.prog X.w) p vs:=I.hok p _ j;have d:c.length=vs.length:=Paired.length r;exact wpAny_truthy_dict hS m (by lia) ⟨H,I.tok _,by rw[oG r];exact q⟩
 | _=>exact(show False from e).elim
theorem mV(i:PE X a ta)(f:∀ whole,isTrue a X.env whole=(do let v <- whole;standAt a.pos;holding [v] (truthy v))) :
  PT X a (λσ H Q=>ta σ H λx H'=>∃ k,A9 X.K x H' k/\Q k H'):=by
 intro b s σ H Q I h;exact isTrue_plain (thn (i b s σ H _ I h) λv l ⟨x,j,c,d,g⟩=>Aa b l σ j x v Q c d g) (f _)
theorem oW:OpR X (binaryOp .Add) (λx y H Q=>∃ i j,x=.str i/\y=.str j/\i.length+j.length<=sizeLine/\Q (.str (i++j)) H):=by
 intro a s g H x y v u Q I c b h;obtain⟨i,j,rfl,rfl,f,q⟩:=h;obtain⟨t,rfl⟩:=c;obtain⟨d,rfl⟩:=b;exact add_str (λd k=>⟨.str (i++j),H,I.tok _,⟨_,rfl⟩,q⟩) f
theorem fK{x:V}{us:List Value}(r:Vals [x] us):∃ u,us=[u]/\RelV x u:=by
 cases r with
 | cons r1 r2=>cases r2;exact⟨_,rfl,r1⟩
theorem AE{x y:V}{us:List Value}(r:Vals [x,y] us):∃ u w',us=[u,w']/\RelV x u/\RelV y w':=by
 cases r with
 | cons r1 r2 =>
  cases r2 with
  | cons r3 r4=>cases r4;exact⟨_,_,rfl,r1,r3⟩
theorem jJ:CallR X (.builtin "abs") (λxs H Q=>∃ i,xs=[.int i]/\Q (.int (if i<0 then -i else i)) H):=by
 intro a s c H xs d Q I r h;obtain⟨i,rfl,q⟩:=h;obtain⟨u,rfl,t,rfl⟩:=fK r
 exact call_abs_int λu b=>⟨.int (if i<0 then -i else i),H,I.tok _,⟨_,rfl⟩,q⟩
end
structure ObjM(h:Heap)(x dx C:Addr)(mA:Str->Option Value):Prop where
 obj:h.get? x=some (instObj C dx)
 ns:h.Ns1 dx mA
 ne:dx≠x
theorem rY{h:Heap}{dx:Addr}{c:Str->Option Value}(n:h.Ns1 dx c):∃ od,h.get? dx=some od/\∀ name,lookIn name od=some (c name):=by
 obtain⟨o,d,p,g,i,k,_,f⟩:=n;refine⟨o,g,λname=>?_⟩;have e:=f name;unfold nsFind findBy at e;rw[<- Array.find?_toList]at e;unfold lookIn;rw[i];dsimp only
 split
 .rename_i y q
  rw[q]at e;exact congrArg some e
 .rename_i q
  rw[q]at e
  have a:d.toList.any (·.refKey)=false:=by
   rw[List.any_eq_false];intro y j;obtain⟨z,t,b⟩:=k y (Array.mem_toList_iff.mp j);simp[DictEntry.refKey,b]
  have l:¬d.toList.any (·.refKey)=true:=by rw[a];exact Bool.false_ne_true
  rw[if_neg l];exact congrArg some e
theorem ObjM.look{h:Heap}{x dx C:Addr}{a:Str->Option Value}(I:ObjM h x dx C a):∃ od,InstAt h x (instObj C dx) C (some od)/\∀ name,lookIn name od=some (a name) :=
 let ⟨od,ho,hl⟩:=rY I.ns
 ⟨od,⟨I.obj,rfl,rfl,ho⟩,hl⟩
section
variable {prog:Program}{w:World}{A:Around}{E:Value->Shared->Prop}{s:Shared}{K:Frag}{x dx C f:Addr}{mA:Str->Option Value}{name:Str}{v:Value}
theorem kT{a:Bool}{Q:Value->Shared->Prop}(X:K.In s.heap)(I:ObjM s.heap x dx C mA)(i:plainGet K C name=true)(d:hasDictIn K C=true)
  (g:findIn K (.ref C) name=some none) (f:mA name=some v) (b:handedIn v=true) (h:Q v { s with toks:=s.toks+1 }) :
  wpAny (model prog w) A (getAttr (.ref x) name a) Q E s:=by
 obtain⟨j,J,c⟩:=I.look;exact PySem.W.get_value X J (plainGet_of i).1 (PySem.W.findObj_own d g rfl (by rw[c,f])) b h
theorem vC{pl:Sem Bool}{Q:Value×List Value->Shared->Prop}(X:K.In s.heap)(I:ObjM s.heap x dx C mA)(a:plainGet K C name=true)
  (g:findIn K (.ref C) name=some (some (.ref f))) (i:isFn K (.ref f)=true) (d:mA name=none) (h:Q (.ref f,[.ref x]) s) :
  wpAny (model prog w) A (getMethod (.ref x) name pl) Q E s:=by
 obtain⟨c,J,b⟩:=I.look;exact PySem.W.method_fn X J (plainGet_of a).1 (plainGet_of a).2 g (beq_iff_eq.mp i) (by show(lookIn name c).map (·.isSome)=some false;rw[b,d];rfl) h
theorem vW{k:List Str}{Q:Unit->Shared->Prop}(X:K.In s.heap)(I:ObjM s.heap x dx C mA)
  (B:findIn K (.ref C) "__setattr__" = some (some (.builtin "object.__setattr__"))) (D:plainOver K C=true) (u:takerIn K C name=some none) (q:hasDictIn K C=true)
  (l:PySem.Within mA k) (hsz:k.length<=sizeLine)
  (h:∀ h',ObjM h' x dx C (λy=>if y=name then some v else mA y)->Heap.SameBut dx s.heap h'->Q () { s with heap:=h',toks:=s.toks+2 }) :
  wpAny (model prog w) A (setAttr (.ref x) name v) Q E s:=by
 obtain⟨H,J,G⟩:=I.look;refine PySem.W.set_plain X J B (PySem.W.osa_open (s:={ s with toks:=s.toks+1 }) (r:=none) X J D u λb=>?_);obtain⟨F,p,i⟩:=any_some q;have z:s.heap.get? x=some ⟨.ref C,some dx,.plain,#[]⟩:=I.obj;refine wpAny_bind (wpAny_pure (wpAny_bind (wpAny_bind (wpAny_loadPart z (wpAny_bind (PySem.W.Looks.here (s:={ s with toks:=s.toks+1 }) (looks_clsIn X p) ?_))))));rw[i];refine wpAny_pure (a:=some dx) (wpAny_bind (wpAny_pure (wpAny_bind ?_)));refine wpAny_nsSet1 (s:={ s with toks:=s.toks+1 }) I.ns λh' c d=>?_
 obtain⟨L,o,n,g,f,j⟩:=c.count (PySem.Within.cons name v l);refine wpAny_bind (wpAny_lookBehind g (by rw[f];exact pastItsLine_dict (Nat.le_trans j (by rw[length_cons];lia))) ?_);exact wpAny_pure (h _ ⟨(d.2 _ (Ne.symm I.ne)).trans I.obj,c,I.ne⟩ d)
theorem tM{R:Result->Shared->Prop}{vs:List Value}{b:List (Str×Value)}(X:K.In s.heap)(c:makesIn K C=true)
  (j:findIn K (.ref C) "__init__" = some (some (.ref f))) (i:typeIn K (.ref f)=some (.type "function"))
  (h:codeAny (model prog w) (A.under (.builtin "type.__call__" ⟨.ref C::vs,b⟩)) (.call (.ref f) ⟨.ref (s.heap.objs.size+1)::vs,b⟩) (PySem.W.InitBack (s.heap.objs.size+1) R)
   { s with heap:=(s.heap.push emptyDict).push (instObj C s.heap.objs.size) }) :
  codeAny (model prog w) A (.call (.ref C) ⟨vs,b⟩) R s:=by
 obtain⟨k,g,d,t,l⟩:=s;exact PySem.W.make_core (PySem.W.makes_of X c) (looks_findIn X j) (λa=>PySem.W.bind_fn X a i) (.inl rfl) h
end
def gp(f:Str)(v:V):List (Str×V)->List (Str×V)
 | []=>[(f,v)]
 | (g,x)::r=>if g=f then (g,v)::r else (g,x)::gp f v r
theorem iG(f g:Str)(v:V):∀ fs:List (Str×V),(gp f v fs).lookup g=if g=f then some v else fs.lookup g
 | []=>by
  show List.lookup g [(f,v)]=_
  by_cases h:g=f
  .have a:(g == f)=true:=beq_iff_eq.mpr h
   simp only[List.lookup,a,if_pos h]
  .have a:(g == f)=false:=beq_eq_false_iff_ne.mpr h
   simp only[List.lookup,a,if_neg h]
 | (k,x)::r=>by
  have b:=iG f g v r;rw[show gp f v ((k,x)::r)=(if k=f then (k,v)::r else (k,x)::gp f v r) from rfl]
  by_cases hk:k=f
  .rw[if_pos hk]
   by_cases h:g=k
   .have a:(g == k)=true:=beq_iff_eq.mpr h
    simp only[List.lookup,a,if_pos (h.trans hk)]
   .have a:(g == k)=false:=beq_eq_false_iff_ne.mpr h
    simp only[List.lookup,a,if_neg (λe:g=f=>h (e.trans hk.symm))]
  .rw[if_neg hk]
   by_cases h:g=k
   .have a:(g == k)=true:=beq_iff_eq.mpr h
    simp only[List.lookup,a,if_neg (λe:g=f=>hk (h.symm.trans e))]
   .have a:(g == k)=false:=beq_eq_false_iff_ne.mpr h
    simp only[List.lookup,a];exact b
theorem ii(f:Str)(v:V):∀ fs:List (Str×V),f∈(gp f v fs).map (·.1)/\∀ g,g∈fs.map (·.1)->g∈(gp f v fs).map (·.1)
 | []=>⟨by simp[gp],λg h=>by simp at h⟩
 | (k,x)::r=>by
  obtain⟨a,b⟩:=ii f v r;rw[show gp f v ((k,x)::r)=(if k=f then (k,v)::r else (k,x)::gp f v r) from rfl]
  by_cases hk:k=f
  .rw[if_pos hk]
   subst hk;exact⟨by simp,λg h=>by simpa using h⟩
  .rw[if_neg hk]
   refine⟨?_,λg h=>?_⟩
   .rw[map_cons]
    exact mem_cons_of_mem _ a
   .rw[map_cons]at h ⊢
    rcases mem_cons.mp h with e | e
    .exact mem_cons.mpr (.inl e)
    .exact mem_cons_of_mem _ (b g e)
theorem iL(f:Str)(v:V):∀ fs:List (Str×V),(gp f v fs).length<=fs.length+1
 | []=>by simp[gp]
 | (k,x)::r=>by
  have a:=iL f v r;rw[show gp f v ((k,x)::r)=(if k=f then (k,v)::r else (k,x)::gp f v r) from rfl]
  by_cases hk:k=f
  .rw[if_pos hk,length_cons,length_cons];lia
  .rw[if_neg hk,length_cons,length_cons];lia
theorem RelO.some_of{v:V}{o:Option Value}(r:RelO (some v) o):∃ u,o=some u/\RelV v u:=by
 cases o with
 | none=>exact(show False from r).elim
 | some u=>exact⟨u,rfl,r⟩
theorem RelO.none_of{o:Option Value}(r:RelO none o):o=none:=by
 cases o with
 | none=>rfl
 | some u=>exact(show False from r).elim
theorem sF{v:V}{u:Value}(r:RelV v u):handedIn u=true:=by
 cases v with
 | non=>cases(show u=Value.none from r);rfl
 | bl b=>cases(show u=Value.bool b from r);rfl
 | int i=>obtain⟨t,e⟩:=(show ∃ t,u=Value.int i t from r);cases e;rfl
 | str x=>obtain⟨t,e⟩:=(show ∃ t,u=Value.str x t from r);cases e;rfl
 | byt b=>obtain⟨t,e⟩:=(show ∃ t,u=Value.bytes b t from r);cases e;rfl
 | flt b=>obtain⟨t,e⟩:=(show ∃ t,u=Value.float b t from r);cases e;rfl
 | ref a=>cases(show u=Value.ref a from r);rfl
 | ty n=>cases(show u=Value.type n from r);rfl
section
variable {P:Program}{w:World}{H H':Hp}{h h':Heap}{a C dx:Addr}{fs fs':List (Str×V)}
theorem iV(b:HOk P w H h)(e:H a=some (.ins C dx fs)):∃ mA,ObjM h a dx C mA/\(∀ f,RelO (fs.lookup f) (mA f))/\PySem.Within mA (fs.map (·.1))/\fs.length<=1000/\H dx=some (.own a):=by
 obtain⟨d,z,g,c,mA,n,r,q⟩:=(show ObjOk P w H h a (.ins C dx fs) from b a _ e)
 exact⟨mA,⟨c,n,g⟩,r,q,z,d⟩
end
structure Cls(K:Frag)(C:Addr):Prop where
 pg:plainGet K C Str.empty=true
 hd:hasDictIn K C=true
 po:plainOver K C=true
 sa:findIn K (.ref C) "__setattr__" = some (some (.builtin "object.__setattr__"))
theorem Cls.get{K:Frag}{C:Addr}(c:Cls K C)(f:Str):plainGet K C f=true:=c.pg
def NoAttr(K:Frag)(C:Addr)(f:Str):Prop:=findIn K (.ref C) f=some none
theorem NoAttr.taker{K:Frag}{C:Addr}{f:Str}(n:NoAttr K C f):takerIn K C f=some none:=by
 unfold takerIn;rw[show findIn K (.ref C) f=some none from n];rfl
structure Meth(K:Frag)(C:Addr)(m:Str)(f:Addr):Prop where
 at_:findIn K (.ref C) m=some (some (.ref f))
 fn:isFn K (.ref f)=true
 kp:keepIn K (.ref f)=true
section
variable {X:Cx}{pins:List (Addr×Obj)}{σ:St}{H:Hp}{s:Shared}{a C dx:Addr}{fs:List (Str×V)}{f:Str}{v:V}{A:Around}{E:Value->Shared->Prop}
theorem nK{b:Bool}{Q:Value->Shared->Prop}(I:Inv X pins σ H s)(e:H a=some (.ins C dx fs))(c:Cls X.K C)(n:NoAttr X.K C f)(l:fs.lookup f=some v)
  (h:∀ u s',Inv X pins σ H s'->RelV v u->Q u s'):wpAny (model X.prog X.w) A (getAttr (.ref a) f b) Q E s:=by
 obtain⟨g,O,r,_,_,_⟩:=iV I.hok e;obtain⟨u,i,d⟩:=RelO.some_of (v:=v) (o:=g f) (by rw[<- l];exact r f);exact kT I.kIn O (c.get f) c.hd n i (sF d) (h u _ (I.tok _) d)
theorem jm{m:Str}{g:Addr}{pl:Sem Bool}{Q:Value×List Value->Shared->Prop}(I:Inv X pins σ H s)(e:H a=some (.ins C dx fs))(c:Cls X.K C)(k:Meth X.K C m g)(l:fs.lookup m=none)
  (h:Q (.ref g,[.ref a]) s):wpAny (model X.prog X.w) A (getMethod (.ref a) m pl) Q E s:=by
 obtain⟨b,O,r,_,_,_⟩:=iV I.hok e;have d:b m=none:=RelO.none_of (by rw[<- l];exact r m);exact vC I.kIn O (c.get m) k.at_ k.fn d h
theorem oM{y:V}{u:Value}{Q:Unit->Shared->Prop}(I:Inv X pins σ H s)(e:H a=some (.ins C dx fs))(c:Cls X.K C)(n:NoAttr X.K C f)(D:fs.length<1000)(l:RelV y u)
  (h:∀ s',Inv X pins σ (upd H a (.ins C dx (gp f y fs))) s'->Q () s'):wpAny (model X.prog X.w) A (setAttr (.ref a) f u) Q E s:=by
 obtain⟨i,O,r,k,_,j⟩:=iV I.hok e;have B:(fs.map (·.1)).length<=sizeLine:=by rw[length_map,sizeLine_eq];lia
 refine vW I.kIn O c.sa c.po n.taker c.hd k B λv d w=>h _ ?_
 have p:∃ o,v.get? dx=some o:=let ⟨o,_,_,e',_⟩:=d.ns;⟨o,e'⟩;refine I.write (x:=a) (e:=dx) (by rw[e];exact True.intro) (.inr j) (λb q hb z=>(w.2 b hb).trans z) p ?_;refine⟨by rw[ag O.ne];exact j,?_,O.ne,d.obj,_,d.ns,λg=>?_,λg hg=>?_⟩
 .have:=iL f y fs;lia
 .show RelO ((gp f y fs).lookup g) (if g=f then some u else i g)
  rw[iG]
  by_cases q:g=f
  .rw[if_pos q,if_pos q];exact l
  .rw[if_neg q,if_neg q];exact r g
 .by_cases q:g=f
  .rw[q];exact(ii f y fs).1
  .refine(ii f y fs).2 g (k g λz=>hg ?_)
   show(if g=f then some u else i g)=none;rw[if_neg q];exact z
theorem Inv.made(I:Inv X pins σ H s):Inv X pins σ (upd (upd H s.heap.objs.size (.own (s.heap.objs.size+1))) (s.heap.objs.size+1) (.ins C s.heap.objs.size []))
  { s with heap:=(s.heap.push emptyDict).push (instObj C s.heap.objs.size) }:=by
 have d:(s.heap.push emptyDict).get? s.heap.objs.size=some emptyDict:=Heap.get?_push_size s.heap rfl
 have h:((s.heap.push emptyDict).push (instObj C s.heap.objs.size)).get? (s.heap.objs.size+1)=some (instObj C s.heap.objs.size):=by
  have:=Heap.get?_push_size (s.heap.push emptyDict) (o:=instObj C s.heap.objs.size) rfl;rwa [Heap.size_push]at this
 have g:(s.heap.push emptyDict).Ns s.heap.objs.size (λ_=>none):=⟨emptyDict,#[],_,d,rfl,(λe he=>absurd he (by simp)),λ_=>rfl⟩
 have f:=I.laid (a:=s.heap.objs.size) (o:=.own (s.heap.objs.size+1)) (h':=s.heap.push emptyDict) (t':=s.toks) (λb u q=>Heap.get?_push_of_some _ q) (Nat.le_refl _) ⟨_,d⟩;refine f.laid (a:=s.heap.objs.size+1) (o:=.ins C s.heap.objs.size []) (t':=s.toks) (λb u q=>Heap.get?_push_of_some _ q) (Nat.le_of_eq (Heap.size_push _ _)) ?_;have c:s.heap.objs.size≠s.heap.objs.size+1:=Nat.ne_of_lt (Nat.lt_succ_self _);refine⟨by rw[ag c,ad],Nat.zero_le _,c,h,λ_=>none,(Heap.Ns1.of_empty g).at λo q=>Heap.get?_push_of_some _ q,λ_=>True.intro,λy hy=>absurd rfl hy⟩
theorem xF{prog:Program}{w:World}{env:Env}{e:Expr}{f:Str}{a:Pos}{s:Shared}{Q:Value->Shared->Prop}(b:attributeBase e f env (eval e env)=eval e env)
  (h:wpAny (model prog w) A (eval e env) (λo s₁=>wpAny (model prog w) A (getAttr o f true) Q E s₁) E s):wpAny (model prog w) A (eval (.Attribute e f a) env) Q E s :=
 Attribute_any_ h (by rw[arm_eval_Attribute,b])
end
def BD(K:Frag)(ta:TE)(f:Str):TE:=λσ H Q=>ta σ H λx H1=>∃ a C dx fs v,x=.ref a/\H1 a=some (.ins C dx fs)/\Cls K C/\NoAttr K C f/\fs.lookup f=some v/\Q v H1
def BH(K:Frag)(ta tv:TE)(f:Str):TS:=λD σ H=>tv σ H λy H1=>ta σ H1 λx H2=>∃ a C dx fs,x=.ref a/\H2 a=some (.ins C dx fs)/\Cls K C/\NoAttr K C f/\fs.length<1000 /\
 D.nx σ (upd H2 a (.ins C dx (gp f y fs)))
section
variable {X:Cx}{o e value:Expr}{f:Str}{pos pos' tpos:Pos}{ta tv:TE}
theorem gA(w:PE X e ta)(d:attributeBase e f X.env (eval e X.env)=eval e X.env):PE X (.Attribute e f pos) (BD X.K ta f):=by
 intro b s p H Q I h;refine xF d (thn (w b s p H _ I h) λu E ⟨x,y,g,j,a,C,D,A,v,k,r,c,n,l,q⟩=>?_);subst k;obtain rfl:u=Value.ref a:=j
 exact nK g r c n l λz B i o=>⟨v,y,i,o,q⟩
theorem vK(p:PE X o ta)(k:PE X value tv)(v:swapsWith value (some (.Attribute o f pos')) pos.line X.env=pure false):PS X (.Assign [.Attribute o f pos'] value pos) (BH X.K ta tv f):=by
 intro b s d H D I h;refine plainObj_wpAny_Assign_Attribute (thn (k b s d H _ I h) λu w ⟨y,r,g,i,q⟩=>thn (p b w d r _ g q) λov s2 ⟨x,H2,I2,rx,a,C,dx,fs,ex,ea,c,n,l,q2⟩=>?_) v;subst ex;obtain rfl:ov=Value.ref a:=rx
 exact oM I2 ea c n l i λz j=>⟨d,_,j,q2⟩
end
section
variable {X:Cx}{pins:List (Addr×Obj)}{σ:St}{H:Hp}{s:Shared}{A:Around}{E:Value->Shared->Prop}{Q:Value->Shared->Prop}{c:Value}{b:Bool}
inductive TyOf(K:Frag)(H:Hp):V->Value->Prop where
 | non:TyOf K H .non (.type "NoneType")
 | bl (x:Bool):TyOf K H (.bl x) (.type "bool")
 | int (i:Int):TyOf K H (.int i) (.type "int")
 | str (x:Str):TyOf K H (.str x) (.type "str")
 | flt (x:UInt64):TyOf K H (.flt x) (.type "float")
 | lst {a:Addr}{xs:List V}(e:H a=some (.lst xs)):TyOf K H (.ref a) (.type "list")
 | frz {a:Addr}{o:Obj}{xs:List V}(e:H a=some (.frz o (.lst xs))):TyOf K H (.ref a) (.type "list")
 | tup {a:Addr}{xs:List V}(e:H a=some (.tup xs)):TyOf K H (.ref a) (.type "tuple")
 | dK {a:Addr}{kvs:List (Key×V)}(e:H a=some (.dK kvs)):TyOf K H (.ref a) (.type "dict")
 | dT {a:Addr}{kvs:List (List Key×V)}(e:H a=some (.dT kvs)):TyOf K H (.ref a) (.type "dict")
 | ins {a C dx:Addr}{fs:List (Str×V)}(e:H a=some (.ins C dx fs)) (cl:Cls K C) (ha:findIn K (.ref C) "__class__" = some (some (.builtin "object.__class__")))
   (hn:specialIn K (.builtin "object.__class__") "__get__" = some (some (.builtin "getset_descriptor.__get__"))) (htk:takesIn K (.builtin "object.__class__")=some true)
   (hm:mroIn K C (.type "object")=some true):TyOf K H (.ref a) (.ref C)
end
structure Room(k:Nat)(A:Around):Prop where
 hd:A.handled=none
 dp:A.depth+3*k+5<recursionLimit
 un:A.units+16*k+200<cLine
theorem Room.mono{j k:Nat}{A:Around}(r:Room k A)(h:j<=k):Room j A:=⟨r.hd,by have:=r.dp;lia,by have:=r.un;lia⟩
theorem Room.deeper{k:Nat}{A:Around}(r:Room (k+1) A)(env:Env):Room k (A.deeper env) :=
 ⟨r.hd,by have:=r.dp;show A.depth+1+3*k+5<_;lia,by have:=r.un;show A.units+3+16*k+200<_;lia⟩
theorem nR{A:Around}{C:Addr}{us:List Value}{a:List (Str×Value)}:(A.under (.builtin "type.__call__" ⟨.ref C::us,a⟩)).depth=A.depth+1:=by
 first | rfl | simp[Around.under,Code.weight,Code.isCreation,Code.isGuard,Code.isCaller,Code.frames,Code.isFrame,guardIds]
theorem o4{A:Around}{C:Addr}{us:List Value}{a:List (Str×Value)}:(A.under (.builtin "type.__call__" ⟨.ref C::us,a⟩)).units=A.units+1:=by
 first | rfl | simp[Around.under,Code.cUnits,Code.frames,Code.isFrame]
theorem Room.make{k:Nat}{A:Around}(r:Room (k+1) A)(C:Addr)(us:List Value)(a:List (Str×Value)):Room k (A.under (.builtin "type.__call__" ⟨.ref C::us,a⟩)) :=
 ⟨r.hd,by have:=r.dp;rw[nR];lia,by have:=r.un;rw[o4];lia⟩
theorem Room.depth{k:Nat}{A:Around}(r:Room k A):A.depth<recursionLimit:=by have:=r.dp;lia
theorem Room.units{k:Nat}{A:Around}(r:Room k A):A.units+64<cLine:=by have:=r.un;lia
def zB:TA:=λ_ H Q=>Q [] H
def ud(ta:TE)(tr:TA):TA:=λσ H Q=>ta σ H λx H1=>tr σ H1 λxs H2=>Q (x::xs) H2
section
variable {X:Cx}{e:Expr}{es:List Expr}{te:TE}{t:TA}{pos:Pos}
theorem af:PA X [] zB:=λ_ _ _ _ H Q I h=>Calls.spliced_nil ⟨[],H,I,.nil,h⟩
theorem aa(o:PE X e te)(j:PA X es t)(r:starEach (e::es) X.env=(false,eval e X.env)::starEach es X.env:=by rfl):PA X (e::es) (ud te t):=by
 intro b a s c H Q I h;rw[r];show wpAny _ _ (spliced ((false,eval e X.env)::backTo b (starEach es X.env))) _ _ s;refine Calls.spliced_cons (thn (o a s c H _ I h) λu v ⟨x,p,d,k,n⟩=>?_)
 exact thn (j b a v c p _ d n) λy w ⟨f,i,g,l,q⟩=>⟨x::f,i,g,.cons k l,q⟩
def BL(t:TA):TE:=λσ H Q=>t σ H λxs H1=>xs.length<=sizeLine/\∀ p,H1 p=none->Q (.ref p) (upd H1 p (.tup xs))
def y4(t:TA):TE:=λσ H Q=>t σ H λxs H1=>xs.length<=sizeLine/\∀ p,H1 p=none->Q (.ref p) (upd H1 p (.lst xs))
theorem bH{x1}(h:PA X es t):PE X (.Tuple es x1 pos) (BL t):=by
 intro a s i H Q I k;refine wpAny_Tuple_spliced (thn (h pos a s i H _ I k) λl c ⟨g,f,d,r,z,q⟩=>⟨by rw[<- r.length];exact z,?_⟩);have j:f c.heap.objs.size=none:=d.hok.fresh (Nat.le_refl _);refine⟨.ref c.heap.objs.size,upd f c.heap.objs.size (.tup g),d.laid (t':=c.toks) (λb u e=>Heap.get?_push_of_some _ e) (Nat.le_refl _) ?_,rfl,q _ j⟩;exact⟨z,l,r,⟨_,Heap.get?_push_size _ rfl,rfl,_,rfl⟩⟩
theorem cV(h:PA X es t):PE X (.List es pos) (y4 t):=by
 intro a s i H Q I k;refine wpAny_List_spliced (thn (h pos a s i H _ I k) λl c ⟨g,f,d,r,z,q⟩=>⟨by rw[<- r.length];exact z,?_⟩);have j:f c.heap.objs.size=none:=d.hok.fresh (Nat.le_refl _);refine⟨.ref c.heap.objs.size,upd f c.heap.objs.size (.lst g),d.laid (t':=c.toks) (λb u e=>Heap.get?_push_of_some _ e) (Nat.le_refl _) ?_,rfl,q _ j⟩;exact⟨z,l,0,r,Heap.get?_push_size _ rfl⟩
end
abbrev Sp:=List V->Hp->VK->XK->Prop
abbrev CXT:=List Env->Hp->Shared->XK->Value->Shared->Prop
structure Env0(P:Program)(w:World)(K:Frag)(mg:Str->Option Value)(base:Heap)(A:Around)(outer:List Env)(s:Shared)(H:Hp):Prop where
 frames:A.frames=some outer
 mod:Mod K mg base
 bs:∀ b o,base.get? b=some o->s.heap.get? b=some o/\H b=none
 bsz:base.objs.size<=s.heap.objs.size
 funs:s.heap.FunFrames base outer
 frf:∀ b∈frs outer,H b=none
 hok:HOk P w H s.heap
 bare:AllBare s.gens
def CE(outer:List Env)(P:Program)(w:World)(H:Hp)(s:Shared)(Q:VK)(u:Value)(s':Shared):Prop :=
 ∃ v H',s'.os=s.os/\AllBare s'.gens/\Un (frs outer) [] H H' s.heap s'.heap/\HOk P w H' s'.heap/\RelV v u/\Q v H'
def CR(CX:CXT)(outer:List Env)(P:Program)(w:World)(H:Hp)(s:Shared)(Q:VK)(E:XK)(r:Result)(s':Shared):Prop :=
 match r with
 | .ok (.ret u)=>CE outer P w H s Q u s'
 | .ok _=>False
 | .error e=>CX outer H s E e s'
structure FnOk(P:Program)(w:World)(K:Frag)(mg:Str->Option Value)(base:Heap)(CX:CXT)(k:Nat)(f:Addr)(fd:FuncData)(ps:List Str)(sp:Sp):Prop where
 len:∀ vs H Q E,sp vs H Q E->vs.length=ps.length
 run:∀(A:Around) (outer:List Env) (s:Shared) (H:Hp) (args:Args) (us:List Value) (vs:List V) (Q:VK) (E:XK),Room k A->Env0 P w K mg base A outer s H->BindsTo s fd args (ps.zip us)->Vals vs us->sp vs H Q E ->
  codeAny (model P w) A (.call (.ref f) args) (CR CX outer P w H s Q E) s
theorem FnOk.mono{P:Program}{w:World}{K:Frag}{mg:Str->Option Value}{a:Heap}{CX:CXT}{j k:Nat}{f:Addr}{d:FuncData}{ps:List Str}{sp:Sp}(F:FnOk P w K mg a CX j f d ps sp)(h:j<=k) :
  FnOk P w K mg a CX k f d ps sp:=⟨F.len,λA b s H c l i Q E g=>F.run A b s H c l i Q E (g.mono h)⟩
theorem Env0.make{P:Program}{w:World}{K:Frag}{mg:Str->Option Value}{b:Heap}{A:Around}{a:List Env}{s:Shared}{H:Hp}(e:Env0 P w K mg b A a s H)(C:Addr)(us:List Value)(c:List (Str×Value)) :
  Env0 P w K mg b (A.under (.builtin "type.__call__" ⟨.ref C::us,c⟩)) a s H:=⟨by first | exact e.frames | (simpa[Around.under,Code.envs,Code.isFrame,pushEnvs] using e.frames),e.mod,e.bs,e.bsz,e.funs,e.frf,e.hok,e.bare⟩
section
variable {X:Cx}{pins:List (Addr×Obj)}{σ:St}{H:Hp}{s s':Shared}
theorem Inv.env0(I:Inv X pins σ H s):Env0 X.prog X.w X.K X.mg X.base X.A X.stack s H :=
 ⟨I.ok.frames,I.ok.mod,I.bs,Nat.le_trans I.ok.bsz I.sz,I.stack,I.stkFree,I.hok,I.bare⟩
theorem Inv.after{Q:VK}{u:Value}(I:Inv X pins σ H s)(h:CE X.stack X.prog X.w H s Q u s'):EP X pins σ Q u s':=by
 obtain⟨v,j,k,a,l,f,r,q⟩:=h;obtain⟨i,g,d,t,c⟩:=s';obtain rfl:c=s.os:=k;exact⟨v,j,I.call (h':=i) (g':=g) (d':=d) (t':=t) (ch:=[]) l f a (λb z=>absurd z (by simp)),r,q⟩
end
def Bn(sp:Sp)(dvs:List V)(E:XK)(t:TA):TE:=λσ H Q=>t σ H λvs H1=>sp (vs++dvs) H1 Q E
def xV(C:Addr)(m:Str)(sp:Sp)(dvs:List V)(E:XK)(ta:TE)(t:TA):TE:=λσ H Q=>ta σ H λx H1=>∃ a dx fs,x=.ref a/\H1 a=some (.ins C dx fs)/\fs.lookup m=none /\
 t σ H1 λvs H2=>sp (x::(vs++dvs)) H2 Q E
def AB(C:Addr)(sp:Sp)(dvs:List V)(E:XK)(t:TA):TE:=λσ H Q=>t σ H λvs H1=>∀ x dx,H1 x=none->H1 dx=none->dx≠x ->
 sp (.ref x::(vs++dvs)) (upd (upd H1 dx (.own x)) x (.ins C dx [])) (λv H2=>v=.non/\Q (.ref x) H2) E
def Binds(K:Frag)(fd:FuncData)(ps:List Str)(ds:List Value):Prop :=
 ∀(s:Shared) (us:List Value),K.In s.heap->(us++ds).length=ps.length->BindsTo s fd ⟨us,[]⟩ (ps.zip (us++ds))
theorem Binds.all{K:Frag}{a:FuncData}{ps:List Str}(h:∀ us:List Value,us.length=ps.length->bindArgs a ⟨us,[]⟩=pure (ps.zip us)):Binds K a ps []:=λs us _ b=>by
 rw[append_nil]at b ⊢;exact .of_eq (h us b)
def fE(CX:CXT)(X:Cx)(E:XK):Prop:=∀(pins:List (Addr×Obj)) (σ:St) (H:Hp) (s:Shared) (e:Value) (s':Shared),Inv X pins σ H s->CX X.stack H s E e s'->X.xe e s'
section
variable {X:Cx}{CX:CXT}{k:Nat}{f C:Addr}{fd:FuncData}{ps:List Str}{sp:Sp}{dvs:List V}{ds:List Value}{E:XK}{x m:Str}{p pos apos:Pos}{e o:Expr}{es:List Expr}{ta:TE}{t:TA}
theorem oU{a:List (Addr×Obj)}{c:St}{H:Hp}{s:Shared}{Q:VK}{us:List Value}{vs:List V}(F:FnOk X.prog X.w X.K X.mg X.base CX k f fd ps sp)(n:Room k X.A)(g:Binds X.K fd ps ds)(j:Vals dvs ds)(o:fE CX X E)
  (I:Inv X a c H s) (r:Vals vs us) (h:sp (vs++dvs) H Q E):wpAny (model X.prog X.w) X.A (call (.ref f) us) (EP X a c Q) X.xe s:=by
 have d:Vals (vs++dvs) (us++ds):=r.append j;have l:(us++ds).length=ps.length:=by rw[<- d.length];exact F.len _ _ _ _ h
 refine wpAny_call (codeAny_mono (F.run X.A X.stack s H ⟨us,[]⟩ (us++ds) (vs++dvs) Q E n I.env0 (g s us I.kIn l) d h) λr i b=>?_);cases r with
 | error e=>exact o a c H s e i I b
 | ok fl =>
  cases fl with
  | ret u=>exact I.after b
  | next=>exact False.elim b
  | brk=>exact False.elim b
  | cont=>exact False.elim b
theorem ap(F:FnOk X.prog X.w X.K X.mg X.base CX k f fd ps sp)(l:Room k X.A)(y:Gl X x)(i:X.mg x=some (.ref f))(w:keepIn X.K (.ref f)=true)(g:Binds X.K fd ps ds)(j:Vals dvs ds)(v:fE CX X E)
  (u:PA X (e::es) t) (c:(x == ("__debug__" : Str))=false:=by decide) (o:starEach (e::es) X.env=(false,eval e X.env)::starEach es X.env:=by rfl) (b:(backTo pos (starEach es X.env)).any (·.1)=false:=by rfl) :
  PE X (.Call (.Name x p) (e::es) [] pos) (Bn sp dvs E t):=by
 intro a s n H Q I h;refine wpAny_Call_Name_kw (fV I y i ?_ c);refine callWith_K (h₀:=X.base) I.ok.mod.kin w (thn (u pos a s n H _ I h) λz C ⟨A,B,d,r,q⟩=>⟨d.kIn,?_⟩) o b;exact oU F l g j v d r q
theorem pZ{pl:Sem Bool}(L:PE X o ta)(c:Cls X.K C)(j:Meth X.K C m f)(F:FnOk X.prog X.w X.K X.mg X.base CX k f fd ps sp)(y:Room k X.A)(A:Binds X.K fd ps ds)(K:Vals dvs ds)(N:fE CX X E)(G:PA X (e::es) t)
  (d:starEach (e::es) X.env=(false,eval e X.env)::starEach es X.env:=by rfl) (g:(backTo pos (starEach es X.env)).any (·.1)=false:=by rfl)
  (M:eval (.Call (.Attribute o m apos) (e::es) [] pos) X.env=(do
   let ov <- eval o X.env
   standAt apos.atName
   let (f,first) <- holding [ov] (getMethod ov m pl)
   callWith pos f first (backTo pos (starEach (e::es) X.env)) (backToKw pos (keywordEach [] X.env))):=by rfl) :
  PE X (.Call (.Attribute o m apos) (e::es) [] pos) (xV C m sp dvs E ta t):=by
 intro b s i H Q I h;refine methodCall_KW (pl:=pl) (thn (L b s i H _ I h) λu J ⟨x,z,p,v,a,T,P,w,D,l,q⟩=>?_) M;subst w;obtain rfl:u=Value.ref a:=v;refine jm p D c j l ?_;refine callWith_K (first:=[.ref a]) (h₀:=X.base) I.ok.mod.kin j.kp (thn (G pos b J i z _ p q) λus R ⟨vs,W,n,r,B⟩=>⟨n.kIn,?_⟩) d g;exact oU (us:=.ref a::us) (vs:=.ref a::vs) F y A K N n (.cons rfl r) B
theorem aS{pl:Sem Bool}(z:PE X o ta)(c:Cls X.K C)(g:Meth X.K C m f)(F:FnOk X.prog X.w X.K X.mg X.base CX k f fd ps sp)(v:Room k X.A)(i:Binds X.K fd ps ds)(j:Vals dvs ds)(A:fE CX X E)
  (n:eval (.Call (.Attribute o m apos) [] [] pos) X.env=(do
   let ov <- eval o X.env
   standAt apos.atName
   let (f,first) <- holding [ov] (getMethod ov m pl)
   callWith pos f first (backTo pos (starEach [] X.env)) (backToKw pos (keywordEach [] X.env))):=by rfl) :
  PE X (.Call (.Attribute o m apos) [] [] pos) (xV C m sp dvs E ta zB):=by
 intro b s w H Q I h;refine methodCall_KW (pl:=pl) (thn (z b s w H _ I h) λu J ⟨x,G,d,p,a,D,B,r,y,l,q⟩=>?_) n;subst r;obtain rfl:u=Value.ref a:=p;refine jm d y c g l ?_;exact callWith_K0 (first:=[.ref a]) d.kIn g.kp (oU (us:=[.ref a]) (vs:=[.ref a]) F v i j A d (.cons rfl .nil) q)
structure Mk(K:Frag)(C f:Addr):Prop where
 makes:makesIn K C=true
 init:findIn K (.ref C) "__init__" = some (some (.ref f))
 fn:isFn K (.ref f)=true
 kp:keepIn K (.ref C)=true
theorem tT{b:List (Addr×Obj)}{d:St}{H:Hp}{s:Shared}{Q:VK}{us:List Value}{vs:List V}(M:Mk X.K C f)(F:FnOk X.prog X.w X.K X.mg X.base CX k f fd ps sp)(p:Room (k+1) X.A)(j:Binds X.K fd ps ds)(o:Vals dvs ds)
  (A:fE CX X E) (I:Inv X b d H s) (r:Vals vs us)
  (h:∀ x dx,H x=none->H dx=none->dx≠x->sp (.ref x::(vs++dvs)) (upd (upd H dx (.own x)) x (.ins C dx [])) (λv H2=>v=.non/\Q (.ref x) H2) E) :
  wpAny (model X.prog X.w) X.A (call (.ref C) us) (EP X b d Q) X.xe s:=by
 have i:=h (s.heap.objs.size+1) s.heap.objs.size (I.hok.fresh (Nat.le_succ _)) (I.hok.fresh (Nat.le_refl _)) (Nat.ne_of_lt (Nat.lt_succ_self _));have c:=Inv.made (C:=C) I;have g:Vals (V.ref (s.heap.objs.size+1)::(vs++dvs)) (Value.ref (s.heap.objs.size+1)::(us++ds)):=.cons rfl (r.append o)
 have n:(Value.ref (s.heap.objs.size+1)::us++ds).length=ps.length:=by
  have e:=g.length;rw[F.len _ _ _ _ i]at e;exact e.symm
 refine wpAny_call (tM (f:=f) I.kIn M.makes M.init (beq_iff_eq.mp M.fn) (codeAny_mono (F.run _ X.stack _ _ ⟨Value.ref (s.heap.objs.size+1)::us,[]⟩ (Value.ref (s.heap.objs.size+1)::(us++ds)) _ _ E (p.make C us [])
  (c.env0.make C us []) (j _ (Value.ref (s.heap.objs.size+1)::us) c.kIn n) g i) λr l a=>?_))
 cases r with
 | error e=>exact A b d _ _ e l c a
 | ok fl =>
  cases fl with
  | ret u =>
   obtain⟨v,w,q,B,z,y⟩:=c.after a;subst z;exact⟨B,⟨V.ref (s.heap.objs.size+1),w,q,rfl,y⟩⟩
  | next=>exact False.elim a
  | brk=>exact False.elim a
  | cont=>exact False.elim a
theorem i8(M:Mk X.K C f)(F:FnOk X.prog X.w X.K X.mg X.base CX k f fd ps sp)(l:Room (k+1) X.A)(w:Gl X x)(i:X.mg x=some (.ref C))(g:Binds X.K fd ps ds)(j:Vals dvs ds)(v:fE CX X E)
  (u:PA X (e::es) t) (c:(x == ("__debug__" : Str))=false:=by decide) (o:starEach (e::es) X.env=(false,eval e X.env)::starEach es X.env:=by rfl) (b:(backTo pos (starEach es X.env)).any (·.1)=false:=by rfl) :
  PE X (.Call (.Name x p) (e::es) [] pos) (AB C sp dvs E t):=by
 intro a s n H Q I h;refine wpAny_Call_Name_kw (fV I w i ?_ c);refine callWith_K (h₀:=X.base) I.ok.mod.kin M.kp (thn (u pos a s n H _ I h) λy B ⟨z,A,d,r,q⟩=>⟨d.kIn,?_⟩) o b;exact tT M F l g j v d r q
end
section
variable {X:Cx}{CX:CXT}{k:Nat}{f C:Addr}{fd:FuncData}{ps ks:List Str}{sp:Sp}{E:XK}{x m:Str}{p pos apos kpos:Pos}{e o:Expr}{es:List Expr}{kws:List Keyword}{te ta:TE}{t tk:TA}{nm:Option Str}
variable {g:List Value->List Value->List Value}{gV:List V->List V->List V}
end
structure FnScope(N P:List Str)(sc:Scope):Prop where
 kind:sc.kind=.function
 co:sc.isCoroutine=false
 gen:sc.isGenerator=false
 nd:N.Nodup
 pre:N.take P.length=P
 par:∀ x ∈ P,sc.names.lookup x = some .local\/sc.names.lookup x = some .cell
 nofree:∀ y∈sc.names,y.2≠.free
theorem j9{a:Str->Option NameKind}{x:Str}:∀{binds:List (Str×Value)}{m:Str->Option Value},(∀ v,(x,v) ∉ binds)->bindL a binds m x=m x
 | [],_,_=>rfl
 | (n,v)::r,m,h=>by
  unfold bindL;rw[j9 λw b=>h w (mem_cons_of_mem _ b)]
  split
  .have:x≠n:=by rintro rfl;exact h v mem_cons_self
   simp[this]
  .rfl
theorem jY{a:Str->Option NameKind}{x:Str}:∀{binds:List (Str×Value)}{m:Str->Option Value},(∀ v,(x,v) ∉ binds)->bindC a binds m x=m x
 | [],_,_=>rfl
 | (n,v)::r,m,h=>by
  unfold bindC;rw[jY λw b=>h w (mem_cons_of_mem _ b)]
  split
  .rfl
  .have:x≠n:=by rintro rfl;exact h v mem_cons_self
   simp[this]
theorem ky{a:Str->Option NameKind}{x:Str}{v:Value}:∀{P:List Str}{vs:List Value}{i:Nat}{m:Str->Option Value},P.Nodup->P[i]? = some x->vs[i]? = some v->a x = some .local ->
  bindL a (P.zip vs) m x=some v
 | [],_,_,_,_,h,_,_=>by simp at h
 | _::_,[],_,_,_,_,h,_=>by simp at h
 | p::P,w::vs,0,m,nd,h1,h2,hk=>by
  simp at h1 h2;subst h1;subst h2;show bindL a ((p,w)::P.zip vs) m p=_;unfold bindL;rw[j9 λv b=>(nodup_cons.mp nd).1 (of_mem_zip b).1,if_pos hk];simp
 | p::P,w::vs,i+1,m,nd,h1,h2,hk=>by
  show bindL a ((p,w)::P.zip vs) m x=_;unfold bindL;exact ky (i:=i) (nodup_cons.mp nd).2 (by simpa using h1) (by simpa using h2) hk
theorem kD{a:Str->Option NameKind}{x:Str}{v:Value}:∀{P:List Str}{vs:List Value}{i:Nat}{m:Str->Option Value},P.Nodup->P[i]? = some x->vs[i]? = some v->a x≠some .local ->
  bindC a (P.zip vs) m x=some v
 | [],_,_,_,_,h,_,_=>by simp at h
 | _::_,[],_,_,_,_,h,_=>by simp at h
 | p::P,w::vs,0,m,nd,h1,h2,hk=>by
  simp at h1 h2;subst h1;subst h2;show bindC a ((p,w)::P.zip vs) m p=_;unfold bindC;rw[jY λv b=>(nodup_cons.mp nd).1 (of_mem_zip b).1,if_neg hk];simp
 | p::P,w::vs,i+1,m,nd,h1,h2,hk=>by
  show bindC a ((p,w)::P.zip vs) m x=_;unfold bindC;exact kD (i:=i) (nodup_cons.mp nd).2 (by simpa using h1) (by simpa using h2) hk
def start(N:List Str)(vs:List V):St:=vs.map some++List.replicate (N.length - vs.length) none
def eN(CX:CXT)(P:Program)(w:World)(K:Frag)(mg:Str->Option Value)(base:Heap)(N:List Str)(qual:Str)(scope:Scope)(f:Addr)(cd:Value)(A:Around)(outer:List Env)(s:Shared)(H:Hp)(E:XK):Cx where
 prog:=P
 w:=w
 K:=K
 mg:=mg
 base:=base
 A:=A.deeper (envOfC qual scope s.heap.objs.size f cd)
 N:=N
 s₀:=s
 H₀:=H
 env:=envOfC qual scope s.heap.objs.size f cd
 outer:=outer
 stack:=envOfC qual scope s.heap.objs.size f cd::outer
 ex:=[]
 calm:=true
 fn:=λ_=>true
 pn:=[]
 xe:=λe s'=>wpAny (model P w) (A.deeper (envOfC qual scope s.heap.objs.size f cd)) (leaving (envOfC qual scope s.heap.objs.size f cd) e) (λ_ s''=>CX outer H s E e s'') (λe' s''=>CX outer H s E e' s'') s'
theorem mW{a:Scope}{n:Nat}{x:Str}(h:a.names.lookup x=some .cell):∃ c,(cellsFrom n a.names []).lookup x=some c:=by
 have q:=cellsFrom_some a.names n [] (.inl h);exact Option.isSome_iff_exists.mp q
theorem kE{CX:CXT}{P:Program}{w:World}{K:Frag}{mg:Str->Option Value}{l:Heap}{N ps:List Str}{g:Str}{scope:Scope}{f:Addr}{F:Value}{A:Around}{d:List Env}{s L:Shared}{H:Hp}{E:XK}{us:List Value}{vs:List V}
  (S:FnScope N ps scope) (W:A.handled=none) (o:Env0 P w K mg l A d s H) (X:vs.length=ps.length) (r:Vals vs us)
  (x:InCallC s s.heap.objs.size (bindL (envOfC g scope s.heap.objs.size f F).kindOf (ps.zip us) λ_=>none) (cellsFrom (s.heap.objs.size+1) scope.names []) (bindC (envOfC g scope s.heap.objs.size f F).kindOf (ps.zip us) λ_=>none) L) :
  Inv (eN CX P w K mg l N g scope f F A d s H E) [] (start N vs) H L:=by
 have T:ps.length<=N.length:=by have:=congrArg List.length S.pre;rw[length_take]at this;lia
 obtain⟨I,Y,rfl,M⟩:=x.done;have B:∀ b:Addr,b ∉ (eN CX P w K mg l N g scope f F A d s H E).ex:=λb z=>absurd (show b∈([]:List Addr) from z) (by simp)
 refine⟨⟨o.mod,S.kind,rfl,rfl,Nat.le_refl _,λy z c I j=>?_,λy hy=>?_,λy c _ h=>?_,λ_=>W,Around.frames_deeper o.frames,.inr ⟨rfl,rfl⟩,λb z=>absurd z (B b),o.bs,o.bsz,λb _ _=>B b,λb z=>absurd z (B b),o.funs,o.frf⟩,
  rfl,o.bare,Un.kept M,⟨_,x.toInCall.ns,λi y v I j Z=>?_⟩,λy c h=>⟨_,x.cell y c h⟩,o.hok.fresh (Nat.le_refl _),λy c h=>?_,λp D=>absurd (show p∈([]:List (Addr×Obj)) from D) (by simp),o.hok.kept M,?_⟩
 .exact name_of_addr x.apart (PySem.mem_of_lookup I) (PySem.mem_of_lookup j)
 .have hy:scope.names.lookup y=some .cell\/scope.names.lookup y=some .free:=hy
  rcases hy with hy | hy
  .exact mW hy
  .exact absurd rfl (S.nofree _ (PySem.mem_of_lookup hy))
 .exact Nat.le_of_lt (x.above y c (PySem.mem_of_lookup h))
 .have G:i<vs.length:=by
   unfold start at j
   by_cases G:i<vs.length
   .exact G
   .rw[List.getElem?_append_right (by simpa using G)]at j
    rw[List.getElem?_replicate]at j
    split at j <;> cases j
  have R:vs[i]? = some v:=by
   unfold start at j;rw[List.getElem?_append_left (by simpa using G),List.getElem?_map]at j;cases e:vs[i]? with
   | none=>rw[e]at j;cases j
   | some a=>rw[e]at j;cases j;rfl
  obtain⟨u,J,Q⟩:=r.get R
  have D:ps[i]? = some y:=by
   rw[<- S.pre,List.getElem?_take_of_lt (by lia)];exact I
  have C:ps.Nodup:=by rw[<- S.pre];exact S.nd.sublist (take_sublist _ _)
  refine⟨u,Q,?_⟩
  rcases S.par y (List.mem_of_getElem? D) with k | k
  .exact .inl ⟨k,ky C D J k⟩
  .obtain⟨c,e⟩:=mW (n:=s.heap.objs.size+1) k
   refine .inr ⟨.inl k,c,e,?_⟩;have q:=x.cell y c e;rw[kD C D J (by show scope.names.lookup y≠_;rw[k];decide)]at q;exact q
 .exact o.hok.fresh (Nat.le_of_lt (x.above y c (PySem.mem_of_lookup h)))
 .unfold start
  show _=N.length;rw[length_append,length_map,List.length_replicate];lia
theorem yn{CX:CXT}{P:Program}{w:World}{K:Frag}{mg:Str->Option Value}{d:Heap}{k:Nat}{f:Addr}{name a:Str}{g:Arguments}{body:List Stmt}{scope:Scope}{dV Z p pm c ct oc:Value}{W od:Option Addr}
  {G:Array (Option Value)}{N ps:List Str}{sp:Sp}(lk:K.lookup f=some ⟨oc,od,.func (fnOf name a g body scope dV Z p pm W c ct),G⟩) (R:codeIn K c a=true) (S:FnScope N ps scope)
  (D:∀ vs H Q E,sp vs H Q E->vs.length=ps.length)
  (i:∀(A:Around) (outer:List Env) (s:Shared) (H:Hp) (vs:List V) (Q:VK) (E:XK),Room k (A.deeper (envOfC a scope s.heap.objs.size f c))->sp vs H Q E ->
   ∃ t,PSs (eN CX P w K mg d N a scope f c A outer s H E) body t/\t { nx:=λ_ H'=>Q .non H',rt:=Q } (start N vs) H) :
  FnOk P w K mg d CX (k+1) f (fnOf name a g body scope dV Z p pm W c ct) ps sp:=by
 refine⟨D,λA outer s H Y us vs Q E L C hb r z=>?_⟩;have hl:=D _ _ _ _ z;have X:K.In s.heap:=C.mod.kin.keeps λb o e=>(C.bs b o e).1
 have T:s.heap.NoLimit:=C.mod.nolimit.keeps λb o e=>(C.bs b o e).1
 have j:∀ y ∈ ps.zip us,scope.names.lookup y.1 = some .local\/(scope.names.lookup y.1 = some .cell/\((cellsFrom (s.heap.objs.size + 1) scope.names []).lookup y.1).isSome = true):=λ⟨n,v⟩ hy=>by
  rcases S.par n (of_mem_zip hy).1 with q | q
  .exact .inl q
  .exact .inr ⟨q,cellsFrom_some _ _ _ (.inl q)⟩
 refine codeAny_call_function L.depth (X _ _ lk) rfl S.co S.gen rfl (codeRec_of X R) (hb _ _ _ _ ?_);refine wpAny_newFunctionEnv_cells S.kind j λab he s1 x=>?_
 subst he;refine⟨T.keeps x.toInCall.keep,codeAny_func ?_⟩;obtain⟨t,ht,hq⟩:=i A outer s H vs Q E (L.deeper _) z;have I:Inv (eN CX P w K mg d N a scope f c A outer s H E) [] (start N vs) H s1:=kE S L.hd C hl r x;refine wpAny_mono (ht [] s1 (start N vs) H _ I hq) (λfl F l=>?_) λe F l=>l
 have B:∀{h:St}{H':Hp}{v:V}{u:Value},Inv (eN CX P w K mg d N a scope f c A outer s H E) [] h H' F->RelV v u->Q v H'->CE outer P w H s Q u F :=
  λ{h H' v u} J M q=>⟨v,H',J.os,J.bare,J.base,J.hok,M,q⟩
 cases fl with
 | ret u =>
  obtain⟨v,h,H',J,M,q⟩:=l;exact B J M q
 | next =>
  obtain⟨h,H',J,q⟩:=l;exact B (v:=V.non) (u:=Value.none) J rfl q
 | brk =>
  obtain⟨_,_,_,q⟩:=l;exact False.elim q
 | cont =>
  obtain⟨_,_,_,q⟩:=l;exact False.elim q
section
variable {X:Cx}{x:Str}{p pos:Pos}{e:Expr}{es:List Expr}{t:TA}{id T:String}{r:List V->Hp->VK->Prop}
def tCB(r:List V->Hp->VK->Prop)(t:TA):TE:=λσ H Q=>t σ H λvs H1=>r vs H1 Q
theorem aD(w:CallR X (.builtin id) r)(f:Gl X x)(g:X.mg x=none)(k:bootBuiltins x=some (.builtin id))(u:PA X (e::es) t)(j:x ≠ "__name__" := by decide)(c:(x == ("__debug__" : Str))=false:=by decide)
  (n:starEach (e::es) X.env=(false,eval e X.env)::starEach es X.env:=by rfl) (b:(backTo pos (starEach es X.env)).any (·.1)=false:=by rfl):PE X (.Call (.Name x p) (e::es) [] pos) (tCB r t):=by
 intro a s d H Q I h;refine wpAny_Call_Name_kw (jd I f g k ?_ j c);exact PyProof.Rows.callWith_builtin1 (thn (u pos a s d H _ I h) λy z ⟨o,v,i,l,q⟩=>w a z d v o y Q i l q) n b
theorem bP(w:CallR X (.type T) r)(f:Gl X x)(g:X.mg x=none)(k:bootBuiltins x=some (.type T))(u:PA X (e::es) t)(j:x ≠ "__name__" := by decide)(c:(x == ("__debug__" : Str))=false:=by decide)
  (n:starEach (e::es) X.env=(false,eval e X.env)::starEach es X.env:=by rfl) (b:(backTo pos (starEach es X.env)).any (·.1)=false:=by rfl):PE X (.Call (.Name x p) (e::es) [] pos) (tCB r t):=by
 intro a s d H Q I h;refine wpAny_Call_Name_kw (jd I f g k ?_ j c);exact PyProof.Rows.callWith_type1 (thn (u pos a s d H _ I h) λy z ⟨o,v,i,l,q⟩=>w a z d v o y Q i l q) n b
end
end L2
namespace HT
open PySem PyProof.Rows
section
open PySem.SeqAt
open PySem.AutoSeq1 (wpAny_loadPart')
open PySem.MeetsSeq PySem.MeetsSeq2 PySem.MeetsSeq3
end
section
variable {prog:Program}{w:World}{A:Around}{E:Value->Shared->Prop}{s:Shared}
theorem cat_tup{t b:Addr}{vs a:List Value}{Q:Value->Shared->Prop}(z:IsTup s.heap t vs.toArray)(v:IsTup s.heap b a.toArray)(k:vs≠[])
  (y:a=[]->Q (.ref t) s) (x:a≠[]->Q (.ref s.heap.objs.size) { s with heap:=s.heap.push { cls:=.type "tuple",data:=.seq (vs++a).toArray } })
  (hsz:vs.length+a.length<=sizeLine):wpAny (model prog w) A (binaryOp .Add (.ref t) (.ref b)) Q E s:=by
 obtain⟨⟨cls,p,data,o⟩,i,r,n,u⟩:=id z;obtain⟨⟨q,f,j,h⟩,c,g,l,d⟩:=id v;simp only at r u g d;subst r u g d;have e:vs.toArray++a.toArray=(vs++a).toArray:=by simp
 by_cases hw:a=[]
 .exact concat_meets ⟨_,i,rfl⟩ ⟨_,c,rfl⟩ noFill_tuple_add seq_tuple_add PySem.F.slot_tuple_add PySem.F.entry_tuple_add (PySem.F.args_tuple_add_2 _ _)
   (tuple_addW1 t b vs.toArray a.toArray n l p f o h (by simpa using k) (by simp[hw])) ⟨i,c,y hw⟩
 .refine concat_meets ⟨_,i,rfl⟩ ⟨_,c,rfl⟩ noFill_tuple_add seq_tuple_add PySem.F.slot_tuple_add PySem.F.entry_tuple_add (PySem.F.args_tuple_add_2 _ _)
   (tuple_addW2 t b vs.toArray a.toArray n l p f o h (by simpa using k) (by simpa using hw) (by rw[size_toArray,size_toArray];exact hsz)) ⟨i,c,?_⟩
  rw[e];exact x hw
def sIx(n d:Nat):Option Int->Nat
 | none=>d
 | some v=>if v<0 then (v+(n:Int)).toNat else min v.toNat n
theorem sIx_le(n d:Nat)(a:d<=n)(o:Option Int):sIx n d o<=n:=by
 cases o with
 | none=>exact a
 | some v =>
  show(if v<0 then (v+(n:Int)).toNat else min v.toNat n)<=n
  by_cases hv:v<0
  .rw[if_pos hv];lia
  .rw[if_neg hv];exact Nat.min_le_right _ _
theorem pJ(v:Int)(n d:Nat):(if v<0 then max (v+(n:Int)) 0 else min v (n:Int))=((sIx n d (some v):Nat):Int):=by
 show(if v<0 then max (v+(n:Int)) 0 else min v (n:Int))=(((if v<0 then (v+(n:Int)).toNat else min v.toNat n):Nat):Int)
 by_cases hv:v<0
 .simp only[if_pos hv];lia
 .simp only[if_neg hv];lia
theorem o7(lo a:Option Int)(n:Nat):Builtin.Slice.sliceAdjust lo a 1 (n:Int)=(((sIx n 0 lo:Nat):Int),((sIx n n a:Nat):Int)):=by
 have b:¬((1:Int)<0):=by lia
 unfold Builtin.Slice.sliceAdjust;simp only[b,if_false];refine Prod.ext ?_ ?_
 .cases lo with
  | none=>rfl
  | some v=>exact pJ v n 0
 .cases a with
  | none=>rfl
  | some v=>exact pJ v n n
theorem oJ(i j:Nat):Builtin.Slice.slicePlaces (i:Int) (j:Int) 1=j - i:=by
 unfold Builtin.Slice.slicePlaces;have a:(1:Int) > 0:=by lia
 simp only[a,if_true,Int.ediv_one]
 split <;> lia
theorem js{v:Value}{o:Option Int}{Q:Option Int->Shared->Prop}(p:IsPart v o)(h:Q o s):wpAny (model prog w) A (Builtin.Slice.slicePartIndex v) Q E s:=by
 cases p with
 | none=>exact slicePart_none h
 | int i t=>exact slicePart_int h
theorem g8{g:Addr}{f d:Value}{lo c:Option Int}{n:Nat}{Q:Int×Int×Nat->Shared->Prop}(k:s.heap.IsSliceOf g f d .none)(pl:IsPart f lo)(i:IsPart d c)
  (h:Q (((sIx n 0 lo:Nat):Int),1,sIx n n c - sIx n 0 lo) s):wpAny (model prog w) A (Builtin.Slice.sliceApplied (.ref g) (pure (n:Int))) Q E s:=by
 obtain⟨l,b,j,a⟩:=id k;unfold Builtin.Slice.sliceApplied Builtin.Slice.sliceFields;refine wpAny_bind (wpAny_bind (wpAny_field b a (x:=f) rfl (wpAny_bind (wpAny_field b a (x:=d) rfl (wpAny_bind (wpAny_field b a (x:=.none) rfl (wpAny_pure ?_)))))));refine wpAny_bind (slicePart_none ?_);show wpAny _ _ (if ((1:Int) == 0)=true then _ else _) _ _ s;rw[if_neg (by decide)];refine wpAny_bind (js pl (wpAny_bind (js i (wpAny_bind (wpAny_pure ?_)))));show wpAny _ _ (match Builtin.Slice.sliceAdjust lo c 1 (n:Int) with | (lo,c)=>pure (lo,(1:Int),Builtin.Slice.slicePlaces lo c 1)) _ _ s;rw[o7 lo c n];show wpAny _ _ (pure (((sIx n 0 lo:Nat):Int),(1:Int),Builtin.Slice.slicePlaces ((sIx n 0 lo:Nat):Int) ((sIx n n c:Nat):Int) 1)) _ _ s;rw[oJ];exact wpAny_pure h
theorem sM(xs:Array Value)(i k:Nat):((List.range k).filterMap λ(m:Nat)=>xs[((i:Int)+(m:Int)*1).toNat]?).toArray=((xs.toList.drop i).take k).toArray:=by
 have e:(λ(m:Nat)=>xs[((i:Int)+(m:Int)*1).toNat]?)=λm=>xs[i+m]?:=by
  funext m
  have:((i:Int)+(m:Int)*1).toNat=i+m:=by lia
  rw[this]
 rw[e];have:=pick_run xs i k;rw[List.filterMap_map]at this;have a:((λx=>xs[x]?) ∘ λx=>i+x)=λm=>xs[i+m]?:=rfl
 rw[a]at this;rw[this]
theorem getItem_tuple_cut{t g:Addr}{items:Array Value}{l k:Value}{lo b:Option Int}{Q:Value->Shared->Prop}(c:IsTup s.heap t items)(n:s.heap.IsSliceOf g l k .none)(pl:IsPart l lo)(r:IsPart k b)
  (o:¬(sIx items.size 0 lo=0/\sIx items.size items.size b=items.size))
  (h:Q (.ref s.heap.objs.size) { s with heap:=s.heap.push { cls:=.type "tuple",data:=.seq ((items.toList.drop (sIx items.size 0 lo)).take (sIx items.size items.size b - sIx items.size 0 lo)).toArray } })
  (hsz:items.size<=sizeLine):wpAny (model prog w) A (getItem (.ref t) (.ref g)) Q E s:=by
 have a:sizeOk (.seq ((items.toList.drop (sIx items.size 0 lo)).take (sIx items.size items.size b - sIx items.size 0 lo)).toArray):=by
  show((items.toList.drop (sIx items.size 0 lo)).take (sIx items.size items.size b - sIx items.size 0 lo)).toArray.size<=sizeLine;rw[size_toArray,length_take,length_drop,Array.length_toList];lia
 have x:sIx items.size items.size b<=items.size:=sIx_le _ _ (Nat.le_refl _) b;obtain⟨u,i,f,p⟩:=id n;have d:s.TypeIs (.ref g) "slice" := ⟨u,i,f⟩;unfold getItem
 try with_reducible refine wpAny_holding ?_
 first | refine wpAny_bind (wpAny_pure ?_) | skip
 refine wpAny_bind (wpAny_sequenceKey c.typeIs (by decide) ?_)
 refine wpAny_bind (wpAny_callSpecial?_slot (name:=Str.ofString "__getitem__") c.typeIs PyProof.Rows.slot_tuple_getitem
  (wpAny_call_entry PyProof.Rows.slot_tuple_getitem c.typeIs entry_tuple_getitem ?_ (args_tuple_getitem _ _)))
 show wpAny _ _ (Builtin.Tuple.tupleItemsOf (.ref t) >>= _) _ _ s;refine wpAny_bind (tupleItemsOf_ c ?_);refine wpAny_bind (wpAny_typeOf d ?_);rw[if_pos (by decide)];refine wpAny_bind (g8 n pl r ?_)
 have j:¬((((sIx items.size 0 lo:Nat):Int) == 0 && (1:Int) == 1 && (sIx items.size items.size b - sIx items.size 0 lo) == items.size)=true):=by
  intro q;rw[Bool.and_eq_true,Bool.and_eq_true]at q;have v:((sIx items.size 0 lo:Nat):Int)=0:=eq_of_beq q.1.1;have y:sIx items.size items.size b - sIx items.size 0 lo=items.size:=eq_of_beq q.2;exact o ⟨by lia,by lia⟩
 show wpAny _ _ (if (((sIx items.size 0 lo:Nat):Int) == 0 && (1:Int) == 1 && (sIx items.size items.size b - sIx items.size 0 lo) == items.size)=true then _ else _) _ _ s;rw[if_neg j,sM]
 first
  | exact wpAny_bind (m:=Builtin.Tuple.tupleExact _) (wpAny_newObj_type (wpAny_pure ⟨_,rfl,wpAny_pure h⟩) a)
  | exact wpAny_bind (m:=Builtin.Tuple.tupleExact _) (wpAny_newObj_type (wpAny_bind (wpAny_pure (wpAny_pure ⟨_,rfl,wpAny_pure h⟩))) a)
  | exact wpAny_bind (wpAny_bind (m:=Builtin.Tuple.tupleExact _) (wpAny_newObj_type (wpAny_pure (wpAny_pure ⟨_,rfl,wpAny_pure h⟩)) a))
  | exact wpAny_bind (wpAny_bind (m:=Builtin.Tuple.tupleExact _) (wpAny_newObj_type (wpAny_pure ⟨_,rfl,wpAny_pure h⟩) a))
end
end HT
namespace L2
open PySem PySem.Spec PyProof.Rows
abbrev TO:=St->Hp->(Option Int->Hp->Prop)->Prop
def PO(X:Cx)(e:Option Expr)(t:TO):Prop :=
 ∀(pins:List (Addr×Obj)) (s:Shared) (σ:St) (H:Hp) (Q:Option Int->Hp->Prop),Inv X pins σ H s->t σ H Q ->
  wpAny (model X.prog X.w) X.A (evalPart e X.env) (λu s'=>∃ o H',Inv X pins σ H' s'/\IsPart u o/\Q o H') X.xe s
def An(t:TE):TO:=λσ H Q=>t σ H λx H1=>∃ i,x=.int i/\Q (some i) H1
section
variable {X:Cx}{e:Expr}{te:TE}{lo hi:Option Expr}{tl th:TO}{pos p2:Pos}
theorem pq(h:PE X e te):PO X (some e) (An te):=by
 intro a s d H Q I b;rw[evalPart_some];refine thn (h a s d H _ I b) λu k ⟨x,j,c,f,g⟩=>?_
 obtain⟨i,rfl,q⟩:=g;obtain⟨t,rfl⟩:=f;exact⟨some i,j,c,.int i t,q⟩
def SlR(X:Cx)(r:V->Option Int->Option Int->Hp->VK->Prop):Prop :=
 ∀(pins:List (Addr×Obj)) (s:Shared) (σ:St) (H:Hp) (x:V) (v vl vu:Value) (lo hi:Option Int) (sl:Addr) (Q:VK),Inv X pins σ H s->RelV x v->s.heap.IsSliceOf sl vl vu .none->IsPart vl lo->IsPart vu hi->r x lo hi H Q ->
  ∃ T id,typeLookup (.type T) "__getitem__" = pure (some (.builtin id))/\s.TypeIs v T/\wpAny (model X.prog X.w) X.A (getItem v (.ref sl)) (EP X pins σ Q) X.xe s
theorem SlR.or{r k:V->Option Int->Option Int->Hp->VK->Prop}(h:SlR X r)(h':SlR X k):SlR X (λx lo hi H Q=>r x lo hi H Q\/k x lo hi H Q):=by
 intro a s i H x v j d lo hi b Q I f l g c q
 rcases q with q | q
 .exact h a s i H x v j d lo hi b Q I f l g c q
 .exact h' a s i H x v j d lo hi b Q I f l g c q
def tSl(r:V->Option Int->Option Int->Hp->VK->Prop)(te:TE)(tl th:TO):TE:=λσ H Q=>te σ H λx H1=>tl σ H1 λl H2=>th σ H2 λu H3=>r x l u H3 Q
theorem vt{r:V->Option Int->Option Int->Hp->VK->Prop}(f:SlR X r)(F:PE X e te)(k:PO X lo tl)(y:PO X hi th):PE X (.Subscript e (.Slice lo hi none p2) pos) (tSl r te tl th):=by
 intro a s c H Q I h;refine Subscript_ (thn (F a s c H _ I h) λv B ⟨x,i,C,o,g⟩=>?_);refine wpAny_Slice (thn (k a B c i _ C g) λd n ⟨l,z,w,E,p⟩=>thn (y a n c z _ w p) λvu s3 ⟨u,H3,I3,pu,q3⟩=>?_);rw[evalPart_none];refine wpAny_pure ?_;have A:Inv X a c H3 { s3 with heap:=s3.heap.push { cls:=.type "slice",data:=.fields #[d,vu,.none] } }:=I3.kept (t':=s3.toks) λb K q=>Heap.get?_push_of_some _ q
 obtain⟨T,J,D,G,j⟩:=f a { s3 with heap:=s3.heap.push { cls:=.type "slice",data:=.fields #[d,vu,.none] } } c H3 x v d vu l u s3.heap.objs.size Q A o (Heap.IsSliceOf.new ..) E pu q3;show wpAny (model X.prog X.w) X.A (subscriptTail e (.Slice lo hi none p2) v (.ref s3.heap.objs.size)) (EP X a c Q) X.xe { s3 with heap:=s3.heap.push { cls:=.type "slice",data:=.fields #[d,vu,.none] } };exact tail_any (ops:=[.ref s3.heap.objs.size,v]) G D j (by with_unfolding_all rfl)
def fF(xs:List V)(lo hi:Option Int):List V:=(xs.drop (HT.sIx xs.length 0 lo)).take (HT.sIx xs.length xs.length hi - HT.sIx xs.length 0 lo)
theorem fu(xs:List V)(lo a:Option Int):(fF xs lo a).length<=xs.length:=by
 unfold fF;rw[length_take,length_drop];lia
def BY(K:Frag):V->Option Int->Option Int->Hp->VK->Prop:=λx lo hi H Q=>∃ a xs,x=.ref a/\SqT K H a xs /\
 ¬(HT.sIx xs.length 0 lo=0/\HT.sIx xs.length xs.length hi=xs.length)/\∀ p,H p=none->Q (.ref p) (upd H p (.tup (fF xs lo hi)))
theorem sl_tup:SlR X (BY X.K):=by
 intro k s B H x v E D f g A Q I p z w u h;obtain⟨a,d,rfl,y,n,q⟩:=h;cases p;obtain⟨i,r,l,j⟩:=I.tuple y;have c:i.toArray.size=d.length:=by rw[size_toArray];exact r.length.symm
 refine⟨"tuple",_,PyProof.Rows.slot_tuple_getitem.lookup,l.typeIs,?_⟩;refine HT.getItem_tuple_cut l z w u (by rw[c];exact n) ?_ (by rw[c];exact j);rw[c];refine⟨.ref s.heap.objs.size,_,I.laid (t':=s.toks) (o:=.tup (fF d f g)) (λb C q=>Heap.get?_push_of_some _ q) (Nat.le_refl _) ?_,rfl,q _ (I.hok.fresh (Nat.le_refl _))⟩;exact⟨Nat.le_trans (fu d f g) j,_,(r.drop (HT.sIx d.length 0 f)).take (HT.sIx d.length d.length g - HT.sIx d.length 0 f),IsTup.new _ _⟩
def ue(K:Frag):R2:=λx y H Q=>∃ a b xs ys,x=.ref a/\y=.ref b/\SqT K H a xs/\SqT K H b ys/\xs≠[]/\xs.length+ys.length<=sizeLine /\
 (ys=[]->Q (.ref a) H)/\(ys≠[]->∀ p,H p=none->Q (.ref p) (upd H p (.tup (xs++ys))))
theorem Vals.nil_iff{xs:List V}{us:List Value}(r:Vals xs us):us=[]↔xs=[]:=by
 cases r with
 | nil=>simp
 | cons _ _=>simp
theorem wK:OpR X (binaryOp .Add) (ue X.K):=by
 intro g s G H x y v u Q I k C h;obtain⟨a,b,j,A,rfl,rfl,E,p,F,f,n,B⟩:=h;cases k;cases C;obtain⟨D,d,l,_⟩:=I.tuple E;obtain⟨i,c,r,_⟩:=I.tuple p;refine HT.cat_tup l r (λz=>F (d.nil_iff.mp z)) (λz=>⟨.ref a,H,I,rfl,n (c.nil_iff.mp z)⟩) (λz=>?_) (by rw[<- d.length,<- c.length];exact f);refine⟨.ref s.heap.objs.size,_,I.laid (t':=s.toks) (o:=.tup (j++A)) (λb J q=>Heap.get?_push_of_some _ q) (Nat.le_refl _) ?_,rfl,B (λw=>z (c.nil_iff.mpr w)) _ (I.hok.fresh (Nat.le_refl _))⟩;exact⟨by rw[length_append];exact f,_,d.append c,IsTup.new _ _⟩
end
def ixN(n:Nat)(i:Int):Option Nat:=if 0<=i then (if i<n then some i.toNat else none) else if -(n:Int)<=i then some (i+n).toNat else none
def atI{α:Type}(xs:List α)(i:Int):Option α:=(ixN xs.length i).bind λj=>xs[j]?
theorem qD{n:Nat}{i:Int}{j:Nat}(h:ixN n i=some j):seqIndex? i n=some j/\j<n/\-(n:Int)<=i/\i<n:=by
 unfold ixN at h
 by_cases h0:0<=i
 .rw[if_pos h0]at h
  by_cases h1:i<n
  .rw[if_pos h1]at h
   have e:i.toNat=j:=Option.some.inj h;exact⟨by rw[seqIndex_of h0 h1,e],by lia,by lia,h1⟩
  .rw[if_neg h1]at h;cases h
 .rw[if_neg h0]at h
  by_cases h1:-(n:Int)<=i
  .rw[if_pos h1]at h
   have e:(i+n).toNat=j:=Option.some.inj h;exact⟨by rw[seqIndex_neg (by lia) h1,e],by lia,h1,by lia⟩
  .rw[if_neg h1]at h;cases h
theorem lL{a:Type}{xs:List a}{i:Int}{v:a}(h:atI xs i=some v):∃ j,seqIndex? i xs.length=some j/\xs[j]? = some v/\j<xs.length/\-(xs.length:Int)<=i/\i<xs.length:=by
 unfold atI at h;cases e:ixN xs.length i with
 | none=>rw[e]at h;cases h
 | some j =>
  rw[e]at h;obtain⟨c,b,d,f⟩:=qD e;exact⟨j,c,h,b,d,f⟩
theorem gj{a:Type}{xs:List a}{j:Nat}{v:a}(h:xs[j]? = some v):atI xs (j:Int)=some v:=by
 have b:j<xs.length:=(List.getElem?_eq_some_iff.mp h).1
 have e:ixN xs.length (j:Int)=some j:=by
  unfold ixN;rw[if_pos (by lia),if_pos (by lia)];simp
 unfold atI;rw[e];exact h
def p6(b:Expr):Prop:=∀ o i,subscripted b false o i=operate [o,i] (getItem o i)
def IxR(X:Cx)(r:R2):Prop :=
 ∀(value slice:Expr) (pins:List (Addr×Obj)) (s:Shared) (σ:St) (H:Hp) (x y:V) (v u:Value) (Q:VK),Inv X pins σ H s->RelV x v->RelV y u->r x y H Q ->
  subscripted slice false v u=operate [v,u] (getItem v u)->wpAny (model X.prog X.w) X.A (subscriptTail value slice v u) (EP X pins σ Q) X.xe s
def MtR(X:Cx)(id:String)(r:V->List V->Hp->VK->Prop):Prop :=
 ∀(pins:List (Addr×Obj)) (s:Shared) (σ:St) (H:Hp) (x:V) (xs:List V) (v:Value) (us:List Value) (Q:VK),Inv X pins σ H s->RelV x v->Vals xs us->r x xs H Q ->
  wpAny (model X.prog X.w) X.A (call (.builtin id) (v::us)) (EP X pins σ Q) X.xe s
section
variable {X:Cx}{a b:Expr}{ta tb:TE}{pos:Pos}
theorem IxR.or{r i:R2}(h:IxR X r)(h':IxR X i):IxR X (λx y H Q=>r x y H Q\/i x y H Q):=by
 intro a b c s g H x y v u Q I f d q j
 rcases q with q | q
 .exact h a b c s g H x y v u Q I f d q j
 .exact h' a b c s g H x y v u Q I f d q j
theorem cD{r:R2}(l:IxR X r)(o:PE X a ta)(d:PE X b tb)(p:p6 b):PE X (.Subscript a b pos) (tOp r ta tb):=by
 intro c s n H Q I h;exact Subscript_ (zx o d I h λv u k x y i f j g q=>l a b c k n i x y v u Q f j g q (p _ _))
inductive rIxL(K:Frag)(x y:V)(H:Hp)(Q:VK):Prop
 | mk(p:Addr)(xs:List V)(i:Int)(v:V)(h0:x=.ref p)(h1:y=.int i)(h2:SqL K H p xs)(h3:atI xs i=some v)(h4:Q v H):rIxL K x y H Q
inductive rIxT(K:Frag)(x y:V)(H:Hp)(Q:VK):Prop
 | mk(p:Addr)(xs:List V)(i:Int)(v:V)(h0:x=.ref p)(h1:y=.int i)(h2:SqT K H p xs)(h3:atI xs i=some v)(h4:Q v H):rIxT K x y H Q
def AS:R2:=λx y H Q=>∃ z i c,x=.str z/\y=.int i/\z.length<=sizeLine/\atI z.cps.toList i=some c/\Q (.str ⟨#[c]⟩) H
theorem ix_list:IxR X (rIxL X.K):=by
 intro d g a s A H x y v u Q I D K h B;obtain⟨p,N,i,z,rfl,rfl,E,M,q⟩:=h;cases D;obtain⟨t,rfl⟩:=K;obtain⟨l,r,n,P⟩:=I.list E;obtain⟨j,c,F,T,L,J⟩:=lL M;obtain⟨w,o,k⟩:=r.get F;have G:=r.length;have R:=gx
 have b:EP X a A Q w s:=⟨z,H,I,k,q⟩
 by_cases h0:0<=i
 .have f:i.toNat=j:=by
   rw[seqIndex_of h0 J]at c;exact Option.some.inj c
  exact item_listR n.isList h0 (by lia) (by rw[f];simpa using o) b B
 .have f:(i+(l.toArray.size:Int)).toNat=j:=by
   rw[seqIndex_neg (by lia) L]at c;rw[size_toArray,<- G];exact Option.some.inj c
  exact subscriptTail_builtinR (x:=w) n.isList.typeIs slot_list_getitem.lookup
   (wpAny_getItem_list_neg (Q:=λr C=>r=w/\EP X a A Q r C) n.isList (by lia) (by rw[size_toArray] <;> lia) (by lia) (by rw[f];simpa using o) ⟨rfl,b⟩) B
theorem ix_tup:IxR X (rIxT X.K):=by
 intro b c a s g H x y v u Q I n D h J;obtain⟨p,K,i,z,rfl,rfl,A,G,q⟩:=h;cases n;obtain⟨t,rfl⟩:=D;obtain⟨E,r,k,L⟩:=I.tuple A;obtain⟨j,F,B,R,P,N⟩:=lL G;obtain⟨w,o,d⟩:=r.get B;have C:=r.length;have M:=gx
 have f:EP X a g Q w s:=⟨z,H,I,d,q⟩
 exact subscriptTail_builtinR (x:=w) k.typeIs slot_tuple_getitem.lookup
  (getItem_tuple (j:=j) (Q:=λr l=>r=w/\EP X a g Q r l) k (by lia) (by lia) (by rw[size_toArray,<- C];exact F) (by simpa using o) ⟨rfl,f⟩) J
theorem yH:IxR X AS:=by
 intro a b d s E H x y v u Q I g p h A;obtain⟨z,i,c,rfl,rfl,C,w,q⟩:=h;obtain⟨t,rfl⟩:=g;obtain⟨G,rfl⟩:=p;obtain⟨j,f,l,F,r,o⟩:=lL w;have n:z.cps.toList.length=z.length:=by simp[Str.length]
 rw[n]at f r o;have D:=gx
 exact tail_any (typeIs_str s z t) slot_str_getitem.lookup (getItem_str (c:=c) (by
  have B:decide (i < -(2 ^ 63:Int))=false:=decide_eq_false (by lia);have k:decide (i >= 2 ^ 63)=false:=decide_eq_false (by lia)
  rw[B,k,Bool.or_false]) (by rw[f];simpa using l) ⟨.str ⟨#[c]⟩,H,I.tok _,⟨_,rfl⟩,q⟩) A
def rIx(K:Frag):R2:=λx y H Q=>rIxL K x y H Q\/rIxT K x y H Q\/AS x y H Q
theorem bN:IxR X (rIx X.K):=ix_list.or (ix_tup.or yH)
theorem oB(its:List Value)(n j:Nat)(u:Value):Obj.mapSeq (·.setIfInBounds j u) { cls:=.type "list",data:=.seq its.toArray n }={ cls:=.type "list",data:=.seq (its.set j u).toArray n }:=by
 simp[Obj.mapSeq]
theorem Inv.lst{a:List (Addr×Obj)}{b:St}{H:Hp}{s:Shared}{p:Addr}{xs:List V}(I:Inv X a b H s)(h:H p=some (.lst xs)) :
  ∃(its:List Value) (n:Nat),Vals xs its/\s.heap.get? p=some { cls:=.type "list",data:=.seq its.toArray n }/\xs.length<=sizeLine:=by
 obtain⟨z,its,n,r,e⟩:=I.hok p _ h;exact⟨its,n,r,e,z⟩
theorem Inv.lstUpd{a:List (Addr×Obj)}{d:St}{H:Hp}{s:Shared}{p:Addr}{xs ys:List V}{its its':List Value}{n c:Nat}{f:Obj->Obj}(I:Inv X a d H s)(h:H p=some (.lst xs))
  (j:s.heap.get? p=some { cls:=.type "list",data:=.seq its.toArray n }) (g:f { cls:=.type "list",data:=.seq its.toArray n }={ cls:=.type "list",data:=.seq its'.toArray c }) (r:Vals ys its') (hz:ys.length<=sizeLine) (t:Nat) :
  Inv X a d (upd H p (.lst ys)) { s with heap:=s.heap.update p f,toks:=t }:=by
 have e:(s.heap.update p f).get? p=some { cls:=.type "list",data:=.seq its'.toArray c }:=by
  rw[Heap.get?_update_self f j (by rw[g] <;> rfl),g]
 refine I.write (x:=p) (e:=p) (by rw[h];trivial) (.inl rfl) (λb u i q=>(Heap.get?_update_other _ _ (Ne.symm i)).trans q) ⟨_,e⟩ ?_;exact⟨hz,its',c,r,e⟩
def Bk:V->V->V->Hp->(Hp->Prop)->Prop:=λo i v H Q=>∃ p xs k j,o=.ref p/\i=.int k/\H p=some (.lst xs)/\ixN xs.length k=some j/\Q (upd H p (.lst (xs.set j v)))
theorem vf:AK X Bk:=by
 intro a s E H o i v L K u Q I F D C h;obtain⟨p,z,k,j,rfl,rfl,y,A,q⟩:=h;cases F;obtain⟨t,rfl⟩:=D;obtain⟨b,n,r,f,B⟩:=I.lst y;obtain⟨c,G,x,w⟩:=qD A;have d:=r.length;have J:=gx
 have l:Inv X a E (upd H p (.lst (z.set j v))) { s with heap:=s.heap.update p (Obj.mapSeq (·.setIfInBounds j u)) } :=
  I.lstUpd y f (oB b n j u) (r.set C j) (by rw[List.length_set];exact B) s.toks
 by_cases h0:0<=k
 .have g:k.toNat=j:=by
   rw[seqIndex_of h0 w]at c;exact Option.some.inj c
  exact PySem.W.ki_setAt f h0 (by lia) (by rw[size_toArray,<- d];exact w) (by rw[g];exact⟨_,l,q⟩)
 .have g:(k+(b.toArray.size:Int)).toNat=j:=by
   rw[seqIndex_neg (by lia) x]at c;rw[size_toArray,<- d];exact Option.some.inj c
  exact PySem.W.ki_setBack f (by lia) (by rw[size_toArray,<- d];exact x) (by lia) (by rw[g];exact⟨_,l,q⟩)
theorem kK(lo a:Option Int)(n:Nat):(sliceBounds lo a none n).1=((HT.sIx n 0 lo:Nat):Int)/\(sliceBounds lo a none n).2.1=((HT.sIx n n a:Nat):Int)/\(sliceBounds lo a none n).2.2=1:=by
 refine⟨?_,?_,rfl⟩
 .cases lo with
  | none=>simp[sliceBounds,HT.sIx]
  | some i =>
   simp only[sliceBounds,HT.sIx,Option.getD_none,show(1:Int) > 0 by decide,if_true]
   by_cases h:i<0
   .simp only[h,if_true] <;> lia
   .simp only[h,if_false] <;> lia
 .cases a with
  | none=>simp[sliceBounds,HT.sIx]
  | some i =>
   simp only[sliceBounds,HT.sIx,Option.getD_none,show(1:Int) > 0 by decide,if_true]
   by_cases h:i<0
   .simp only[h,if_true] <;> lia
   .simp only[h,if_false] <;> lia
theorem jS(its:List Value)(lo a:Option Int):slicePick its.toArray lo a none=((its.drop (HT.sIx its.length 0 lo)).take (HT.sIx its.length its.length a - HT.sIx its.length 0 lo)).toArray:=by
 obtain⟨c,b,d⟩:=kK lo a its.toArray.size;unfold slicePick;rw[c,b,d]
 simp only[sliceRange_one,pick_run,size_toArray] <;> rfl
def BI(K:Frag):V->Option Int->Option Int->Hp->VK->Prop:=λx lo hi H Q=>∃ a xs,x=.ref a/\SqL K H a xs/\∀ p,H p=none->Q (.ref p) (upd H p (.lst (fF xs lo hi)))
theorem sl_list:SlR X (BI X.K):=by
 intro i s C H x v D A f g z Q I l y n k h;obtain⟨a,c,rfl,u,q⟩:=h;cases l;obtain⟨p,r,j,w⟩:=I.list u;have d:=r.length;refine⟨"list",_,slot_list_getitem.lookup,j.isList.typeIs,?_⟩;refine wpAny_getItem_list_slice j.isList y n k .none (by simp) ?_ (by rw[size_toArray] <;> lia);rw[jS,<- d];refine⟨.ref s.heap.objs.size,_,I.laid (t':=s.toks) (o:=.lst (fF c f g)) (λb B q=>Heap.get?_push_of_some _ q) (Nat.le_refl _) ?_,rfl,q _ (I.hok.fresh (Nat.le_refl _))⟩;exact⟨Nat.le_trans (fu c f g) w,_,0,(r.drop (HT.sIx c.length 0 f)).take (HT.sIx c.length c.length g - HT.sIx c.length 0 f),Heap.get?_push_size _ rfl⟩
theorem lU:CallR X (.builtin "len") (λxs H Q=>∃ p ys,xs=[.ref p]/\(SqL X.K H p ys\/SqT X.K H p ys)/\Q (.int ys.length) H):=by
 intro f s k H xs l Q I r h;obtain⟨p,ys,rfl,hq,q⟩:=h;obtain⟨u,rfl,g⟩:=fK r;cases g;have j:=gx
 rcases hq with hq | hq
 .obtain⟨c,d,b,i⟩:=I.list hq
  have a:=d.length;exact Calls.call_len_list b.isList (by simp only[size_toArray] <;> lia) ⟨.int ys.length,H,I.tok _,⟨s.toks+1,by rw[size_toArray,a]⟩,q⟩
 .obtain⟨c,d,b,i⟩:=I.tuple hq
  have a:=d.length;exact len_tuple b (by simp only[size_toArray] <;> lia) ⟨.int ys.length,H,I.tok _,⟨s.toks+1,by rw[size_toArray,a]⟩,q⟩
theorem call_len_str:CallR X (.builtin "len") (λxs H Q=>∃ z,xs=[.str z]/\z.length<=sizeLine/\Q (.int z.length) H):=by
 intro a s c H xs f Q I r h;obtain⟨z,rfl,d,q⟩:=h;obtain⟨u,rfl,t,rfl⟩:=fK r;have b:=gx;exact len_str (by lia) ⟨.int z.length,H,I.tok _,⟨_,rfl⟩,q⟩
theorem CallR.or{f:Value}{r d:List V->Hp->VK->Prop}(h:CallR X f r)(h':CallR X f d):CallR X f (λxs H Q=>r xs H Q\/d xs H Q):=by
 intro a s c H xs g Q I b q
 rcases q with q | q
 .exact h a s c H xs g Q I b q
 .exact h' a s c H xs g Q I b q
inductive rListOf(K:Frag)(xs:List V)(H:Hp)(Q:VK):Prop
 | mk(p:Addr)(ys:List V)(h0:xs=[.ref p])(h1:SqL K H p ys\/SqT K H p ys)(h2:∀ l,H l=none->Q (.ref l) (upd H l (.lst ys))):rListOf K xs H Q
theorem fh:CallR X (.type "list") (rListOf X.K):=by
 intro k s B H C D Q I r h;obtain⟨p,x,rfl,hq,q⟩:=h;obtain⟨u,rfl,A⟩:=fK r;cases A
 have g:∀(a:List Value),Vals x a->x.length<=sizeLine->∀(c:Heap) (d:Nat),(∀ b o',s.heap.get? b=some o'->c.get? b=some o') ->
   c.get? s.heap.objs.size=some { cls:=.type "list",dict:=none,data:=.seq a.toArray d,slots:=#[] }->EP X k B Q (.ref s.heap.objs.size) { s with heap:=c }:=λa f l c d j e =>
  ⟨.ref s.heap.objs.size,_,I.laid (t':=s.toks) j (Nat.le_refl _) (show ObjOk X.prog X.w _ c _ (.lst x) from⟨l,a,d,f,e⟩),rfl,q _ (I.hok.fresh (Nat.le_refl _))⟩
 rcases hq with hq | hq
 .obtain⟨a,f,y,l⟩:=I.list hq
  have i:=f.length;obtain⟨o,v,z,n,w⟩:=y.isList;exact call_list_seq p (.inl rfl) v z w (λc d j e=>g a f l c d j e) (by simp only[size_toArray] <;> lia)
 .obtain⟨a,f,y,l⟩:=I.tuple hq
  have i:=f.length;obtain⟨o,v,z,n,w⟩:=y;exact call_list_seq p (.inr rfl) v z w (λc d j e=>g a f l c d j e) (by simp only[size_toArray] <;> lia)
theorem bz:CallR X (.type "tuple") (λxs H Q=>∃ p ys,xs=[.ref p]/\((SqL X.K H p ys/\∀ l,H l=none->Q (.ref l) (upd H l (.tup ys)))\/(SqT X.K H p ys/\Q (.ref p) H))):=by
 intro a s n H xs z Q I r h;obtain⟨p,ys,rfl,h⟩:=h;obtain⟨u,rfl,y⟩:=fK r;cases y
 rcases h with⟨i,q⟩ | ⟨i,q⟩
 .obtain⟨c,g,f,v⟩:=I.list i
  have k:=g.length;refine call_tuple_list f.isList (λd x=>?_) (by simp only[size_toArray] <;> lia);have j:Inv X a n H { s with heap:=d }:=I.kept (t':=s.toks) x
  have w:Inv X a n (upd H d.objs.size (.tup ys)) { s with heap:=d.push { cls:=.type "tuple",data:=.seq c.toArray } } :=
   j.laid (t':=s.toks) (λb o e=>Heap.get?_push_of_some _ e) (Nat.le_refl _) (show ObjOk X.prog X.w _ _ _ (.tup ys) from⟨v,c,g,IsTup.new _ _⟩)
  exact⟨.ref d.objs.size,_,w,rfl,q _ (j.hok.fresh (Nat.le_refl _))⟩
 .obtain⟨c,g,f,v⟩:=I.tuple i
  exact call_tuple_same f ⟨.ref p,H,I,rfl,q⟩
def tyV(K:Frag)(T:String)(x:V)(H:Hp):Prop:=match x with
 | .str _=>T = "str"
 | .int _=>T = "int"
 | .ref p=>(T = "list" /\ ∃ xs,SqL K H p xs)\/(T = "tuple" /\ ∃ o,K.lookup p=some o/\o.cls=.type "tuple" /\ o.dict=none) \/
   (T = "dict" /\ ((∃ kvs,H p=some (.dK kvs))\/∃ kvs,H p=some (.dT kvs)))\/(T = "set" /\ ∃ S n,H p=some (.set S n))
 | _=>False
theorem vc{f:List (Addr×Obj)}{q:St}{H:Hp}{s:Shared}{T:String}{x:V}{v:Value}(I:Inv X f q H s)(r:RelV x v)(ty:tyV X.K T x H) :
  s.TypeIs v T/\∀ a,v=.ref a->∃ ob,s.heap.get? a=some ob/\ob.dict=none:=by
 cases x with
 | str z =>
  obtain⟨t,rfl⟩:=r;cases(show T = "str" from ty);exact⟨typeIs_str s z t,λ_ e=>nomatch e⟩
 | int i =>
  obtain⟨t,rfl⟩:=r;cases(show T = "int" from ty);exact⟨typeIs_int s i t,λ_ e=>nomatch e⟩
 | ref p =>
  cases r
  rcases ty with⟨rfl,y,w⟩ | ⟨rfl,o,b,l,h⟩ | ⟨rfl,b⟩ | ⟨rfl,S,n,b⟩
  .obtain⟨u,_,k,_⟩:=I.list w
   refine⟨k.isList.typeIs,λa e=>?_⟩;cases e;obtain⟨o,n,e,c,h,_⟩:=k;exact⟨o,e,h⟩
  .refine⟨⟨o,I.kIn p o b,l⟩,λa e=>?_⟩
   cases e;exact⟨o,I.kIn _ o b,h⟩
  .have z:∃ o,s.heap.get? p=some o/\o.ExactDict:=by
    rcases b with⟨g,b⟩ | ⟨g,b⟩
    .obtain⟨_,_,_,_,o,_,_,e,d,_⟩:=I.hok p _ b
     exact⟨o,e,d⟩
    .obtain⟨_,_,_,_,o,_,_,e,d,_⟩:=I.hok p _ b
     exact⟨o,e,d⟩
   obtain⟨o,e,d⟩:=z;refine⟨⟨o,e,d.1⟩,λa j=>?_⟩;cases j;exact⟨o,e,d.2.1⟩
  .obtain⟨o,_,_,_,e,d,_⟩:=I.hok p _ b
   refine⟨⟨o,e,d.1⟩,λa j=>?_⟩;cases j;exact⟨o,e,d.2.1⟩
 | _=>exact False.elim ty
def zp(K:Frag)(T:String)(r:V->List V->Hp->VK->Prop)(to:TE):TE:=λσ H Q=>to σ H λx H1=>tyV K T x H1/\r x [] H1 Q
def tBM(K:Frag)(T:String)(r:V->List V->Hp->VK->Prop)(to:TE)(t:TA):TE:=λσ H Q=>to σ H λx H1=>tyV K T x H1/\t σ H1 λxs H2=>r x xs H2 Q
variable {o e:Expr}{es:List Expr}{to:TE}{t:TA}{name:Str}{apos cpos:Pos}{T id:String}{r:V->List V->Hp->VK->Prop}
theorem uz(u:PlainAttrs T)(d:Slot T name id)(f:typeOf (.builtin id)=pure (.type "method_descriptor"))(n:MtR X id r)(q:PE X o to)
  (b:attributeBase o name X.env (eval o X.env)=eval o X.env:=by rfl) (c:(apos.endLine == cpos.line)=true:=by rfl):PE X (.Call (.Attribute o name apos) [] [] cpos) (zp X.K T r to):=by
 intro a s i H Q I h;refine wpAny_Call_method0_late b c (thn (q a s i H _ I h) λv z ⟨x,y,g,j,k,w⟩=>?_);obtain⟨p,l⟩:=vc g j k;exact⟨T,id,u,d,f,p,l,Calls.callWith_builtin rfl (PySem.evalArgs_none (n a z i y x [] v [] Q g j .nil w))⟩
theorem yc(B:PlainAttrs T)(f:Slot T name id)(i:typeOf (.builtin id)=pure (.type "method_descriptor"))(D:MtR X id r)(M:PE X o to)(J:PA X (e::es) t)
  (d:attributeBase o name X.env (eval o X.env)=eval o X.env:=by rfl)
  (g:((backTo cpos (starEach (e::es) X.env)).all (λx=>!x.1) && (backToKw cpos (keywordEach [] X.env)).all (λx=>x.1.isSome)
   && decide ((e::es).length+([]:List Keyword).length+(if ([]:List Keyword).isEmpty then 0 else 1)<30))=true:=by rfl)
  (c:(apos.endLine == cpos.line)=true:=by rfl) (N:starEach (e::es) X.env=(false,eval e X.env)::starEach es X.env:=by rfl) (b:(backTo cpos (starEach es X.env)).any (·.1)=false:=by rfl) :
  PE X (.Call (.Attribute o name apos) (e::es) [] cpos) (tBM X.K T r to t):=by
 intro a s j H Q I h;refine wpAny_Call_method_late d g c rfl (thn (M a s j H _ I h) λv K ⟨x,w,l,k,p,u⟩=>?_);obtain⟨L,z⟩:=vc l k p;refine⟨T,id,B,f,i,L,z,?_⟩;have n:=J cpos a K j w _ l u;rw[N]at n ⊢;refine Calls.callWith_builtin (by show(false || (backTo cpos (starEach es X.env)).any (·.1))=false;rw[b] <;> rfl) (Calls.evalArgs_plain ?_);exact thn n λy A ⟨G,F,E,q,C⟩=>D a A j F x G v y Q E k q C
end
def MtM(X:Cx)(id:String)(r:V->List V->Hp->VK->Prop):Prop :=
 ∀(pins:List (Addr×Obj)) (s:Shared) (σ:St) (H:Hp) (x:V) (xs:List V) (v:Value) (us:List Value) (Q:VK),Inv X pins σ H s->RelV x v->Vals xs us->r x xs H Q ->
  wpAny (model X.prog X.w) X.A (call (.builtin id) (v::us)) (EP X pins σ Q) X.xe s
theorem Vals.one:∀{x:V}{us:List Value},Vals [x] us->∃ u,us=[u]/\RelV x u
 | _,_,.cons r .nil=>⟨_,rfl,r⟩
theorem Vals.zero:∀{us:List Value},Vals [] us->us=[]
 | _,.nil=>rfl
theorem Vals.dropLast{xs:List V}{us:List Value}(h:Vals xs us):Vals xs.dropLast us.dropLast:=by
 induction h with
 | nil=>exact .nil
 | cons r t ih =>
  cases t with
  | nil=>exact .nil
  | cons q t'=>exact .cons r ih
theorem nX{c:Type}(l:List c):l.eraseIdx (l.length - 1)=l.dropLast:=by
 induction l with
 | nil=>rfl
 | cons a r ih =>
  cases r with
  | nil=>rfl
  | cons b r =>
   have e:(a::b::r).length - 1=((b::r).length - 1)+1:=by
    have f:(a::b::r).length=r.length+2:=rfl;have d:(b::r).length=r.length+1:=rfl;lia
   rw[e,List.eraseIdx_cons_succ,ih]
   all_goals rfl
section
variable {X:Cx}{pins:List (Addr×Obj)}{σ:St}{H:Hp}{s:Shared}{l b:Addr}{xs ys zs:List V}
theorem Inv.lset{its its':List Value}{n:Nat}{f:Array Value->Array Value}{t':Nat}(I:Inv X pins σ H s)(g:H l=some (.lst xs))
  (e:s.heap.get? l=some { cls:=.type "list",data:=.seq its.toArray n }) (d:f its.toArray=its'.toArray) (c:Vals ys its') (hz:ys.length<=sizeLine) :
  Inv X pins σ (upd H l (.lst ys)) { s with heap:=s.heap.update l (Obj.mapSeq f),toks:=t' }:=by
 have q:=PySem.IsL.update e f;rw[d]at q;refine I.write (x:=l) (e:=l) (by rw[g];exact trivial) (.inl rfl) (λh u a b=>(Heap.get?_update_other s.heap (Obj.mapSeq f) (Ne.symm a)).trans b) ⟨_,q⟩ ?_;exact⟨hz,its',_,c,q⟩
theorem Inv.lnew{its:List Value}{t':Nat}(I:Inv X pins σ H s)(a:Vals ys its)(hz:ys.length<=sizeLine) :
  Inv X pins σ (upd H s.heap.objs.size (.lst ys)) { s with heap:=s.heap.push { cls:=.type "list",data:=.seq its.toArray },toks:=t' } :=
 I.laid (λ_ _ q=>Heap.get?_push_of_some _ q) (Nat.le_refl _) ⟨hz,its,0,a,Heap.get?_push_size _ rfl⟩
theorem Inv.fresh(I:Inv X pins σ H s):H s.heap.objs.size=none:=I.hok.fresh (Nat.le_refl _)
theorem Inv.lstM(I:Inv X pins σ H s)(a:H l=some (.lst xs)):xs.length<=sizeLine/\∃(its:List Value) (n:Nat),Vals xs its/\xs.length=its.length/\s.heap.get? l=some { cls:=.type "list",data:=.seq its.toArray n }:=by
 obtain⟨z,its,n,r,e⟩:=I.hok l _ a;exact⟨z,its,n,r,r.length,e⟩
theorem tu{n:Nat}(h:n<=sizeLine):Builtin.List.listTooLong n=false:=by
 unfold Builtin.List.listTooLong;exact decide_eq_false (by lia)
end
section
variable {X:Cx}
inductive rAppend(x:V)(vs:List V)(H:Hp)(Q:VK):Prop
 | mk(l:Addr)(xs:List V)(y:V)(h0:x=.ref l)(h1:vs=[y])(h2:H l=some (.lst xs))(h3:xs.length<sizeLine)(h4:Q .non (upd H l (.lst (xs++[y])))):rAppend x vs H Q
theorem ko:MtM X "list.append" rAppend:=by
 intro b s k H x o v w Q I d g h;obtain⟨l,i,y,rfl,rfl,c,p,q⟩:=h;cases d;obtain⟨u,rfl,f⟩:=g.one;obtain⟨z,a,n,r,j,e⟩:=I.lstM c;refine call_meets F.slot_list_append ⟨_,e,rfl⟩ F.entry_list_append (F.args_list_append_2 _ _) (PySem.list_append l a.toArray n u (by rw[size_toArray];lia)) ⟨e,?_⟩;refine⟨.non,_,I.lset (its':=a++[u]) c e (by simp) (r.append (.cons f .nil)) ?_,rfl,q⟩;rw[length_append,length_singleton];lia
def qr:V->List V->Hp->VK->Prop:=λx vs H Q=>∃ l b xs zs,x=.ref l/\vs=[.ref b]/\H l=some (.lst xs)/\H b=some (.lst zs)/\xs.length+zs.length<=sizeLine/\Q .non (upd H l (.lst (xs++zs)))
theorem qT:MtM X "list.extend" qr:=by
 intro g s L H x M v E Q I j w h;obtain⟨l,b,C,J,rfl,rfl,i,A,D,q⟩:=h;cases j;obtain⟨u,rfl,B⟩:=w.one;cases B;obtain⟨z,c,n,r,G,e⟩:=I.lstM i;obtain⟨K,a,p,o,y,k⟩:=I.lstM A;have f:c.toArray.size+a.toArray.size<=sizeLine:=by rw[size_toArray,size_toArray];lia
 have d:¬(!c.toArray.isEmpty && Builtin.List.listTooLong (c.toArray.size+a.toArray.size))=true:=by
  rw[tu f,Bool.and_false];exact Bool.false_ne_true
 refine call_meets F.slot_list_extend ⟨_,e,rfl⟩ F.entry_list_extend (F.args_list_extend_2 _ _)
  (AutoSeq1.list_extend_list_list_0 l c.toArray n b a.toArray p d (by rw[size_toArray];lia) (by lia)) ⟨e,k,?_⟩
 refine⟨.non,_,I.lset (its':=c++a) i e (by simp) (r.append o) ?_,rfl,q⟩;rw[length_append];lia
def Bh:V->List V->Hp->VK->Prop:=λx vs H Q=>∃ l xs y,x=.ref l/\vs=[]/\H l=some (.lst xs)/\xs[xs.length - 1]? = some y/\Q y (upd H l (.lst xs.dropLast))
theorem zC:MtM X "list.pop" Bh:=by
 intro d s A H x B v C Q I j p h;obtain⟨l,w,y,rfl,rfl,f,o,q⟩:=h;cases j;have b:=p.zero;subst b;obtain⟨z,a,n,r,g,e⟩:=I.lstM f;obtain⟨u,i,k⟩:=r.get o
 have c:a.toArray[a.toArray.size - 1]? = some u:=by
  show a.toArray[a.length - 1]? = some u;rw[<- Array.getElem?_toList,<- g];exact i
 refine call_meets F.slot_list_pop ⟨_,e,rfl⟩ F.entry_list_pop (F.args_list_pop_1 _) (MeetsSeq.list_pop_last l a.toArray n u c (by rw[size_toArray];lia)) ⟨e,?_⟩;refine⟨y,_,I.lset (its':=a.dropLast) f e ?_ r.dropLast ?_,k,q⟩
 .show a.toArray.eraseIdxIfInBounds (a.toArray.size - 1)=a.dropLast.toArray
  rw[size_toArray,List.eraseIdxIfInBounds_toArray,nX]
 .rw[List.length_dropLast]
  lia
def uV:V->List V->Hp->VK->Prop:=λx vs H Q=>∃ l xs,x=.ref l/\vs=[]/\H l=some (.lst xs)/\Q .non (upd H l (.lst []))
theorem vw:MtM X "list.clear" uV:=by
 intro c s k H x o v p Q I f g h;obtain⟨l,i,rfl,rfl,d,q⟩:=h;cases f;have a:=g.zero;subst a;obtain⟨z,b,n,r,j,e⟩:=I.lstM d;refine call_meets F.slot_list_clear ⟨_,e,rfl⟩ F.entry_list_clear (F.args_list_clear_1 _) (AutoSeq1.list_clear_list_0 l b.toArray n (by rw[size_toArray];lia)) ⟨e,?_⟩;exact⟨.non,_,I.lset (its':=[]) (ys:=[]) d e rfl .nil (Nat.zero_le _),rfl,q⟩
inductive rCat(x y:V)(H:Hp)(Q:VK):Prop
 | mk(l b:Addr)(xs zs:List V)(h0:x=.ref l)(h1:y=.ref b)(h2:H l=some (.lst xs))(h3:H b=some (.lst zs))(h4:xs.length+zs.length<=sizeLine)(h5:∀ p,H p=none->Q (.ref p) (upd H p (.lst (xs++zs)))):rCat x y H Q
theorem pe:OpR X (binaryOp .Add) rCat:=by
 intro d s E H x y v u Q I j g h;obtain⟨l,b,A,C,rfl,rfl,w,f,F,q⟩:=h;cases j;cases g;obtain⟨z,c,n,r,B,e⟩:=I.lstM w;obtain⟨D,a,G,o,i,k⟩:=I.lstM f;refine PySem.P.add_list e k ?_ (by rw[size_toArray,size_toArray];lia);have p:c.toArray++a.toArray=(c++a).toArray:=by simp
 rw[p];exact⟨.ref _,_,I.lnew (t':=s.toks) (r.append o) (by rw[length_append];lia),rfl,q _ I.fresh⟩
end
section
variable {prog:Program}{w:World}{A:Around}{E:Value->Shared->Prop}{s:Shared}
set_option maxRecDepth 100000 in
end
section
variable {X:Cx}
end
end L2
namespace Att
open PySem PySem.W PySem.Calls PyProof.Rows
theorem iO{P:Params}{h:Heap}:∀(ns:List Int) (vs:List Value),WellAll P h vs (ns.map WData.int)->IntsAre vs ns:=by
 intro ns
 induction ns with
 | nil =>
  intro vs w;rw[map_nil]at w;cases w;exact .nil
 | cons n ns ih =>
  intro vs w;rw[map_cons]at w;cases w with
  | cons a b =>
   cases a;exact .cons _ _ (ih _ b)
theorem rF{l:OpenLaw}{n:Nat}(w:l.most=some n){P:Params}{h:Heap}{args:List WData}{c:List Value}
  (b:l.row.toRowW.claim.pre args=true) (j:WellAll P h c args) :
  ∃ a vs ns,c=[Value.ref a]/\args=[WData.list (ns.map WData.int)]/\h.get? a=some { cls:=.type "list",data:=.seq vs.toArray }/\IntsAre vs ns/\ns.length<=n:=by
 have k:WShape.hasAll [] args [.list .int]=true:=(pre_splitW b).1;have o:l.pre.holds [] { args:=args }=true:=(pre_splitW b).2;obtain⟨d,r,rfl,s,p⟩:=hasAllW_cons k;obtain rfl:=hasAllW_nil p;obtain⟨x,rfl,u⟩:=hasW_list s;obtain⟨ns,rfl⟩:=items_int u
 have f:ns.length<=n:=by
  unfold OpenLaw.pre at o
  have g:(WTm.not (.lt (.lit (.int (n:Int))) (.len (.arg 0)))).holds [] { args:=[.list (ns.map .int)] }=true:=by
   have g:=(holds_andW o).1;rw[w]at g;exact g
  have i:=condW_of g (w_not (w_lt w_lit (w_len_list (w_arg rfl))));rw[length_map]at i;refine Nat.le_of_not_lt λq=>?_
  have v:(n:Int)<((ns.length:Nat):Int):=by lia
  first
   | (rw[decide_eq_true v]at i;exact absurd i (by decide))
   | (simp at i;lia)
 cases j with
 | cons w1 w2 =>
  cases w2;cases w1 with
  | list ho hall=>exact⟨_,_,ns,rfl,rfl,ho,iO ns _ hall,f⟩
theorem su(l:OpenLaw)(args:List WData):l.row.toRowW.claim.post args (.bool true) args=true :=
 postW_of (r:=l.row.toRowW) (X:=(true == true))
  (show WShape.has [] (.bool true) .bool=true by first | rfl | decide | simp[WShape.has,WShape.arms,WShape.armsAll])
  (show(WTm.eq .res (.lit (.bool true))).value [] { args:=args,res:=some (.bool true),after:=args }=some (.bool (true == true)) from w_eq_bool (w_res rfl) w_lit) rfl
theorem attach_call{l:OpenLaw}{n:Nat}{q:Program}{b:List Str}{x:(Str->Option Value)->Heap->Prop}{z:World->Heap->Prop}{d:DefRec}
  (F:l.most=some n) (p:d.params.defaults=[])
  (g:∀(w:World) (s₀ s₁:Shared) (mg mb:Str->Option Value) (fa:Addr) (o:Obj) (pm cd doc:Value) (a:Addr) (vs:List Value) (ns:List Int),
   Ground q b [] x w s₀ mg mb s₁.heap->z w s₁.heap ->
   s₁.heap.get? fa=some o->o.data=.func (docDef d.name d.params d.body d.scope pm cd doc)->s₁.heap.CodeRec cd d.name->mg d.name=some (.ref fa) ->
   s₁.heap.get? a=some { cls:=.type "list",data:=.seq vs.toArray }->IntsAre vs ns->ns.length<=n->s₁.gens = #[] ->
   codeAny (model l.prog w) callerA (.call (.ref fa) ⟨[.ref a],[]⟩) (λr s'=>r=.ok (.ret (.bool true))/\OldK s₁.heap s'.heap/\s'.os=s₁.os/\AllBare s'.gens) s₁) :
  WalkO q b x z l.row.toRowW d [] (λf vs=>PySem.call f vs):=by
 intro w s₀ s₁ mg mb G Y fa o pm cd doc N I K L s v k D B A Q i y P u J;obtain rfl:N=.none:=Dflts.none v p;obtain rfl:I=.none:=Dflts.noKw v;obtain⟨a,vs,ns,rfl,rfl,h,c,j⟩:=rF F i u;refine enter_call (codeAny_mono (g w s₀ s₁ mg mb fa o pm cd doc a vs ns G Y K (fd_plain L) s k h c j D) λr s' C=>?_);obtain⟨rfl,E,M,H⟩:=C;exact⟨.inl ⟨.bool true,.bool true,[],rfl,λ_=>rfl,.bool true,su l _,λ_=>⟨List.Pairwise.nil,λ_ hm=>(nomatch hm)⟩⟩,E,M,H⟩
section
variable {prog:Program}{w:World}{A:Around}{E:Value->Shared->Prop}{s:Shared}{K:Frag}
end
end Att
namespace L2
open PySem PySem.Spec PyProof.Rows
theorem kz:∀{vs:List Value}{ns:List Int},IntsAre vs ns->Vals (ns.map V.int) vs
 | _,_,.nil=>.nil
 | _,_,.cons n t h=>.cons ⟨t,rfl⟩ (kz h)
abbrev KOf{K:Frag}{h:Heap}(_:K.In h):Frag:=K
def cz(s:Stmt)(j:Nat):Stmt:=match s with
 | .ClassDef _ _ _ body _ _ _ _ _ _ _=>body.getD j (.Pass ⟨0,0,0,0⟩)
 | _=>.Pass ⟨0,0,0,0⟩
def ai(s:Stmt):Arguments:=match s with
 | .FunctionDef _ a _ _ _ _ _ _ _ _=>a
 | _=>{ posonlyargs:=[],args:=[],vararg:=none,kwonlyargs:=[],kw_defaults:=[],kwarg:=none,defaults:=[] }
def ah(s:Stmt):List Stmt:=match s with
 | .FunctionDef _ _ b _ _ _ _ _ _ _=>b
 | _=>[]
def ae(s:Stmt):Scope:=match s with
 | .FunctionDef _ _ _ _ _ _ sc _ _ _=>sc
 | _=>{ kind:=.function,names:=[],isGenerator:=false,isCoroutine:=false }
abbrev CX0:CXT:=λ_ _ _ _ _ _=>False
abbrev E0:XK:=λ_ _ _=>False
theorem ar{X:Cx}:fE CX0 X E0:=λ_ _ _ _ _ _ _ h=>h.elim
structure Fun(K:Frag)(x qual:Str)(st:Stmt)(f:Addr)(fd:FuncData):Prop where
 ex:∃(oc:Value) (od:Option Addr) (kV doc pm:Value) (an:Option Addr) (cdv ct:Value) (osl:Array (Option Value)),
  fd=fnOf x qual (ai st) (ah st) (ae st) .none kV doc pm an cdv ct/\K.lookup f=some ⟨oc,od,.func fd,osl⟩/\codeIn K cdv qual=true
 kp:keepIn K (.ref f)=true
section
variable {P:Program}{w:World}{K:Frag}{mg:Str->Option Value}{base:Heap}
theorem Fun.ok{x a:Str}{st:Stmt}{f:Addr}{i:FuncData}{N ps:List Str}{k:Nat}{sp:Sp}(F:Fun K x a st f i)(S:FnScope N ps (ae st))(d:∀ vs H Q E,sp vs H Q E->vs.length=ps.length)
  (b:∀(cdv:Value) (A:Around) (outer:List Env) (s:Shared) (H:Hp) (vs:List V) (Q:VK) (E:XK),Room k (A.deeper (envOfC a (ae st) s.heap.objs.size f cdv))->sp vs H Q E ->
   ∃ t,PSs (eN CX0 P w K mg base N a (ae st) f cdv A outer s H E).nox (ah st) t/\t { nx:=λ_ H'=>Q .non H',rt:=Q } (start N vs) H):FnOk P w K mg base CX0 (k+1) f i ps sp:=by
 obtain⟨p,r,z,o,u,y,cdv,v,j,rfl,l,c⟩:=F.ex;refine yn l c S d λA outer s H vs Q E n g=>?_
 obtain⟨t,h,q⟩:=b cdv A outer s H vs Q E n g;exact⟨t,h.nox,q⟩
theorem Fun.binds{x a:Str}{st:Stmt}{f:Addr}{b:FuncData}{ps:List Str}(F:Fun K x a st f b)
  (h:∀(kV doc pm:Value) (an:Option Addr) (cdv ct:Value) (us:List Value),us.length=ps.length->bindArgs (fnOf x a (ai st) (ah st) (ae st) .none kV doc pm an cdv ct) ⟨us,[]⟩=pure (ps.zip us)):Binds K b ps []:=by
 obtain⟨g,i,kV,doc,pm,an,cdv,ct,d,rfl,j,c⟩:=F.ex;exact .all (h kV doc pm an cdv ct)
theorem ao{x a:Str}{st:Stmt}{f:Addr}{o:Value}{od n:Option Addr}{g:Array (Option Value)}{j d h b i:Value}(l:K.lookup f=some ⟨o,od,.func (fnOf x a (ai st) (ah st) (ae st) .none j d h n b i),g⟩)
  (c:codeIn K b a=true) (k:keepIn K (.ref f)=true):Fun K x a st f (fnOf x a (ai st) (ah st) (ae st) .none j d h n b i):=⟨⟨o,od,j,d,h,n,b,i,g,rfl,l,c⟩,k⟩
end
theorem jX{A:Around}{k:Nat}(a:Room k A):A.units+1<cLine:=Nat.lt_of_le_of_lt (Nat.add_le_add_left (by decide:1<=64) _) a.units
section
variable {X:Cx}
end
theorem BW{c A B:Prop}[Decidable c](b:c->A)(a:¬c->B):if c then A else B:=by
 by_cases h:c
 .rw[if_pos h]
  exact b h
 .rw[if_neg h]
  exact a h
def Same(H H':Hp):Prop:=∀ b o,H b=some o->H' b=some o
theorem Same.refl(H:Hp):Same H H:=λ_ _ h=>h
theorem Same.trans{H H1 H2:Hp}(a:Same H H1)(b:Same H1 H2):Same H H2:=λc o h=>b c o (a c o h)
theorem Same.free{H H':Hp}(e:Same H H'){l:Addr}(h:H' l=Option.none):H l=Option.none:=by
 cases q:H l with
 | none=>rfl
 | some o =>
  rw[e l o q]at h;cases h
end L2
set_option maxHeartbeats 4000000
namespace L2
open PySem PySem.Spec PyProof.Rows
def Its(x:Str):It:=⟨λi _=>i<x.cps.size,λi H y H'=>H'=H/\∃ c,x.cps[i]? = some c/\y=.str ⟨#[c]⟩,λi _=>x.cps.size<=i⟩
theorem nH{P:Program}{w:World}{K:Frag}{tg:Expr}(x:Str)(q:Addr){ty:String}{t:Tok}(p:ty = "str_ascii_iterator" \/ ty = "str_iterator") :
  Turn P w K tg (Its x) [q] q (λi h=>h.IsStrIter q ty x t i) where
 mem:=by simp
 obj:=λi h f b a=>by
  have e:b=q:=by simpa using a
  subst e;obtain⟨o,e,c,d⟩:=f;exact⟨o,e,λv z=>by rw[d]at z;cases z⟩
 keep:=λi h l f k=>by
  obtain⟨o,e,r⟩:=f;exact⟨o,k q (by simp) o e,r⟩
 item:=by
  intro X G F Q R i g s M H E I A f J;subst G F Q;have n:i<x.cps.size:=J;obtain⟨y,D,W,u,C,B⟩:=A q (by simp)
  rcases p with rfl | rfl
  .refine wpAny_pyNext_ascii_item f (c:=x.cps[i]) (by simp[n]) λl j N=>?_
   have T:Inv X g M H { s with heap:=l,toks:=s.toks+1 }:=I.turned (λb o a e=>(N.2 b a).trans e) y D u C B;obtain⟨o,e,c,d⟩:=id j;exact⟨_,rfl,km (s:={ s with heap:=l,toks:=s.toks+1 }) e c d (by decide) ⟨.str ⟨#[x.cps[i]]⟩,H,T,⟨_,rfl⟩,⟨rfl,x.cps[i],by simp[n],rfl⟩,j,λb a=>(A b a).1⟩⟩
  .refine wpAny_pyNext_wide_item f (c:=x.cps[i]) (by simp[n]) λl j N=>?_
   have T:Inv X g M H { s with heap:=l,toks:=s.toks+1 }:=I.turned (λb o a e=>(N.2 b a).trans e) y D u C B;obtain⟨o,e,c,d⟩:=id j;exact⟨_,rfl,km (s:={ s with heap:=l,toks:=s.toks+1 }) e c d (by decide) ⟨.str ⟨#[x.cps[i]]⟩,H,T,⟨_,rfl⟩,⟨rfl,x.cps[i],by simp[n],rfl⟩,j,λb a=>(A b a).1⟩⟩
 done:=by
  intro X G F Q R i g s M H E I A f J;subst G F Q;have n:x.cps.size<=i:=J;obtain⟨y,D,W,u,C,B⟩:=A q (by simp)
  rcases p with rfl | rfl
  .exact wpAny_pyNext_ascii_end (I.ok.hd R) f (by simp[n]) λl L=>⟨rfl,I.turned (t':=s.toks) (λb o a e=>L b o a e) y D u C B⟩
  .exact wpAny_pyNext_wide_end (I.ok.hd R) f (by simp[n]) λl L=>⟨rfl,I.turned (t':=s.toks) (λb o a e=>L b o a e) y D u C B⟩
 self:=λ_ _ _ _ _ f h=>by
  rcases p with rfl | rfl
  .exact wpAny_pyIter_striter_ascii f h
  .exact wpAny_pyIter_striter_wide f h
def BZ(tl:TE):TI:=λσ H R=>tl σ H λx H1=>∃ z,x=.str z/\R (Its z) H1
theorem yP{X:Cx}{tg l:Expr}{tl:TE}(f:PE X l tl):PI X tg l (BZ tl):=by
 intro a s g H R I h;refine thn (f a s g H _ I h) λv c ⟨x,k,d,i,j⟩=>?_
 obtain⟨z,e,q⟩:=j;subst e;obtain⟨t,rfl⟩:=i;refine wpAny_pyIter_strU ?_;refine⟨c.heap.objs.size,[c.heap.objs.size],_,_,k,rfl,d.kept (t':=c.toks) λb o e=>Heap.get?_push_of_some _ e,nH (ty:=strIterType z) (t:=t) z _ ?_,⟨_,Heap.get?_push_size _ rfl,rfl,rfl⟩,λb hb=>?_,q⟩
 .unfold strIterType
  split
  .exact .inl rfl
  .exact .inr rfl
 .have e:b=c.heap.objs.size:=by simpa using hb
  subst e;exact d.fpOk (Nat.le_refl _) (d.hok.fresh (Nat.le_refl _))
def Wk:St->St->Prop
 | [],[]=>True
 | Option.none::r,_::q=>Wk r q
 | some a::r,b::q=>b=some a/\Wk r q
 | _,_=>False
theorem Wk.len:∀{a b:St},Wk a b->a.length=b.length
 | [],[],_=>rfl
 | Option.none::r,_::q,h=>congrArg (· + 1) (Wk.len (a:=r) (b:=q) h)
 | some _::r,_::q,h=>congrArg (· + 1) (Wk.len (a:=r) (b:=q) h.2)
 | [],_::_,h=>h.elim
 | Option.none::_,[],h=>h.elim
 | some _::_,[],h=>h.elim
theorem Wk.get:∀{a b:St},Wk a b->∀(i:Nat) v,a[i]? = some (some v)->b[i]? = some (some v)
 | [],[],_,i,v,e=>by simp at e
 | Option.none::r,y::q,h,0,v,e=>by simp at e
 | Option.none::r,y::q,h,i+1,v,e=>by simpa using Wk.get (a:=r) (b:=q) h i v (by simpa using e)
 | some x::r,y::q,h,0,v,e=>by
  have c:x=v:=by simpa using e
  rw[h.1,c] <;> simp
 | some x::r,y::q,h,i+1,v,e=>by simpa using Wk.get (a:=r) (b:=q) h.2 i v (by simpa using e)
 | [],_::_,h,_,_,_=>h.elim
 | Option.none::_,[],h,_,_,_=>h.elim
 | some _::_,[],h,_,_,_=>h.elim
def ez(cells:List (Str×Addr)):List (Str×NameKind)->List (Str×Addr)->List (Str×Addr)
 | [],acc=>acc
 | (n,k)::r,acc=>if k == .free then ez cells r ((n,(cells.lookup n).getD 0)::acc) else ez cells r acc
theorem fk{d:Scope}{env:Env}(h:∀ y∈d.names,y.2=.free->∃ c,env.cells.lookup y.1=some c):closureFor d env=pure (ez env.cells d.names []):=by
 unfold closureFor
 have f:∀(l:List (Str×NameKind)) (b:List (Str×Addr)),(∀ y∈l,y.2=.free->∃ c,env.cells.lookup y.1=some c) ->
   (forIn l b λx r=>match x with | (name,kind)=>if (kind == .free)=true then do let a <- cellOf env name;pure (ForInStep.yield ((name,a)::r)) else pure (ForInStep.yield r):Sem (List (Str×Addr)))=pure (ez env.cells l b):=by
  intro l
  induction l with
  | nil=>intro b _;rfl
  | cons y r ih =>
   intro b o;obtain⟨n,k⟩:=y;have j:∀ y∈r,y.2=.free->∃ c,env.cells.lookup y.1=some c:=λy q=>o y (mem_cons_of_mem _ q)
   rw[List.forIn_cons]
   by_cases hk:k=.free
   .subst hk
    obtain⟨c,p⟩:=o (n,.free) mem_cons_self rfl;have s:cellOf env n=pure c:=by unfold cellOf;rw[p]
    have g:ez env.cells ((n,.free)::r) b=ez env.cells r ((n,c)::b):=by
     show(if (NameKind.free == NameKind.free)=true then ez env.cells r ((n,(env.cells.lookup n).getD 0)::b) else ez env.cells r b)=_;rw[if_pos (by decide),p];rfl
    rw[g,<- ih ((n,c)::b) j];show(do let x <- (if (NameKind.free == NameKind.free)=true then do let a <- cellOf env n;pure (ForInStep.yield ((n,a)::b)) else pure (ForInStep.yield b):Sem _);_)=_;rw[if_pos (by decide),s];rfl
   .have i:(k == NameKind.free)=false:=by simpa using hk
    have g:ez env.cells ((n,k)::r) b=ez env.cells r b:=by
     show(if (k == NameKind.free)=true then ez env.cells r ((n,(env.cells.lookup n).getD 0)::b) else ez env.cells r b)=_;rw[i];rfl
    rw[g,<- ih b j];show(do let x <- (if (k == NameKind.free)=true then do let a <- cellOf env n;pure (ForInStep.yield ((n,a)::b)) else pure (ForInStep.yield b):Sem _);_)=_;rw[i];rfl
 have:=f d.names [] h
 first | exact this | (rw[this];rfl) | simpa using this
theorem eF{a:List (Str×Addr)}:∀{l:List (Str×NameKind)}{acc:List (Str×Addr)}{n:Str}{c:Addr},(∀ y∈l,y.2=.free->∃ c,a.lookup y.1=some c)->(∀ n c,acc.lookup n=some c->a.lookup n=some c) ->
  (ez a l acc).lookup n=some c->a.lookup n=some c
 | [],acc,n,c,_,ha,e=>ha n c e
 | (m,k)::r,acc,n,c,hl,ha,e=>by
  have h:∀ y∈r,y.2=.free->∃ c,a.lookup y.1=some c:=λy i=>hl y (mem_cons_of_mem _ i)
  have b:(if (k == NameKind.free)=true then ez a r ((m,(a.lookup m).getD 0)::acc) else ez a r acc).lookup n=some c:=e
  by_cases hk:(k == NameKind.free)=true
  .rw[if_pos hk]at b
   refine eF h (λn c z=>?_) b;obtain⟨d,j⟩:=hl (m,k) mem_cons_self (by simpa using hk);rw[lookup_cons]at z
   by_cases hn:(n == m)=true
   .rw[hn]at z
    have:n=m:=by simpa using hn
    subst this;have f:a.lookup n=some d:=j;rw[f]at z ⊢;simpa using z
   .have g:(n == m)=false:=by simpa using hn
    rw[g]at z;exact ha n c z
  .rw[if_neg hk]at b
   exact eF h ha b
theorem gh{b:List (Str×Addr)}:∀{l:List (Str×NameKind)}{acc:List (Str×Addr)}{n:Str},((n,NameKind.free)∈l\/∃ c,acc.lookup n=some c)->∃ c,(ez b l acc).lookup n=some c
 | [],acc,n,h=>by
  rcases h with h | h
  .cases h
  .exact h
 | (m,k)::r,acc,n,h=>by
  show ∃ c,(if (k == NameKind.free)=true then ez b r ((m,(b.lookup m).getD 0)::acc) else ez b r acc).lookup n=some c
  have d:∀ a,n=m\/(∃ c,acc.lookup n=some c)->∃ c,((m,a)::acc).lookup n=some c:=λa z=>by
   rw[lookup_cons]
   by_cases hn:(n == m)=true
   .rw[hn];exact⟨_,rfl⟩
   .have f:(n == m)=false:=by simpa using hn
    rw[f]
    rcases z with z | z
    .exact absurd (by simpa using z) hn
    .exact z
  by_cases hk:(k == NameKind.free)=true
  .rw[if_pos hk]
   refine gh ?_
   rcases h with h | h
   .rcases mem_cons.mp h with e | h
    .exact .inr (d _ (.inl (congrArg Prod.fst e)))
    .exact .inl h
   .exact .inr (d _ (.inr h))
  .rw[if_neg hk]
   refine gh ?_
   rcases h with h | h
   .rcases mem_cons.mp h with e | h
    .have:k=.free:=(congrArg Prod.snd e).symm
     rw[this]at hk;exact absurd (by decide) hk
    .exact .inl h
   .exact .inr h
def rlb(env:Env)(p:Str×NameKind):Str×NameKind:=if (p.2 == NameKind.free && env.scope.kind == ScopeKind.function && env.kindOf p.1 == some NameKind.cell)=true then (p.1,NameKind.cell) else p
theorem jO(a:Scope)(env:Env):(relabel a env).names=a.names.map (rlb env):=rfl
theorem xx(env:Env)(p:Str×NameKind):(rlb env p).1=p.1:=by
 unfold rlb
 split <;> rfl
theorem uW{env:Env}{p:Str×NameKind}(h:p.2≠.cell)(h2:(rlb env p).2=.cell\/(rlb env p).2=.free):p.2=.free:=by
 unfold rlb at h2
 split at h2
 .rename_i q
  rw[Bool.and_eq_true,Bool.and_eq_true]at q;simpa using q.1.1
 .rcases h2 with h2 | h2
  .exact absurd h2 h
  .exact h2
theorem gt{env:Env}:∀{names:List (Str×NameKind)}{x:Str}{k:NameKind},(∀ y∈names,y.2≠.cell)->(k=.cell\/k=.free)->(names.map (rlb env)).lookup x=some k->(x,NameKind.free)∈names
 | [],x,k,_,_,e=>by simp at e
 | p::r,x,k,hc,hk,e=>by
  have c:∀ y∈r,y.2≠.cell:=λy b=>hc y (mem_cons_of_mem _ b)
  have f:rlb env p=(p.1,(rlb env p).2):=by rw[<- xx env p]
  rw[map_cons,f,lookup_cons]at e
  by_cases hx:x=p.1
  .have a:(x == p.1)=true:=by simpa using hx
   rw[a]at e;have d:(rlb env p).2=k:=Option.some.inj e;have g:=uW (env:=env) (hc p mem_cons_self) (by rw[d];exact hk);have:(x,NameKind.free)=p:=by rw[hx,<- g]
   rw[this];exact mem_cons_self
  .have a:(x == p.1)=false:=by simpa using hx
   rw[a]at e;exact mem_cons_of_mem _ (gt c hk e)
theorem fi{env:Env}{a:Scope}{x:Str}{k:NameKind}(b:∀ y∈a.names,y.2≠.cell)(c:k=.cell\/k=.free)(e:(relabel a env).names.lookup x=some k):(x,NameKind.free)∈a.names :=
 gt (env:=env) b c (by rw[<- jO];exact e)
def sH(ix:List (Option Nat))(σ:St):St:=ix.map λo=>o.bind λi=>(σ[i]?).join
def FreeOk(XN:List Str)(env:Env)(sc:Scope):List Str->List (Option Nat)->Prop
 | [],[]=>True
 | _::N,Option.none::ix=>FreeOk XN env sc N ix
 | y::N,some i::ix=>XN[i]? = some y/\env.kindOf y=some .cell/\(relabel sc env).names.lookup y=some .cell/\FreeOk XN env sc N ix
 | _,_=>False
theorem FreeOk.len{b:List Str}{env:Env}{a:Scope}:∀{N:List Str}{ix:List (Option Nat)},FreeOk b env a N ix->ix.length=N.length
 | [],[],_=>rfl
 | _::N,Option.none::ix,h=>congrArg (· + 1) (FreeOk.len (N:=N) (ix:=ix) h)
 | _::N,some _::ix,h=>congrArg (· + 1) (FreeOk.len (N:=N) (ix:=ix) h.2.2.2)
 | [],_::_,h=>h.elim
 | _::_,[],h=>h.elim
theorem FreeOk.get{c:List Str}{env:Env}{b:Scope}:∀{N:List Str}{ix:List (Option Nat)},FreeOk c env b N ix->∀(j:Nat) (y:Str) (i:Nat),N[j]? = some y->ix[j]? = some (some i) ->
  c[i]? = some y/\env.kindOf y=some .cell/\(relabel b env).names.lookup y=some .cell
 | [],[],_,j,y,i,e,_=>by simp at e
 | _::N,Option.none::ix,h,0,y,i,e,e2=>by simp at e2
 | _::N,Option.none::ix,h,j+1,y,i,e,e2=>FreeOk.get (N:=N) (ix:=ix) h j y i (by simpa using e) (by simpa using e2)
 | z::N,some k::ix,h,0,y,i,e,e2=>by
  have d:z=y:=by simpa using e
  have a:k=i:=by simpa using e2
  subst d;subst a;exact⟨h.1,h.2.1,h.2.2.1⟩
 | _::N,some _::ix,h,j+1,y,i,e,e2=>FreeOk.get (N:=N) (ix:=ix) h.2.2.2 j y i (by simpa using e) (by simpa using e2)
 | [],_::_,h,_,_,_,_,_=>h.elim
 | _::_,[],h,_,_,_,_,_=>h.elim
def cxB(X:Cx)(sc:Scope)(C:Addr)(N:List Str)(s₀:Shared)(H₀:Hp)(fp:List Addr):Cx :=
 { X with N:=N,s₀:=s₀,H₀:=H₀,env:=compEnvC sc (ez X.env.cells sc.names []) C X.env,outer:=X.stack,ex:=fp,fn:=λ_=>false,pn:=[],xe:=λ_ _=>False }
structure CompOk(X:Cx)(sc:Scope)(N:List Str)(ix:List (Option Nat)):Prop where
 kind:sc.kind=.function
 nocell:(sc.names.all λy=>y.2 != .cell)=true
 names:(sc.names.all λy=>y.2 != .local || sc.names.lookup y.1 == some .local) = true
 free:(sc.names.all λy=>y.2 != .free || X.env.scope.names.lookup y.1 == some .cell)=true
 fr:FreeOk X.N X.env sc N ix
section
variable {X:Cx}{sc:Scope}{N:List Str}{ix:List (Option Nat)}{pins:List (Addr×Obj)}{σ:St}{H:Hp}{s:Shared}
theorem CompOk.cells(c:CompOk X sc N ix)(b:X.Ok):∀ y∈sc.names,y.2=.free->∃ c,X.env.cells.lookup y.1=some c:=λy d e=>by
 have h:=all_eq_true.mp c.free y d;rw[e]at h;have a:X.env.scope.names.lookup y.1=some .cell:=by simpa using h
 exact b.has y.1 (.inl a)
theorem CompOk.nc(c:CompOk X sc N ix):∀ y∈sc.names,y.2≠.cell:=λy a=>by simpa using all_eq_true.mp c.nocell y a
theorem CompOk.nm(c:CompOk X sc N ix):∀ y ∈ sc.names,y.2 = .local->sc.names.lookup y.1 = some .local:=λy a e=>by
 have h:=all_eq_true.mp c.names y a;rw[e]at h;simpa using h
theorem rf{C:Addr}{E:List Addr}{h₁:Heap}{t':Nat}(c:CompOk X sc N ix)(I:Inv X pins σ H s)(B:∀ b∈E,gz X pins H b)(F:∀ b∈E,b<s.heap.objs.size)(D:s.heap.objs.size<=C)
  (R:h₁.Ns C (λ_=>none)) (f:∀ b o,s.heap.get? b=some o->h₁.get? b=some o):Inv (cxB X sc C N s H E) [] (sH ix σ) H { s with heap:=h₁,toks:=t' }:=by
 have g:=c.cells I.ok;have a:∀ n c,(ez X.env.cells sc.names []).lookup n=some c->X.env.cells.lookup n=some c:=λn c e=>eF g (λn c z=>by simp at z) e
 refine⟨⟨I.ok.mod,c.kind,I.ok.glob,I.ok.blt,D,λx y d T P=>I.ok.inj x y d (a x d T) (a y d P),λx hx=>?_,λx d z=>absurd z (by simp[cxB]),I.ok.hd,I.ok.frames,.inl rfl,λb hb=>⟨?_,λx d e=>?_⟩,I.bs,Nat.le_trans I.ok.bsz I.sz,λb o e hb=>?_,λb hb hs=>?_,I.stack,I.stkFree⟩,
  rfl,I.bare,Un.kept f,⟨_,R,λj y v Z k e3=>?_⟩,λx d e=>?_,I.hok.fresh D,λx d e=>I.freeC x d (a x d e),λp hp=>absurd (show p∈([]:List (Addr×Obj)) from hp) (by simp),I.hok.kept f,?_⟩
 .refine gh (.inl ?_)
  rcases hx with hx | hx
  .exact fi c.nc (.inl rfl) (show(relabel sc X.env).names.lookup x=some .cell from hx)
  .exact fi c.nc (.inr rfl) (show(relabel sc X.env).names.lookup x=some .free from hx)
 .exact Nat.ne_of_lt (Nat.lt_of_lt_of_le (F b hb) D)
 .exact(B b hb).2.2.2.2.1 x d (a x d e)
 .rcases(B b hb).2.2.2.1 with z | z
  .exact I.ok.noex b o e z
  .exact absurd (Nat.lt_of_lt_of_le (Heap.lt_size e) (Nat.le_trans I.ok.bsz z)) (Nat.lt_irrefl _)
 .rcases mem_cons.mp (I.stkSub b hs) with z | z
  .exact(B b hb).2.1 z
  .exact(B b hb).2.2.1 z
 .have M:∃ i,ix[j]? = some (some i)/\σ[i]? = some (some v):=by
   unfold sH at k;rw[List.getElem?_map]at k;cases q:ix[j]? with
   | none=>rw[q]at k;cases k
   | some o =>
    rw[q]at k;cases o with
    | none=>cases k
    | some i =>
     refine⟨i,rfl,?_⟩;have h:(σ[i]?).join=some v:=Option.some.inj k;cases q2:σ[i]? with
     | none=>rw[q2]at h;cases h
     | some w=>rw[q2]at h;exact congrArg some h
  obtain⟨i,L,K⟩:=M;obtain⟨Y,J,G⟩:=c.fr.get j y i Z L;obtain⟨m,hm,Q⟩:=I.loc;obtain⟨u,r,l⟩:=Q i y v Y K (.inr (.inl J));refine⟨u,r,?_⟩
  rcases l with⟨z,_⟩ | ⟨_,d,W,A⟩
  .rw[J]at z;cases z
  .obtain⟨d',hd'⟩:∃ d',(ez X.env.cells sc.names []).lookup y=some d':=gh (.inl (fi c.nc (.inl rfl) G))
   have:=a y d' hd';rw[W]at this;cases this;exact .inr ⟨.inl G,d,hd',A.keeps f⟩
 .obtain⟨v,z⟩:=I.cell x d (a x d e)
  exact⟨v,z.keeps f⟩
 .show(sH ix σ).length=N.length
  unfold sH;rw[length_map,c.fr.len]
theorem mY{C:Addr}{c:List Addr}{a:List (Addr×Obj)}{σ':St}{H':Hp}{d:Shared}(I:Inv X pins σ H s)(j:∀ b∈c,gz X pins H b)(J:Inv (cxB X sc C N s H c) a σ' H' d):Inv X pins σ H' d:=by
 refine I.call' (ch:=c) J.os J.base J.hok J.bare λb g=>?_
 obtain⟨n,h,l,f,k,i⟩:=j b g;exact⟨f,h,k,i⟩
end
def PTs(X:Cx)(ifs:List Expr)(t:TT):Prop :=
 ∀(pins:List (Addr×Obj)) (s:Shared) (σ:St) (H:Hp) (Q:Bool->Hp->Prop),Inv X pins σ H s->t σ H Q ->
  wpAny (model X.prog X.w) X.A (forIn ifs true λc r=>if r=true then do let ok <- isTrue c X.env (eval c X.env);pure (ForInStep.yield ok) else pure (ForInStep.yield r)) (TP X pins σ Q) X.xe s
def BX:TT:=λ_ H Q=>Q true H
theorem bX{X:Cx}:PTs X [] BX:=λ_ _ _ H _ I h=>wpAny_tests_nil ⟨H,I,h⟩
theorem xo{X:Cx}{c:Expr}{t:TT}(h:PT X c t):PTs X [c] t:=λa s d H Q I b=>wpAny_tests_one (h a s d H Q I b)
def ju(J:It)(D:Addr)(σb:St)(g:TG)(tt:TT)(te:TE)(Q:Hp->List V->Prop)(W:Nat->Nat->List V->Hp->Prop):Prop :=
 ∀ i m ys H,W i m ys H->H D=some (.lst ys)/\((J.stop i H/\Q H ys)\/(J.go i H/\∀ x H3,J.yld i H x H3->g x σb H3 λσ4 H4=>Wk σb σ4/\tt σ4 H4 λb H5 =>
  if b=true then te σ4 H5 λy H6=>H6 D=some (.lst ys)/\ys.length<sizeLine/\∃ m',m'<m/\W (i+1) m' (ys++[y]) (upd H6 D (.lst (ys++[y]))) else ∃ m',m'<m/\W (i+1) m' ys H5))
def yh(ix:List (Option Nat))(wi:TI)(g:TG)(tt:TT)(te:TE):TE:=λσ H Q=>wi σ H λJ H1=>∀ D,H1 D=none->∃ W,(∃ m,W 0 m [] (upd H1 D (.lst [])))/\ju J D (sH ix σ) g tt te (λH _=>Q (.ref D) H) W
section
variable {X:Cx}{sc:Scope}{N:List Str}{ix:List (Option Nat)}{elt tg iter:Expr}{ifs:List Expr}{pos:Pos}{wi:TI}{g:TG}{tt:TT}{te:TE}
structure Blk(X:Cx)(sc:Scope)(N:List Str)(tg elt:Expr)(ifs:List Expr)(g:TG)(tt:TT)(te:TE):Prop where
 tg:∀ C s H fp,PG (cxB X sc C N s H fp) tg g
 tests:∀ C s H fp,PTs (cxB X sc C N s H fp) ifs tt
 elt:∀ C s H fp,PE (cxB X sc C N s H fp) elt te
theorem sL{J:It}{k:List Addr}{it D:Addr}{I:Nat->Heap->Prop}{a:St}{Q:Hp->List V->Prop}{R:Result->Shared->Prop}{W:Nat->Nat->List V->Hp->Prop}
  (hc:X.calm=true) (as:X.xe=λ_ _=>False) (T:Turn X.prog X.w X.K tg J k it I) (hg:PG X tg g) (ht:PTs X ifs tt) (he:PE X elt te) (E:ju J D a g tt te Q W)
  (c:∀{H':Hp},(∀ b∈k,H' b=none)->∀ b∈k,gz X [] H' b)
  (al:∀{σ':St}{H':Hp}{s':Shared}{ys:List V},Inv X [] σ' H' s'->Q H' ys->R (.ok .next) s')
  {m0 M:Nat}{C:List V}{G:Hp}{s0:Shared}(I0:Inv X [] a G s0) (ac:I M s0.heap) (an:∀ b∈k,G b=none) (w0:W M m0 C G) :
  codeAny (model X.prog X.w) X.A (.compLoop (.ListComp elt [⟨tg,iter,ifs,0⟩] sc pos) 0 (.ref it) (.ref D) X.env) R s0:=by
 have f:∀{E':Value->Shared->Prop}(e:Value) (s':Shared),X.xe e s'->E' e s':=λ{E'} e s' z=>by rw[as]at z;exact z.elim
 refine codeAny_loop rfl (λn s'=>∃ i ys H',Inv X [] a H' s'/\I i s'.heap/\(∀ b∈k,H' b=none)/\W i n ys H') ?_ m0 ⟨M,C,G,I0,ac,an,w0⟩;rintro n Y ⟨i,ys,H3,I3,w,F,w3⟩;show wpAny _ X.A ((compTurn (.ListComp elt [⟨tg,iter,ifs,0⟩] sc pos) 0 (.ref it) (.ref D) X.env).onRaise (λx=>do noteFrame x X.env;theTreesLotGoes x)) _ _ Y;refine wpAny_noted ?_;rw[compTurn_list];refine wpAny_bind (wpAny_standAt (wpAny_bind ?_));obtain⟨a0,next⟩:=E i n ys H3 w3
 rcases next with⟨s,q⟩ | ⟨go,A⟩
 .refine thn (T.done X rfl rfl rfl hc i [] Y a H3 _ I3 (c F) w s) λr s4 ⟨L,I4⟩=>?_
  subst L;exact wpAny_pure (al I4 q)
 .refine thn (T.item X rfl rfl rfl hc i [] Y a H3 _ I3 (c F) w go) λr s4 ⟨u,L,h4⟩=>?_
  subst L;refine wpAny_bind (thn h4 λ_ s5 ⟨x,H5,I5,r5,y5,j,az⟩=>?_);have ab:=I5.pinned (c az) (T.obj _ _ j)
  have h:∀{σ':St}{H':Hp}{s':Shared},Inv X ([]++jB k s5.heap) σ' H' s'->Wk a σ'->Inv X [] a H' s'/\I (i+1) s'.heap/\∀ b∈k,H' b=none:=λ{σ' H' s'} p B=>by
   refine⟨(p.unpinned).weak B.len B.get,T.keep _ _ _ j λb H o e=>(p.pin (b,o) (mem_append_right _ (mem_append_right _ (fc H e)))).1,λb H=>?_⟩;obtain⟨o,e,d⟩:=T.obj _ _ j b H;exact(p.pin (b,o) (mem_append_right _ (mem_append_right _ (fc H e)))).2.1
  refine wpAny_bind (wpAny_mono (hg _ s5 a H5 x u _ ab r5 (A x H5 y5)) (λ_ s6 ⟨l,H6,I6,B,q6⟩=>?_) f);refine wpAny_bind (wpAny_mono (ht _ s6 l H6 _ I6 q6) (λok s7 ⟨H7,p,q7⟩=>?_) f);cases ok with
  | false =>
   obtain⟨m',hm,w7⟩:=q7;obtain⟨N,K,b3⟩:=h p B;exact wpAny_pure ⟨rfl,m',hm,i+1,ys,H7,N,K,b3,w7⟩
  | true =>
   refine wpAny_bind (wpAny_bind (wpAny_mono (he _ s7 l H7 _ p q7) (λv s8 ⟨y,H8,I8,r8,Z,P,m',hm,w8⟩=>?_) f));refine wpAny_bind (wpAny_mono (ko _ s8 l H8 (.ref D) [y] (.ref D) [v] (λ_ H9=>H9=upd H8 D (.lst (ys++[y]))) I8 rfl (.cons r8 .nil) ⟨D,ys,y,rfl,rfl,Z,P,rfl⟩) (λ_ s9 ⟨z,H9,I9,_,e9⟩=>?_) f);subst e9;obtain⟨N,K,b3⟩:=h I9 B;exact wpAny_pure (wpAny_pure ⟨rfl,m',hm,i+1,ys++[y],_,N,K,b3,w8⟩)
theorem kr{a:List (Addr×Obj)}{L:St}{H:Hp}{s:Shared}{E:Value->Shared->Prop}{RR:Value->Addr->Result->Shared->Prop}{it:Addr}{i:List Addr}{F:Nat->Heap->Prop}{J:It}{Q:Addr->Hp->List V->Prop}
  (hc:X.calm=true) (c:CompOk X sc N ix) (B:Blk X sc N tg elt ifs g tt te) (I:Inv X a L H s) (T:Turn X.prog X.w X.K tg J i it F) (st:F 0 s.heap) (hf:∀ b∈i,gz X a H b)
  (h:∀ D,H D=none->∃ W,(∃ m,W 0 m [] (upd H D (.lst [])))/\ju J D (sH ix L) g tt te (Q D) W)
  (hR:∀ D C H' s' ys,Inv X a L H' s'->gz X a H' C->(∃ m,s'.heap.Ns C m)->Q D H' ys->RR (.ref D) C (.ok .next) s') :
  wpAny (model X.prog X.w) X.A (newList []) (λacc s₃=>wpAny (model X.prog X.w) X.A (newFunctionEnv sc X.env.globals (ez X.env.cells sc.names []) [] X.env.qual none .none (some X.env)) (λcenv s₄ =>
   codeAny (model X.prog X.w) X.A (.compStart (.ListComp elt [⟨tg,iter,ifs,0⟩] sc pos) 0 (.ref it) acc { cenv with scope:=relabel sc X.env }) (RR acc cenv.locals) s₄) E s₃) E s:=by
 have Y:∀ b∈i,b<s.heap.objs.size:=λb f=>let ⟨o,e,_⟩:=T.obj _ _ st b f;Heap.lt_size e
 refine wpAny_newObj_type ?_ (by show 0<=sizeLine;exact Nat.zero_le _);have hD:H s.heap.objs.size=none:=I.hok.fresh (Nat.le_refl _);obtain⟨W,⟨m0,w0⟩,A⟩:=h s.heap.objs.size hD;have G:Inv X a L (upd H s.heap.objs.size (.lst [])) { s with heap:=s.heap.push { cls:=.type "list",data:=.seq ([]:List Value).toArray } }:=I.lnew (t':=s.toks) (its:=[]) .nil (Nat.zero_le _);have k1:∀ b o,s.heap.get? b=some o->(s.heap.push { cls:=.type "list",data:=.seq ([]:List Value).toArray }).get? b=some o:=λb o e=>Heap.get?_push_of_some _ e
 have R:∀ b∈i,b≠s.heap.objs.size:=λb f=>Nat.ne_of_lt (Y b f)
 have j:∀ b∈i,gz X a (upd H s.heap.objs.size (.lst [])) b:=λb f=>⟨by rw[ag (R b f)];exact(hf b f).1,(hf b f).2⟩
 have v:F 0 (s.heap.push { cls:=.type "list",data:=.seq ([]:List Value).toArray }):=T.keep _ _ _ st λb _ o e=>k1 b o e
 generalize hs1:({ s with heap:=s.heap.push { cls:=.type "list",data:=.seq ([]:List Value).toArray } }:Shared)=s1 at G;have k:s1.heap=s.heap.push { cls:=.type "list",data:=.seq ([]:List Value).toArray }:=by rw[<- hs1]
 generalize hDe:s.heap.objs.size=D at *;show wpAny _ _ _ _ _ s1;refine wpAny_newFunctionEnv c.nc (by intro y hy;simp at hy) (λh₁ hns₁ hsb₁=>?_) c.kind;have w:∀ b o,s1.heap.get? b=some o->h₁.get? b=some o:=λb o e=>(hsb₁.2 b (Nat.ne_of_lt (Heap.lt_size e))).trans (Heap.get?_push_of_some _ e)
 have l:∀ b∈i,b<s1.heap.objs.size:=λb f=>by
  obtain⟨o,e,_⟩:=T.obj _ _ v b f;rw[k];exact Heap.lt_size e
 have J0:=rf (h₁:=h₁) (t':=s1.toks+([]:List (Str×Value)).length) c G j l (Nat.le_refl _) (by simpa using hns₁) w;have K:F 0 h₁:=T.keep _ _ _ (by rw[k];exact v:F 0 s1.heap) λb _ o e=>w b o e
 have M:∀{H':Hp},(∀ b∈i,H' b=none)->∀ b∈i,gz (cxB X sc s1.heap.objs.size N s1 (upd H D (.lst [])) i) [] H' b:=λ{H'} P b f=>by
  obtain⟨f0,f1,f2,f3,f4,f5⟩:=j b f;refine⟨P b f,Nat.ne_of_lt (l b f),?_,.inl f,λx d e=>f4 x d (eF (c.cells I.ok) (λn c z=>by simp at z) e),λp hp=>absurd (show p∈([]:List (Addr×Obj)) from hp) (by simp)⟩;intro z
  rcases mem_cons.mp (G.stkSub b z) with q | q
  .exact f1 q
  .exact f2 q
 have Z:∀{u:St}{H':Hp}{s':Shared}{ys:List V},Inv (cxB X sc s1.heap.objs.size N s1 (upd H D (.lst [])) i) [] u H' s'->Q D H' ys->RR (.ref D) s1.heap.objs.size (.ok .next) s':=λ{u H' s' ys} J q =>
  hR D _ H' s' ys (mY G j J) (G.fpOk (Nat.le_refl _) J.free) (let ⟨m,P,_⟩:=J.loc;⟨m,P⟩) q
 have r:codeAny (model X.prog X.w) X.A (.compLoop (.ListComp elt [⟨tg,iter,ifs,0⟩] sc pos) 0 (.ref it) (.ref D) (cxB X sc s1.heap.objs.size N s1 (upd H D (.lst [])) i).env) (RR (.ref D) s1.heap.objs.size) { s1 with heap:=h₁,toks:=s1.toks+([]:List (Str×Value)).length } :=
  sL (X:=cxB X sc s1.heap.objs.size N s1 (upd H D (.lst [])) i) hc rfl T (B.tg _ _ _ _) (B.tests _ _ _ _) (B.elt _ _ _ _) A M Z J0 K (λb f=>(j b f).1) w0
 exact codeAny_compStart_list r (T.self _ 0 _ _ _ K r)
theorem bY(G:X.calm=true)(c:CompOk X sc N ix)(u:PI X tg iter wi)(B:Blk X sc N tg elt ifs g tt te)(R:∀ x,foldedSetIterable iter X.env x=pure x:=by intro _;rfl):PE X (.ListComp elt [⟨tg,iter,ifs,0⟩] sc pos) (yh ix wi g tt te):=by
 intro a s k H Q I h;rw[eval_ListComp];refine wpAny_comprehension_free (use:=none) rfl R (fk (c.cells I.ok)) c.kind c.nm (thn (u a s k H _ I h) λxv l d=>thn d λitv s₂ h₂=>?_);obtain⟨it,Y,tn,J,Z,e,E,T,i,j,A⟩:=h₂;subst e;refine kr (RR:=λf C=>compPost (model X.prog X.w) X.A X.xe none (EP X a k Q) f C) (Q:=λD H _=>Q (.ref D) H) G c B E T i j A ?_;intro D C M n W y L P q;refine⟨_,P.choose_spec,λh' F=>⟨.ref D,M,?_,rfl,q⟩⟩;obtain⟨p,K,j,r,z,w⟩:=L;exact y.turned (t':=n.toks) (λb o v e=>(F.2 b v).trans e) p K r z w
theorem vP{i:Nat}{y:Str}{j f:Pos}(hc:X.calm = true)(hN:X.N.Nodup)(hy:X.N[i]? = some y)(F:X.env.scope.names.lookup y = some .local)
  (w:swapsWith (.ListComp elt [⟨tg,iter,ifs,0⟩] sc pos) (some (.Name y j)) f.line X.env=pure true)
  (c:CompOk X sc N ix) (W:PI X tg iter wi) (B:Blk X sc N tg elt ifs g tt te) (hs:∀ x,foldedSetIterable iter X.env x=pure x:=by intro _;rfl) :
  PS X (.Assign [.Name y j] (.ListComp elt [⟨tg,iter,ifs,0⟩] sc pos) f) (wu (yh ix wi g tt te) (mq i)):=by
 intro d s G H A I h;rw[exec_Assign_Name_used _ _ _ _ w];refine wpAny_bind (wpAny_standAt (wpAny_bind ?_));show wpAny _ X.A (do let _ <- comprehension (.ListComp elt [⟨tg,iter,ifs,0⟩] sc pos) sc X.env _ (newList []) false (eval iter X.env) (some (assign (.Name y j) X.env))) _ _ s
 refine wpAny_bind (wpAny_mono (wpAny_comprehension_free (use:=some (assign (.Name y j) X.env)) (Q:=λ_ k=>SP X d A .next k) rfl hs (fk (c.cells I.ok)) c.kind c.nm
  (thn (W d s G H _ I h) λxv M l=>thn l λitv s₂ h₂=>?_)) (λ_ k hq=>wpAny_pure (wpAny_pure hq)) λ_ _ e=>e)
 obtain⟨it,fp,tn,J,H2,e,I2,T,u,E,q2⟩:=h₂;subst e;refine kr (RR:=λn C=>compPost (model X.prog X.w) X.A X.xe (some (assign (.Name y j) X.env)) (λ_ k=>SP X d A .next k) n C) (Q:=λD H _=>A.nx (G.set i (some (.ref D))) H) hc c B I2 T u E q2 ?_;intro D C H' k ys I' fC ns q;show wpAny _ X.A (assign (.Name y j) X.env (.ref D)) _ _ _;obtain⟨P,L,E,R,K,Z⟩:=fC;refine wpAny_assign_Name (j7 I' hN hy (.inl F) (v:=.ref D) rfl (λs2 J2 ⟨a,sb,ha⟩=>?_) (.inr F));obtain⟨m,hn⟩:=ns
 have p:C≠a:=by
  rcases ha with z | z
  .rw[z];exact L
  .exact λe=>K y a z e.symm
 refine⟨m,hn.sameBut sb p,λh3 r=>⟨_,H',?_,q⟩⟩;exact J2.turned (t':=s2.toks) (λb o Y e=>(r.2 b Y).trans e) P L R K Z
end
section
variable {κ:Type} [DecidableEq κ]
def dO(kvs:List (κ×V))(k:κ):Option V:=(kvs.find? λkv=>decide (kv.1=k)).map (·.2)
def d8(kvs:List (κ×V))(k:κ)(v:V):List (κ×V) :=
 if (kvs.any λkv=>decide (kv.1=k))=true then kvs.map (λkv=>if kv.1=k then (kv.1,v) else kv) else kvs++[(k,v)]
theorem d7{p:κ×V}{r:List (κ×V)}{k:κ}(e:p.1=k):dO (p::r) k=some p.2:=by simp[dO,List.find?_cons,e]
theorem dG{p:κ×V}{r:List (κ×V)}{k:κ}(e:¬p.1=k):dO (p::r) k=dO r k:=by simp[dO,List.find?_cons,e]
theorem jt(k:κ):∀ kvs:List (κ×V),(kvs.any λkv=>decide (kv.1=k))=(dO kvs k).isSome
 | []=>rfl
 | p::r=>by
  rw[any_cons]
  by_cases e:p.1=k
  .simp only[d7 e,decide_eq_true e,Bool.true_or,Option.isSome_some]
  .rw[dG e,decide_eq_false e,Bool.false_or];exact jt k r
theorem iK(kvs:List (κ×V))(k:κ)(v:V):(d8 kvs k v).length<=kvs.length+1:=by
 unfold d8
 split
 .rw[length_map];lia
 .rw[length_append,length_cons,length_nil];lia
theorem mj{kvs:List (κ×V)}{k:κ}(v:V)(h:dO kvs k=none):d8 kvs k v=kvs++[(k,v)]:=by
 unfold d8;rw[jt,h];exact if_neg (by decide)
theorem RelO.isSome_eq{o:Option V}{u:Option Value}(r:RelO o u):o.isSome=u.isSome:=by
 cases o with
 | none=>cases u with
  | none=>rfl
  | some _=>exact(show False from r).elim
 | some _=>cases u with
  | none=>exact(show False from r).elim
  | some _=>rfl
theorem RelO.getD{o:Option V}{u:Option Value}{d:V}{d':Value}(r:RelO o u)(a:RelV d d'):RelV (o.getD d) (u.getD d'):=by
 cases o with
 | none=>cases u with
  | none=>exact a
  | some _=>exact(show False from r).elim
 | some _=>cases u with
  | none=>exact(show False from r).elim
  | some _=>exact r
theorem KV.val{kvs:List (κ×V)}{vs:List (κ×Value)}(r:KV kvs vs)(k:κ):RelO (dO kvs k) (valueAt vs k):=by
 unfold KV at r
 induction r with
 | nil=>exact True.intro
 | @cons p q ps qs h t ih =>
  obtain⟨c,d⟩:=h
  by_cases e:p.1=k
  .have a:q.1=k:=c.symm.trans e
   have b:valueAt (q::qs) k=some q.2:=by simp[valueAt,List.find?_cons,a]
   rw[d7 e,b];exact d
  .have a:¬q.1=k:=λz=>e (c.trans z)
   have b:valueAt (q::qs) k=valueAt qs k:=by simp[valueAt,List.find?_cons,a]
   rw[dG e,b];exact ih
theorem KV.any{kvs:List (κ×V)}{vs:List (κ×Value)}(r:KV kvs vs)(k:κ):(kvs.any λkv=>decide (kv.1=k))=vs.any λkv=>decide (kv.1=k):=by
 unfold KV at r
 induction r with
 | nil=>rfl
 | cons h t ih=>rw[any_cons,any_cons,ih,h.1]
theorem KV.repl{kvs:List (κ×V)}{vs:List (κ×Value)}(r:KV kvs vs)(k:κ){y:V}{u:Value}(c:RelV y u) :
  KV (kvs.map λkv=>if kv.1=k then (kv.1,y) else kv) (vs.map λkv=>if kv.1=k then (kv.1,u) else kv):=by
 unfold KV at r ⊢
 induction r with
 | nil=>exact .nil
 | @cons p q ps qs h t ih =>
  rw[map_cons,map_cons];refine .cons ?_ ih;obtain⟨a,b⟩:=h
  by_cases e:p.1=k
  .rw[if_pos e,if_pos (a.symm.trans e)];exact⟨a,c⟩
  .rw[if_neg e,if_neg (λz=>e (a.trans z))];exact⟨a,b⟩
theorem KV.put{kvs:List (κ×V)}{vs:List (κ×Value)}(r:KV kvs vs)(k:κ){y:V}{u:Value}(a:RelV y u):KV (d8 kvs k y) (stored vs k u):=by
 unfold d8 stored;rw[r.any k]
 by_cases e:(vs.any λb=>decide (b.1=k))=true
 .rw[if_pos e,if_pos e];exact r.repl k a
 .rw[if_neg e,if_neg e];exact Paired.snoc r ⟨rfl,a⟩
theorem KV.length{kvs:List (κ×V)}{vs:List (κ×Value)}(r:KV kvs vs):kvs.length=vs.length:=Paired.length r
end
theorem ql{P:Program}{w:World}{k:Key}{u:Value}(r:RelV (kV k) u):(aW P w).is k u=true:=by
 cases k with
 | inl i=>obtain⟨t,e⟩:=(show ∃ t,u=Value.int i t from r);subst e;exact nv P w i t
 | inr x=>obtain⟨t,e⟩:=(show ∃ t,u=Value.str x t from r);subst e;exact m5 P w x t
theorem j5{P:Program}{w:World}:∀{ks:List Key}{us:List Value},Vals (ks.map kV) us->ItemsAre (aW P w) ks us
 | [],_,r=>by rw[map_nil]at r;cases r;exact .nil
 | k::ks,_,r=>by
  rw[map_cons]at r;cases r with
  | cons h t=>exact .cons (ql h) (j5 t)
abbrev KT(H:Hp):List (List Key×V)->List (List Key×Addr×Value)->Prop:=Paired λp q=>p.1=q.1/\H q.2.1=some (.tup (p.1.map kV))/\RelV p.2 q.2.2
theorem KT.val{H:Hp}{kvs:List (List Key×V)}{xs:List (List Key×Addr×Value)}(r:KT H kvs xs)(k:List Key):RelO (dO kvs k) ((atKey xs k).map (·.2)):=by
 induction r with
 | nil=>exact True.intro
 | @cons p q ps qs h t ih =>
  obtain⟨c,_,d⟩:=h
  by_cases e:p.1=k
  .have a:q.1=k:=c.symm.trans e
   have b:atKey (q::qs) k=some q.2:=by simp[atKey,List.find?_cons,a]
   rw[d7 e,b];exact d
  .have a:¬q.1=k:=λz=>e (c.trans z)
   have b:atKey (q::qs) k=atKey qs k:=by simp[atKey,List.find?_cons,a]
   rw[dG e,b];exact ih
theorem KT.repl{H:Hp}{kvs:List (List Key×V)}{xs:List (List Key×Addr×Value)}(r:KT H kvs xs)(k:List Key){y:V}{u:Value}(d:RelV y u) :
  KT H (kvs.map λkv=>if kv.1=k then (kv.1,y) else kv) (xs.map (putAt k u)):=by
 induction r with
 | nil=>exact .nil
 | @cons p q ps qs h t ih =>
  rw[map_cons,map_cons];refine .cons ?_ ih;obtain⟨a,b,c⟩:=h;unfold putAt
  by_cases e:p.1=k
  .rw[if_pos e,if_pos (a.symm.trans e)];exact⟨a,b,d⟩
  .rw[if_neg e,if_neg (λz=>e (a.trans z))];exact⟨a,b,c⟩
theorem KT.put{H:Hp}{kvs:List (List Key×V)}{xs:List (List Key×Addr×Value)}(r:KT H kvs xs)(k:List Key){b:Addr}{y:V}{u:Value}(d:H b=some (.tup (k.map kV)))(a:RelV y u) :
  KT H (d8 kvs k y) (storedH xs k b u):=by
 have e:(kvs.any λc=>decide (c.1=k))=(atKey xs k).isSome:=by
  rw[jt,(r.val k).isSome_eq,Option.isSome_map]
 unfold d8 storedH;rw[e]
 by_cases q:(atKey xs k).isSome=true
 .rw[if_pos q,if_pos q];exact r.repl k a
 .rw[if_neg q,if_neg q];exact Paired.snoc r ⟨rfl,d,a⟩
theorem KT.keeps{H H':Hp}{kvs:List (List Key×V)}{xs:List (List Key×Addr×Value)}(r:KT H kvs xs)(a:∀ b ys,H b=some (.tup ys)->H' b=some (.tup ys)):KT H' kvs xs :=
 Paired.mapP r λ_ _ z=>⟨z.1,a _ _ z.2.1,z.2.2⟩
section
variable {P:Program}{w:World}{H:Hp}{h:Heap}{a:Addr}
theorem xR{u:HO}(b:HOk P w H h)(e:Rd H a u):ObjOk P w H h a u:=e.ok b
theorem m7{kvs:List (Key×V)}(b:HOk P w H h)(e:Rd H a (.dK kvs)):kvs.length<=sizeLine/\(a == sysModules)=false/\∃ vs,KV kvs vs/\h.DictOf (aW P w) a vs :=
 show ObjOk P w H h a (.dK kvs) from xR b e
theorem AU{kvs:List (Key×V)}(b:HOk P w H h)(e:H a=some (.dK kvs)):kvs.length<=sizeLine/\(a == sysModules)=false/\∃ vs,KV kvs vs/\h.DictOf (aW P w) a vs:=m7 b (.inl e)
theorem jf{ks:List Key}(g:HOk P w H h)(e:H a=some (.tup (ks.map kV))):(tupleKind (aW P w)).is h ks a:=by
 obtain⟨_,b,r,o,d,c,n,f⟩:=(show ObjOk P w H h a (.tup (ks.map kV)) from g a _ e)
 exact⟨o,b.toArray,n,d,c,f,by simpa using j5 r⟩
theorem jZ{kvs:List (List Key×V)}(c:HOk P w H h)(e:Rd H a (.dT kvs)):kvs.length<=sizeLine/\(a == sysModules)=false /\
  ∃ xs,KT H kvs xs/\h.DictOfH (tupleKind (aW P w)) a xs:=by
 obtain⟨z,y,xs,r,o,i,j,f,d,g,k,n⟩:=(show ObjOk P w H h a (.dT kvs) from xR c e)
 refine⟨z,y,xs,r,o,i,j,f,d,g,k,λx hx=>?_,n⟩
 have b:∀{l:List (List Key×V)}{m:List (List Key×Addr×Value)},KT H l m->∀ x∈m,(tupleKind (aW P w)).is h x.1 x.2.1:=by
  intro l m q
  induction q with
  | nil=>intro x hx;exact nomatch hx
  | @cons p q ps qs hq t ih =>
   intro x hx
   rcases mem_cons.mp hx with e | hx
   .subst e
    exact jf c (by rw[<- hq.1];exact hq.2.1)
   .exact ih x hx
 exact b r x hx
theorem uk{kvs:List (List Key×V)}(b:HOk P w H h)(e:H a=some (.dT kvs)):kvs.length<=sizeLine/\(a == sysModules)=false /\
  ∃ xs,KT H kvs xs/\h.DictOfH (tupleKind (aW P w)) a xs:=jZ b (.inl e)
end
def vj(H:Hp)(a:Addr)(y:V)(r:Option V):Prop :=
 (∃ kvs k,Rd H a (.dK kvs)/\y=kV k/\r=dO kvs k)\/∃ kvs k b,Rd H a (.dT kvs)/\y=.ref b/\H b=some (.tup (k.map kV))/\r=dO kvs k
def Ai(H:Hp)(a:Addr)(y v:V)(H':Hp):Prop :=
 (∃ kvs k,H a=some (.dK kvs)/\y=kV k/\kvs.length<sizeLine/\H'=upd H a (.dK (d8 kvs k v))) \/
 ∃ kvs k b,H a=some (.dT kvs)/\y=.ref b/\H b=some (.tup (k.map kV))/\kvs.length<sizeLine/\H'=upd H a (.dT (d8 kvs k v))
section
variable {X:Cx}{pins:List (Addr×Obj)}{σ:St}{H:Hp}{s:Shared}{a:Addr}{y v:V}{u r:Value}{o:Option V}{A:Around}{E:Value->Shared->Prop}
theorem Inv.big(I:Inv X pins σ H s):sysModules<s.heap.objs.size:=by
 have h:mainGlobals<s.heap.objs.size:=(I.mod.glob.keeps I.bk).lt;exact Nat.lt_trans (by decide) h
theorem rX{Q:Value->Shared->Prop}(B:A.units+1<cLine)(I:Inv X pins σ H s)(g:vj H a y (some v))(r:RelV y u)(h:∀ w' s',Inv X pins σ H s'->RelV v w'->Q w' s') :
  wpAny (model X.prog X.w) A (getItem (.ref a) u) Q E s:=by
 rcases g with⟨i,k,e,j,l⟩ | ⟨i,k,b,e,j,w,l⟩
 .subst j
  obtain⟨z,C,D,c,n⟩:=m7 I.hok e;obtain⟨w',f,d⟩:=RelO.some_of (v:=v) (o:=valueAt D k) (by rw[l];exact c.val k);exact wpAny_getItem_of (ql r) n.mapOf f (h w' _ (I.tok _) d)
 .subst j
  cases(show u=Value.ref b from r);obtain⟨z,C,x,c,n⟩:=jZ I.hok e;obtain⟨w',f,d⟩:=RelO.some_of (v:=v) (o:=(atKey x k).map (·.2)) (by rw[l];exact c.val k);obtain⟨p,F,q⟩:=Option.map_eq_some_iff.mp f;refine wpAny_getItem_heap (tupleKind_room_in1 B) (jf I.hok w) n F ?_;rw[q];exact h w' _ (I.tok _) d
theorem lc{h':Heap}{t':Nat}{ob:HO}(I:Inv X pins σ H s)(f:Mut (H a))(h:Heap.SameBut a s.heap h')(g:∃ q,h'.get? a=some q)(c:ObjOk X.prog X.w (upd H a ob) h' a ob) :
  Inv X pins σ (upd H a ob) { s with heap:=h',toks:=t' } :=
 I.write (x:=a) (e:=a) f (.inl rfl) (λb q d z=>(h.2 b d).trans z) g c
theorem zg{P:Program}{w:World}{H':Hp}{h':Heap}{kvs:List (Key×V)}{vs:List (Key×Value)}(z:kvs.length<=sizeLine)(d:(a == sysModules)=false)(b:KV kvs vs)(c:h'.DictOf (aW P w) a vs) :
  ObjOk P w H' h' a (.dK kvs):=⟨z,d,vs,b,c⟩
theorem rP{H':Hp}{Q:Unit->Shared->Prop}(N:A.units+1<cLine)(I:Inv X pins σ H s)(g:Ai H a y v H')(G:RelV y u)(D:RelV v r)(h:∀ s',Inv X pins σ H' s'->Q () s') :
  wpAny (model X.prog X.w) A (setItem (.ref a) u r) Q E s:=by
 rcases g with⟨d,k,e,x,l,n⟩ | ⟨d,k,b,e,x,F,l,n⟩
 .subst x n
  obtain⟨z,B,R,f,w⟩:=AU I.hok e;have o:R.length<=sizeLine:=by rw[<- f.length];exact z
  have p:(d8 d k v).length<=sizeLine:=by have:=iK d k v;lia
  refine wpAny_setItem_pairs (hsz:=o) (ql G) w λJ i C=>h _ ?_
  have Z:∃ q,J.get? a=some q:=let ⟨q,_,_,j,_⟩:=i;⟨q,j⟩;exact lc I (by rw[e];exact True.intro) C Z (zg p B (f.put k D) i)
 .subst x n
  cases(show u=Value.ref b from G);obtain⟨z,B,K,f,w⟩:=uk I.hok e;have o:K.length<=sizeLine:=by rw[<- Paired.length f];exact z
  have p:(d8 d k v).length<=sizeLine:=by have:=iK d k v;lia
  refine wpAny_setItem_heap (hsz:=o) (tupleKind_room_in1 N) (jf I.hok F) w λJ i C=>h _ ?_
  obtain⟨q,W,Y,j,L,T,P,_,M⟩:=i;refine lc I (by rw[e];exact True.intro) C ⟨q,j⟩ ⟨p,B,_,(f.put k F D).keeps λc ys ec=>?_,q,W,Y,j,L,T,P,M⟩;rw[ag (cY ec e (λz=>nomatch z))];exact ec
end
section
variable {X:Cx}{pins:List (Addr×Obj)}{σ:St}{H:Hp}{s:Shared}{a:Addr}{kvs:List (Key×V)}{k:Key}{u:Value}{A:Around}{E:Value->Shared->Prop}
end
def As(i:Expr):Prop:=∀ ov iv,subscripted i false ov iv=operate [ov,iv] (getItem ov iv)
theorem wb{prog:Program}{w:World}{A:Around}{E:Value->Shared->Prop}{s:Shared}{env:Env}{b a:Expr}{k:Pos}{T p:String}{Q:Value->Shared->Prop}
  (n:typeLookup (.type T) "__getitem__" = pure (some (.builtin p))) (q:As a)
  (h:wpAny (model prog w) A (eval b env) (λo s₁=>wpAny (model prog w) A (eval a env) (λi s₂=>s₂.TypeIs o T/\wpAny (model prog w) A (getItem o i) Q E s₂) E s₁) E s) :
  wpAny (model prog w) A (eval (.Subscript b a k) env) Q E s:=by
 refine Subscript_ (wpAny_mono h (λo s₁ j=>wpAny_mono j (λi s₂ c=>?_) λ_ _ x=>x) λ_ _ x=>x);obtain⟨l,c⟩:=c;unfold subscriptTail;refine wpAny_bind ?_;rw[getitemInPython_of_ne l.not_modules];refine wpAny_bind (wpAny_specialOf l n ?_)
 have f:wpAny (model prog w) A (subscripted a false o i) (λr d=>wpAny (model prog w) A (letTemporaryGo b o r >>= λ_=>pure r) Q E d) E s₂:=by
  rw[q o i];exact wpAny_operating (wpAny_mono c (λr d g=>wpAny_bind (wpAny_letTemporaryGo (wpAny_pure g))) λ_ _ x=>x)
 first
  | exact wpAny_pure (wpAny_bind f)
  | exact wpAny_bind (wpAny_pure (wpAny_bind f))
  | exact wpAny_bind f
theorem mf{X:Cx}{c:List (Addr×Obj)}{h:St}{H:Hp}{s:Shared}{a:Addr}{y:V}{o:Option V}(I:Inv X c h H s)(g:vj H a y o):s.TypeIs (.ref a) "dict" := by
 rcases g with⟨d,k,e,_,_⟩ | ⟨d,k,b,e,_,_,_⟩
 .obtain⟨_,_,j,_,f⟩:=m7 I.hok e
  exact f.typeIs
 .obtain⟨_,_,i,_,f⟩:=jZ I.hok e
  exact f.typeIs
inductive rDGet(x y:V)(H:Hp)(Q:VK):Prop
 | mk(a:Addr)(v:V)(h0:x=.ref a)(h1:vj H a y (some v))(h2:Q v H):rDGet x y H Q
def Aq(td ty:TE):TE:=λσ H Q=>td σ H λx H1=>ty σ H1 λy H2=>rDGet x y H2 Q
def Aw(td ty tv:TE):TS:=λD σ H=>tv σ H λv H1=>td σ H1 λx H2=>ty σ H2 λy H3=>∃ a H4,x=.ref a/\Ai H3 a y v H4/\D.nx σ H4
section
variable {X:Cx}{o i e value:Expr}{pos pos' tpos:Pos}{td ty tv:TE}
theorem wN(k:X.A.units+1<cLine)(j:PE X o td)(p:PE X i ty)(w:As i):PE X (.Subscript o i pos) (Aq td ty):=by
 intro b s d H Q I h;refine wb PySem.F.slot_dict_getitem.lookup w (thn (j b s d H _ I h) λu z ⟨x,r,f,l,q⟩=>thn (p b z d r _ f q) λiv s2 ⟨y,H2,I2,ry,a,v,ex,g,q2⟩=>?_);subst ex;obtain rfl:u=Value.ref a:=l;exact⟨mf I2 g,rX k I2 g ry λA B n c=>⟨v,H2,n,c,q2⟩⟩
theorem lF(j:X.A.units+1<cLine)(f:PE X o td)(p:PE X i ty)(n:PE X value tv)(z:swapsWith value (some (.Subscript o i pos')) pos.line X.env=pure false) :
  PS X (.Assign [.Subscript o i pos'] value pos) (Aw td ty tv):=by
 intro b s c H D I h;refine wpAny_Assign_Subscript (thn (n b s c H _ I h) λr l ⟨v,w,d,A,q⟩=>thn (f b l c w _ d q) λu s2 ⟨x,H2,I2,rx,q2⟩=>thn (p b s2 c H2 _ I2 q2) λiv s3 ⟨y,H3,I3,ry,a,H4,ex,g,q3⟩=>?_) z;subst ex;obtain rfl:u=Value.ref a:=rx
 exact rP j I3 g ry A λB k=>⟨c,H4,k,q3⟩
end
theorem vi{P:Program}{w:World}{H:Hp}(h:Heap)(a:sysModules<h.objs.size):ObjOk P w H (h.push { cls:=.type "dict",data:=.dict #[] }) h.objs.size (.dK []) :=
 ⟨Nat.zero_le _,beq_eq_false_iff_ne.mpr (Ne.symm (Nat.ne_of_lt a)),[],.nil,Heap.DictOf.new h⟩
theorem uv{P:Program}{w:World}{H:Hp}(h:Heap)(a:sysModules<h.objs.size):ObjOk P w H (h.push { cls:=.type "dict",data:=.dict #[] }) h.objs.size (.dT []) :=
 ⟨Nat.zero_le _,beq_eq_false_iff_ne.mpr (Ne.symm (Nat.ne_of_lt a)),[],.nil,_,#[],0,Heap.get?_push_size _ rfl,⟨rfl,rfl,rfl⟩,rfl,rfl,nodup_nil⟩
def zj:TE:=λ_ H Q=>∀ p,H p=none->Q (.ref p) (upd H p (.dK []))
def yD:TE:=λ_ H Q=>∀ p,H p=none->Q (.ref p) (upd H p (.dT []))
section
variable {X:Cx}{pos:Pos}
theorem vx:PE X (.Dict [] [] pos) zj:=λb s c H Q I h =>
 wpAny_Dict_empty ⟨.ref s.heap.objs.size,_,I.laid (a:=s.heap.objs.size) (o:=.dK []) (t':=s.toks) (λ_ _ q=>Heap.get?_push_of_some _ q) (Nat.le_refl _) (vi s.heap I.big),rfl,h _ (I.hok.fresh (Nat.le_refl _))⟩
theorem fN:PE X (.Dict [] [] pos) yD:=λb s c H Q I h =>
 wpAny_Dict_empty ⟨.ref s.heap.objs.size,_,I.laid (a:=s.heap.objs.size) (o:=.dT []) (t':=s.toks) (λ_ _ q=>Heap.get?_push_of_some _ q) (Nat.le_refl _) (uv s.heap I.big),rfl,h _ (I.hok.fresh (Nat.le_refl _))⟩
end
structure M2(X:Cx)(o:Expr)(m:Str)(apos:Pos)(e f:Expr)(cpos:Pos):Prop where
 base:attributeBase o m X.env (eval o X.env)=eval o X.env
 few:((backTo cpos (starEach [e,f] X.env)).all (λx=>!x.1) && (backToKw cpos (keywordEach [] X.env)).all (λx=>x.1.isSome)
  && decide (([e,f]:List Expr).length+([]:List Keyword).length+(if ([]:List Keyword).isEmpty then 0 else 1)<30))=true
 line:(apos.endLine == cpos.line)=true
 trees:backTo cpos (starEach [e,f] X.env)=[(false,eval e X.env),(false,eval f X.env)]
def IsD(H:Hp)(a:Addr):Prop:=(∃ kvs,Rd H a (.dK kvs))\/∃ kvs,Rd H a (.dT kvs)
theorem tD{X:Cx}{c:List (Addr×Obj)}{k:St}{H:Hp}{s:Shared}{a:Addr}(I:Inv X c k H s)(d:IsD H a) :
  s.TypeIs (.ref a) "dict" /\ (∀ b,Value.ref a=.ref b->∃ ob,s.heap.get? b=some ob/\ob.dict=none)/\(a == sysModules)=false:=by
 rcases d with⟨j,e⟩ | ⟨j,e⟩
 .obtain⟨_,i,n,_,f⟩:=m7 I.hok e
  refine⟨f.typeIs,λb q=>?_,i⟩;cases q;obtain⟨ob,_,_,h,g,_⟩:=f;exact⟨ob,h,g.2.1⟩
 .obtain⟨_,i,l,_,f⟩:=jZ I.hok e
  refine⟨f.typeIs,λb q=>?_,i⟩;cases q;obtain⟨ob,_,_,h,g,_⟩:=f;exact⟨ob,h,g.2.1⟩
section
variable {X:Cx}{pins:List (Addr×Obj)}{σ:St}{H:Hp}{s:Shared}{a:Addr}{y d:V}{u r:Value}{o:Option V}{A:Around}{E:Value->Shared->Prop}
theorem yG{Q:Value->Shared->Prop}(x:A.units+1<cLine)(I:Inv X pins σ H s)(g:vj H a y o)(p:RelV y u)(q:RelV d r)(h:∀ w' s',Inv X pins σ H s'->RelV (o.getD d) w'->Q w' s') :
  wpAny (model X.prog X.w) A (call (.builtin "dict.get") [.ref a,u,r]) Q E s:=by
 rcases g with⟨j,k,e,n,l⟩ | ⟨j,k,b,e,n,v,l⟩
 .subst n
  obtain⟨z,i,B,c,f⟩:=m7 I.hok e;refine call_meetsIn PySem.F.slot_dict_get f.typeIs PySem.F.entry_dict_get (PySem.F.args_dict_get_3 _ _ _) (meets_dict_get_default (aW X.prog X.w) a (ql p) i r) ⟨_,f.mapOf,h _ _ (I.tok _) ?_⟩;rw[l];exact(c.val k).getD q
 .subst n
  cases(show u=Value.ref b from p);obtain⟨z,i,w,c,f⟩:=jZ I.hok e;refine call_meetsIn PySem.F.slot_dict_get f.typeIs PySem.F.entry_dict_get (PySem.F.args_dict_get_3 _ _ _) (meetsH_dict_get_default (tupleKind (aW X.prog X.w)) a b i r) ⟨tupleKind_room_in1 x,k,w,jf I.hok v,f,h _ _ (I.tok _) ?_⟩;rw[l];exact(c.val k).getD q
end
def zm(td ty tx:TE):TE:=λσ H Q=>td σ H λx H1=>∃ a,x=.ref a/\IsD H1 a/\ty σ H1 λy H2=>tx σ H2 λz H3=>∃ o,vj H3 a y o/\Q (o.getD z) H3
section
variable {X:Cx}{o e f:Expr}{apos cpos:Pos}{td ty tx:TE}
theorem uE(E:X.A.units+1<cLine)(N:PE X o td)(P:PE X e ty)(p:PE X f tx)(m:M2 X o "get" apos e f cpos):PE X (.Call (.Attribute o "get" apos) [e,f] [] cpos) (zm td ty tx):=by
 intro b s i H Q I h;refine wpAny_Call_method m.base m.few m.line PySem.F.plainAttrs_dict PySem.F.slot_dict_get PySem.F.type_dict_get (thn (N b s i H _ I h) λu L ⟨x,v,j,k,a,n,d,q⟩=>?_);subst n;obtain rfl:u=Value.ref a:=k;obtain⟨l,G,_⟩:=tD j d;refine⟨l,G,?_⟩;rw[m.trees]
 refine Calls.callWith_builtin rfl (Calls.evalArgs_plain (Calls.spliced_cons (thn (P b L i v _ j q) λY w ⟨y,F,C,D,B⟩ =>
  Calls.spliced_cons (thn (p b w i F _ C B) λR W ⟨z,J,A,K,Z,g,r⟩=>Calls.spliced_nil ?_))))
 exact yG E A g D K λT s4 M c=>⟨_,J,M,c,r⟩
end
section
variable {X:Cx}{pins:List (Addr×Obj)}{σ:St}{H:Hp}{s:Shared}{a:Addr}{kvs:List (Key×V)}{A:Around}{E:Value->Shared->Prop}
end
section
variable {X:Cx}{pins:List (Addr×Obj)}{σ:St}{H:Hp}{s:Shared}{a:Addr}{y:V}{u:Value}{A:Around}{E:Value->Shared->Prop}
end
theorem OpR.imp{X:Cx}{f:Value->Value->Sem Value}{r b:R2}(h:OpR X f r)(i:∀ x y H Q,b x y H Q->r x y H Q):OpR X f b :=
 λa s g H x y v u Q I d c q=>h a s g H x y v u Q I d c (i x y H Q q)
theorem CallR.imp{X:Cx}{f:Value}{r b:List V->Hp->VK->Prop}(h:CallR X f r)(i:∀ xs H Q,b xs H Q->r xs H Q):CallR X f b :=
 λa s d H xs g Q I c q=>h a s d H xs g Q I c (i xs H Q q)
def tV(i:Nat):TE:=λσ H Q=>match σ[i]? with
 | some (some v)=>Q v H
 | _=>False
theorem vr{X:Cx}(i:Nat){x:Str}{c:Pos}(f:X.N[i]? = some x:=by rfl)(j:Vis X.env.scope x:=by first | exact Or.inl rfl | exact Or.inr (Or.inl rfl) | exact Or.inr (Or.inr rfl))(d:(x == ("__debug__" : Str))=false:=by decide)
  (b:(x == ("__classdict__" : Str))=false:=by decide):PE X (.Name x c) (tV i):=λa s g H Q I h=>by
 refine yE f j d b a s g H Q I ?_;unfold tV at h
 split at h
 .rename_i v e
  exact⟨v,e,h⟩
 .exact h.elim
def rI2(g:Int->Int->V):R2:=λx y H Q=>match x,y with
 | .int i,.int j=>Q (g i j) H
 | _,_=>False
def rIC(C:Int->Int->Prop)(g:Int->Int->V):R2:=λx y H Q=>match x,y with
 | .int i,.int j=>C i j/\Q (g i j) H
 | _,_=>False
theorem OpR.i2{X:Cx}{f:Value->Value->Sem Value}{g:Int->Int->V}(h:OpR X f (rI0 g)):OpR X f (rI2 g):=h.imp λx y H Q q=>by
 cases x <;> cases y <;> first | exact⟨_,_,rfl,rfl,q⟩ | exact(show False from q).elim
theorem OpR.ic{X:Cx}{f:Value->Value->Sem Value}{C:Int->Int->Prop}{g:Int->Int->V}(h:OpR X f (rI C g)):OpR X f (rIC C g):=h.imp λx y H Q q=>by
 cases x <;> cases y <;> first | exact⟨_,_,rfl,rfl,q.1,q.2⟩ | exact(show False from q).elim
section
variable {X:Cx}
def Bz:R2:=λx y H Q=>match x,y with
 | .int i,.int j=>Q (.int (i+j)) H
 | .str i,.str j=>i.length+j.length<=sizeLine/\Q (.str (i++j)) H
 | _,_=>False
theorem fm:OpR X (binaryOp .Add) Bz:=(op_add.or oW).imp λx y H Q q=>by
 cases x <;> cases y <;> first | exact .inl ⟨_,_,rfl,rfl,q⟩ | exact .inr ⟨_,_,rfl,rfl,q.1,q.2⟩ | exact(show False from q).elim
theorem qg:OpR X (binaryOp .Sub) (rI2 λi j=>.int (i - j)):=op_sub.i2
def At(i j:Int):Prop:=0<j
def CNn(i j:Int):Prop:=0<=j
theorem cp{i j:Int}(h:0<j:=by decide):At i j:=h
theorem cn{i j:Int}(h:0<=j:=by decide):CNn i j:=h
theorem cd{i j:Int}(h:0<j:=by decide)(a:j<1073741824:=by decide):BP i j:=⟨h,a⟩
theorem cw{i j:Int}(h:0<=j:=by decide)(a:j<=1000000:=by decide)(b:i.natAbs<2 ^ 64:=by decide):zS i j:=⟨h,a,b⟩
theorem cl{i j:Int}(h:-(2 ^ 64)<i:=by decide)(a:i<2 ^ 64:=by decide):CMul i j:=.inl ⟨h,a⟩
theorem cr{i j:Int}(h:-(2 ^ 64)<j:=by decide)(a:j<2 ^ 64:=by decide):CMul i j:=.inr ⟨h,a⟩
theorem gu:OpR X (binaryOp .Mod) (rIC At λi j=>.int (i % j)):=op_mod.ic
theorem xO:OpR X (binaryOp .Pow) (rIC zS λi j=>.int (i ^ j.toNat)):=op_pow.ic
theorem Bw:OpR X (binaryOp .RShift) (rIC CNn λi j=>.int (i/2 ^ j.toNat)):=op_shr.ic
theorem sj:OpR X (compareOp .LtE) (λx y H Q=>∃ i j,x=.str i/\y=.str j/\Q (.bl (!decide (j.cps.toList<i.cps.toList))) H):=by
 intro a s f H x y v u Q I c b h;obtain⟨i,j,rfl,rfl,q⟩:=h;obtain⟨t,rfl⟩:=c;obtain⟨d,rfl⟩:=b;exact PySem.P.le_str (aU I q rfl)
def yo(f:Int->Int->Bool)(g:Str->Str->Bool):R2:=λx y H Q=>match x,y with
 | .int i,.int j=>Q (.bl (f i j)) H
 | .str i,.str j=>Q (.bl (g i j)) H
 | _,_=>False
theorem wp:OpR X (compareOp .Lt) (yo (λi j=>decide (i<j)) λi j=>decide (i.cps.toList<j.cps.toList)):=(op_lt.or sg).imp λx y H Q q=>by
 cases x <;> cases y <;> first | exact .inl ⟨_,_,rfl,rfl,q⟩ | exact .inr ⟨_,_,rfl,rfl,q⟩ | exact(show False from q).elim
theorem Ay:OpR X (compareOp .LtE) (yo (λi j=>decide (i<=j)) λi j=>!decide (j.cps.toList<i.cps.toList)):=(op_le.or sj).imp λx y H Q q=>by
 cases x <;> cases y <;> first | exact .inl ⟨_,_,rfl,rfl,q⟩ | exact .inr ⟨_,_,rfl,rfl,q⟩ | exact(show False from q).elim
theorem Ao:OpR X (compareOp .Gt) (rI2 λi j=>.bl (decide (j<i))):=op_gt.i2
def Ba(neg:Bool):R2:=λx y H Q=>match x,y with
 | .int i,.int j=>Q (.bl (if neg then !decide (i=j) else decide (i=j))) H
 | .str i,.str j=>Q (.bl (if neg then !decide (i=j) else decide (i=j))) H
 | .bl i,.bl j=>Q (.bl (if neg then !decide (i=j) else decide (i=j))) H
 | .non,.non=>Q (.bl (!neg)) H
 | .non,.int _=>Q (.bl neg) H
 | .non,.str _=>Q (.bl neg) H
 | .non,.bl _=>Q (.bl neg) H
 | .int _,.non=>Q (.bl neg) H
 | .str _,.non=>Q (.bl neg) H
 | .bl _,.non=>Q (.bl neg) H
 | .int _,.str _=>Q (.bl neg) H
 | .str _,.int _=>Q (.bl neg) H
 | _,_=>False
theorem ut:OpR X (compareOp .Eq) (Ba false):=op_eq.imp λx y H Q q=>by
 cases x <;> cases y <;> first | exact(show False from q).elim | exact⟨rfl,q⟩ | exact⟨rfl,by rw[i6];exact q⟩ | exact⟨rfl,by rw[lC];exact q⟩ | exact⟨rfl,by rw[iZ];exact q⟩
theorem BU:OpR X (compareOp .NotEq) (Ba true):=op_ne.imp λx y H Q q=>by
 cases x <;> cases y <;> first | exact(show False from q).elim | exact⟨rfl,q⟩ | exact⟨rfl,by rw[i6];exact q⟩ | exact⟨rfl,by rw[lC];exact q⟩ | exact⟨rfl,by rw[iZ];exact q⟩
def rU1(g:Int->V):V->Hp->VK->Prop:=λx H Q=>match x with
 | .int i=>Q (g i) H
 | _=>False
theorem yb:UnR X (unaryOp .USub) (rU1 λi=>.int (-i)):=λa s b H x v Q I r q=>zw a s b H x v Q I r (by
 cases x <;> first | exact⟨_,rfl,q⟩ | exact(show False from q).elim)
def mB(Q:Bool->Hp->Prop):VK:=λx H=>match x with
 | .bl c=>Q c H
 | _=>False
variable {a b c:Expr}{ta tb tc:TE}{pos:Pos}{rest:List Expr}
def B0(ta tb:TE):TE:=λσ H Q=>ta σ H (mB λc H1=>if c=true then tb σ H1 Q else Q (.bl false) H1)
def Cd(ta:TE):TE:=λσ H Q=>ta σ H (mB λc H1=>Q (.bl (!c)) H1)
theorem jI{Q:Bool->Hp->Prop}{x:V}{H:Hp}(h:mB Q x H):∃ c,x=.bl c/\Q c H:=by
 cases x <;> first | exact⟨_,rfl,h⟩ | exact(show False from h).elim
theorem xX(n:PE X a ta)(k:PE X (.BoolOp .And (b::rest) pos) tb):PE X (.BoolOp .And (a::b::rest) pos) (B0 ta tb):=by
 intro d s i H Q I h;refine BoolOp_and (thn (n d s i H _ I h) λv o ⟨x,j,g,l,f⟩=>?_);obtain⟨c,rfl,f⟩:=jI f;cases l;refine wpAny_truthy_bool ?_;cases c with
 | true=>exact k d o i j Q g f
 | false=>exact⟨.bl false,j,g,rfl,f⟩
theorem Al(j:PE X a ta):PE X (.UnaryOp .Not a pos) (Cd ta):=by
 intro b s g H Q I h;refine UnaryOp_ (thn (j b s g H _ I h) λv l ⟨x,k,f,i,d⟩=>?_);obtain⟨c,rfl,d⟩:=jI d;cases i;exact not_of (wpAny_truthy_bool ⟨.bl (!c),k,f,rfl,d⟩)
def mT(t:TE):TT:=λσ H Q=>t σ H (mB Q)
theorem gw(h:PE X a ta)(k:∀ whole,isTrue a X.env whole=(do let v <- whole;standAt a.pos;holding [v] (truthy v)):=by intro _;rfl):PT X a (mT ta):=by
 intro b s g H Q I c;refine isTrue_plain (thn (h b s g H _ I c) λv n ⟨x,l,f,i,j⟩=>?_) (k _);obtain⟨d,rfl,q⟩:=jI j;cases i;exact wpAny_truthy_bool ⟨l,f,q⟩
theorem eG{op:CmpOp}{r:R2}(n:OpR X (compareOp op) r)(o:PE X a ta)(i:PE X b tb)(j:behindInMarks op b=false):PT X (.Compare a [op] [b] pos) (mT (tOp r ta tb)):=by
 intro d s f H Q I h
 refine wpAny_isTrue_Compare1 (thn (o d s f H _ I h) λv D ⟨x,C,l,A,B⟩=>thn (i d D f C _ l B) λu s2 ⟨y,H2,I2,r2,q2⟩ =>
  thn (n d s2 f H2 x y v u _ I2 A r2 q2) λc E ⟨z,w,q,p,g⟩=>?_) j
 obtain⟨k,rfl,g⟩:=jI g;cases p;exact wpAny_truthy_bool ⟨w,q,g⟩
def zE(r r':R2)(ta tb tc:TE):TE:=λσ H Q=>ta σ H λx H1=>tb σ H1 λy H2=>r x y H2 (mB λk H3=>if k=true then tc σ H3 λw' H4=>r' y w' H4 Q else Q (.bl false) H3)
theorem w4{op g:CmpOp}{r o:R2}(P:OpR X (compareOp op) r)(l:OpR X (compareOp g) o)(J:PE X a ta)(A:PE X b tb)(K:PE X c tc)
  (G:lastMarks [op,g] [b,c]=false:=by with_unfolding_all rfl):PE X (.Compare a [op,g] [b,c] pos) (zE r o ta tb tc):=by
 intro f s i H Q I h
 refine Compare_chain (thn (J f s i H _ I h) λv L ⟨x,w,N,E,q⟩=>chain_link (thn (A f L i w _ N q) λu s2 ⟨y,H2,I2,r2,q2⟩ =>
  thn (P f s2 i H2 x y v u _ I2 E r2 q2) λd D ⟨z,p,n,R,j⟩=>?_)) G
 obtain⟨k,rfl,j⟩:=jI j;cases R;refine wpAny_truthy_bool ?_;cases k with
 | false=>exact ite_ff ⟨.bl false,p,n,rfl,j⟩
 | true=>exact ite_tt (chain_last (thn (K f D i p _ n j) λC Y ⟨B,W,M,T,F⟩=>l f Y i W y B u C Q M r2 T F))
open PySem.W in
theorem tj{g:List (Addr×Obj)}{j:St}{H:Hp}{s:Shared}{x:V}{u t:Value}(I:Inv X g j H s)(b:RelV x u)(ty:TyOf X.K H x t) :
  ∃ Hh:Heap->Prop,KitX X.K u t Hh/\Hh s.heap/\u≠.builtin "__main__.__loader__#opaque" := by
 cases ty with
 | non=>cases(show u=Value.none from b);exact⟨_,PySem.W.kitx_none,True.intro,λz=>nomatch z⟩
 | bl y=>cases(show u=Value.bool y from b);exact⟨_,PySem.W.kitx_bool,True.intro,λz=>nomatch z⟩
 | int i=>obtain⟨t,q⟩:=(show ∃ t,u=Value.int i t from b);cases q;exact⟨_,PySem.W.kitx_int,True.intro,λz=>nomatch z⟩
 | str y=>obtain⟨t,q⟩:=(show ∃ t,u=Value.str y t from b);cases q;exact⟨_,PySem.W.kitx_str,True.intro,λz=>nomatch z⟩
 | flt y=>obtain⟨t,q⟩:=(show ∃ t,u=Value.float y t from b);cases q;exact⟨_,PySem.W.kitx_float,True.intro,λz=>nomatch z⟩
 | @lst a d ea =>
  cases(show u=Value.ref a from b)
  obtain⟨_,_,n,_,c⟩:=(show ObjOk X.prog X.w H s.heap a (.lst d) from I.hok a _ ea)
  exact⟨_,kitx_list,⟨_,c,rfl⟩,λz=>nomatch z⟩
 | @frz a ob d ea =>
  cases(show u=Value.ref a from b)
  obtain⟨_,_,_,n,_,c⟩:=(show ObjOk X.prog X.w H s.heap a (.frz ob (.lst d)) from I.hok a _ ea)
  exact⟨_,kitx_list,⟨_,c,rfl⟩,λz=>nomatch z⟩
 | @tup a d ea =>
  cases(show u=Value.ref a from b)
  obtain⟨_,_,_,p⟩:=(show ObjOk X.prog X.w H s.heap a (.tup d) from I.hok a _ ea)
  obtain⟨o,c,f,_⟩:=p;exact⟨_,kitx_tuple,⟨o,c,f⟩,λz=>nomatch z⟩
 | @dK a kvs ea =>
  cases(show u=Value.ref a from b)
  obtain⟨_,_,v,_,p⟩:=(show ObjOk X.prog X.w H s.heap a (.dK kvs) from I.hok a _ ea)
  obtain⟨o,h,k,c,f,_⟩:=p;exact⟨_,kitx_dict,⟨o,c,f.1⟩,λz=>nomatch z⟩
 | @dT a kvs ea =>
  cases(show u=Value.ref a from b)
  obtain⟨_,_,d,_,o,h,k,c,f,_⟩:=(show ObjOk X.prog X.w H s.heap a (.dT kvs) from I.hok a _ ea)
  exact⟨_,kitx_dict,⟨o,c,f.1⟩,λz=>nomatch z⟩
 | @ins a C dx fs ea cl ha hn htk hm =>
  cases(show u=Value.ref a from b);obtain⟨l,O,_⟩:=iV I.hok ea;obtain⟨r,J,_⟩:=O.look;exact⟨_,PySem.W.kitx_own (cl.get _) cl.hd ha hn htk hm,J,λz=>nomatch z⟩
def Be:V->Value
 | .ty n=>.type n
 | .ref a=>.ref a
 | _=>.none
def xN:V->Bool
 | .ty _=>true
 | .ref _=>true
 | _=>false
theorem xy{c:V}{u:Value}(h:xN c=true)(r:RelV c u):u=Be c:=by
 cases c <;> first | exact r | exact absurd (show false=true from h) Bool.false_ne_true
inductive rIsi(K:Frag)(xs:List V)(H:Hp)(Q:VK):Prop
 | mk(x c:V)(t:_)(b:Bool)(h0:xs=[x,c])(h1:xN c=true)(h2:TyOf K H x t)(h3:kitOne K t (Be c)=some b)(h4:Q (.bl b) H):rIsi K xs H Q
theorem dY:CallR X (.builtin "isinstance") (rIsi X.K):=by
 intro a s v H l w Q I r h;obtain⟨x,c,t,b,rfl,k,d,e,q⟩:=h;obtain⟨u,n,rfl,i,f⟩:=AE r;cases xy k f;obtain⟨o,Z,p,j⟩:=tj I i d
 exact PySem.W.kia_one Z I.kIn p e j λg=>⟨.bl b,H,I.tok g,rfl,q⟩
end
theorem yA{Q:V->Prop}{p r:Prop}[Decidable p][Decidable r](q:Q (.bl (decide (p/\r)))):if decide p=true then Q (.bl (decide r)) else Q (.bl false):=by
 by_cases h:p
 .rw[if_pos (decide_eq_true h)]
  have e:decide (p/\r)=decide r:=by by_cases z:r <;> simp[h,z]
  rw[<- e];exact q
 .rw[if_neg (λz=>h (of_decide_eq_true z))]
  have e:decide (p/\r)=false:=decide_eq_false λz=>h z.1
  rw[<- e];exact q
theorem ifP{c:Prop}[Decidable c]{A B:Prop}(a:c)(h:A):if decide c=true then A else B:=by rw[if_pos (decide_eq_true a)];exact h
theorem ifN{c:Prop}[Decidable c]{A B:Prop}(a:¬c)(h:B):if decide c=true then A else B:=by rw[if_neg (λz=>a (of_decide_eq_true z))];exact h
theorem ifC{c:Prop}[Decidable c]{A B:Prop}(b:c->A)(a:¬c->B):if decide c=true then A else B:=by
 by_cases h:c
 .exact ifP h (b h)
 .exact ifN h (a h)
theorem ifB{b:Bool}{A B:Prop}(c:b=true->A)(a:b=false->B):if b=true then A else B:=by
 cases b with
 | true=>rw[if_pos rfl];exact c rfl
 | false=>rw[if_neg Bool.false_ne_true];exact a rfl
theorem uo{b:Type}{xs:List b}{i:Int}(h0:0<=i)(d:i<xs.length):∃ c,c∈xs/\atI xs i=some c:=by
 have a:i.toNat<xs.length:=by lia
 refine⟨xs[i.toNat],getElem_mem a,?_⟩;have e:((i.toNat:Nat):Int)=i:=by lia
 have:=gj (xs:=xs) (j:=i.toNat) (v:=xs[i.toNat]) (by simp[a]);rwa [e]at this
theorem jq:bootBuiltins "len" = some (.builtin "len"):=by decide +kernel
theorem bL:bootBuiltins "isinstance" = some (.builtin "isinstance"):=by decide +kernel
theorem lq:bootBuiltins "enumerate" = some (.type "enumerate"):=by decide +kernel
theorem yF:bootBuiltins "int" = some (.type "int"):=by decide +kernel
theorem xb:bootBuiltins "bool" = some (.type "bool"):=by decide +kernel
theorem eD:bootBuiltins "list" = some (.type "list"):=by decide +kernel
theorem dH:bootBuiltins "tuple" = some (.type "tuple"):=by decide +kernel
theorem Bv{X:Cx}{x:Str}{v:V}{a:Pos}(c:Gl X x)(h:∃ u,X.mg x=some u/\RelV v u)(b:(x == ("__debug__" : Str))=false:=by decide):PE X (.Name x a) (tC v) :=
 let ⟨_,e,r⟩:=h
 vV c e r b
def B1(K:Frag)(tl:TE):TI:=λσ H R=>tl σ H λx H1=>match x with
 | .str z=>R (Its z) H1
 | .ref a=>((∃ xs,SqL K H1 a xs)/\R (Itl K a) H1)\/((∃ xs,SqT K H1 a xs)/\R (Itt K a) H1)
 | _=>False
theorem bV{X:Cx}{tg l:Expr}{tl:TE}(n:PE X l tl):PI X tg l (B1 X.K tl):=by
 intro f s w H R I h;have A:PE X l tl:=n;refine thn (n f s w H _ I h) λv c ⟨x,j,d,r,i⟩=>?_
 cases x with
 | str z =>
  have:=yP (X:=X) (tg:=tg) (l:=l) (tl:=tC (.str z));obtain⟨t,rfl⟩:=r;refine wpAny_pyIter_strU ?_;refine⟨c.heap.objs.size,[c.heap.objs.size],_,_,j,rfl,d.kept (t':=c.toks) λb o e=>Heap.get?_push_of_some _ e,nH (ty:=strIterType z) (t:=t) z _ ?_,⟨_,Heap.get?_push_size _ rfl,rfl,rfl⟩,λb hb=>?_,i⟩
  .unfold strIterType
   split
   .exact .inl rfl
   .exact .inr rfl
  .have e:b=c.heap.objs.size:=by simpa using hb
   subst e;exact d.fpOk (Nat.le_refl _) (d.hok.fresh (Nat.le_refl _))
 | ref a =>
  cases r
  rcases i with⟨⟨u,k⟩,q⟩ | ⟨⟨u,k⟩,q⟩
  .obtain⟨g,B,p,y⟩:=d.list k
   refine wpAny_pyIter_list p.isList ?_;refine⟨c.heap.objs.size,[c.heap.objs.size],_,_,j,rfl,d.kept (t':=c.toks) λb o e=>Heap.get?_push_of_some _ e,sf a _,⟨_,Heap.get?_push_size _ rfl,rfl,rfl⟩,λb hb=>?_,q⟩;have e:b=c.heap.objs.size:=by simpa using hb
   subst e;exact d.fpOk (Nat.le_refl _) (d.hok.fresh (Nat.le_refl _))
  .obtain⟨g,B,p,y⟩:=d.tuple k
   refine wpAny_pyIter_tuple (show c.heap.IsTuple a g.toArray from p) ?_;refine⟨c.heap.objs.size,[c.heap.objs.size],_,_,j,rfl,d.kept (t':=c.toks) λb o e=>Heap.get?_push_of_some _ e,oF a _,⟨_,Heap.get?_push_size _ rfl,rfl,rfl⟩,λb hb=>?_,q⟩;have e:b=c.heap.objs.size:=by simpa using hb
   subst e;exact d.fpOk (Nat.le_refl _) (d.hok.fresh (Nat.le_refl _))
 | _=>exact(show False from i).elim
inductive rLenSq(K:Frag)(p:Addr)(H:Hp)(Q:VK):Prop
 | mk(ys:List V)(h0:SqL K H p ys\/SqT K H p ys)(h1:Q (.int ys.length) H):rLenSq K p H Q
theorem eU{X:Cx}:CallR X (.builtin "len") (λxs H Q=>match xs with
  | [.str z]=>z.length<=sizeLine/\Q (.int z.length) H
  | [.ref p]=>rLenSq X.K p H Q
  | _=>False):=(call_len_str.or lU).imp λxs H Q q=>by
 match xs,q with
 | [.str z],q=>exact .inl ⟨z,rfl,q.1,q.2⟩
 | [.ref p],q=>obtain⟨a,h,q⟩:=q;exact .inr ⟨p,a,rfl,h,q⟩
section
variable {D:Addr}{σb:St}{g:TG}{tt:TT}{te:TE}{Q:Hp->List V->Prop}{H:Hp}{K:Frag}
def qi(D:Addr)(σb:St)(g:TG)(tt:TT)(te:TE)(x:V)(ys:List V)(H:Hp)(P:List V->Hp->Prop):Prop :=
 g x σb H λσ4 H4=>Wk σb σ4/\tt σ4 H4 λb H5=>if b=true then te σ4 H5 λy H6=>H6 D=some (.lst ys)/\ys.length<sizeLine/\P (ys++[y]) (upd H6 D (.lst (ys++[y]))) else P ys H5
theorem da{a:Addr}{xs:List V}(Pv:Nat->List V->Hp->Prop)(h0:Pv 0 [] H)(f:∀ i ys H,Pv i ys H->SqL K H a xs)(d:∀ i ys H,Pv i ys H->H D=some (.lst ys))
  (h:∀(i:Nat) x ys H P,xs[i]? = some x->Pv i ys H->(∀ a b,Pv (i+1) a b->P a b)->qi D σb g tt te x ys H P) (c:∀ ys H,Pv xs.length ys H->Q H ys):∃ W,(∃ m,W 0 m [] H)/\ju (Itl K a) D σb g tt te Q W:=by
 refine⟨λi m ys H=>m=xs.length - i/\i<=xs.length/\Pv i ys H,⟨_,rfl,Nat.zero_le _,h0⟩,?_⟩;rintro i m ys H ⟨rfl,k,p⟩;refine⟨d i ys H p,?_⟩;have q:=f i ys H p
 by_cases hlt:i<xs.length
 .refine .inr ⟨⟨xs,xs[i],q,by simp[hlt]⟩,λx j y=>?_⟩
  obtain⟨rfl,y⟩:=y;exact h i x ys _ (λa b=>∃ m',m'<xs.length - i/\m'=xs.length - (i+1)/\i+1<=xs.length/\Pv (i+1) a b) (y xs q) p (λa b q=>⟨xs.length - (i+1),by lia,rfl,hlt,q⟩)
 .have e:i=xs.length:=by lia
  subst e;exact .inl ⟨⟨xs,q,Nat.le_refl _⟩,c ys H p⟩
theorem fy{a:Addr}{xs:List V}(Pv:Nat->List V->Hp->Prop)(h0:Pv 0 [] H)(f:∀ i ys H,Pv i ys H->SqT K H a xs)(d:∀ i ys H,Pv i ys H->H D=some (.lst ys))
  (h:∀(i:Nat) x ys H P,xs[i]? = some x->Pv i ys H->(∀ a b,Pv (i+1) a b->P a b)->qi D σb g tt te x ys H P) (c:∀ ys H,Pv xs.length ys H->Q H ys):∃ W,(∃ m,W 0 m [] H)/\ju (Itt K a) D σb g tt te Q W:=by
 refine⟨λi m ys H=>m=xs.length - i/\i<=xs.length/\Pv i ys H,⟨_,rfl,Nat.zero_le _,h0⟩,?_⟩;rintro i m ys H ⟨rfl,k,p⟩;refine⟨d i ys H p,?_⟩;have q:=f i ys H p
 by_cases hlt:i<xs.length
 .refine .inr ⟨⟨xs,xs[i],q,by simp[hlt]⟩,λx j y=>?_⟩
  obtain⟨rfl,y⟩:=y;exact h i x ys _ (λa b=>∃ m',m'<xs.length - i/\m'=xs.length - (i+1)/\i+1<=xs.length/\Pv (i+1) a b) (y xs q) p (λa b q=>⟨xs.length - (i+1),by lia,rfl,hlt,q⟩)
 .have e:i=xs.length:=by lia
  subst e;exact .inl ⟨⟨xs,q,Nat.le_refl _⟩,c ys H p⟩
theorem mX{lo:Int}{n:Nat}(Pv:Nat->List V->Hp->Prop)(h0:Pv 0 [] H)(d:∀ i ys H,Pv i ys H->H D=some (.lst ys))
  (f:∀(i:Nat) ys H P,i<n->Pv i ys H->(∀ a b,Pv (i+1) a b->P a b)->qi D σb g tt te (.int (lo+i)) ys H P) (c:∀ ys H,Pv n ys H->Q H ys):∃ W,(∃ m,W 0 m [] H)/\ju (Itr lo n) D σb g tt te Q W:=by
 refine⟨λi m ys H=>m=n - i/\i<=n/\Pv i ys H,⟨_,rfl,Nat.zero_le _,h0⟩,?_⟩;rintro i m ys H ⟨rfl,j,p⟩;refine⟨d i ys H p,?_⟩
 by_cases hlt:i<n
 .refine .inr ⟨hlt,λx h y=>?_⟩
  obtain⟨rfl,rfl⟩:=y;exact f i ys _ (λa b=>∃ m',m'<n - i/\m'=n - (i+1)/\i+1<=n/\Pv (i+1) a b) hlt p (λa b q=>⟨n - (i+1),by lia,rfl,hlt,q⟩)
 .have e:i=n:=by lia
  subst e;exact .inl ⟨Nat.le_refl _,c ys H p⟩
end
theorem Same.new{H:Hp}{p:Addr}{o:HO}(h:H p=none):Same H (upd H p o):=λb u e=>by rw[ag (aw e h)];exact e
mutual
def DV(K:Frag)(H:Hp):PyData->V->Prop
 | .none,x=>x=.non
 | .bool b,x=>x=.bl b
 | .int i,x=>x=.int i
 | .str z,x=>x=.str z
 | .list ds,x=>∃ a xs,x=.ref a/\SqL K H a xs/\DVs K H ds xs
 | .tuple ds,x=>∃ a xs,x=.ref a/\SqT K H a xs/\DVs K H ds xs
 | .dict _,_=>False
def DVs(K:Frag)(H:Hp):List PyData->List V->Prop
 | [],xs=>xs=[]
 | d::ds,xs=>∃ y ys,xs=y::ys/\DV K H d y/\DVs K H ds ys
end
section
variable {X:Cx}{pins:List (Addr×Obj)}{σ:St}{H:Hp}{s:Shared}
mutual
theorem DV.reads(I:Inv X pins σ H s):∀{d:PyData}{x:V}{u:Value},DV X.K H d x->RelV x u->∃ as,Reads s.heap u d as
 | .none,x,u,h,r=>by
  rw[DV]at h;subst h;cases r;exact⟨_,.none⟩
 | .bool b,x,u,h,r=>by
  rw[DV]at h;subst h;cases r;exact⟨_,.bool b⟩
 | .int i,x,u,h,r=>by
  rw[DV]at h;subst h;obtain⟨t,rfl⟩:=r;exact⟨_,.int i t⟩
 | .str z,x,u,h,r=>by
  rw[DV]at h;subst h;obtain⟨t,rfl⟩:=r;exact⟨_,.str z t⟩
 | .list ds,x,u,h,r=>by
  rw[DV]at h;obtain⟨a,l,rfl,f,g⟩:=h;cases r;obtain⟨j,k,⟨o,n,e,c,_,d⟩,_⟩:=I.list f;obtain⟨as,q⟩:=DVs.reads I g k;exact⟨_,.list e c d (by simpa using q)⟩
 | .tuple ds,x,u,h,r=>by
  rw[DV]at h;obtain⟨a,l,rfl,f,g⟩:=h;cases r;obtain⟨j,k,⟨o,e,c,n,d⟩,_⟩:=I.tuple f;obtain⟨as,q⟩:=DVs.reads I g k;exact⟨_,.tuple e c d (by simpa using q)⟩
 | .dict _,x,u,h,r=>by rw[DV]at h;exact h.elim
theorem DVs.reads(I:Inv X pins σ H s):∀{ds:List PyData}{xs:List V}{us:List Value},DVs X.K H ds xs->Vals xs us->∃ as,ReadsAll s.heap us ds as
 | [],xs,us,h,r=>by
  rw[DVs]at h;subst h;cases r;exact⟨_,.nil⟩
 | d::ds,xs,us,h,r=>by
  rw[DVs]at h;obtain⟨y,c,rfl,a,b⟩:=h;cases r with
  | cons r rs =>
   obtain⟨as,q⟩:=DV.reads I a r;obtain⟨f,p⟩:=DVs.reads I b rs;exact⟨_,.cons q p⟩
end
end
inductive rEqD(K:Frag)(neg:Bool)(x y:V)(H:Hp)(Q:VK):Prop
 | mk(d e:PyData)(h0:DV K H d x)(h1:DV K H e y)(h2:SeqAt.shaped d=true)(h3:SeqAt.shaped e=true)(h4:Q (.bl (if neg then !PyData.eqv d e else PyData.eqv d e)) H):rEqD K neg x y H Q
theorem Ax{X:Cx}(i:X.A.units+64<cLine):OpR X (compareOp .Eq) (rEqD X.K false):=by
 intro a s r H x y v u Q I j g h;obtain⟨d,e,f,c,n,k,q⟩:=h;obtain⟨p,b⟩:=f.reads I j;obtain⟨o,l⟩:=c.reads I g;exact eq_dataH b l n k i ⟨.bl _,H,I,rfl,q⟩
theorem xY{X:Cx}(i:X.A.units+64<cLine):OpR X (compareOp .NotEq) (rEqD X.K true):=by
 intro a s r H x y v u Q I j g h;obtain⟨d,e,f,c,n,k,q⟩:=h;obtain⟨p,b⟩:=f.reads I j;obtain⟨o,l⟩:=c.reads I g;exact ne_dataH b l n k i ⟨.bl _,H,I,rfl,q⟩
def wS(z:Str)(lo hi:Option Int):Str:=⟨((z.cps.toList.drop (HT.sIx z.cps.size 0 lo)).take (HT.sIx z.cps.size z.cps.size hi - HT.sIx z.cps.size 0 lo)).toArray⟩
theorem xM(n d:Nat)(v:Option Int):(match v with | none=>(d:Int) | some i=>max 0 (min (if i<0 then i+(n:Int) else i) (n:Int)))=((HT.sIx n d v:Nat):Int):=by
 cases v with
 | none=>rfl
 | some i =>
  show max 0 (min (if i<0 then i+(n:Int) else i) (n:Int))=(((if i<0 then (i+(n:Int)).toNat else min i.toNat n):Nat):Int)
  split <;> lia
theorem tZ(lo a:Option Int)(n:Nat):Builtin.Str.strSliceIndices lo a 1 n=(List.range (HT.sIx n n a - HT.sIx n 0 lo)).map (HT.sIx n 0 lo + ·):=by
 have e:Builtin.Str.strSliceIndices lo a 1 n=sliceRange ((HT.sIx n 0 lo:Nat):Int) ((HT.sIx n n a:Nat):Int) 1:=by
  rw[<- xM n 0 lo,<- xM n n a];unfold Builtin.Str.strSliceIndices;simp only[show(1:Int) > 0 by decide,if_true]
  cases lo <;> cases a <;> rfl
 rw[e,sliceRange_one]
theorem rQ(z:Str)(lo a:Option Int):Txt.slice z lo a=wS z lo a:=by
 have e:((Builtin.Str.strSliceIndices lo a 1 z.length).filterMap (z.cps[·]?))=(z.cps.toList.drop (HT.sIx z.cps.size 0 lo)).take (HT.sIx z.cps.size z.cps.size a - HT.sIx z.cps.size 0 lo):=by
  rw[tZ];exact pick_run z.cps _ _
 unfold Txt.slice
 split
 .rename_i h
  have c:(Builtin.Str.strSliceIndices lo a 1 z.length).length=z.cps.size:=by
   rw[Bool.and_eq_true]at h;exact eq_of_beq h.2
  rw[tZ,length_map,length_range]at c;have g:=HT.sIx_le z.cps.size z.cps.size (Nat.le_refl _) a;have b:HT.sIx z.cps.size z.cps.size a - HT.sIx z.cps.size 0 lo=z.cps.size:=c;unfold wS
  by_cases h0:z.cps.size=0
  .refine ext_toList ?_
   have f:z.cps.toList=[]:=List.length_eq_zero_iff.mp (by simpa using h0);show z.cps.toList=_;rw[f];simp
  .have d:HT.sIx z.cps.size 0 lo=0:=by lia
   rw[b,d,drop_zero,take_of_length_le (by simp)]
 .rw[e]
  rfl
section
variable {X:Cx}
def Ca:V->Option Int->Option Int->Hp->VK->Prop:=λx lo hi H Q=>∃ z,x=.str z/\z.length<=sizeLine/\Q (.str (wS z lo hi)) H
theorem yQ:SlR X Ca:=by
 intro b s r H x v B A n w y Q I o d p f h;obtain⟨z,rfl,c,q⟩:=h;obtain⟨t,rfl⟩:=o;refine⟨"str",_,F.slot_str_getitem.lookup,typeIs_str _ _ _,?_⟩;rw[<- rQ]at q
 have a:∀ g k,EP X b r Q (.str (Txt.slice z n w) g) { s with toks:=k }:=λg k=>⟨.str _,H,I.tok _,⟨_,rfl⟩,q⟩
 cases p with
 | none =>
  cases f with
  | none=>exact wpAny_getItem_str_slice (l:=none) (u:=none) (st:=none) d rfl (post_val_or_str ⟨Nat.le_trans (Txt.slice_le z _ _) c,a⟩)
  | int j uj=>exact wpAny_getItem_str_slice (l:=none) (u:=some (j,uj)) (st:=none) d rfl (post_val_or_str ⟨Nat.le_trans (Txt.slice_le z _ _) c,a⟩)
 | int i ui =>
  cases f with
  | none=>exact wpAny_getItem_str_slice (l:=some (i,ui)) (u:=none) (st:=none) d rfl (post_val_or_str ⟨Nat.le_trans (Txt.slice_le z _ _) c,a⟩)
  | int j uj=>exact wpAny_getItem_str_slice (l:=some (i,ui)) (u:=some (j,uj)) (st:=none) d rfl (post_val_or_str ⟨Nat.le_trans (Txt.slice_le z _ _) c,a⟩)
theorem SlR.imp{r b:V->Option Int->Option Int->Hp->VK->Prop}(h:SlR X r)(i:∀ x lo hi H Q,b x lo hi H Q->r x lo hi H Q):SlR X b :=
 λa s k H x v l f lo hi c Q I g n j d q=>h a s k H x v l f lo hi c Q I g n j d (i x lo hi H Q q)
theorem zM:SlR X (λx lo hi H Q=>match x with
  | .str z=>z.length<=sizeLine/\Q (.str (wS z lo hi)) H
  | .ref a=>(∃ xs,SqL X.K H a xs/\∀ p,H p=none->Q (.ref p) (upd H p (.lst (fF xs lo hi)))) \/
    ∃ xs,SqT X.K H a xs/\¬(HT.sIx xs.length 0 lo=0/\HT.sIx xs.length xs.length hi=xs.length)/\∀ p,H p=none->Q (.ref p) (upd H p (.tup (fF xs lo hi)))
  | _=>False):=(sl_list.or (sl_tup.or yQ)).imp λx lo hi H Q q=>by
 cases x with
 | str z=>exact .inr (.inr ⟨z,rfl,q.1,q.2⟩)
 | ref a =>
  rcases q with⟨xs,c,b⟩ | ⟨xs,c,b,d⟩
  .exact .inl ⟨a,xs,rfl,c,b⟩
  .exact .inr (.inl ⟨a,xs,rfl,c,b,d⟩)
 | _=>exact(show False from q).elim
variable {o e:Expr}{es:List Expr}{to:TE}{t:TA}{apos cpos:Pos}
end
end L2
namespace L2
abbrev PvS:=Nat->St->Hp->Prop
abbrev PvL:=Nat->List V->Hp->Prop
theorem iC{c a:TS}{D:Ends}{b:St}{H:Hp}:(let B2:TS:=a;bG c B2 D b H)->bG c a D b H:=λh=>h
theorem iH{c a d:TS}{D:Ends}{b:St}{H:Hp}:(let B3:TS:=d;let B2:TS:=bG a B3;bG c B2 D b H)->bG c (bG a d) D b H:=λh=>h
theorem mU{c a f b:TS}{D:Ends}{d:St}{H:Hp}:(let B4:TS:=b;let B3:TS:=bG f B4;let B2:TS:=bG a B3;bG c B2 D d H)->bG c (bG a (bG f b)) D d H:=λh=>h
theorem xL{c a g b d:TS}{D:Ends}{f:St}{H:Hp}:(let B5:TS:=d;let B4:TS:=bG b B5;let B3:TS:=bG g B4;let B2:TS:=bG a B3;bG c B2 D f H)->bG c (bG a (bG g (bG b d))) D f H:=λh=>h
theorem AX{d a i c f b:TS}{D:Ends}{g:St}{H:Hp}:(let B6:TS:=b;let B5:TS:=bG f B6;let B4:TS:=bG c B5;let B3:TS:=bG i B4;let B2:TS:=bG a B3;bG d B2 D g H)->bG d (bG a (bG i (bG c (bG f b)))) D g H:=λh=>h
theorem Aj{d a k c f b j i:TS}{D:Ends}{g:St}{H:Hp}:(let B8:TS:=i;let B7:TS:=bG j B8;let B6:TS:=bG b B7;let B5:TS:=bG f B6;let B4:TS:=bG c B5;let B3:TS:=bG k B4;let B2:TS:=bG a B3;bG d B2 D g H)->bG d (bG a (bG k (bG c (bG f (bG b (bG j i)))))) D g H:=λh=>h
end L2
namespace L2
open PySem PySem.Spec PyProof.Rows
section
variable {X:Cx}{pins:List (Addr×Obj)}{σ:St}{H:Hp}{s:Shared}{h':Heap}
theorem Inv.turnedNew{t':Nat}{ch:List Addr}{a:Addr}{o:HO}(I:Inv X pins σ H s)(k:∀ b u,b ∉ ch->s.heap.get? b=some u->h'.get? b=some u)(p:∀ b∈ch,gz X pins H b)
  (x:s.heap.objs.size<=a) (l:ObjOk X.prog X.w (upd H a o) h' a o):Inv X pins σ (upd H a o) { s with heap:=h',toks:=t' }:=by
 have j:H a=none:=I.hok.fresh x
 have g:∀ b u,H b=some u->b ∉ ch:=λb u e z=>by
  rw[(p b z).1]at e;cases e
 have d:∀ b u,H b=some u->b≠a:=λb u e z=>by
  rw[z,j]at e;cases e
 have i:∀ b u,s.heap.get? b=some u->b≠a:=λb u e=>Nat.ne_of_lt (Nat.lt_of_lt_of_le (Heap.lt_size e) x)
 refine I.step (g':=s.gens) (d':=s.drawn) (ch:=ch) (λb h=>?_) (λb u _ _ f e _=>k b u f e) (λb u _ _ f e _=>⟨u.slots,k b u f e⟩) (λb u _ e n=>?_) (λb u f e=>⟨u,k b u f e⟩)
  (λb A e=>?_) (λb u v e=>?_) (λb ps e=>⟨#[],?_⟩) (λm hm=>?_) (λb u e=>?_) I.bare
 .obtain⟨_,C,_,y,G,B⟩:=p b h
  exact⟨y,C,G,B⟩
 .rw[ag (i b u e)];exact n
 .rw[ag (d b _ e)];exact e
 .rw[ag (d b _ e)];exact e
 .rw[ag (d b _ e),e];simp
 .obtain⟨w,E,F,D,r⟩:=hm
  exact⟨w,E,F,k _ w (λz=>(p _ z).2.1 rfl) D,r⟩
 .by_cases h:b=a
  .subst h
   rw[ad]at e;cases e;exact l
  .rw[ag h]at e
   refine(I.hok b u e).stay (λc v f q=>k c v ?_ q) (λc q=>?_) λc A q=>?_
   .rcases f with z | z
    .rw[z];exact g b u e
    .exact g c _ z
   .rw[ag (d c _ q)];exact q
   .rw[ag (d c _ q)];exact q
theorem Inv.turnedN{t':Nat}{ch:List Addr}(I:Inv X pins σ H s)(k:∀ b u,b ∉ ch->s.heap.get? b=some u->h'.get? b=some u)(f:∀ b∈ch,gz X pins H b):Inv X pins σ H { s with heap:=h',toks:=t' }:=by
 have d:∀ b u,H b=some u->b ∉ ch:=λb u e z=>by
  rw[(f b z).1]at e;cases e
 refine I.step (g':=s.gens) (d':=s.drawn) (ch:=ch) (λb h=>?_) (λb u _ _ a e _=>k b u a e) (λb u _ _ a e _=>⟨u.slots,k b u a e⟩) (λb u _ e n=>n) (λb u a e=>⟨u,k b u a e⟩)
  (λb j e=>e) (λb u v e=>e) (λb ps e=>⟨#[],by rw[e];simp⟩) (λm hm=>?_) (λb u e=>?_) I.bare
 .obtain⟨_,o,_,i,y,l⟩:=f b h
  exact⟨i,o,y,l⟩
 .obtain⟨g,w,x,p,r⟩:=hm
  exact⟨g,w,x,k _ g (λz=>(f _ z).2.1 rfl) p,r⟩
 .refine(I.hok b u e).stay (λc v a q=>k c v ?_ q) (λc q=>q) λc j q=>q
  rcases a with z | z
  .rw[z];exact d b u e
  .exact d c _ z
end
def Ite(a:Addr):It:=⟨λi H=>∃ xs x,H a=some (.lst xs)/\xs[i]? = some x,
 λi H x H'=>∃ p y,H p=none/\x=.ref p/\(∀ xs,H a=some (.lst xs)->xs[i]? = some y)/\H'=upd H p (.tup [.int (i:Nat),y]),λi H=>∃ xs,H a=some (.lst xs)/\xs.length<=i⟩
theorem sK{P:Program}{w:World}{K:Frag}{es:List Expr}{k:Nat}{W:Pos}(a e c:Addr)(y:e≠c) :
  Turn P w K (.Tuple es k W) (Ite a) [e,c] e (λi h=>(∃ old,IsEnum h e c i old)/\h.IsListIter c a i) where
 mem:=by simp
 obj:=λi h g b hb=>by
  obtain⟨⟨old,d⟩,o,B,F,h3⟩:=g
  rcases mem_cons.mp hb with rfl | hb
  .exact⟨_,d,λv z=>by cases z⟩
  .rw[mem_singleton.mp hb]
   exact⟨o,B,λv z=>by rw[h3]at z;cases z⟩
 keep:=λi h h' g kp=>by
  obtain⟨⟨old,d⟩,o,B,r⟩:=g;exact⟨⟨old,kp e (by simp) _ d⟩,o,kp c (by simp) o B,r⟩
 item:=by
  intro X Q L Z hc i j s σ H E I D g R;subst Q L Z;obtain⟨⟨old,d⟩,f⟩:=g;obtain⟨xs,x,G,hx⟩:=R;obtain⟨z,p,n,r,C,T⟩:=I.lstM G;obtain⟨u,hu,ru⟩:=Vals.get r hx
  have l:s.heap.IsList a p.toArray:=⟨_,T,rfl,_,rfl⟩
  refine wpAny_pyNext_enum_item d f l (x:=u) (by simpa using hu) y λB e1 e2 e3 e4 e5=>?_
  refine⟨_,rfl,wpAny_letOwnedTupleGo_enum e1 λF e6 Y=>?_⟩;have A:s.heap.objs.size≠e:=λq=>absurd (Heap.lt_size d) (by rw[<- q];exact Nat.lt_irrefl _)
  have ab:s.heap.objs.size≠c:=λq=>by
   obtain⟨o,ho,_⟩:=f;exact absurd (Heap.lt_size ho) (by rw[<- q];exact Nat.lt_irrefl _)
  have hn:H s.heap.objs.size=none:=I.hok.fresh (Nat.le_refl _);have M:F.get? s.heap.objs.size=some { cls:=.type "tuple",data:=.seq #[.int i s.toks,u] }:=(Y.2 _ A).trans e3
  have J:Inv X j σ (upd H s.heap.objs.size (.tup [.int (i:Nat),x])) { s with heap:=F,toks:=s.toks+1 }:=by
   refine I.turnedNew (ch:=[e,c]) (λb o hb q=>?_) D (Nat.le_refl _) ⟨by rw[sizeLine_eq];show 2<=16777216;decide,[.int i s.toks,u],.cons ⟨_,rfl⟩ (.cons ru .nil),_,M,rfl,0,rfl⟩;have b1:b≠e:=λz=>hb (by simp[z])
   have b2:b≠c:=λz=>hb (by simp[z])
   exact(Y.2 b b1).trans (e5 b o b1 b2 q)
  refine⟨.ref s.heap.objs.size,_,J,rfl,⟨s.heap.objs.size,x,hn,rfl,λys hy=>?_,rfl⟩,⟨⟨u,?_⟩,?_⟩,λb hb=>?_⟩
  .rw[G]at hy
   cases hy;exact hx
  .have ac:IsEnum F e c ((i:Int)+1) u:=e6
   have e7:((i+1:Nat):Int)=(i:Int)+1:=by lia
   rw[e7];exact ac
  .obtain⟨o,ho,r⟩:=e2
   exact⟨o,(Y.2 c (Ne.symm y)).trans ho,r⟩
  .have N:b≠s.heap.objs.size:=by
    rcases mem_cons.mp hb with rfl | hb
    .exact A.symm
    .rw[mem_singleton.mp hb];exact ab.symm
   rw[ag N];exact(D b hb).1
 done:=by
  intro X Q L Z hc i j s σ H E I D g R;subst Q L Z;obtain⟨⟨old,d⟩,f⟩:=g;obtain⟨xs,G,hx⟩:=R;obtain⟨z,p,n,r,C,T⟩:=I.lstM G
  have l:s.heap.IsList a p.toArray:=⟨_,T,rfl,_,rfl⟩
  refine wpAny_pyNext_enum_end (I.ok.hd hc) d f l (by simp;lia) λB eb=>⟨rfl,I.turnedN (ch:=[e,c]) (t':=s.toks) (λb o hb q=>eb b o (λz=>hb (by simp[z])) q) D⟩
 self:=λ_ _ _ _ _ g h=>by
  obtain⟨⟨old,d⟩,_⟩:=g;exact wpAny_pyIter_enum d h
def Bp(ta:TA):TI:=λσ H R=>ta σ H λvs H1=>∃ a xs,vs=[.ref a]/\H1 a=some (.lst xs)/\R (Ite a) H1
theorem xz{X:Cx}{es:List Expr}{k:Nat}{i:Pos}{e:Expr}{x:TA}{p g:Pos}(B:Gl X "enumerate")(G:X.mg "enumerate" = none)(M:PA X [e] x)(P:starEach [e] X.env=[(false,eval e X.env)]:=by rfl) :
  PI X (.Tuple es k i) (.Call (.Name "enumerate" p) [e] [] g) (Bp x):=by
 intro c s w H R I h;refine wpAny_Call_Name_kw (jd I B G lq ?_ (by decide) (by decide));refine PyProof.Rows.callWith_type1 (thn (M g c s w H _ I h) λT d ⟨W,v,j,F,a,Q,l,E,q⟩=>?_) P rfl;subst l;obtain⟨u,rfl,K⟩:=fK F;cases K;obtain⟨z,L,n,r,y,C⟩:=j.lstM E;refine call_enumerate_1 (n:=n) C λD l A Y N=>?_
 have J:Inv X c w v { d with heap:=D }:=j.kept (t':=d.toks) N;have o:d.heap.objs.size+1≠d.heap.objs.size:=Nat.succ_ne_self _;refine wpAny_pyIter_enum l ?_;refine⟨d.heap.objs.size+1,[d.heap.objs.size+1,d.heap.objs.size],_,_,v,rfl,J,sK a _ _ o,⟨⟨_,l⟩,A⟩,λb hb=>?_,q⟩
 have f:d.heap.objs.size<=b:=by
  rcases mem_cons.mp hb with rfl | hb
  .lia
  .rw[mem_singleton.mp hb]
   exact Nat.le_refl _
 exact j.fpOk f (j.hok.fresh f)
theorem ve{a:Addr}{xs:List V}{g:TG}{d:TS}{D:Ends}{c:St}{H:Hp}(Pv:Nat->St->Hp->Prop)(h0:Pv 0 c H)(h:∀ i c H,Pv i c H->H a=some (.lst xs))
  (l:∀(i:Nat) x c H p,xs[i]? = some x->Pv i c H->H p=none->g (.ref p) c (upd H p (.tup [.int (i:Nat),x])) λσ2 H2=>d { D with nx:=Pv (i+1),ct:=Pv (i+1),bk:=D.nx } σ2 H2) (j:∀ c H,Pv xs.length c H->D.nx c H) :
  ∃ W:Nat->Nat->St->Hp->Prop,(∃ m,W 0 m c H)/\∀ i m c H,W i m c H ->
   ((Ite a).stop i H/\D.nx c H)\/((Ite a).go i H/\∃ N:St->Hp->Prop,(∀ σ' H',N σ' H'->∃ m',m'<m/\W (i+1) m' σ' H')/\∀ x H',(Ite a).yld i H x H'->g x c H' λσ2 H2=>d { D with nx:=N,ct:=N,bk:=D.nx } σ2 H2):=by
 refine⟨λi m c H=>m=xs.length - i/\i<=xs.length/\Pv i c H,⟨_,rfl,Nat.zero_le _,h0⟩,?_⟩;rintro i m c H ⟨rfl,o,p⟩;have q:=h i c H p
 by_cases hlt:i<xs.length
 .refine .inr ⟨⟨xs,xs[i],q,by simp[hlt]⟩,Pv (i+1),λσ' H' n=>⟨_,by lia,rfl,hlt,n⟩,λx H' y=>?_⟩
  obtain⟨b,v,f,rfl,k,rfl⟩:=y;exact l i v c H b (k xs q) p f
 .have e:i=xs.length:=by lia
  subst e;exact .inl ⟨⟨xs,q,Nat.le_refl _⟩,j c H p⟩
end L2
namespace SplM
open PySem
end SplM
namespace L2
open PySem PySem.Spec PyProof.Rows
section
variable {X:Cx}
variable {o e:Expr}{es:List Expr}{to:TE}{t:TA}{apos cpos:Pos}
theorem pe_m.append(f:PE X o to)(g:PA X (e::es) t)(b:attributeBase o "append" X.env (eval o X.env)=eval o X.env:=by rfl)
  (d:((backTo cpos (starEach (e::es) X.env)).all (λx=>!x.1) && (backToKw cpos (keywordEach [] X.env)).all (λx=>x.1.isSome) && decide ((e::es).length+([]:List Keyword).length+(if ([]:List Keyword).isEmpty then 0 else 1)<30))=true:=by rfl)
  (c:(apos.endLine == cpos.line)=true:=by rfl) (h:starEach (e::es) X.env=(false,eval e X.env)::starEach es X.env:=by rfl) (a:(backTo cpos (starEach es X.env)).any (·.1)=false:=by rfl) :
  PE X (.Call (.Attribute o "append" apos) (e::es) [] cpos) (tBM X.K "list" rAppend to t):=yc F.plainAttrs_list F.slot_list_append F.type_list_append ko f g b d c h a
theorem pe_m.clear(c:PE X o to)(a:attributeBase o "clear" X.env (eval o X.env)=eval o X.env:=by rfl)(b:(apos.endLine == cpos.line)=true:=by rfl) :
  PE X (.Call (.Attribute o "clear" apos) [] [] cpos) (zp X.K "list" uV to):=uz F.plainAttrs_list F.slot_list_clear F.type_list_clear vw c a b
theorem pe_m.pop(c:PE X o to)(a:attributeBase o "pop" X.env (eval o X.env)=eval o X.env:=by rfl)(b:(apos.endLine == cpos.line)=true:=by rfl) :
  PE X (.Call (.Attribute o "pop" apos) [] [] cpos) (zp X.K "list" Bh to):=uz F.plainAttrs_list F.slot_list_pop F.type_list_pop zC c a b
end
def TK(H H':Hp):Prop:=∀ b xs,H b=some (.tup xs)->H' b=some (.tup xs)
theorem TK.trans{H H1 H2:Hp}(a:TK H H1)(b:TK H1 H2):TK H H2:=λc o h=>b c o (a c o h)
theorem Same.tk{H H':Hp}(e:Same H H'):TK H H':=λb a h=>e b _ h
theorem Same.put{H H':Hp}{D:Addr}{o:HO}(e:Same H H')(h:H D=none):Same H (upd H' D o):=λb u q=>by
 rw[ag (aw q h)];exact e b u q
theorem dX{a:Type}{xs:List a}{i:Int}{v:a}(k:Nat)(b:(k:Int)=i)(h:xs[k]? = some v):atI xs i=some v:=by rw[<- b];exact gj h
structure U where
 name:Str
 value:Int
 size:Int
 path:List Str
section
variable {X:Cx}{K:Frag}
theorem qI(h:X.K=K):IxR X (rIx K):=h ▸ bN
theorem di(h:X.K=K){es:List Expr}{k:Nat}{t:TGs}{n:Nat}{b:Pos}(d:X.calm=true)(f:PGs X es t)(c:(assignEach es X.env).length=n:=by rfl)(a:(assignEach es X.env).findIdx? (·.1)=none:=by rfl) :
  PG X (.Tuple es k b) (gTup K n t):=h ▸ eh d f c a
end
structure XCls(K:Frag)(D:Addr):Prop where
 ga:findIn K (.ref D) "__getattribute__" = some (some (.builtin "BaseException.__getattribute__"))
 gn:findIn K (.ref D) "__getattr__" = some none
 cl:findIn K (.ref D) "__class__" = some (some (.builtin "object.__class__"))
 mb:mroIn K D (.type "BaseException")=some true
 mo:mroIn K D (.type "object")=some true
 isc:(clsIn K D).isSome=true
section
variable {prog:Program}{w:World}{A:Around}{E:Value->Shared->Prop}{h:Heap}{g:Array GenState}{d:Drawn}{t:Nat}{os:OsState}{a D:Addr}{o:Obj}{K:Frag}
end
theorem wO{c:List Addr}{j H:Hp}{h0 h f:Heap}(u:Un c [] j H h0 h)(k:∀ b o,(∃ o',h0.get? b=some o')->b ∉ c->h.get? b=some o->f.get? b=some o)
  (i:∀ b o,b∈c->h.get? b=some o->∃ l,f.get? b=some { o with slots:=l }):Un c [] j H h0 f where
 keep:=λb o q n a d=>k b o ⟨o,q⟩ a (u.keep b o q n a d)
 slot:=λb o q n a d=>by
  obtain⟨l,e⟩:=u.slot b o q n a d;obtain⟨p,g⟩:=i b _ a e;exact⟨p,g⟩
 free:=u.free
 there:=λb o q d=>by
  obtain⟨o',e⟩:=u.there b o q d
  by_cases a:b∈c
  .obtain⟨l,g⟩:=i b o' a e
   exact⟨_,g⟩
  .exact⟨o',k b o' ⟨o,q⟩ a e⟩
 tups:=u.tups
 frzs:=u.frzs
 tbls:=u.tbls
theorem tY{P:Program}{w:World}{H:Hp}{h c:Heap}(x:HOk P w H h)(k:∀ b o u,H b=some u->h.get? b=some o->c.get? b=some o):HOk P w H c:=λa o e =>
 (x a o e).stay (λb u d q=>by
  rcases d with z | z
  .rw[z]at q ⊢
   exact k a u o e q
  .exact k b u _ z q) (λ_ q=>q) λ_ _ q=>q
theorem ObjOk.isObj{P:Program}{w:World}{H:Hp}{h:Heap}{a:Addr}{o:HO}(x:ObjOk P w H h a o):∃ u,h.get? a=some u:=by
 cases o with
 | lst xs=>obtain⟨_,_,_,_,e⟩:=x;exact⟨_,e⟩
 | tup xs=>obtain⟨_,_,_,_,e,_⟩:=x;exact⟨_,e⟩
 | dK kvs=>obtain⟨_,_,_,_,o,_,_,e,_⟩:=x;exact⟨_,e⟩
 | dT kvs=>obtain⟨_,_,_,_,o,_,_,e,_⟩:=x;exact⟨_,e⟩
 | set S n=>obtain⟨o,_,_,_,e,_⟩:=x;exact⟨_,e⟩
 | ins C dx fs=>obtain⟨_,_,_,e,_⟩:=x;exact⟨_,e⟩
 | own y=>exact x
 | xd fs=>obtain⟨_,⟨_,_,_,e,_⟩,_⟩:=x;exact⟨_,e⟩
 | rng lo hi=>obtain⟨_,_,_,e⟩:=x;exact⟨_,e⟩
 | frz ob u=>exact⟨_,x.1⟩
 | tbl ps=>exact⟨_,x⟩
 | met f y=>exact⟨_,x⟩
 | ext φ=>exact x.2.1
section
variable {P:Program}{w:World}{outer:List Env}{H H':Hp}{s s':Shared}{x D:Addr}{a0:Value}{B:Heap}
end
section
variable {X:Cx}{pins:List (Addr×Obj)}{σ:St}{H H':Hp}{s s':Shared}{x D:Addr}{a0:Value}{B h2:Heap}
theorem xC(J:Inv X pins σ H' s'){b:Addr}(h:∃ o',X.s₀.heap.get? b=some o')(f:b ∉ frs X.outer):b ∉ frs X.stack:=λc=>by
 obtain⟨o',e⟩:=h
 rcases mem_cons.mp (J.stkSub b c) with z | z
 .have a:=Heap.lt_size e
  have d:=J.ok.above;rw[z]at a;exact absurd (Nat.lt_of_lt_of_le a d) (Nat.lt_irrefl _)
 .exact f z
theorem xh(J:Inv X pins σ H' s'){b:Addr}{u:HO}(e:H' b=some u):b ∉ frs X.stack:=λa=>by
 rw[J.stkFree b a]at e;cases e
end
section
variable {P:Program}{w:World}{K:Frag}{mg:Str->Option Value}{base:Heap}{N:List Str}{qual:Str}{scope:Scope}{f:Addr}{cdv:Value}{A:Around}{outer:List Env}{s0:Shared}{H0:Hp}{E:XK}
end
section
variable {P:Program}{w:World}{K:Frag}{mg:Str->Option Value}{base:Heap}
end
structure XHd(K:Frag)(C:Addr):Prop where
 isc:(clsIn K C).isSome=true
 ty:typeIn K (.ref C)=some (.type "type")
 mb:mroIn K C (.type "BaseException")=some true
section
variable {X:Cx}{pins:List (Addr×Obj)}{σ:St}{H H' H1:Hp}{s s' s1:Shared}{x D C:Addr}{a0:Value}{B h2:Heap}
end
section
variable {prog:Program}{w:World}{A:Around}{E:Value->Shared->Prop}{h:Heap}{g:Array GenState}{d:Drawn}{t:Nat}{os:OsState}{a D dx:Addr}{o:Obj}{vs:Array Value}{cd:ClassData}{K:Frag}{name:Str}{mA:Str->Option Value}{v:Value}
abbrev bmV:List Value:=[.type "ValueError",.type "Exception",.type "BaseException",.type "object"]
def AH:Value->Bool
 | .ref _=>true
 | _=>false
def kj(l:List Value):Bool:=l.dropWhile AH == bmV
theorem mK(a:Value):∀{l:List Value},kj l=true->refuseLoop a "__setattr__" l=pure ()
 | [],e=>by cases e
 | x::r,e=>by
  by_cases hx:AH x=true
  .have b:kj r=true:=by
    unfold kj at e ⊢;rw[List.dropWhile_cons_of_pos hx]at e;exact e
   cases x <;> first | exact absurd hx Bool.false_ne_true | (rw[refuseLoop_ref];exact mK a b)
  .unfold kj at e
   rw[List.dropWhile_cons_of_neg hx]at e;rw[beq_iff_eq.mp e];exact PySem.F.store_ValueError.passes a
structure XSet(K:Frag)(D:Addr)(name:Str)(cd:ClassData):Prop where
 k:clsIn K D=some cd
 dct:cd.hasDict=true
 mro:kj cd.mro=true
 mo:mroIn K D (.type "object")=some true
 sa:findIn K (.ref D) "__setattr__" = some (some (.builtin "object.__setattr__"))
 na:findIn K (.ref D) name=some none
theorem qE{tk:Tok}{Q:Fin->Shared->Prop}(c:XSet K D name cd)(X:K.In h)(j:h.get? a=some o)(f:o.cls=.ref D)
  (k:wpAny (model prog w) A (instanceDict a true) (λr s'=>wpAny (model prog w) A (match r with | some d'=>Builtin.ObjectAttr.storeInDict d' (.str name tk) name v | none=>Builtin.ObjectAttr.noDictFor (.ref a) (.ref D) name false) Q E s') E ⟨h,g,d,t,os⟩) :
  wpAny (model prog w) A (Builtin.«object.__setattr__» ⟨[.ref a,.str name tk,v],[]⟩) Q E ⟨h,g,d,t,os⟩:=by
 have b:PySem.W.Looks (model prog w) h (typeOf (.ref a)) (.ref D):=f ▸ (PySem.W.Looks.ld j).andThen .now;have i:PySem.W.Looks (model prog w) h (mroOf (.ref D)) cd.mro:=(looks_clsIn X c.k).andThen .now;rw[osa_eq,refuse_eq];refine wpAny_bind (wpAny_bind (b.at (wpAny_bind (i.at ?_))));rw[mK _ c.mro];refine wpAny_pure (wpAny_bind (b.at (wpAny_bind ((looks_findIn X c.na).at ?_))));refine wpAny_bind (wpAny_pure ?_);show wpAny _ _ (Builtin.ObjectAttr.storeInOwnDict (.ref a) (.ref D) (.str name tk) name v false) _ _ _;unfold Builtin.ObjectAttr.storeInOwnDict;refine wpAny_bind (wpAny_pure ?_);rw[if_neg (show ¬((Value.ref D == Value.type "module")=true) from λz=>by cases eq_of_beq z)];exact wpAny_bind k
theorem mv{tk:Tok}{Q:Fin->Shared->Prop}{a:Addr}{f:List Str}(l:h.Ns1 a mA)(i:PySem.Within mA f)(hz:f.length<=1000)
  (r:∀ h',h'.Ns1 a (λy=>if y=name then some v else mA y)->Heap.SameBut a h h'->Q (.done (.ret .none)) ⟨h',g,d,t+1,os⟩) :
  wpAny (model prog w) A (Builtin.ObjectAttr.storeInDict a (.str name tk) name v) Q E ⟨h,g,d,t,os⟩:=by
 unfold Builtin.ObjectAttr.storeInDict Builtin.ObjectAttr.newKeyGuard;refine wpAny_bind (wpAny_pure (wpAny_bind (wpAny_nsSet1 l λj c s=>?_)));obtain⟨u,b,k,q,n,p⟩:=c.count (PySem.Within.cons name v i);have o:b.size<=sizeLine:=Nat.le_trans p (by rw[length_cons,sizeLine_eq];lia);refine wpAny_bind (wpAny_lookBehind q (by rw[n];exact pastItsLine_dict (Nat.le_succ_of_le o)) ?_);exact wpAny_pure (r j c s)
theorem uf{tk:Tok}{Q:Fin->Shared->Prop}(c:XSet K D name cd)(X:K.In h)(k:h.get? a=some o)(l:o.cls=.ref D)(i:o.data=.fields vs)(n:o.dict=none)
  (q:∀ h',h'.Ns1 h.objs.size (λy=>if y=name then some v else none)->h'.get? a=some { o with dict:=some h.objs.size }->(∀ b u,b≠a->h.get? b=some u->h'.get? b=some u)->Q (.done (.ret .none)) ⟨h',g,d,t+1,os⟩) :
  wpAny (model prog w) A (Builtin.«object.__setattr__» ⟨[.ref a,.str name tk,v],[]⟩) Q E ⟨h,g,d,t,os⟩:=by
 refine qE c X k l ?_;have j:(h.push { cls:=.type "dict",data:=.dict #[] }).get? a=some o:=Heap.get?_push_of_some _ k;have f:a≠h.objs.size:=Nat.ne_of_lt (Heap.lt_size k);unfold instanceDict;refine wpAny_bind (wpAny_loadPart_at k ?_);rw[l];refine wpAny_bind ((looks_clsIn X c.k).at ?_);rw[c.dct,n,i];simp only[Bool.not_true,Bool.false_eq_true,if_false];rw[if_neg (by simp[typeHasDict])];refine wpAny_bind (wpAny_alloc' (wpAny_bind (wpAny_update' j (wpAny_pure ?_))))
 have r:((h.push { cls:=.type "dict",data:=.dict #[] }).update a λu=>{ u with dict:=some h.objs.size }).get? h.objs.size=some { cls:=.type "dict",data:=.dict #[] } :=
  (Heap.get?_update_ne _ _ _ _ f.symm).trans (Heap.get?_push_at rfl rfl)
 refine mv (Heap.Ns1.of_empty ⟨_,#[],_,r,rfl,λu p=>absurd p (by simp),λ_=>rfl⟩) PySem.Within.nil (by simp) λh2 n2 s2=>q h2 n2 ?_ λb u hb e=>?_
 .refine(s2.2 a f).trans (Heap.get?_update_self _ j ?_)
  rw[Obj.isFreed_of_fields (vs:=vs)];exact i
 .exact(s2.2 b (Nat.ne_of_lt (Heap.lt_size e))).trans ((Heap.get?_update_ne _ _ _ _ hb).trans (Heap.get?_push_of_some _ e))
theorem xr{tk:Tok}{Q:Fin->Shared->Prop}{b:List Str}(c:XSet K D name cd)(X:K.In h)(f:h.get? a=some o)(i:o.cls=.ref D)(k:o.dict=some dx)(l:h.Ns1 dx mA)(j:PySem.Within mA b)(hz:b.length<=1000)
  (n:∀ h',h'.Ns1 dx (λy=>if y=name then some v else mA y)->Heap.SameBut dx h h'->Q (.done (.ret .none)) ⟨h',g,d,t+1,os⟩) :
  wpAny (model prog w) A (Builtin.«object.__setattr__» ⟨[.ref a,.str name tk,v],[]⟩) Q E ⟨h,g,d,t,os⟩:=by
 refine qE c X f i ?_;unfold instanceDict;refine wpAny_bind (wpAny_loadPart_at f ?_);rw[i];refine wpAny_bind ((looks_clsIn X c.k).at ?_);rw[c.dct,k];simp only[Bool.not_true,Bool.false_eq_true,if_false];exact wpAny_pure (mv l j hz n)
theorem qj{Q:Unit->Shared->Prop}(c:XSet K D name cd)(X:K.In h)(f:h.get? a=some o)(i:o.cls=.ref D)
  (l:∀(B:Around) (tk:Tok) (Q':Fin->Shared->Prop) (E':Value->Shared->Prop),(∀ s',Q () s'->Q' (.done (.ret .none)) s')->wpAny (model prog w) B (Builtin.«object.__setattr__» ⟨[.ref a,.str name tk,v],[]⟩) Q' E' ⟨h,g,d,t+1,os⟩) :
  wpAny (model prog w) A (setAttr (.ref a) name v) Q E ⟨h,g,d,t,os⟩:=by
 have n:=PySem.F.store_ValueError.slot.bind (.ref a);have b:=PySem.F.store_ValueError;have j:PySem.W.Looks (model prog w) h (typeOf (.ref a)) (.ref D):=i ▸ (PySem.W.Looks.ld f).andThen .now;have k:PySem.W.Looks (model prog w) h (isInstance (.ref a) (.type "object")) true:=j.andThen (looks_mroIn X c.mo);unfold setAttr callSpecial? specialOf
 repeat (any_goals (first | assumption | (with_reducible refine wpAny_loadPart_at f ?_;rw[i]) | with_reducible refine(looks_findIn X c.sa).at ?_ | wp_step))
 refine codeAny_call_builtin b.slot.plain b.entry (@PySem.W.check_slot (model prog w) _ _ ⟨h,g,d,t+1,os⟩ "object.__setattr__" "object" "__setattr__" (.ref a) [.str name t,v] [] _ b.kind b.split k (b.args (.ref a) (.str name t) v) ?_);exact l _ t _ _ λs' q=>wpAny_pure (wpAny_pure q)
end
section
variable {prog:Program}{w:World}{A:Around}{E:Value->Shared->Prop}{h:Heap}{g:Array GenState}{d:Drawn}{t:Nat}{os:OsState}
variable {nm q:Str}{C N fI:Addr}{bs bm bmB:List Value}{hdct:Bool}{sn:List Str}{sub:List Value}{ab:Bool}{col:Option Bool}{dd:Option Addr}{k0 k1 k2 k3 k5:Option Value}{B newId initId:String}{mN:Str->Option Value}{rest:List Value}{oI:Obj}
abbrev fJ(h:Heap)(C:Addr)(rest:List Value):Heap:=(h.push { cls:=.type "tuple",data:=.seq rest.toArray }).push { cls:=.ref C,data:=.fields #[.ref h.objs.size,.none,.none,.none,.bool false,.none] }
theorem wP{Q:Fin->Shared->Prop}(F:ExcBaseFacts B newId initId bmB)(T:OwnTail h bmB bm)(a:h.get? C=some (excClassObj nm q C N bs bm hdct sn sub ab col dd k0 k1 k2 k3 k5 newId))(p:h.Ns N mN)(u:mN "__init__" = some (.ref fI))
  (s:h.get? fI=some oI) (i:oI.cls=.type "function") (hz:rest.length<=sizeLine)
  (x:wpAny (model prog w) A (call (.ref fI) (.ref (h.objs.size+1)::rest)) (λr s'=>r=.none/\Q (.done (.ret (.ref (h.objs.size+1)))) s') E ⟨fJ h C rest,g,d,t,os⟩) :
  wpAny (model prog w) A (Builtin.«type.__call__» ⟨.ref C::rest,[]⟩) Q E ⟨h,g,d,t,os⟩:=by
 have f:∀ b o,h.get? b=some o->(fJ h C rest).get? b=some o:=λb o e=>Heap.get?_push_of_some _ (Heap.get?_push_of_some _ e)
 have j:=f C _ a;have y:(fJ h C rest).Ns N mN:=p.keeps f;have v:OwnTail (fJ h C rest) bmB bm:=T.keeps f;have k:(fJ h C rest).get? (h.objs.size+1)=some { cls:=.ref C,data:=.fields #[.ref h.objs.size,.none,.none,.none,.bool false,.none] }:=by heap_get
 have c:(Value.ref C::bm).contains (.ref C)=true:=by simp
 repeat (first | with_reducible refine wpAny_loadPart_at a ?_ | with_reducible refine wpAny_madeBy_exc a ?_ | wp_step)
 refine codeAny_call_builtin_code (Code.quiet_builtin _ F.quiet) (wpAny_check_new_subT F T a (codeAny_exc_new_subT F T a ?_ hz));show wpAny _ _ _ _ _ ⟨fJ h C rest,g,d,t,os⟩;unfold isInstance
 repeat (first | with_reducible refine wpAny_loadPart_at k ?_ | (with_reducible refine wpAny_isSubtype_exc j ?_;rw[c]) | wp_step)
 show wpAny _ _ (typeLookup (.ref C) _) _ _ _;refine wpAny_typeLookup_tail j y v F.mroIs F.init.lookup ?_;rw[u];refine wpAny_holding (wpAny_bind ?_);unfold bindSpecial;refine wpAny_bind (wpAny_typeOf (T := "function") ⟨oI,f fI _ s,i⟩ ?_);rw[if_pos (by decide)];refine wpAny_pure (wpAny_bind (wpAny_mono x (λr s' n=>?_) λ_ _ z=>z));obtain⟨rfl,l⟩:=n
 wp_walk
 exact l
theorem v6{Q:Value->Shared->Prop}(F:ExcBaseFacts B newId initId bmB)(T:OwnTail h bmB bm)(a:h.get? C=some (excClassObj nm q C N bs bm hdct sn sub ab col dd k0 k1 k2 k3 k5 newId))(f:h.Ns N mN)(j:mN "__init__" = some (.ref fI))
  (i:h.get? fI=some oI) (b:oI.cls=.type "function") (hz:rest.length<=sizeLine)
  (k:wpAny (model prog w) (A.under (.builtin "type.__call__" ⟨.ref C::rest,[]⟩)) (call (.ref fI) (.ref (h.objs.size+1)::rest)) (λr s'=>r=.none/\Q (.ref (h.objs.size+1)) s') E ⟨fJ h C rest,g,d,t,os⟩) :
  wpAny (model prog w) A (call (.ref C) rest) Q E ⟨h,g,d,t,os⟩:=by
 have l:=tc_lookup;have n:=tc_bind (.ref C);have c:(⟨h,g,d,t,os⟩:Shared).TypeIs (.ref C) "type" := ⟨_,a,rfl⟩;refine wpAny_call (codeAny_of_tree ?_);show wpAny _ _ (callAny (.ref C) _) _ _ _
 repeat (any_goals (first | assumption | with_reducible refine wpAny_loadPart_at a ?_ | wp_step))
 exact⟨rfl,codeAny_call_builtin_at (Code.quiet_builtin _ (by decide +kernel)) entry_typeCall (wpAny_check_type_call_sub a (wP F T a f j i b hz k))⟩
end
def XD0(a D:Addr):Heap->Prop:=λh=>∃ o vs,h.get? a=some o/\o.cls=.ref D/\o.data=.fields vs/\o.dict=none/\vs[1]? = some .none/\vs[2]? = some .none
def XD1(a D dx:Addr):Heap->Prop:=λh=>∃ o vs,h.get? a=some o/\o.cls=.ref D/\o.data=.fields vs/\o.dict=some dx/\vs[1]? = some .none/\vs[2]? = some .none
def XDct(dx:Addr)(fs:List (Str×V)):Heap->Prop:=λh=>∃ mA,h.Ns1 dx mA/\∀ f,RelO (fs.lookup f) (mA f)
section
variable {P:Program}{w:World}{H:Hp}{h:Heap}{a D dx:Addr}{fs:List (Str×V)}
theorem XD0.ok(x:XD0 a D h):ObjOk P w H h a (.ext (XD0 a D)):=⟨x,let ⟨o,_,e,_⟩:=x;⟨o,e⟩,λ_ _ ⟨o,b,e,r⟩ k=>⟨o,b,k o e,r⟩⟩
theorem XD1.ok(x:XD1 a D dx h):ObjOk P w H h a (.ext (XD1 a D dx)):=⟨x,let ⟨o,_,e,_⟩:=x;⟨o,e⟩,λ_ _ ⟨o,b,e,r⟩ k=>⟨o,b,k o e,r⟩⟩
theorem XDct.ok(x:XDct dx fs h):ObjOk P w H h dx (.ext (XDct dx fs)):=⟨x,let ⟨_,⟨o,_,_,e,_⟩,_⟩:=x;⟨o,e⟩,λ_ _ ⟨a,n,r⟩ k=>⟨a,n.at k,r⟩⟩
end
section
variable {X:Cx}{pins:List (Addr×Obj)}{σ:St}{H:Hp}{s:Shared}{h':Heap}{x dx D:Addr}{φ:Heap->Prop}{ox od:HO}
theorem Inv.tracked{t':Nat}(I:Inv X pins σ H s)(k:∀ b u,s.heap.get? b=some u->h'.get? b=some u)(f:s.heap.get? x=none)(d:ObjOk X.prog X.w (upd H x ox) h' x ox):Inv X pins σ (upd H x ox) { s with heap:=h',toks:=t' }:=by
 have h:H x=none:=by
  cases q:H x with
  | none=>rfl
  | some u =>
   obtain⟨o,e⟩:=(I.hok x u q).isObj;rw[f]at e;cases e
 have g:∀ b o,s.heap.get? b=some o->b≠x:=λb o e z=>by rw[z,f]at e;cases e
 have a:∀ b u,H b=some u->b≠x:=λb u e z=>by rw[z,h]at e;cases e
 refine I.un ⟨λb o e _ _ _=>k b o e,λb o e _ _ _=>⟨o.slots,k b o e⟩,λb o e n _=>?_,λb o e _=>⟨o,k b o e⟩,λb xs e=>?_,λb o u e=>?_,λb ps e=>⟨#[],?_⟩⟩ λb u e=>?_
 .rw[ag (g b o e)];exact n
 .rw[ag (a b _ e)];exact e
 .rw[ag (a b _ e)];exact e
 .rw[ag (a b _ e),e];simp
 .by_cases hb:b=x
  .subst hb
   rw[ad]at e;cases e;exact d
  .rw[ag hb]at e
   exact(I.hok b u e).stay (λc v _ q=>k c v q) (λc q=>by rw[ag (a c _ q)];exact q) λc xs q=>by rw[ag (a c _ q)];exact q
theorem Inv.put2{t':Nat}(I:Inv X pins σ H s)(f:H x=some (.ext φ))(j:s.heap.objs.size<=dx)(k:∀ b u,b≠x->s.heap.get? b=some u->h'.get? b=some u)(l:ObjOk X.prog X.w (upd (upd H dx od) x ox) h' x ox)
  (A:ObjOk X.prog X.w (upd (upd H dx od) x ox) h' dx od):Inv X pins σ (upd (upd H dx od) x ox) { s with heap:=h',toks:=t' }:=by
 have d:H dx=none:=I.hok.fresh j;have y:x≠dx:=λz=>by rw[z,d]at f;cases f
 have w:∀ b o,s.heap.get? b=some o->b≠dx:=λb o e=>Nat.ne_of_lt (Nat.lt_of_lt_of_le (Heap.lt_size e) j)
 have g:∀ b u,H b=some u->b≠dx:=λb u e z=>by rw[z,d]at e;cases e
 have h:∀ b,H b=none->b≠x:=λb e z=>by rw[z,f]at e;cases e
 have a:∀ b u,H b=some u->(∀ ψ,u≠.ext ψ)->b≠x:=λb u e n z=>by
  rw[z,f]at e;cases e;exact n φ rfl
 obtain⟨p,i⟩:=l.isObj;refine I.un ⟨λb o e n _ _=>k b o (h b n) e,λb o e n _ _=>⟨o.slots,k b o (h b n) e⟩,λb o e n _=>?_,λb o e _=>?_,λb xs e=>?_,λb o u e=>?_,λb ps e=>⟨#[],?_⟩⟩ λb u e=>?_
 .rw[ag (h b n),ag (w b o e)];exact n
 .by_cases hb:b=x
  .subst hb;exact⟨p,i⟩
  .exact⟨o,k b o hb e⟩
 .rw[ag (a b _ e λ_ z=>nomatch z),ag (g b _ e)];exact e
 .rw[ag (a b _ e λ_ z=>nomatch z),ag (g b _ e)];exact e
 .rw[ag (a b _ e λ_ z=>nomatch z),ag (g b _ e),e];simp
 .by_cases hb:b=x
  .subst hb
   rw[ad]at e;cases e;exact l
  .by_cases hb2:b=dx
   .subst hb2
    rw[ag hb,ad]at e;cases e;exact A
   .rw[ag hb,ag hb2]at e
    refine(I.hok b u e).stay (λc v r q=>k c v ?_ q) (λc q=>?_) λc xs q=>?_
    .rintro rfl
     rcases r with z | z
     .exact hb z.symm
     .rw[f]at z;cases z
    .rw[ag (a c _ q λ_ z=>nomatch z),ag (g c _ q)];exact q
    .rw[ag (a c _ q λ_ z=>nomatch z),ag (g c _ q)];exact q
end
def AZ(K:Frag)(ta tv:TE)(f:Str):TS:=λD σ H=>tv σ H λy H1=>ta σ H1 λx H2=>∃ a C cd,x=.ref a/\XSet K C f cd /\
 ((H2 a=some (.ext (XD0 a C))/\∀ dx,H2 dx=none->dx≠a->D.nx σ (upd (upd H2 dx (.ext (XDct dx [(f,y)]))) a (.ext (XD1 a C dx)))) \/
  ∃ dx fs,H2 a=some (.ext (XD1 a C dx))/\H2 dx=some (.ext (XDct dx fs))/\fs.length<=900/\D.nx σ (upd H2 dx (.ext (XDct dx ((f,y)::fs)))))
theorem fU{f g:Str}{y:V}{a:List (Str×V)}:List.lookup g ((f,y)::a)=if g=f then some y else a.lookup g:=by
 rw[lookup_cons]
 by_cases z:g=f
 .rw[if_pos z,show(g == f)=true by simpa using z]
 .rw[if_neg z,show(g == f)=false by simpa using z]
section
variable {X:Cx}{o e value:Expr}{f:Str}{pos pos' tpos:Pos}{ta tv:TE}
theorem xm(ha:PE X o ta)(Q:PE X value tv)(hs:swapsWith value (some (.Attribute o f pos')) pos.line X.env=pure false):PS X (.Assign [.Attribute o f pos'] value pos) (AZ X.K ta tv f):=by
 intro d s n H D I h;refine plainObj_wpAny_Assign_Attribute (thn (Q d s n H _ I h) λu s1 ⟨y,W,I1,J,q⟩=>thn (ha d s1 n W _ I1 q) λov s2 ⟨x,H2,I2,rx,a,C,cd,ex,c,l⟩=>?_) hs;subst ex;obtain rfl:ov=Value.ref a:=rx;obtain⟨k,g2,d2,K,ab⟩:=s2
 rcases l with⟨p,l⟩ | ⟨dx,w,p,M,hl,l⟩
 .obtain⟨⟨ob,L,j,i,F,E,G⟩,_⟩:=I2.hok a _ p
  refine qj c I2.kIn j i λB tk Z T r=>uf c I2.kIn j i F E λh' n' o' k'=>r _ ?_
  have R:H2 k.objs.size=none:=I2.hok.fresh (Nat.le_refl _);have A:k.objs.size≠a:=Nat.ne_of_gt (Heap.lt_size j);refine⟨n,_,I2.put2 (t':=K+1+1) (h':=h') (x:=a) (dx:=k.objs.size) (od:=.ext (XDct k.objs.size [(f,y)])) (ox:=.ext (XD1 a C k.objs.size)) p (Nat.le_refl _) k' (XD1.ok ⟨_,L,o',i,F,rfl,G⟩) (XDct.ok ⟨_,n',λg=>?_⟩),l _ R A⟩;rw[fU]
  by_cases z:g=f
  .rw[if_pos z,if_pos z];exact J
  .rw[if_neg z,if_neg z];exact True.intro
 .obtain⟨⟨ob,L,j,i,F,E,G⟩,_⟩:=I2.hok a _ p
  obtain⟨⟨P,nA,N⟩,_⟩:=I2.hok dx _ M
  have wi:PySem.Within P (w.map (·.1)):=λg Y=>by
   cases q:w.lookup g with
   | none =>
    have:=N g;rw[q]at this;exact absurd (RelO.none_of this) Y
   | some v=>exact mem_map.mpr ⟨(g,v),PySem.mem_of_lookup q,rfl⟩
  refine qj c I2.kIn j i λB tk Z T r=>xr c I2.kIn j i E nA wi (by rw[length_map];lia) λh' n' sb=>r _ ?_
  refine⟨n,_,I2.write (t':=K+1+1) (h':=h') (x:=dx) (e:=dx) (o:=.ext (XDct dx ((f,y)::w))) (by rw[M];exact True.intro) (.inl rfl) (λb u hb e=>(sb.2 b hb).trans e) (let ⟨o',_,_,e',_⟩:=n';⟨o',e'⟩) (XDct.ok ⟨_,n',λg=>?_⟩),l⟩;rw[fU]
  by_cases z:g=f
  .rw[if_pos z,if_pos z];exact J
  .rw[if_neg z,if_neg z];exact N g
end
theorem nW{K:Frag}{h:Heap}{N:Addr}{m:Str->Option Value}{n:Str}{v:Value}(X:K.In h)(G:h.Ns N m)(q:nsIn K N n=some (some v)):m n=some v:=by
 obtain⟨g,f,i,b,c,_,d⟩:=G;unfold nsIn at q
 split at q
 .rename_i c0 d0 en0 k0 sl0 lk
  have a:=X _ _ lk;rw[b]at a;cases a;cases c
  split at q
  .rename_i entry found
   cases q;rw[<- d];unfold nsFind findBy;rw[<- Array.find?_toList,found];rfl
  .split at q <;> cases q
 .cases q
def xIn(K:Frag)(C:Addr)(fI:Option Value):Bool:=match K.lookup C with
 | some ⟨.type "type",_,.cls cd,sl⟩=>(match cd.mro,sl.toList with
  | .ref C'::bm,[_,_,_,_,some (.builtin n),_]=>C' == C && n == "ValueError.__new__" && !cd.hasDel && tailIn K bmV bm && nsOkIn K cd.ns && nsIn K cd.ns "__init__" == some fI
  | _,_=>false)
 | _=>false
structure XObj(h:Heap)(C:Addr)(fI:Option Value):Prop where
 obj:∃ bm N nm q bs hdct sn sub ab col dd k0 k1 k2 k3 k5 mN,h.get? C=some (excClassObj nm q C N bs bm hdct sn sub ab col dd k0 k1 k2 k3 k5 "ValueError.__new__")/\h.Ns N mN/\mN "__init__" = fI/\OwnTail h bmV bm
theorem qM{K:Frag}{h:Heap}{C:Addr}{g:Option Value}(X:K.In h)(z:xIn K C g=true):XObj h C g:=by
 unfold xIn at z
 split at z
 .rename_i dct cld slt lk
  split at z
  .rename_i C' tl a0 a1 a2 a3 nid a5 hmro hsl
   simp only[Bool.and_eq_true,beq_iff_eq,Bool.not_eq_true']at z;obtain⟨⟨⟨⟨⟨rfl,rfl⟩,a⟩,u⟩,c⟩,b⟩:=z;obtain⟨p,r,s,j,x,k,w,f,o,d,n⟩:=cld;dsimp only at hmro a c b;subst hmro a
   have q:slt = #[a0,a1,a2,a3,some (.builtin "ValueError.__new__"),a5]:=by
    obtain⟨l⟩:=slt;simp only at hsl;rw[hsl]
   subst q;have i:h.Ns j (h.nsMap j):=.of_isNs (PySem.W.isNs_of_in X c);refine⟨tl,j,p,x,r,k,w,f,o,d,dct,a0,a1,a2,a3,a5,_,X _ _ lk,i,?_,PySem.W.tail_of_in X u⟩;cases g with
   | none=>exact PySem.W.ns_none_of X i b
   | some v=>exact nW X i b
  .cases z
 .cases z
def nM(K:Frag)(D:Addr):Bool:=findIn K (.ref D) "__getattribute__" == some (some (.builtin "BaseException.__getattribute__")) && findIn K (.ref D) "__getattr__" == some none &&
 findIn K (.ref D) "__class__" == some (some (.builtin "object.__class__")) && mroIn K D (.type "BaseException") == some true && mroIn K D (.type "object") == some true && (clsIn K D).isSome && typeIn K (.ref D) == some (.type "type")
theorem xP{K:Frag}{D:Addr}(h:nM K D=true):XCls K D:=by
 unfold nM at h;simp only[Bool.and_eq_true,beq_iff_eq]at h;obtain⟨⟨⟨⟨⟨⟨b,a⟩,c⟩,f⟩,g⟩,d⟩,i⟩:=h;exact⟨b,a,c,f,g,d⟩
theorem xQ{K:Frag}{D:Addr}(h:nM K D=true):XHd K D:=by
 unfold nM at h;simp only[Bool.and_eq_true,beq_iff_eq]at h;obtain⟨⟨⟨⟨⟨⟨f,d⟩,g⟩,b⟩,i⟩,a⟩,c⟩:=h;exact⟨a,c,b⟩
def yT(K:Frag)(D:Addr)(name:Str):Bool:=((clsIn K D).any λcd=>cd.hasDict && kj cd.mro) && mroIn K D (.type "object") == some true &&
 findIn K (.ref D) "__setattr__" == some (some (.builtin "object.__setattr__")) && findIn K (.ref D) name == some none
theorem Ag{K:Frag}{D:Addr}{name:Str}(h:yT K D name=true):∃ cd,XSet K D name cd:=by
 unfold yT at h;simp only[Bool.and_eq_true,beq_iff_eq]at h;obtain⟨⟨⟨c,b⟩,d⟩,f⟩:=h;obtain⟨cd,e,a⟩:=any_some c;rw[Bool.and_eq_true]at a;exact⟨cd,e,a.1,a.2,b,d,f⟩
section
variable {P:Program}{w:World}{K:Frag}{mg:Str->Option Value}{base:Heap}{N:List Str}{qual:Str}{scope:Scope}{f:Addr}{cdv:Value}{A:Around}{outer:List Env}{s0:Shared}{H0:Hp}{E:XK}
end
def AF(C:Addr):TE:=λ_ H Q=>∀ a,H a=none->Q (.ref a) (upd H a (.ext (XD0 a C)))
def Cc(C:Addr)(sp:Sp)(t:TA):TE:=λσ H Q=>t σ H λvs H1=>∀ a,H1 a=none->sp (.ref a::vs) (upd H1 a (.ext (XD0 a C))) (λv H2=>v=.non/\Q (.ref a) H2) E0
section
variable {X:Cx}{k:Nat}{f C:Addr}{fd:FuncData}{ps:List Str}{sp:Sp}{x:Str}{p pos:Pos}{e:Expr}{es:List Expr}{t:TA}
theorem wo(z:xIn X.K C none=true)(i:keepIn X.K (.ref C)=true)(j:Gl X x)(y:X.mg x=some (.ref C))(d:(x == ("__debug__" : Str))=false:=by decide):PE X (.Call (.Name x p) [] [] pos) (AF C):=by
 intro f s L H Q I h;refine wpAny_Call_Name_kw (fV I j y ?_ d);refine callWith_K0 I.kIn i ?_;obtain⟨Y,N,K,q,bs,g,W,A,ab,k,R,F,k1,k2,P,J,Z,l,r,c,T⟩:=(qM I.kIn z).obj;obtain⟨B,M,E,v,w⟩:=s;refine wpAny_call_exc_subT (rest:=[]) PySem.F.excBase_ValueError T l r c (λh' a b=>?_) (Nat.zero_le _);obtain⟨G,D,_,_⟩:=b.there
 have n:H a=none:=by
  cases q:H a with
  | none=>rfl
  | some u =>
   obtain⟨o,e⟩:=(I.hok a u q).isObj;have:=b.new;rw[show B.get? a=some o from e]at this;cases this
 exact⟨.ref a,_,I.tracked (t':=v) b.keeps b.new (XD0.ok ⟨_,_,D,rfl,rfl,rfl,rfl,rfl⟩),rfl,h a n⟩
theorem nL(z:xIn X.K C (some (.ref f))=true)(W:keepIn X.K (.ref C)=true)(fn:isFn X.K (.ref f)=true)(F:FnOk X.prog X.w X.K X.mg X.base CX0 k f fd ps sp)(Y:Room (k+1) X.A)(hg:Gl X x)(hm:X.mg x=some (.ref C))
  (hb:Binds X.K fd ps []) (ha:PA X (e::es) t) (hz:∀ vs H Q E,sp vs H Q E->vs.length<=100) (K:(x == ("__debug__" : Str))=false:=by decide) (he:starEach (e::es) X.env=(false,eval e X.env)::starEach es X.env:=by rfl)
  (J:(backTo pos (starEach es X.env)).any (·.1)=false:=by rfl):PE X (.Call (.Name x p) (e::es) [] pos) (Cc C sp t):=by
 intro g s P H Q I h;refine wpAny_Call_Name_kw (fV I hg hm ?_ K);refine callWith_K (h₀:=X.base) I.ok.mod.kin W (thn (ha pos g s P H _ I h) λd c ⟨vs,H1,l,r,q⟩=>⟨l.kIn,?_⟩) he J;obtain⟨bm,N,nm,qn,bs,R,sn,al,ab,ac,dd,k0,k1,k2,k3,k5,mN,hC,hN,D,T⟩:=(qM l.kIn z).obj;have y:=q (c.heap.objs.size+1) (l.hok.fresh (Nat.le_succ _))
 have n:d.length<=sizeLine:=by
  have:=hz _ _ _ _ y;rw[length_cons]at this;rw[<- r.length];exact Nat.le_trans (Nat.le_of_succ_le this) (by decide)
 have up:∀ b o,c.heap.get? b=some o->(fJ c.heap C d).get? b=some o:=λb o e=>Heap.get?_push_of_some _ (Heap.get?_push_of_some _ e)
 have Z:(fJ c.heap C d).get? (c.heap.objs.size+1)=some { cls:=.ref C,data:=.fields #[.ref c.heap.objs.size,.none,.none,.none,.bool false,.none] }:=by heap_get
 have B:=l.laid (t':=c.toks) (h':=fJ c.heap C d) (a:=c.heap.objs.size+1) (o:=.ext (XD0 (c.heap.objs.size+1) C)) up (Nat.le_succ _) (XD0.ok ⟨_,_,Z,rfl,rfl,rfl,rfl,rfl⟩)
 obtain⟨oI,hfI,hfc⟩:∃ oI,c.heap.get? f=some oI/\oI.cls=.type "function" := by
  have:=beq_iff_eq.mp fn;unfold typeIn at this;obtain⟨ob,lk,w⟩:=Option.map_eq_some_iff.mp this;exact⟨ob,l.kIn _ _ lk,w⟩
 have M:Vals (V.ref (c.heap.objs.size+1)::vs) (Value.ref (c.heap.objs.size+1)::d):=.cons rfl r;have A:(Value.ref (c.heap.objs.size+1)::d).length=ps.length:=by rw[<- M.length];exact F.len _ _ _ _ y
 have L:=hb { c with heap:=fJ c.heap C d,toks:=c.toks } (Value.ref (c.heap.objs.size+1)::d) B.kIn (by rw[append_nil];exact A);rw[append_nil]at L
 have j:wpAny (model X.prog X.w) X.A (call (.ref C) d) (EP X g P Q) X.xe c:=by
  obtain⟨G,g1,d1,t1,an⟩:=c;refine v6 PySem.F.excBase_ValueError T hC hN D hfI hfc n ?_;refine wpAny_call (codeAny_mono (F.run _ X.stack _ _ ⟨Value.ref (G.objs.size+1)::d,[]⟩ (Value.ref (G.objs.size+1)::d) _ _ E0 (Y.make C d []) (B.env0.make C d []) L M y) λr s' i=>?_);cases r with
  | error e=>exact False.elim i
  | ok fl =>
   cases fl with
   | ret u =>
    obtain⟨v,H',I3,rv,ev,q3⟩:=B.after i;subst ev;exact⟨rv,⟨V.ref (G.objs.size+1),H',I3,rfl,q3⟩⟩
   | next=>exact False.elim i
   | brk=>exact False.elim i
   | cont=>exact False.elim i
 exact j
end
def IV(v d:Addr):Heap->Prop:=λh=>h.IsItemsView v d
section
variable {X:Cx}{o e:Expr}{es:List Expr}{to:TE}{t:TA}{apos cpos:Pos}
end
section
variable {X:Cx}{o e:Expr}{es:List Expr}{to:TE}{t:TA}{apos cpos:Pos}
end
section
variable {M:Model}{A:Around}{E:Value->Shared->Prop}{s:Shared}{env:Env}{K:Frag}{D:Addr}
theorem wC{x:Sem Value}{Q:Flow->Shared->Prop}(c:XCls K D)(i:XHd K D)(l:A.handled=none)
  (h:wpAny M A x (λv s₁=>∃ e ob vs,v=.ref e/\K.In s₁.heap/\s₁.heap.get? e=some ob/\ob.cls=.ref D/\ob.data=.fields vs/\vs[1]? = some .none/\E (.ref e) s₁) E s):wpAny M A (raiseStmt env (some x) none) Q E s:=by
 unfold raiseStmt;refine wpAny_bind (wpAny_mono h (λv s₁ a=>?_) λ_ _ z=>z);obtain⟨e,ob,vs,rfl,X,b,n,f,j,k⟩:=a;obtain⟨q,g,d,p,o⟩:=s₁
 repeat (first | with_reducible refine(PySem.W.looks_typeIn X i.ty).at ?_ | (with_reducible refine wpAny_loadPart_at b ?_;first | rw[n] | rw[f]) | with_reducible refine(looks_mroIn X c.mb).at ?_ | with_reducible refine wpAny_field b f j ?_ | wp_step)
 exact wpAny_raiseNew_none l k
end
def Fx(h:Heap)(e:Addr)(cls:Value)(dct:Option Addr)(fl:Value)(T:Addr):Prop :=
 ∃ ob fs oT ts,h.get? e=some ob/\ob.cls=cls/\ob.dict=dct/\ob.data=.fields fs/\fs[1]? = some (.ref T)/\T≠e/\h.get? T=some oT/\oT.data=.fields ts/\ts[3]? = some fl
theorem jC(f:Array Value->Array Value)(o:Obj):(Obj.mapFields f o).dict=o.dict:=by
 obtain⟨c,d,a,b⟩:=o
 cases a <;> rfl
theorem uu(f:Array Value->Array Value)(o:Obj):(Obj.mapFields f o).cls=o.cls:=Obj.cls_mapFields _ _
section
variable {M:Model}{A:Around}{E:Value->Shared->Prop}{s:Shared}{base:Heap}{env:Env}{outer:List Env}{L e:Addr}{ob:Obj}{fs:Array Value}{head:Value}{more:Bool}
theorem mL{Q:Unit->Shared->Prop}(z:A.frames=some (env::outer))(x:s.heap.FunFrames base (env::outer))(C:env.frame=some L)(v:s.heap.get? e=some ob)(n:ob.data=.fields fs)(w:1<fs.size)
  (h:∀ h' T,Fx h' e ob.cls ob.dict (rawInt L) T->s.heap.get? T=none->(∀ b o,b≠e->b ∉ frs (env::outer)->s.heap.get? b=some o->h'.get? b=some o) ->
   (∀ b o,b≠e->s.heap.get? b=some o->∃ sl,h'.get? b=some { o with slots:=sl })->Q () { s with heap:=h' }) :
  wpAny M A (do let a <- frameOf env;let pl <- entryPlaceOf L more;let b <- EntryCells.newEntry head a .none (rawInt L) .none pl;setField (.ref e) 1 b) Q E s:=by
 have k:e ∉ frs (env::outer):=λB=>by
  obtain⟨_,o,u,l⟩:=x.mem B;rw[v]at u;cases u;exact l fs n
 refine wpAny_bind (wpAny_frameOf_fun z x C λc i=>?_);refine wpAny_bind (wpAny_entryPlaceOf λpl j=>?_);unfold EntryCells.newEntry newFields;refine wpAny_bind (wpAny_newObj_type ?_ (j.sizeOk5 _ _ _ _ _));have y:c.get? e=some ob:=(i.2.1 e k).trans v;have r:=Heap.get?_push_of_some (h:=c) { cls:=.type "traceback",dict:=none,data:=.fields ([head,.ref L,.none,rawInt L,.none]++(if pl.isEmpty then List.replicate 6 Value.none else pl)).toArray } y;have p:c.objs.size≠e:=Nat.ne_of_gt (Heap.lt_size y);have q:=Obj.data_mapFields n (·.setIfInBounds 1 (Value.ref c.objs.size));have D:=Heap.get?_update_self (Obj.mapFields (·.setIfInBounds 1 (Value.ref c.objs.size))) r (Obj.isFreed_of_fields q)
 have d:∀ b o,b≠e->c.get? b=some o->((c.push { cls:=.type "traceback",dict:=none,data:=.fields ([head,.ref L,.none,rawInt L,.none]++(if pl.isEmpty then List.replicate 6 Value.none else pl)).toArray }).update e (Obj.mapFields (·.setIfInBounds 1 (Value.ref c.objs.size)))).get? b=some o :=
  λb o g f=>(Heap.get?_update_other _ _ (Ne.symm g)).trans (Heap.get?_push_of_some _ f)
 refine wpAny_setField r n w (h _ c.objs.size ⟨_,_,_,_,D,uu _ _,jC _ _,q,by simp[w],p,(Heap.get?_update_other _ _ (Ne.symm p)).trans (Heap.get?_push_size _ rfl),rfl,?_⟩ ?_ (λb o g l f=>d b o g ((i.2.1 b l).trans f)) λb o g f=>?_)
 .simp
 .have:s.heap.objs.size=c.objs.size:=i.1.symm
  rw[<- this];exact Heap.get?_none_of_le (Nat.le_refl _)
 .obtain⟨sl,F⟩:=i.2.2 b o f
  exact⟨sl,d b _ g F⟩
end
section
variable {M:Model}{A:Around}{E:Value->Shared->Prop}{s:Shared}{base:Heap}{env:Env}{outer:List Env}{L e T:Addr}{ob:Obj}{fs:Array Value}{cls fl:Value}{dct:Option Addr}
def KeptBut(xs fr:List Addr)(h h':Heap):Prop :=
 (∀ b o,b ∉ xs->b ∉ fr->h.get? b=some o->h'.get? b=some o)/\∀ b o,b ∉ xs->h.get? b=some o->∃ sl,h'.get? b=some { o with slots:=sl }
theorem KeptBut.trans{xs ys d:List Addr}{h j i:Heap}(a:KeptBut xs d h j)(b:KeptBut ys d j i):KeptBut (xs++ys) d h i :=
 ⟨λc o n f g=>b.1 c o (λz=>n (mem_append_right _ z)) f (a.1 c o (λz=>n (mem_append_left _ z)) f g),λc o n g=>by
  obtain⟨q,p⟩:=a.2 c o (λz=>n (mem_append_left _ z)) g;obtain⟨k,l⟩:=b.2 c _ (λz=>n (mem_append_right _ z)) p
  exact⟨k,l⟩⟩
theorem vq{Q:Unit->Shared->Prop}(q:A.frames=some (env::outer))(p:s.heap.FunFrames base (env::outer))(c:env.frame=some L)(i:s.heap.get? e=some ob)(d:ob.data=.fields fs)(a:fs[1]? = some .none)
  (h:∀ h' T,Fx h' e ob.cls ob.dict (rawInt L) T->s.heap.get? T=none->KeptBut [e] (frs (env::outer)) s.heap h'->Q () { s with heap:=h' }):wpAny M A (noteFrame (.ref e) env) Q E s:=by
 unfold noteFrame;simp only[c];refine wpAny_bind (wpAny_field i d a ?_);rw[if_neg (by decide)];exact mL q p c i d (Array.getElem?_eq_some_iff.mp a).1 λh' T x j k l=>h h' T x j ⟨λb o n f g=>k b o (by simpa using n) f g,λb o n g=>l b o (by simpa using n) g⟩
theorem wy{Q:Unit->Shared->Prop}(G:A.frames=some (env::outer))(H:s.heap.FunFrames base (env::outer))(v:env.frame=some L)(x:Fx s.heap e cls dct .none T)
  (h:∀ h' T',Fx h' e cls dct (rawInt L) T'->s.heap.get? T'=none->KeptBut [T,e] (frs (env::outer)) s.heap h'->Q () { s with heap:=h' }):wpAny M A (noteFrame (.ref e) env) Q E s:=by
 obtain⟨K,J,N,F,w,rfl,rfl,C,y,D,j,k,B⟩:=x;unfold noteFrame;simp only[v];refine wpAny_bind (wpAny_field w C y ?_);rw[if_pos (show(Value.ref T != Value.none)=true from by simp)];refine wpAny_bind (wpAny_field j k B ?_);rw[if_neg (show ¬((Value.none == rawInt L)=true) from by simp[rawInt])];refine wpAny_bind (wpAny_setField j k (Array.getElem?_eq_some_iff.mp B).1 ?_);have a:∀ b,b≠T->(s.heap.update T (Obj.mapFields (·.setIfInBounds 3 Value.none))).get? b=s.heap.get? b:=λb I=>Heap.get?_update_other _ _ (Ne.symm I)
 have d:∀ b o,s.heap.get? b=some o->(∀ vs,o.data≠.fields vs)->b≠T:=λb o i u z=>by
  rw[z,j]at i;cases i;exact u F k
 have l:=Heap.get?_update_self (Obj.mapFields (·.setIfInBounds 3 Value.none)) j (Obj.isFreed_of_fields (Obj.data_mapFields k _));refine mL G (H.of_keeps λb o i u=>⟨o,(a b (d b o i u)).trans i,rfl⟩) v ((a e D.symm).trans w) C (Array.getElem?_eq_some_iff.mp y).1 λh' T' x' nT' k1 k2=>h h' T' x' ?_ ⟨λb o n f g=>?_,λb o n g=>?_⟩
 .cases q:s.heap.get? T' with
  | none=>rfl
  | some o =>
   by_cases z:T'=T
   .rw[z,l]at nT'
    cases nT'
   .have c:=nT'
    rw[a T' z,q]at c;cases c
 .have r:b≠T:=λz=>n (by rw[z];exact mem_cons_self)
  have p:b≠e:=λz=>n (by rw[z];simp)
  exact k1 b o p f ((a b r).trans g)
 .have r:b≠T:=λz=>n (by rw[z];exact mem_cons_self)
  have p:b≠e:=λz=>n (by rw[z];simp)
  exact k2 b o p ((a b r).trans g)
theorem kc{Q:Unit->Shared->Prop}{w:List Addr}(x:Fx s.heap e cls dct fl T)(h:∀ h',Fx h' e cls dct .none T->KeptBut [T] w s.heap h'->Q () { s with heap:=h' }):wpAny M A (setFlight (.ref e) none) Q E s:=by
 obtain⟨u,r,y,v,p,rfl,rfl,l,i,d,j,c,q⟩:=x;have k:3<v.size:=(Array.getElem?_eq_some_iff.mp q).1;have a:∀ b,b≠T->(s.heap.update T (Obj.mapFields (·.setIfInBounds 3 ((none:Option Addr).elim Value.none λf=>rawInt f)))).get? b=s.heap.get? b:=λb nb=>Heap.get?_update_other _ _ (Ne.symm nb)
 unfold setFlight;refine wpAny_bind (wpAny_field p l i ?_);rw[if_pos (show(Value.ref T != Value.none)=true from by simp)];refine wpAny_setField j c k (h _ ⟨u,r,_,_,(a e d.symm).trans p,rfl,rfl,l,i,d,Heap.get?_update_self _ j (Obj.isFreed_of_fields (Obj.data_mapFields c _)),Obj.data_mapFields c _,by simp[k]⟩ ⟨λb o n _ g=>?_,λb o n g=>?_⟩)
 .exact(a b (by simpa using n)).trans g
 .exact⟨o.slots,(a b (by simpa using n)).trans g⟩
theorem sS{Q:Unit->Shared->Prop}(j:A.frames=some (env::outer))(f:s.heap.FunFrames base (env::outer))(c:env.frame=some L)(x:Fx s.heap e cls dct .none T)
  (h:∀ h' T',Fx h' e cls dct .none T'->s.heap.get? T'=none->KeptBut [T,e,T'] (frs (env::outer)) s.heap h'->Q () { s with heap:=h' }):wpAny M A (leaving env (.ref e)) Q E s:=by
 unfold leaving;refine wpAny_bind (wy j f c x λa d i g b=>kc (s:={ s with heap:=a }) i λh2 x2 k2=>h h2 d x2 g (b.trans k2))
theorem rJ{Q:Unit->Shared->Prop}(n:A.frames=some (env::outer))(g:s.heap.FunFrames base (env::outer))(d:env.frame=some L)(l:s.heap.get? e=some ob)(j:ob.data=.fields fs)(b:fs[1]? = some .none)
  (h:∀ h' T',Fx h' e ob.cls ob.dict .none T'->s.heap.get? T'=none->KeptBut [e,T'] (frs (env::outer)) s.heap h'->Q () { s with heap:=h' }):wpAny M A (leaving env (.ref e)) Q E s:=by
 unfold leaving;refine wpAny_bind (vq n g d l j b λa f i k c=>kc (s:={ s with heap:=a }) i λh2 x2 k2=>h h2 f x2 k (c.trans k2))
end
structure XG(P:Program)(w:World)(outer:List Env)(H:Hp)(s:Shared)(x D:Addr)(dct:Option Addr)(T:Addr)(H':Hp)(s':Shared):Prop where
 os:s'.os=s.os
 bare:AllBare s'.gens
 un:Un (frs outer) [] H H' s.heap s'.heap
 hok:HOk P w H' s'.heap
 fx:Fx s'.heap x (.ref D) dct .none T
 nx:s.heap.get? x=none
 nT:s.heap.get? T=none
 ux:H' x=none
 uT:H' T=none
def CXG(P:Program)(w:World):CXT:=λouter H s E e s'=>∃ x D dct T H',e=.ref x/\XG P w outer H s x D dct T H' s'/\E (.ref D) dct H'
theorem dy{a:List Addr}{H H':Hp}{h h':Heap}{b:Addr}(u:Un a [] H H' h h')(n:h'.get? b=none):h.get? b=none:=by
 cases q:h.get? b with
 | none=>rfl
 | some o =>
  obtain⟨c,e⟩:=u.there b o q (by simp);rw[n]at e;cases e
section
variable {P:Program}{w:World}{K:Frag}{mg:Str->Option Value}{base:Heap}{N:List Str}{qual:Str}{scope:Scope}{f:Addr}{cdv:Value}{A:Around}{outer:List Env}{s0:Shared}{H0:Hp}{E:XK}
abbrev cxG(P:Program)(w:World)(K:Frag)(mg:Str->Option Value)(base:Heap)(N:List Str)(qual:Str)(scope:Scope)(f:Addr)(cdv:Value)(A:Around)(outer:List Env)(s0:Shared)(H0:Hp)(E:XK):Cx :=
 eN (CXG P w) P w K mg base N qual scope f cdv A outer s0 H0 E
theorem pO{X:Cx}{d:List (Addr×Obj)}{r:St}{H':Hp}{f:Shared}{g:Heap}{x D T:Addr}{c:Option Addr}{xs:List Addr}(J:Inv X d r H' f)(h:X.ex=[])
  (k:KeptBut xs (frs X.stack) f.heap g) (a:∀ b∈xs,X.s₀.heap.get? b=none/\H' b=none/\b ∉ frs X.outer) (q:Fx g x (.ref D) c .none T) (j:x∈xs) (l:T∈xs) :
  XG X.prog X.w X.outer X.H₀ X.s₀ x D c T H' { f with heap:=g }:=by
 have s:Un (frs X.outer) [] X.H₀ H' X.s₀.heap f.heap:=by
  have:=J.base;rw[h]at this;exact this
 refine⟨J.os,J.bare,wO s (λb o p i e=>k.1 b o (λz=>?_) (xC J p i) e) (λb o i e=>k.2 b o (λz=>(a b z).2.2 i) e),tY J.hok (λb o u hu e=>k.1 b o (λz=>?_) (xh J hu) e),q,(a x j).1,(a T l).1,(a x j).2.1,(a T l).2.1⟩
 .obtain⟨v,n⟩:=p
  rw[(a b z).1]at n;cases n
 .rw[(a b z).2.1]at hu
  cases hu
theorem iU{X:Cx}{a:List (Addr×Obj)}{c:St}{H:Hp}{s:Shared}(I:Inv X a c H s){b:Addr}(h:s.heap.get? b=none):b ∉ frs X.outer:=λz=>by
 obtain⟨_,o,e,_⟩:=I.funs.mem z;rw[h]at e;cases e
theorem xZ:fE (CXG P w) (cxG P w K mg base N qual scope f cdv A outer s0 H0 E) E:=by
 intro a r H s e d I y;obtain⟨x,D,g,T,c,rfl,G,q⟩:=y;have J:Inv (cxG P w K mg base N qual scope f cdv A outer s0 H0 E) a r c d:=I.call' (ch:=[]) G.os G.un G.hok G.bare (by simp);have l:Un (frs outer) [] H0 H s0.heap s.heap:=I.base;have v:Un (frs outer) [] H0 c s0.heap d.heap:=J.base;show wpAny _ _ (leaving _ (.ref x)) _ _ d;refine sS I.ok.frames J.stack rfl G.fx λB j p i k=>?_
 refine⟨x,D,g,j,c,rfl,pO J rfl k (λb n=>?_) p (by simp) (by simp),q⟩;have h:b=T\/b=x\/b=j:=by simpa using n
 rcases h with rfl | rfl | rfl
 .exact⟨dy l G.nT,G.uT,iU I G.nT⟩
 .exact⟨dy l G.nx,G.ux,iU I G.nx⟩
 .refine⟨dy v i,?_,iU J i⟩
  cases z:c b with
  | none=>rfl
  | some u =>
   obtain⟨o,e⟩:=(J.hok b u z).isObj;rw[i]at e;cases e
theorem vS:PassesOwn (model P w) (cxG P w K mg base N qual scope f cdv A outer s0 H0 E).A (cxG P w K mg base N qual scope f cdv A outer s0 H0 E).env (cxG P w K mg base N qual scope f cdv A outer s0 H0 E).xe:=PassesOwn.leaving
end
section
variable {P:Program}{w:World}{K:Frag}{mg:Str->Option Value}{base:Heap}
theorem Fun.okG{x a:Str}{st:Stmt}{f:Addr}{h:FuncData}{N ps:List Str}{k:Nat}{sp:Sp}(F:Fun K x a st f h)(S:FnScope N ps (ae st))(d:∀ vs H Q E,sp vs H Q E->vs.length=ps.length)
  (b:∀(cdv:Value) (A:Around) (outer:List Env) (s:Shared) (H:Hp) (vs:List V) (Q:VK) (E:XK),Room k (A.deeper (envOfC a (ae st) s.heap.objs.size f cdv))->sp vs H Q E ->
   ∃ t,PSs (cxG P w K mg base N a (ae st) f cdv A outer s H E) (ah st) t/\t { nx:=λ_ H'=>Q .non H',rt:=Q } (start N vs) H):FnOk P w K mg base (CXG P w) (k+1) f h ps sp:=by
 obtain⟨o,p,v,n,q,u,cdv,r,i,rfl,j,c⟩:=F.ex;exact yn j c S d λA outer s H vs Q E l g=>b cdv A outer s H vs Q E l g
end
def untr(H:Hp)(x:Addr):Hp:=λb=>if b=x then none else H b
theorem aO{H:Hp}{x b:Addr}(h:b≠x):untr H x b=H b:=by unfold untr;rw[if_neg h]
theorem bT{H:Hp}{x:Addr}:untr H x x=none:=by unfold untr;rw[if_pos rfl]
def XU(a D:Addr)(dct:Option Addr):Heap->Prop:=λh=>∃ o vs,h.get? a=some o/\o.cls=.ref D/\o.data=.fields vs/\o.dict=dct/\vs[1]? = some .none/\vs[2]? = some .none
theorem Inv.untr{X:Cx}{a:List (Addr×Obj)}{g:St}{H:Hp}{s:Shared}{x:Addr}{h:Heap->Prop}(I:Inv X a g H s)(i:H x=some (.ext h)):Inv X a g (untr H x) s:=by
 have d:∀ b u,H b=some u->(∀ ψ,u≠.ext ψ)->b≠x:=λb u e n z=>by
  rw[z,i]at e;cases e;exact n h rfl
 have j:∀ b,H b=none->L2.untr H x b=none:=λb e=>by
  by_cases z:b=x
  .rw[z];exact bT
  .rw[aO z];exact e
 have f:HOk X.prog X.w (L2.untr H x) s.heap:=λb u e=>by
  by_cases z:b=x
  .rw[z,bT]at e
   cases e
  .rw[aO z]at e
   refine(I.hok b u e).stay (λ_ _ _ q=>q) (λc q=>?_) λc xs q=>?_
   .rw[aO (d c _ q λ_ z=>nomatch z)];exact q
   .rw[aO (d c _ q λ_ z=>nomatch z)];exact q
 exact I.un (t':=s.toks) (h':=s.heap) ⟨λb o e _ _ _=>e,λb o e _ _ _=>⟨o.slots,e⟩,λb o e n _=>j b n,λb o e _=>⟨o,e⟩,λb xs e=>by rw[aO (d b _ e λ_ z=>nomatch z)];exact e,
  λb o u e=>by rw[aO (d b _ e λ_ z=>nomatch z)];exact e,λb ps e=>⟨#[],by rw[aO (d b _ e λ_ z=>nomatch z),e];simp⟩⟩ f
section
variable {P:Program}{w:World}{K:Frag}{mg:Str->Option Value}{base:Heap}{N:List Str}{qual:Str}{scope:Scope}{f:Addr}{cdv:Value}{A:Around}{outer:List Env}{s0:Shared}{H0:Hp}{E:XK}
def xa(K:Frag)(H0:Hp)(E:XK)(D:Addr)(te:TE):TS:=λ_ σ H=>te σ H λv H1=>∃ x dct φ,v=.ref x/\H1 x=some (.ext φ)/\(∀ h,φ h->XU x D dct h)/\H0 x=none/\E (.ref D) dct (untr H1 x)
theorem fW{l:Expr}{M:TE}{D:Addr}{a:Pos}(c:XCls K D)(hd:XHd K D)(he:PE (cxG P w K mg base N qual scope f cdv A outer s0 H0 E) l M) :
  PS (cxG P w K mg base N qual scope f cdv A outer s0 H0 E) (.Raise (some l) none a) (xa K H0 E D M):=by
 intro d s σ H DE I h;rw[arm_exec_Raise];refine wpAny_bind (wpAny_standAt ?_);show wpAny _ _ (raiseStmt _ (some (do let v <- eval l (cxG P w K mg base N qual scope f cdv A outer s0 H0 E).env;standAt a;pure v)) none) _ _ s;refine wC (K:=K) (D:=D) c hd (I.ok.hd rfl) (wpAny_bind (thn (he d s σ H _ I h) λv B ⟨y,i,g,ry,x,r,φ,ey,F,p,h0,q⟩=>wpAny_bind (wpAny_standAt (wpAny_pure ?_))));subst ey;obtain rfl:v=Value.ref x:=ry;obtain⟨ob,W,G,Q,C,g4,R⟩:=p _ (g.hok x _ F).1;refine⟨x,ob,W,rfl,g.kIn,G,Q,C,R.1,?_⟩;show wpAny _ _ (leaving _ (.ref x)) _ _ B;have J:=g.untr F;have X:Un (frs outer) [] H0 (untr i x) s0.heap B.heap:=J.base;have Y:Un (frs outer) [] H0 i s0.heap B.heap:=g.base
 have nx:s0.heap.get? x=none:=by
  cases z:s0.heap.get? x with
  | none=>rfl
  | some o =>
   have:=Y.free x o z h0 (by simp);rw[F]at this;cases this
 refine rJ g.ok.frames J.stack rfl G C R.1 λh2 T L j k=>?_
 rw[Q,g4]at L;refine⟨x,D,r,T,untr i x,rfl,pO J rfl k (λb Z=>?_) L (by simp) (by simp),q⟩;have n:b=x\/b=T:=by simpa using Z
 rcases n with rfl | rfl
 .refine⟨nx,bT,λz=>?_⟩
  obtain⟨_,o,e,nf⟩:=J.funs.mem z;rw[G]at e;cases e;exact nf W C
 .refine⟨dy X j,?_,iU J j⟩
  cases z:untr i x b with
  | none=>rfl
  | some u =>
   obtain⟨o,e⟩:=(J.hok b u z).isObj;rw[j]at e;cases e
end
end L2
namespace FrM
theorem mi(x y:Int):Int.gcd y (x % y)=Int.gcd x y:=by
 have e:x=x % y+y*(x/y):=(Int.emod_add_mul_ediv x y).symm;rw[Int.gcd_comm x y]
 conv=>rhs;rw[e]
 rw[Int.gcd_add_mul_left_right]
def Bt(n:Nat)(i:Int):Prop:=i.natAbs<2 ^ n
theorem Bt.mono{m n:Nat}{i:Int}(h:Bt m i)(l:m<=n):Bt n i:=Nat.lt_of_lt_of_le h (Nat.pow_le_pow_right (by decide) l)
theorem Bt.le{n:Nat}{i j:Int}(h:Bt n i)(l:j.natAbs<=i.natAbs):Bt n j:=Nat.lt_of_le_of_lt l h
theorem Bt.mul{m n:Nat}{i j:Int}(h:Bt m i)(h':Bt n j):Bt (m+n) (i*j):=by
 unfold Bt at *;rw[Int.natAbs_mul,Nat.pow_add];exact Nat.mul_lt_mul_of_le_of_lt (Nat.le_of_lt h) h' (Nat.lt_of_le_of_lt (Nat.zero_le _) h)
theorem Bt.add{n:Nat}{i j:Int}(h:Bt n i)(h':Bt n j):Bt (n+1) (i+j):=by
 unfold Bt at *;rw[Nat.pow_succ];omega
structure Low(T B t b:Int):Prop where
 pos:1<=b
 cop:Int.gcd t b=1
 eq:t*B=T*b
theorem low(t b:Int)(g:0<b):0<(Int.gcd t b:Int)/\(Int.gcd t b:Int)<=b/\Low t b (t/(Int.gcd t b:Int)) (b/(Int.gcd t b:Int))/\(t/(Int.gcd t b:Int)).natAbs<=t.natAbs/\(b/(Int.gcd t b:Int)).natAbs<=b.natAbs:=by
 have f:0<Int.gcd t b:=Int.gcd_pos_iff.mpr (.inr (by omega));have d:0<(Int.gcd t b:Int):=by omega
 have h:=Int.gcd_dvd_left t b;have a:=Int.gcd_dvd_right t b;have j:=Int.ediv_mul_cancel h;have i:=Int.ediv_mul_cancel a;have c:(Int.gcd t b:Int)<=b:=Int.le_of_dvd g a;refine⟨d,c,⟨?_,Int.gcd_ediv_gcd_ediv_gcd f,?_⟩,?_,?_⟩
 .have:=Int.ediv_pos_of_pos_of_dvd g (by omega) a
  omega
 .rw[<- Int.mul_ediv_assoc _ a,Int.mul_comm,<- Int.mul_ediv_assoc _ h,Int.mul_comm]
 .have:=congrArg Int.natAbs j
  rw[Int.natAbs_mul]at this;rw[<- this];exact Nat.le_mul_of_pos_right _ (by simpa using f)
 .have:=congrArg Int.natAbs i
  rw[Int.natAbs_mul]at this;rw[<- this];exact Nat.le_mul_of_pos_right _ (by simpa using f)
end FrM
namespace L2
open PySem PySem.Spec PyProof.Rows FrM
section
variable {X:Cx}
def CMulB(i j:Int):Prop:=(Bt 8000 i/\Bt 8000 j)\/CMul i j
theorem CMulB.ok{i j:Int}(h:CMulB i j):IntMulOk i j:=by
 rcases h with⟨b,a⟩ | h
 .exact IntMulOk.of_le (m:=8000) (n:=8000) (intBits_le_iff.mpr b) (intBits_le_iff.mpr a) (by decide)
 .exact h.ok
def CDivB(i j:Int):Prop:=0<j/\Bt 8000 j
theorem CDivB.no{i j:Int}(h:CDivB i j):Builtin.divisionGoesByPylong i j=false:=by
 refine PyProof.noPylong_of_log2 ?_;have a:j.natAbs<2 ^ 8000:=h.2
 by_cases h0:j.natAbs=0
 .rw[h0];decide +kernel
 .have:j.natAbs.log2<8000:=(Nat.log2_lt h0).mpr a
  lia
theorem op_mulB:OpR X (binaryOp .Mult) (rI CMulB λi j=>.int (i*j)):=opI λ_ _ _ _ _ _ _ a q=>mul_int q a.ok
theorem op_fdivB:OpR X (binaryOp .FloorDiv) (rI CDivB λi j=>.int (i/j)):=opI λi j _ _ _ _ _ a q=>by
 have b:(0:Int)<j:=a.1;exact floordiv_int (by lia) (by rw[Int.fdiv_eq_ediv_of_nonneg i (by lia)];exact q) (.inl a.no)
theorem bW:OpR X (binaryOp .Mult) (rIC CMulB λi j=>.int (i*j)):=op_mulB.ic
theorem dM:OpR X (binaryOp .FloorDiv) (rIC CDivB λi j=>.int (i/j)):=op_fdivB.ic
theorem cmB{i j:Int}{m n:Nat}(h:Bt m i)(h':Bt n j)(a:m<=8000:=by decide)(b:n<=8000:=by decide):CMulB i j:=.inl ⟨h.mono a,h'.mono b⟩
theorem clB{i j:Int}(h:-(2 ^ 64)<i:=by decide)(a:i<2 ^ 64:=by decide):CMulB i j:=.inr (cl h a)
theorem crB{i j:Int}(h:-(2 ^ 64)<j:=by decide)(a:j<2 ^ 64:=by decide):CMulB i j:=.inr (cr h a)
theorem cdB{i j:Int}{n:Nat}(h:0<j)(h':Bt n j)(a:n<=8000:=by decide):CDivB i j:=⟨h,h'.mono a⟩
theorem oX:bootBuiltins "abs" = some (.builtin "abs"):=by decide +kernel
end
end L2
namespace L2
open PySem PySem.Spec PyProof.Rows
def zO:Expr->Bool
 | .Starred ..=>true
 | _=>false
theorem sv{e:Expr}{es:List Expr}{env:Env}(h:zO e=false):starEach (e::es) env=(false,eval e env)::starEach es env:=by
 cases e <;> first | rfl | cases h
theorem uR{X:Cx}{e:Expr}{es:List Expr}{a:TE}{t:TA}(b:PE X e a)(c:PA X es t)(h:zO e=false:=by rfl):PA X (e::es) (ud a t):=aa b c (sv h)
@[irreducible] def PSq(X:Cx)(sts:List Stmt)(t:TS):Prop:=PSs X sts t
theorem Af{X:Cx}{st:Stmt}{a:List Stmt}{t u:TS}(c:PS X st t)(b:PSq X a u):PSs X (st::a) (bG t u):=by
 unfold PSq at b;exact aj c b
section
variable {X:Cx}{k ie ir:Nat}{f C:Addr}{fd:FuncData}{ps:List Str}{sp:Sp}{dvs:List V}{ds:List Value}{fx cn en rn:Str}{p pos p2 p3 cp hp tp:Pos}{e:Expr}{es:List Expr}{t:TA}{b₀:Stmt}{suite:List Stmt}{ts:TS}
end
end L2
namespace HT
open PySem PySem.Spec PyProof.Rows
section
variable {prog:Program}{w:World}{A:Around}{E:Value->Shared->Prop}{s:Shared}
end
end HT
namespace L2
open PySem PySem.Spec PyProof.Rows
section
variable {X:Cx}
def oq(K:Frag):R2:=λx y H Q=>∃ a b ys,x=.ref a/\y=.ref b/\SqT K H a []/\SqT K H b ys/\Q (.ref b) H
theorem op_catT0:OpR X (binaryOp .Add) (oq X.K):=by
 intro o s W H x y v u Q I B L h;obtain⟨a,b,T,rfl,rfl,P,E,q⟩:=h;cases B;cases L;obtain⟨l,J,C,_⟩:=I.tuple P;obtain⟨f,R,G,_⟩:=I.tuple E;have N:l=[]:=J.nil_iff.mpr rfl;subst N;obtain⟨⟨M,K,A,F⟩,w,r,n,z⟩:=id C;obtain⟨⟨p,i,k,j⟩,g,d,D,c⟩:=id G;simp only at r z d c;subst r z d c
 exact concat_meets ⟨_,w,rfl⟩ ⟨_,g,rfl⟩ noFill_tuple_add seq_tuple_add PySem.F.slot_tuple_add PySem.F.entry_tuple_add (PySem.F.args_tuple_add_2 _ _)
   (tuple_addW0 a b _ f.toArray n D K i F j rfl) ⟨w,g,⟨.ref b,H,I,rfl,q⟩⟩
theorem jl:OpR X (binaryOp .Add) (λx y H Q=>oq X.K x y H Q\/ue X.K x y H Q):=op_catT0.or wK
@[irreducible] def PAq(X:Cx)(es:List Expr)(t:TA):Prop:=PA X es t
theorem v9:PAq X [] zB:=by unfold PAq;exact af
theorem cH{e:Expr}{es:List Expr}{a:TE}{t:TA}(c:PE X e a)(b:PAq X es t)(h:zO e=false:=by rfl):PAq X (e::es) (ud a t):=by
 unfold PAq at b ⊢;exact uR c b h
theorem w6{es:List Expr}{t:TA}{a:Pos}(h:PAq X es t):PE X (.List es a) (y4 t):=by
 unfold PAq at h;exact cV h
end
section
variable {X:Cx}
@[irreducible] def PEq(X:Cx)(e:Expr)(t:TE):Prop:=PE X e t
@[irreducible] def PSt(X:Cx)(st:Stmt)(t:TS):Prop:=PS X st t
theorem uF{e:Expr}{t:TE}(h:PE X e t):PEq X e t:=by unfold PEq;exact h
theorem p8{e:Expr}{t:TE}(h:PEq X e t):PE X e t:=by unfold PEq at h;exact h
theorem ji{st:Stmt}{t:TS}(h:PS X st t):PSt X st t:=by unfold PSt;exact h
theorem p0{st:Stmt}{t:TS}(h:PSt X st t):PS X st t:=by unfold PSt at h;exact h
theorem xG{es:List Expr}{t:TA}{a:Pos}(h:PAq X es t):PEq X (.List es a) (y4 t):=uF (w6 h)
theorem xj{st:Stmt}{t:TS}(h:PSt X st t):PSq X [st] t:=by unfold PSq;exact am (p0 h)
theorem gC{st:Stmt}{a:List Stmt}{t u:TS}(h:PSt X st t)(b:PSq X a u):PSq X (st::a) (bG t u):=by
 unfold PSq at b ⊢;exact aj (p0 h) b
theorem wY{a:List Stmt}{t:TS}(h:PSq X a t):PSs X a t:=by unfold PSq at h;exact h
theorem v7{i:Nat}{x:Str}{e:Expr}{c:TE}{b a:Pos}(d:X.N.Nodup)(g:X.N[i]? = some x)(j:Loc X.env.scope x)(h:PEq X e c)(k:swapsWith e (some (.Name x a)) b.line X.env = pure false:=by rfl)(f:X.fn x = true\/X.env.scope.names.lookup x = some .local:=by first | exact .inl rfl | exact .inr rfl | assumption) :
  PSt X (.Assign [.Name x a] e b) (wu c (mq i)):=ji (aL d g j (p8 h) k f)
end
structure LamD where
 qual:Str
 params:Arguments
 body:Expr
 scope:Scope
def dW(f:Addr)(d:LamD)(clos:List (Str×Addr))(c:Addr):Heap->Prop:=λh=>∃ pm ctv,h.get? f=some (kla_obj "<lambda>" d.qual d.params d.body d.scope clos pm c ctv)
def cq(c:Addr)(v:V):Heap->Prop:=λh=>∃ o u,h.get? c=some o/\o.data=.cell (some u)/\RelV v u
def fR(c:Addr)(q:Str):Heap->Prop:=λh=>∃ o vs t,h.get? c=some o/\o.data=.fields vs/\vs[1]? = some (.str q t)
section
variable {P:Program}{w:World}{H:Hp}{h:Heap}
theorem qk{f:Addr}{d:LamD}{b:List (Str×Addr)}{c:Addr}{g a:Value}(e:h.get? f=some (kla_obj "<lambda>" d.qual d.params d.body d.scope b g c a)):ObjOk P w H h f (.ext (dW f d b c)) :=
 ⟨⟨g,a,e⟩,⟨_,e⟩,λl j ⟨g,a,i⟩ k=>⟨g,a,k _ i⟩⟩
theorem lZ{c:Addr}{v:V}(x:cq c v h):ObjOk P w H h c (.ext (cq c v)) :=
 ⟨x,let ⟨o,_,e,_⟩:=x;⟨o,e⟩,λd b ⟨o,u,a,r⟩ k=>⟨o,u,k _ a,r⟩⟩
theorem uP{c:Addr}{q:Str}(x:fR c q h):ObjOk P w H h c (.ext (fR c q)) :=
 ⟨x,let ⟨o,_,_,e,_⟩:=x;⟨o,e⟩,λf d ⟨o,a,t,b,r⟩ k=>⟨o,a,t,k _ b,r⟩⟩
end
theorem i3(a:Addr)(o:Obj)(f:o.data≠.freed):∃ h:Heap,h.get? a=some o:=by
 refine⟨{ objs:=Array.replicate (a+1) o },?_⟩;obtain⟨c,d,b,g⟩:=o
 cases b <;> first | exact absurd rfl f | simp[Heap.get?]
theorem eI{f:Addr}{d:LamD}{a:List (Str×Addr)}{c:Addr}{v:V}:HO.ext (dW f d a c)≠HO.ext (cq f v):=λe=>by
 injection e with e
 obtain⟨h,b⟩:=i3 f (kla_obj "<lambda>" d.qual d.params d.body d.scope a .none c .none) (by intro z;cases z);have y:cq f v h:=by rw[<- e];exact⟨_,_,b⟩
 obtain⟨o,u,g,i,_⟩:=y;rw[b]at g;cases g;cases i
theorem cT{c:Addr}{q:Str}{v:V}:HO.ext (fR c q)≠HO.ext (cq c v):=λe=>by
 injection e with e
 obtain⟨h,a⟩:=i3 c { cls:=.none,data:=.fields #[.none,.str q 0] } (by intro z;cases z);have y:cq c v h:=by rw[<- e];exact⟨_,_,_,a,rfl,rfl⟩
 obtain⟨o,u,b,d,_⟩:=y;rw[a]at b;cases b;cases d
def Bb:HO->Bool
 | .tbl _=>false
 | _=>true
def SameT(H H':Hp):Prop:=∀ b o,H b=some o->(Bb o=true->H' b=some o)/\∃ o',H' b=some o'
theorem SameT.refl{H:Hp}:SameT H H:=λb o e=>⟨λ_=>e,o,e⟩
theorem SameT.trans{H H1 H2:Hp}(a:SameT H H1)(b:SameT H1 H2):SameT H H2:=λc o e=>by
 obtain⟨f,i,d⟩:=a c o e;obtain⟨g,j,h⟩:=b c i d;exact⟨λn=>(b c o (f n)).1 n,j,h⟩
theorem Same.t{H H':Hp}(s:Same H H'):SameT H H':=λb o e=>⟨λ_=>s b o e,o,s b o e⟩
theorem SameT.at{H H':Hp}(s:SameT H H'){a:Addr}{o:HO}(e:H a=some o)(n:Bb o=true:=by rfl):H' a=some o:=(s a o e).1 n
theorem SameT.free{H H':Hp}(s:SameT H H'){a:Addr}(e:H' a=none):H a=none:=by
 cases q:H a with
 | none=>rfl
 | some o=>obtain⟨_,c,b⟩:=s a o q;rw[e]at b;cases b
theorem SameT.put{H H':Hp}(s:SameT H H'){a:Addr}{o:HO}(e:H a=none):SameT H (upd H' a o):=λb u q=>by
 have n:b≠a:=λz=>by rw[z,e]at q;cases q
 rw[ag n];exact s b u q
def Bi(H:Hp)(P:Addr)(ls:List (Pos×Str)):Prop:=∃ ps,H P=some (.tbl ps)/\TriplesOk ps.toList/\∀ l∈ls,codeAmong l.1 ps.toList=none\/∃ c,codeAmong l.1 ps.toList=some (.ref c)/\H c=some (.ext (fR c l.2))
abbrev ni:=List (Addr×List (Pos×Str))
def TabsOk(tabs:ni)(H:Hp):Prop:=∀ q∈tabs,Bi H q.1 q.2
theorem TabsOk.same{d:ni}{H H':Hp}(t:TabsOk d H)(s:Same H H'):TabsOk d H':=λq j=>by
 obtain⟨h,k,i,g⟩:=t q j;exact⟨h,s _ _ k,i,λl f=>(g l f).imp id λ⟨c,a,b⟩=>⟨c,a,s _ _ b⟩⟩
theorem TabsOk.put{d:ni}{H:Hp}{r:Addr}{o:HO}(t:TabsOk d H)(h:∀ ps,H r≠some (.tbl ps))(g:∀ φ,H r≠some (.ext φ)):TabsOk d (upd H r o):=λq n=>by
 obtain⟨ps,f,k,j⟩:=t q n;refine⟨ps,?_,k,λl i=>(j l i).imp id λ⟨c,a,b⟩=>⟨c,a,?_⟩⟩
 .rw[ag λz=>h ps (by rw[<- z];exact f)];exact f
 .rw[ag λz=>g _ (by rw[<- z];exact b)];exact b
theorem m8{p d:Pos}{c:Value}(l:List Value)(h:TriplesOk l)(f:¬(p.line=d.line/\p.col=d.col)):codeAmong d (l++[rawInt p.line,rawInt p.col,c])=codeAmong d l:=by
 fun_induction TriplesOk l with
 | case1 =>
  simp only[nil_append,codeAmong,rawInt];rw[if_neg];intro z;rw[Bool.and_eq_true,beq_iff_eq,beq_iff_eq]at z;exact f ⟨by lia,by lia⟩
 | case2 a t b u x rest ih =>
  simp only[cons_append,codeAmong];rw[ih h]
 | case3=>exact h.elim
theorem lT{p:Pos}{c:Value}(l:List Value)(h:TriplesOk l):TriplesOk (l++[rawInt p.line,rawInt p.col,c]):=by
 fun_induction TriplesOk l with
 | case1=>simp[TriplesOk,rawInt]
 | case2 a t b u x rest ih=>exact ih h
 | case3=>exact h.elim
def Bm(mg:Str->Option Value)(base:Heap):Prop:=∃ bm ob,mg "__builtins__" = some (.ref bm)/\base.get? bm=some ob/\ob.cls=.type "module" /\ ob.dict=some builtinsNs/\ob.data=.plain
def BF(tabs:ni)(d:LamD)(clos:List (Str×Addr)):TE:=λσ H Q=>TabsOk tabs H/\∀ f c H1,SameT H H1->TabsOk tabs H1->H f=none->H1 f=some (.ext (dW f d clos c))->H1 c=some (.ext (fR c d.qual))->Q (.ref f) H1
theorem kQ{b c:Type}:∀{l:List (b×c)},(l.map (·.1)).Nodup->∀ x∈l,∀ y∈l,x.1=y.1->x=y
 | [],_,x,hx,_,_,_=>by cases hx
 | a::r,nd,x,hx,y,hy,e=>by
  rw[map_cons,nodup_cons]at nd
  rcases mem_cons.mp hx with rfl | hx' <;> rcases mem_cons.mp hy with rfl | hy'
  .rfl
  .exact absurd (mem_map.mpr ⟨y,hy',e.symm⟩) nd.1
  .exact absurd (mem_map.mpr ⟨x,hx',e⟩) nd.1
  .exact kQ nd.2 x hx' y hy' e
theorem p9:∀{l:List (Pos×Str)},(l.Pairwise λx y=>¬(x.1.line=y.1.line/\x.1.col=y.1.col))->∀ x∈l,∀ y∈l,(x.1.line=y.1.line/\x.1.col=y.1.col)->x=y
 | [],_,x,hx,_,_,_=>by cases hx
 | a::r,nd,x,hx,y,hy,e=>by
  rw[pairwise_cons]at nd
  rcases mem_cons.mp hx with rfl | hx' <;> rcases mem_cons.mp hy with rfl | hy'
  .rfl
  .exact absurd e (nd.1 y hy')
  .exact absurd ⟨e.1.symm,e.2.symm⟩ (nd.1 x hx')
  .exact p9 nd.2 x hx' y hy' e
section
variable {X:Cx}{tabs:ni}{P c:Addr}{ls:List (Pos×Str)}{d:LamD}{clos:List (Str×Addr)}{pos:Pos}
theorem iy(N:X.env.code=.ref c)(hC:codeHdIn X.K c P=true)(hB:Bm X.mg X.base)(hq:X.env.qual ++ "<lambda>" = d.qual)(K:closureFor d.scope X.env=pure clos)(ac:defaultsOf d.params X.env=([],[]))
  (hm:(P,ls)∈tabs) (hl:(pos,d.qual)∈ls) (a7:(tabs.map (·.1)).Nodup) (ba:ls.Pairwise λx y=>¬(x.1.line=y.1.line/\x.1.col=y.1.col)):PE X (.Lambda d.params d.body d.scope pos) (BF tabs d clos):=by
 intro bb s σ H Q I h;obtain⟨hT,hQ⟩:=h;refine PySem.W.kla_eval ac ?_;rw[hq];obtain⟨G,r,l,R⟩:=hT _ hm;have p:s.heap.Ns mainGlobals X.mg:=I.mod.glob.keeps I.bk;have C:CodeHd s.heap c P:=codeHd_of_K I.kIn hC;have v:s.heap.get? P=some (tabObj G):=I.hok P _ r
 have a5:mainGlobals≠P:=λq=>by
  obtain⟨o,es,ep,e,L,_⟩:=p;rw[q,v]at e;cases e;cases L
 obtain⟨bm,ob,b1,b2,b3,b4,W⟩:=hB;have bo:=I.bk _ _ b2
 have a0:bm≠P:=λq=>by
  rw[q,v]at bo;cases bo;cases b3
 have a8:bm≠mainGlobals:=λq=>by
  obtain⟨o,es,ep,e,L,_⟩:=p;rw[q,e]at bo;cases bo;rw[L]at W;cases W
 have a4:bm≠builtinsNs:=λq=>by
  obtain⟨mb,⟨o,es,ep,e,L,_⟩,_⟩:=I.mod.blt;rw[q,e]at b2;cases b2;rw[L]at W;cases W
 have BA:s.heap.BuiltinsAt X.mg P:=⟨bm,ob,b1,a4,a8,a0,bo,b3,b4,W⟩
 rcases R _ hl with hn | ⟨i,hc,az⟩
 .refine PySem.W.kla_makeFunction (mg:=X.mg) K I.ok.glob p N C v l hn a5 BA λi M h' tk hx w F Z as=>?_
  have Y:H i=none:=I.hok.fresh w;have j:H h'.objs.size=none:=I.hok.fresh (Nat.le_trans w (Nat.le_of_lt F));have al:i≠h'.objs.size:=Nat.ne_of_lt F;have an:P≠i:=aw r Y;have ab:P≠h'.objs.size:=aw r j
  obtain⟨f,hf⟩:∃ f,f=h'.objs.size:=⟨_,rfl⟩
  obtain⟨ob',hob⟩:∃ o,o=kla_obj "<lambda>" d.qual d.params d.body d.scope clos ((X.mg "__name__").getD .none) i M:=⟨_,rfl⟩
  have a9:(h'.push ob').get? f=some ob':=by rw[hf,hob];exact Heap.get?_push_size _ rfl
  have k:∀ b o,b≠P->s.heap.get? b=some o->(h'.push ob').get? b=some o:=λb o n e=>Heap.get?_push_of_some _ (hx b o n e)
  have B:(h'.push ob').get? P=some (tabObj (G ++ #[rawInt pos.line,rawInt pos.col,.ref i])):=Heap.get?_push_of_some _ as
  have a':fR i d.qual (h'.push ob'):=by
   obtain⟨D,oc,vs,t,e2,a2,a6,hv⟩:=Z;cases e2;exact⟨oc,vs,t,Heap.get?_push_of_some _ a2,a6,hv⟩
  rw[<- hf]at j al ab ⊢;rw[<- hob]
  obtain⟨H1,hH1⟩:∃ H1,H1=upd (upd (upd H P (.tbl (G ++ #[rawInt pos.line,rawInt pos.col,.ref i]))) i (.ext (fR i d.qual))) f (.ext (dW f d clos i)):=⟨_,rfl⟩
  have gf:H1 f=some (.ext (dW f d clos i)):=by rw[hH1];exact ad
  have gc:H1 i=some (.ext (fR i d.qual)):=by rw[hH1,ag al];exact ad
  have gP:H1 P=some (.tbl (G ++ #[rawInt pos.line,rawInt pos.col,.ref i])):=by rw[hH1,ag ab,ag an];exact ad
  have go:∀ b,b≠P->b≠i->b≠f->H1 b=H b:=λb h1 h2 h3=>by rw[hH1,ag h3,ag h2,ag h1]
  have g:∀ b o,b≠P->H b=some o->H1 b=some o:=λb o n e=>by rw[go b n (aw e Y) (aw e j)];exact e
  have E:∀ b o,H b=some o->(∀ qs,o≠.tbl qs)->b≠P:=λb o e n z=>by rw[z,r]at e;cases e;exact n G rfl
  have un:Un X.fs [] H H1 s.heap (h'.push ob'):=by
   refine⟨λb o e n _ _=>k b o (λz=>by rw[z,r]at n;cases n) e,λb o e n _ _=>⟨o.slots,k b o (λz=>by rw[z,r]at n;cases n) e⟩,λb o e n _=>?_,λb o e _=>?_,λb xs e=>g b _ (E b _ e λ_ z=>nomatch z) e,λb o u e=>g b _ (E b _ e λ_ z=>nomatch z) e,λb qs e=>?_⟩
   .have hb:b<s.heap.objs.size:=Heap.lt_size e
    rw[go b (λz=>by rw[z,r]at n;cases n) (Nat.ne_of_lt (Nat.lt_of_lt_of_le hb w)) (by rw[hf];exact Nat.ne_of_lt (Nat.lt_of_lt_of_le hb (Nat.le_trans w (Nat.le_of_lt F))))];exact n
   .by_cases hb:b=P
    .rw[hb];exact⟨_,B⟩
    .exact⟨o,k b o hb e⟩
   .by_cases hb:b=P
    .rw[hb,r]at e
     cases e;rw[hb];exact⟨_,gP⟩
    .exact⟨#[],by rw[g b _ hb e];simp⟩
  have a3:HOk X.prog X.w H1 (h'.push ob'):=λa o e=>by
   by_cases h1:a=f
   .subst h1;rw[gf]at e;cases e;exact qk (by rw[a9,hob])
   by_cases h2:a=i
   .subst h2;rw[gc]at e;cases e;exact uP a'
   by_cases h3:a=P
   .subst h3;rw[gP]at e;cases e;exact B
   rw[go a h3 h2 h1]at e;refine(I.hok a o e).stay (λb u hb q=>k b u ?_ q) (λb q=>g b _ (E b _ q λ_ z=>nomatch z) q) λb xs q=>g b _ (E b _ q λ_ z=>nomatch z) q
   rcases hb with rfl | hb
   .exact h3
   .exact E b _ hb λ_ z=>nomatch z
  refine⟨.ref f,H1,I.un (h':=h'.push ob') (t':=tk) un a3,rfl,hQ f i H1 (λb o e=>?_) (λq hq'=>?_) j gf gc⟩
  .by_cases hb:b=P
   .subst hb
    rw[r]at e;cases e;exact⟨λz=>(Bool.false_ne_true z).elim,_,gP⟩
   .exact⟨λ_=>g b o hb e,o,g b o hb e⟩
  .by_cases hqP:q.1=P
   .have a1:q=(P,ls):=kQ a7 q hq' (P,ls) hm hqP
    subst a1;refine⟨_,gP,by rw[Array.toList_append];exact lT _ l,λJ A=>?_⟩;rw[Array.toList_append]
    by_cases hp:pos.line=J.1.line/\pos.col=J.1.col
    .have:=p9 ba (pos,d.qual) hl J A hp
     subst this;exact .inr ⟨i,codeAmong_snoc _ l hn,gc⟩
    .have eo:=m8 (c:=.ref i) G.toList l hp
     rcases R J A with z | ⟨D,z1,z2⟩
     .exact .inl (eo.trans z)
     .exact .inr ⟨D,eo.trans z1,g D _ (E D _ z2 λ_ z=>nomatch z) z2⟩
   .obtain⟨qs,e1,e2,e3⟩:=hT q hq'
    exact⟨qs,g _ _ hqP e1,e2,λJ A=>(e3 J A).imp id λ⟨D,z1,z2⟩=>⟨D,z1,g D _ (E D _ z2 λ_ z=>nomatch z) z2⟩⟩
 .refine PySem.W.kla_makeFunctionHit (mg:=X.mg) K I.ok.glob p N C v l hc BA λM h' tk hk T=>?_
  have j:H h'.objs.size=none:=I.hok.fresh T;have sm:Same H (upd H h'.objs.size (.ext (dW h'.objs.size d clos i))):=Same.new j;refine⟨.ref h'.objs.size,_,I.laid (a:=h'.objs.size) (o:=.ext (dW h'.objs.size d clos i)) (t':=tk) (λb u e=>Heap.get?_push_of_some _ (hk b u e)) T (qk (Heap.get?_push_size _ rfl)),rfl,hQ _ i _ sm.t (hT.same sm) j ad (sm _ _ az)⟩
end
def untrs(H:Hp)(cs:List Addr):Hp:=λb=>if b∈cs then none else H b
theorem dF{H:Hp}{a:List Addr}{b:Addr}(h:b∈a):untrs H a b=none:=by unfold untrs;rw[if_pos h]
theorem aG{H:Hp}{a:List Addr}{b:Addr}(h:b ∉ a):untrs H a b=H b:=by unfold untrs;rw[if_neg h]
theorem dc{H:Hp}{a:List Addr}{b:Addr}(h:H b=none):untrs H a b=none:=by unfold untrs;split <;> first | rfl | exact h
abbrev CellsAt(H:Hp):List (Str×Addr)->List V->Prop:=Paired λ(p:Str×Addr) (v:V)=>H p.2=some (.ext (cq p.2 v))
theorem CellsAt.mem{H:Hp}:∀{clos:List (Str×Addr)}{vals:List V},CellsAt H clos vals->∀ p∈clos,∃ v,H p.2=some (.ext (cq p.2 v))
 | _,_,.nil,p,h=>by cases h
 | _,_,.cons r t,p,h=>by
  rcases mem_cons.mp h with rfl | h
  .exact⟨_,r⟩
  .exact CellsAt.mem t p h
theorem CellsAt.get{H:Hp}:∀{clos:List (Str×Addr)}{vals:List V}{i:Nat}{v:V},CellsAt H clos vals->vals[i]? = some v->∃ p,clos[i]? = some p/\H p.2=some (.ext (cq p.2 v))
 | _,_,_,_,.nil,h=>by cases h
 | _,_,0,_,.cons r t,h=>by cases h;exact⟨_,rfl,r⟩
 | _,_,i+1,_,.cons r t,h=>CellsAt.get (i:=i) t h
theorem CellsAt.at{H:Hp}{a:List (Str×Addr)}{c:List V}(f:CellsAt H a c){b:Addr}(d:b∈a.map (·.2)):∃ v,H b=some (.ext (cq b v)):=by
 obtain⟨p,g,rfl⟩:=mem_map.mp d;exact f.mem p g
theorem aI{H:Hp}{a:List (Str×Addr)}{c:List V}{b:Addr}{o:HO}(d:CellsAt H a c)(h:H b=some o)(n:∀ v,o≠.ext (cq b v)):untrs H (a.map (·.2)) b=some o:=by
 rw[aG λz=>?_]
 .exact h
 .obtain⟨v,e⟩:=d.at z
  rw[h]at e;exact n v (Option.some.inj e)
theorem dD{a:Type}:∀{l:List (Str×a)}{x:Str}{u:a},(l.map (·.1)).Nodup->(x,u)∈l->l.lookup x=some u
 | [],_,_,_,h=>by cases h
 | (y,w)::r,x,u,nd,h=>by
  rw[map_cons,nodup_cons]at nd
  rcases mem_cons.mp h with e | h
  .cases e;simp[List.lookup]
  .have:x≠y:=λz=>nd.1 (mem_map.mpr ⟨(x,u),h,z⟩)
   rw[lookup_cons,beq_eq_false_iff_ne.mpr this];exact dD nd.2 h
theorem sk{a:Type}{l:List a}(h:l.Nodup):l.reverse.Nodup:=by
 unfold List.Nodup at h ⊢;rw[List.pairwise_reverse];exact h.imp λn z=>n z.symm
def jK(d:LamD)(L f c:Addr)(clos:List (Str×Addr)):Env:={ scope:=d.scope,locals:=L,globals:=mainGlobals,cells:=clos,qual:=d.qual ++ ".<locals>.",func:=some f,code:=.ref c,frame:=some L,builtins:=builtinsNs }
def cxL(P:Program)(w:World)(K:Frag)(mg:Str->Option Value)(base:Heap)(N:List Str)(d:LamD)(clos:List (Str×Addr))(f c:Addr)(A:Around)(outer:List Env)(s:Shared)(H:Hp):Cx where
 prog:=P
 w:=w
 K:=K
 mg:=mg
 base:=base
 A:=A.deeper (jK d s.heap.objs.size f c clos)
 N:=N
 s₀:=s
 H₀:=untrs H (clos.map (·.2))
 env:=jK d s.heap.objs.size f c clos
 outer:=outer
 stack:=jK d s.heap.objs.size f c clos::outer
 ex:=[]
 calm:=true
 fn:=λ_=>false
 pn:=[]
 xe:=λ_ _=>False
def LamOk(P:Program)(w:World)(K:Frag)(mg:Str->Option Value)(base:Heap)(k:Nat)(d:LamD)(fv ps:List Str)(sp:List V->Sp):Prop :=
 ∀(A:Around) (outer:List Env) (s:Shared) (H:Hp) (f c:Addr) (clos:List (Str×Addr)) (us:List Value) (vs vals:List V) (Q:VK) (E:XK),Room k A->Env0 P w K mg base A outer s H->H f=some (.ext (dW f d clos c))->H c=some (.ext (fR c d.qual)) ->
  clos.map (·.1)=fv->(clos.map (·.2)).Nodup->CellsAt H clos vals->Vals vs us->sp vals vs H Q E->codeAny (model P w) A (.call (.ref f) ⟨us,[]⟩) (CR CX0 outer P w H s Q E) s
structure LamScope(d:LamD)(fv ps:List Str):Prop where
 kind:d.scope.kind=.function
 co:d.scope.isCoroutine=false
 gen:d.scope.isGenerator=false
 nocell:∀ x∈d.scope.names,x.2≠.cell
 par:∀ x ∈ ps,d.scope.names.lookup x = some .local
 free:∀ x∈d.scope.names,x.2=.free->x.1∈fv
 fr:∀ x∈fv,d.scope.names.lookup x=some .free
 nd:(ps++fv).Nodup
theorem b8{a b:Type}[BEq a][LawfulBEq a]:∀{l:List (a×b)}{x:a}{u:b},l.lookup x=some u->(x,u)∈l
 | [],_,_,h=>by cases h
 | (y,w)::r,x,u,h=>by
  rw[lookup_cons]at h;cases e:x == y with
  | true=>rw[e]at h;cases h;rw[eq_of_beq e];exact mem_cons_self ..
  | false=>rw[e]at h;exact mem_cons_of_mem _ (b8 h)
theorem ow{P:Program}{w:World}{K:Frag}{mg:Str->Option Value}{C:Heap}{d:LamD}{J ps:List Str}{a:List (Str×Addr)}{f c:Addr}{A:Around}{j:List Env}{s:Shared}{H:Hp}{us:List Value}{vs g:List V}{G:Heap}{tk:Nat}
  (S:LamScope d J ps) (hd:A.handled=none) (D:Env0 P w K mg C A j s H) (hl:vs.length=ps.length) (r:Vals vs us) (B:a.map (·.1)=J) (W:(a.map (·.2)).Nodup) (Q:CellsAt H a g)
  (Z:G.Ns s.heap.objs.size (λx=>(ps.zip us).reverse.lookup x)) (hk:∀ b o,s.heap.get? b=some o->G.get? b=some o) :
  Inv (cxL P w K mg C (ps++J) d a f c A j s H) [] ((vs++g).map some) (untrs H (a.map (·.2))) { s with heap:=G,toks:=tk }:=by
 have N:(a.map (·.1)).Nodup:=by rw[B];exact(nodup_append.mp S.nd).2.1
 have T:ps.Nodup:=(nodup_append.mp S.nd).1;have al:us.length=ps.length:=by rw[<- r.length];exact hl
 have R:∀ x k,a.lookup x=some k->k∈a.map (·.2):=λx k e=>mem_map.mpr ⟨(x,k),b8 e,rfl⟩
 have l:∀ b v,H b=some (.ext (cq b v))->∃ u,RelV v u/\G.IsCell b (some u):=λb v e=>by
  obtain⟨⟨o,u,E,n,g3⟩,_⟩:=D.hok b _ e;exact⟨u,g3,o,hk _ _ E,n⟩
 have L:∀ b:Addr,b ∉ (cxL P w K mg C (ps++J) d a f c A j s H).ex:=λb z=>absurd (show b∈([]:List Addr) from z) (by simp)
 have as:a.length=J.length:=by rw[<- B,length_map]
 have an:g.length=a.length:=(Paired.length Q).symm
 refine⟨⟨D.mod,S.kind,rfl,rfl,Nat.le_refl _,λy z k G Y=>?_,λy hy=>?_,λy k h=>(Bool.false_ne_true h).elim,λ_=>hd,Around.frames_deeper D.frames,.inr ⟨rfl,rfl⟩,λb z=>absurd z (L b),λb o e=>⟨(D.bs b o e).1,dc (D.bs b o e).2⟩,D.bsz,λb _ _=>L b,λb z=>absurd z (L b),D.funs,λb hb=>dc (D.frf b hb)⟩,
  rfl,D.bare,Un.kept hk,⟨_,Z,λi y v E n g3=>?_⟩,λy k h=>?_,dc (D.hok.fresh (Nat.le_refl _)),λy k h=>dF (R y k h),λp M=>absurd (show p∈([]:List (Addr×Obj)) from M) (by simp),λb u e=>?_,?_⟩
 .have G:a.lookup y=some k:=G
  have Y:a.lookup z=some k:=Y;have e1:=b8 G;have e2:=b8 Y;have ab:((a.map λp=>(p.2,p.1)).map (·.1)).Nodup:=by rw[map_map];exact W
  have:=kQ ab (k,y) (mem_map.mpr ⟨_,e1,rfl⟩) (k,z) (mem_map.mpr ⟨_,e2,rfl⟩) rfl;exact congrArg Prod.snd this
 .have hy:d.scope.names.lookup y=some .cell\/d.scope.names.lookup y=some .free:=hy
  rcases hy with hy | hy
  .exact absurd rfl (S.nocell _ (b8 hy))
  .have:=S.free _ (b8 hy) rfl
   rw[<- B]at this;obtain⟨p,M,e⟩:=mem_map.mp this;have e':p.1=y:=e;exact⟨p.2,dD N (by show(y,p.2)∈a;rw[<- e'];exact M)⟩
 .have E:(ps++J)[i]? = some y:=E
  by_cases hi:i<ps.length
  .rw[List.getElem?_append_left hi]at E
   rw[List.getElem?_map,List.getElem?_append_left (by lia)]at n
   have I:vs[i]? = some v:=by
    cases q:vs[i]? with
    | none=>rw[q]at n;cases n
    | some x=>rw[q]at n;cases n;rfl
   obtain⟨u,hu,X⟩:=r.get I;refine⟨u,X,.inl ⟨S.par y (List.mem_of_getElem? E),?_⟩⟩;have ac:(y,u)∈ps.zip us:=List.mem_of_getElem? (i:=i) (by rw[List.getElem?_zip_eq_some];exact⟨E,hu⟩);refine dD ?_ (List.mem_reverse.mpr ac);rw[List.map_reverse];refine sk ?_;have:(ps.zip us).map (·.1)=ps:=by rw[List.map_fst_zip];lia
   rw[this];exact T
  .rw[List.getElem?_append_right (by lia)]at E
   rw[List.getElem?_map,List.getElem?_append_right (by lia)]at n
   have I:g[i - ps.length]? = some v:=by
    rw[hl]at n;cases q:g[i - ps.length]? with
    | none=>rw[q]at n;cases n
    | some x=>rw[q]at n;cases n;rfl
   obtain⟨p,M,e⟩:=Q.get I;rw[<- B,List.getElem?_map,M]at E;cases E;obtain⟨u,X,ic⟩:=l _ _ e;have F:=List.mem_of_getElem? M;refine⟨u,X,.inr ⟨.inr (S.fr p.1 ?_),p.2,dD N F,ic⟩⟩;rw[<- B];exact mem_map.mpr ⟨p,F,rfl⟩
 .obtain⟨v,e⟩:=Q.at (R y k h)
  obtain⟨u,_,ic⟩:=l _ _ e;exact⟨_,ic⟩
 .by_cases hb:b∈a.map (·.2)
  .rw[dF hb]at e;cases e
  .rw[aG hb]at e
   refine(D.hok b u e).stay (λb' u' _ q=>hk b' u' q) (λb' q=>?_) λb' xs q=>?_
   .exact aI Q q λv z=>nomatch z
   .exact aI Q q λv z=>nomatch z
 .show((vs++g).map some).length=(ps++J).length
  rw[length_map,length_append,length_append];lia
section
variable {P:Program}{w:World}{K:Frag}{mg:Str->Option Value}{base:Heap}
theorem io{d:LamD}{N ps:List Str}{k:Nat}{sp:List V->Sp}(S:LamScope d N ps)
  (C:∀(pm ctv:Value) (clos:List (Str×Addr)) (c:Addr) (us:List Value),us.length=ps.length->bindArgs (kla_fn "<lambda>" d.qual d.params d.body d.scope clos pm (.ref c) ctv) ⟨us,[]⟩=pure (ps.zip us))
  (ac:∀ vals vs H Q E,sp vals vs H Q E->vs.length=ps.length)
  (l:∀(A:Around) (outer:List Env) (s:Shared) (H:Hp) (f c:Addr) (clos:List (Str×Addr)) (vals vs:List V) (Q:VK) (E:XK),Room k (A.deeper (jK d s.heap.objs.size f c clos))->clos.map (·.1)=N->CellsAt H clos vals->sp vals vs H Q E ->
   ∃ t,PE (cxL P w K mg base (ps++N) d clos f c A outer s H) d.body t/\t ((vs++vals).map some) (untrs H (clos.map (·.2))) (λv H'=>∀ H3,Same H' H3->(∀ p∈clos,H3 p.2=H p.2)->Q v H3)) :
  LamOk P w K mg base (k+1) d N ps sp:=by
 intro A outer s H f c clos us vs vals Q E R j hf hc F W x r L;have hl:=ac _ _ _ _ _ L;have X:us.length=ps.length:=by rw[<- r.length];exact hl
 obtain⟨⟨pm,ctv,ef⟩,_,_⟩:=j.hok f _ hf;obtain⟨⟨oc,T,ct,ec,ed,ev⟩,_,_⟩:=j.hok c _ hc;have ab:s.heap.NoLimit:=j.mod.nolimit.keeps λb o e=>(j.bs b o e).1
 obtain⟨t,ht,hq⟩:=l A outer s H f c clos vals vs Q E (R.deeper _) F x L;refine PySem.W.kla_callFunE (body:=d.body) R.depth ef rfl S.co S.gen rfl ⟨c,oc,T,ct,rfl,ec,ed,ev⟩ ?_;rw[C pm ctv clos c us X];refine wpAny_pure (wpAny_newFunctionEnv S.nocell (λy hy=>S.par y.1 (of_mem_zip hy).1) (λh1 hns hsb=>?_) S.kind);have hk:∀ b o,s.heap.get? b=some o->h1.get? b=some o:=λb o e=>hsb.extBut b o (Nat.ne_of_lt (Heap.lt_size e)) (Heap.get?_push_of_some _ e)
 refine⟨ab.fresh _ hsb,?_⟩;show codeAny _ _ (.expr d.body (jK d s.heap.objs.size f c clos)) _ _;have I:=ow (f:=f) (c:=c) (tk:=s.toks+(ps.zip us).length) S R.hd j hl r F W x hns hk;refine PySem.W.kla_codeExpr (wpAny_mono (ht [] _ _ _ _ I hq) (λu s' hs=>?_) λe s' z=>False.elim z);obtain⟨v,H',J,rv,q⟩:=hs
 obtain⟨cs,hcs⟩:∃ cs,cs=clos.map (·.2):=⟨_,rfl⟩
 have h:Un (frs outer) [] (untrs H (clos.map (·.2))) H' s.heap s'.heap:=J.base
 have B:∀ b,b∈clos.map (·.2)->∃ o v,s.heap.get? b=some o/\H b=some (.ext (cq b v)):=λb a=>by
  obtain⟨v,e⟩:=x.at a;obtain⟨⟨o,_,g,_⟩,_⟩:=j.hok b _ e;exact⟨o,v,g,e⟩
 have Z:∀ b∈clos.map (·.2),H' b=none:=λb a=>by
  obtain⟨o,v,g,_⟩:=B b a;exact h.free b o g (dF a) (by simp)
 let H3:Hp:=λb=>if b∈clos.map (·.2) then H b else H' b
 have g1:∀ b,b∈clos.map (·.2)->H3 b=H b:=λb a=>if_pos a
 have Y:∀ b,b ∉ clos.map (·.2)->H3 b=H' b:=λb a=>if_neg a
 have D:Same H' H3:=λb o e=>by
  rw[Y b λz=>by rw[Z b z]at e;cases e];exact e
 have up:∀ b o,H b=some o->(∀ v,o≠.ext (cq b v))->b ∉ clos.map (·.2):=λb o e n z=>by
  obtain⟨v,i⟩:=x.at z;rw[e]at i;exact n v (Option.some.inj i)
 refine⟨v,H3,J.os,J.bare,⟨λb o e n a M=>h.keep b o e (dc n) a M,λb o e n a M=>h.slot b o e (dc n) a M,λb o e n M=>?_,h.there,λb xs e=>?_,λb o u e=>?_,λb ps' e=>?_⟩,λb o e=>?_,rv,q H3 D λp hp=>g1 p.2 (mem_map.mpr ⟨p,hp,rfl⟩)⟩
 .rw[Y b λz=>by obtain⟨_,v,_,i⟩:=B b z;rw[n]at i;cases i]
  exact h.free b o e (dc n) M
 .exact D _ _ (h.tups b xs (aI x e λv z=>nomatch z))
 .exact D _ _ (h.frzs b o u (aI x e λv z=>nomatch z))
 .obtain⟨G,z⟩:=h.tbls b ps' (aI x e λv z=>nomatch z)
  exact⟨G,D _ _ z⟩
 .by_cases a:b∈clos.map (·.2)
  .rw[g1 b a]at e
   obtain⟨o',v',g,i⟩:=B b a;rw[e]at i;cases i;obtain⟨⟨o2,u2,k1,k2,k3⟩,_⟩:=j.hok b _ e;refine lZ ⟨o2,u2,h.keep b o2 k1 (dF a) (λz=>?_) (by simp),k2,k3⟩;rw[j.frf b z]at e;cases e
  .rw[Y b a]at e
   refine(J.hok b o e).stay (λb' u' _ q=>q) (λb' q=>D _ _ q) λb' xs q=>D _ _ q
end
theorem PE.or{X:Cx}{e:Expr}{t t':TE}(h:PE X e t)(h':PE X e t'):PE X e (λσ H Q=>t σ H Q\/t' σ H Q):=λa s σ H Q I q=>q.elim (h a s σ H Q I) (h' a s σ H Q I)
def o8(d:LamD)(fv:List Str)(sp:List V->Sp):V->List V->Hp->VK->Prop:=λv vs H Q=>∃ f c clos vals,v=.ref f/\H f=some (.ext (dW f d clos c))/\H c=some (.ext (fR c d.qual))/\clos.map (·.1)=fv/\(clos.map (·.2)).Nodup/\CellsAt H clos vals/\sp vals vs H Q λ_ _ _=>False
def yJ(d:LamD)(fv:List Str)(sp:List V->Sp)(tf:TE)(t:TA):TE:=λσ H Q=>tf σ H λv H1=>(∃ f d' clos c,v=.ref f/\H1 f=some (.ext (dW f d' clos c)))/\t σ H1 λvs H2=>(∀ f d' clos c,v=.ref f->H1 f=some (.ext (dW f d' clos c))->H2 f=some (.ext (dW f d' clos c)))/\o8 d fv sp v vs H2 Q
section
variable {X:Cx}{d:LamD}{fv ps:List Str}{k:Nat}{sp:List V->Sp}{x:Str}{p pos:Pos}{tf:TE}{t:TA}{e:Expr}{es:List Expr}
theorem pT{a:List (Addr×Obj)}{j:St}{H:Hp}{s:Shared}{Q:VK}{us:List Value}{vs:List V}{v:V}{u:Value}(L:LamOk X.prog X.w X.K X.mg X.base k d fv ps sp)(q:Room k X.A)(I:Inv X a j H s)(y:RelV v u)(r:Vals vs us)(h:o8 d fv sp v vs H Q) :
  wpAny (model X.prog X.w) X.A (call u us) (EP X a j Q) X.xe s:=by
 obtain⟨f,c,b,g,rfl,w,n,o,l,p,x⟩:=h;obtain rfl:u=Value.ref f:=y;refine wpAny_call (codeAny_mono (L X.A X.stack s H f c b us vs g Q _ q I.env0 w n o l p r x) λr z i=>?_);cases r with
 | error e=>exact False.elim i
 | ok fl =>
  cases fl with
  | ret u=>exact I.after i
  | next=>exact False.elim i
  | brk=>exact False.elim i
  | cont=>exact False.elim i
theorem lO{H:Hp}{s:Shared}{P:Program}{w:World}{f c:Addr}{d:LamD}{a:List (Str×Addr)}(g:HOk P w H s.heap)(h:H f=some (.ext (dW f d a c))):FnAt f s.heap:=by
 obtain⟨⟨j,i,b⟩,_,_⟩:=g f _ h;exact⟨_,_,_,_,b⟩
theorem gY(B:PE X (.Name x p) tf)(L:LamOk X.prog X.w X.K X.mg X.base k d fv ps sp)(y:Room k X.A)(C:PA X (e::es) t)
  (E:starEach (e::es) X.env=(false,eval e X.env)::starEach es X.env:=by rfl) (b:(backTo pos (starEach es X.env)).any (·.1)=false:=by rfl):PE X (.Call (.Name x p) (e::es) [] pos) (yJ d fv sp tf t):=by
 intro a s j H Q I h;refine wpAny_Call_Name_kw (thn (B a s j H _ I h) λu D ⟨v,z,o,A,⟨f,F,g,c,w,i⟩,q⟩=>?_);subst w;obtain rfl:u=Value.ref f:=A;refine PySem.W.callWith_F (lO o.hok i) (thn (C pos a D j z _ o q) λG J ⟨M,K,n,r,l⟩=>⟨lO n.hok (l.1 _ _ _ _ rfl i),?_⟩) E b;exact pT L y n (v:=.ref f) rfl r l.2
theorem eP(n:PE X (.Name x p) tf)(L:LamOk X.prog X.w X.K X.mg X.base k d fv ps sp)(l:Room k X.A):PE X (.Call (.Name x p) [] [] pos) (λσ H Q=>tf σ H λv H1=>o8 d fv sp v [] H1 Q):=by
 intro a s σ H Q I h;refine wpAny_Call_Name_kw (thn (n a s σ H _ I h) λu w ⟨v,H1,b,r,q⟩=>?_);obtain⟨f,c,g,i,j,o,_⟩:=id q;subst j;obtain rfl:u=Value.ref f:=r;exact PySem.W.callWith_F0 (lO b.hok o) (pT (us:=[]) L l b (v:=.ref f) rfl .nil q)
end
abbrev TR:=VK->(V->St->Hp->Prop)->St->Hp->Prop
def PR(X:Cx)(sts:List Stmt)(t:TR):Prop :=
 ∀(pins:List (Addr×Obj)) (s:Shared) (σ:St) (H:Hp) (R:VK) (Z:V->St->Hp->Prop),Inv X pins σ H s->t R Z σ H ->
  wpAny (model X.prog X.w) X.A (execs sts X.env) (λf s'=>∃ u,f=.ret u/\((∃ v σ' H',Inv X pins σ' H' s'/\RelV v u/\(R v H'\/Z v σ' H'))\/∃ v H',s'.os=X.s₀.os/\AllBare s'.gens/\Un X.fs X.ex X.H₀ H' X.s₀.heap s'.heap/\HOk X.prog X.w H' s'.heap/\RelV v u/\R v H')) X.xe s
section
variable {X:Cx}{e:Expr}{te:TE}{pos:Pos}{st:Stmt}{rest:List Stmt}{t:TS}{u:TR}
theorem lm(f:PE X e te):PR X [.Return (some e) pos] (λ_ Z σ H=>te σ H λv H'=>Z v σ H'):=by
 intro a s σ H R Z I h;refine wpAny_execs_cons (wpAny_Return_some (thn (f a s σ H _ I h) λv i ⟨x,g,b,c,d⟩=>?_));exact⟨v,rfl,.inl ⟨x,σ,g,b,c,.inr d⟩⟩
theorem wq(i:PS X st t)(g:PR X rest u):PR X (st::rest) (λR Z σ H=>t { nx:=u R Z,rt:=R } σ H):=by
 intro a s σ H R Z I h;refine wpAny_execs_cons (thn (i a s σ H { nx:=u R Z,rt:=R } I h) λf k q=>?_);cases f with
 | next =>
  obtain⟨b,c,d,q⟩:=q;exact g a k b c R Z d q
 | ret v =>
  obtain⟨j,b,c,d,r,q⟩:=q;exact⟨v,rfl,.inl ⟨j,b,c,d,r,.inl q⟩⟩
 | brk=>obtain⟨_,_,_,q⟩:=q;exact False.elim q
 | cont=>obtain⟨_,_,_,q⟩:=q;exact False.elim q
end
def kF(cells:List (Str×Addr))(N:List Str)(σ:St)(H3:Hp):Prop:=∀(i:Nat) (y:Str) (v:V) (c:Addr),N[i]? = some y->σ[i]? = some (some v)->cells.lookup y=some c->H3 c=some (.ext (cq c v))
theorem hJ{y:Str}{c:Addr}:∀(names:List (Str×NameKind)) (n:Nat) (acc:List (Str×Addr)),(y,c)∈cellsFrom n names acc->(y,c)∈acc\/(y,NameKind.cell)∈names
 | [],n,acc,h=>.inl h
 | (x,k)::r,n,acc,h=>by
  unfold cellsFrom at h
  split at h
  .rename_i hk
   rcases hJ r (n+1) ((x,n)::acc) h with z | z
   .rcases mem_cons.mp z with e | z
    .cases e
     rw[eq_of_beq hk];exact .inr (mem_cons_self ..)
    .exact .inl z
   .exact .inr (mem_cons_of_mem _ z)
  .rcases hJ r n acc h with z | z
   .exact .inl z
   .exact .inr (mem_cons_of_mem _ z)
section
variable {P:Program}{w:World}{K:Frag}{mg:Str->Option Value}{base:Heap}
theorem xW{CX:CXT}{N:List Str}{B:Str}{scope:Scope}{f:Addr}{cd:Value}{A:Around}{a:List Env}{s F:Shared}{H H':Hp}{E:XK}{Y:St}(hN:N.Nodup)(Z:∀ p∈scope.names,p.2=.cell->scope.names.lookup p.1=some .cell)
  {L:List (Addr×Obj)}(J:Inv (eN CX P w K mg base N B scope f cd A a s H E) L Y H' F) :
  ∃ H3,Same H' H3/\kF (cellsFrom (s.heap.objs.size+1) scope.names []) N Y H3/\(∀ b,H' b=none->H3 b≠none->∃ y,(cellsFrom (s.heap.objs.size+1) scope.names []).lookup y=some b)/\Un (frs a) [] H H3 s.heap F.heap/\HOk P w H3 F.heap:=by
 have x:∀ y c,(cellsFrom (s.heap.objs.size+1) scope.names []).lookup y=some c->scope.names.lookup y=some .cell:=λy c e=>by
  rcases hJ _ _ _ (b8 e) with z | z
  .cases z
  .exact Z _ z rfl
 obtain⟨cells,hcells⟩:∃ l,l=cellsFrom (s.heap.objs.size+1) scope.names []:=⟨_,rfl⟩
 rw[<- hcells]at x ⊢;have d:(eN CX P w K mg base N B scope f cd A a s H E).env.cells=cells:=hcells.symm
 let G:Addr->V->Prop:=λb v=>∃(i:Nat) (y:Str),N[i]? = some y/\Y[i]? = some (some v)/\cells.lookup y=some b
 have G1:∀ b v X,G b v->G b X->v=X:=by
  rintro b v X ⟨i,y,M,Q,g⟩ ⟨j,z,b1,b2,b3⟩;have:y=z:=J.ok.inj y z b (by rw[d];exact g) (by rw[d];exact b3);subst this;have:i=j:=jA hN M b1;subst this;rw[Q]at b2;cases b2;rfl
 have W:∀ b v,G b v->H' b=none/\s.heap.objs.size<=b/\cq b v F.heap:=by
  rintro b v ⟨i,y,M,Q,g⟩;refine⟨J.freeC y b (by rw[d];exact g),J.ok.cab y b rfl (by rw[d];exact g),?_⟩;obtain⟨m,hn,hl⟩:=J.loc;obtain⟨u,r,l⟩:=hl i y v M Q (.inr (.inl (x y b g)))
  rcases l with⟨k,_⟩ | ⟨k,c,e,o,ho,hd⟩
  .exfalso
   have k:scope.names.lookup y = some .local:=k;rw[x y b g]at k;cases k
  .have e:cells.lookup y=some c:=by rw[<- d];exact e
   rw[g]at e;cases e;exact⟨o,u,ho,hd,r⟩
 classical
 let H3:Hp:=λb=>if h:∃ v,G b v then some (.ext (cq b (Classical.choose h))) else H' b
 have g1:∀ b v,G b v->H3 b=some (.ext (cq b v)):=λb v h=>by
  have T:∃ v,G b v:=⟨v,h⟩
  show(if h:∃ v,G b v then some (.ext (cq b (Classical.choose h))) else H' b)=_;rw[dif_pos T,G1 b _ v (Classical.choose_spec T) h]
 have R:∀ b,(¬∃ v,G b v)->H3 b=H' b:=λb h=>dif_neg h
 have D:Same H' H3:=λb o e=>by
  rw[R b λ⟨v,z⟩=>by rw[(W b v z).1]at e;cases e];exact e
 have C:Un (frs a) [] H H' s.heap F.heap:=J.base;refine⟨H3,D,λi y v c M Q g=>g1 c v ⟨i,y,M,Q,g⟩,(λb n1 n2=>?_),⟨C.keep,C.slot,λb o e n T=>?_,C.there,λb xs e=>D _ _ (C.tups b xs e),λb o u e=>D _ _ (C.frzs b o u e),λb ps e=>?_⟩,λb o e=>?_⟩
 .by_cases h:∃ v,G b v
  .obtain⟨v,i,y,_,_,g⟩:=h
   exact⟨y,g⟩
  .rw[R b h]at n2
   exact absurd n1 n2
 .rw[R b λ⟨v,z⟩=>absurd (Nat.lt_of_lt_of_le (Heap.lt_size e) (W b v z).2.1) (Nat.lt_irrefl _)]
  exact C.free b o e n T
 .obtain⟨I,z⟩:=C.tbls b ps e
  exact⟨I,D _ _ z⟩
 .by_cases h:∃ v,G b v
  .obtain⟨v,h⟩:=h
   rw[g1 b v h]at e;cases e;exact lZ (W b v h).2.2
  .rw[R b h]at e
   exact(J.hok b o e).stay (λb' u' _ q=>q) (λb' q=>D _ _ q) λb' xs q=>D _ _ q
theorem pN{N:List Str}{c:Str}{scope:Scope}{f:Addr}{i:Value}{A:Around}{a:List Env}{s:Shared}{H:Hp}{E:XK}{k:Nat}{g:Addr}{fd:FuncData}{ps:List Str}{sp:Sp}{W:List Value}{C:List V}{x:Str}{p G rp:Pos}{e:Expr}{es:List Expr}{t:TA}
  (hN:N.Nodup) (an:∀ p∈scope.names,p.2=.cell->scope.names.lookup p.1=some .cell)
  (F:FnOk P w K mg base CX0 k g fd ps sp) (hr:Room k (eN CX0 P w K mg base N c scope f i A a s H E).nox.A) (hg:Gl (eN CX0 P w K mg base N c scope f i A a s H E).nox x) (hm:mg x=some (.ref g)) (hk:keepIn K (.ref g)=true) (l:Binds K fd ps W) (hd:Vals C W)
  (ha:PA (eN CX0 P w K mg base N c scope f i A a s H E).nox (e::es) t) (az:(x == ("__debug__" : Str))=false:=by decide)
  (he:starEach (e::es) (eN CX0 P w K mg base N c scope f i A a s H E).nox.env=(false,eval e (eN CX0 P w K mg base N c scope f i A a s H E).nox.env)::starEach es (eN CX0 P w K mg base N c scope f i A a s H E).nox.env:=by rfl)
  (as:(backTo G (starEach es (eN CX0 P w K mg base N c scope f i A a s H E).nox.env)).any (·.1)=false:=by rfl) :
  PR (eN CX0 P w K mg base N c scope f i A a s H E).nox [.Return (some (.Call (.Name x p) (e::es) [] G)) rp]
   (λR _ σ H'=>t σ H' λvs H1=>∀ H3,Same H1 H3->kF (cellsFrom (s.heap.objs.size+1) scope.names []) N σ H3->sp (vs++C) H3 R λ_ _ _=>False):=by
 intro D s1 σ H1 R Z I h;refine wpAny_execs_cons (wpAny_Return_some ?_);refine wpAny_Call_Name_kw (fV I hg hm ?_ az);refine callWith_K (h₀:=base) I.ok.mod.kin hk (thn (ha G D s1 σ H1 _ I h) λQ s2 ⟨vs,H2,I2,r,q⟩=>⟨I2.kIn,?_⟩) he as;have J:Inv (eN CX0 P w K mg base N c scope f i A a s H E) D σ H2 s2:=I2.unwish;obtain⟨H3,sm,hc,Y,B,ac⟩:=xW hN an J;have r2:Vals (vs++C) (Q++W):=r.append hd;have q':=q H3 sm hc;have hl:(Q++W).length=ps.length:=by rw[<- r2.length];exact F.len _ _ _ _ q'
 have hL:∀ b∈frs (envOfC c scope s.heap.objs.size f i::a),b=s.heap.objs.size\/b∈frs a:=λb l=>by
  have:b∈s.heap.objs.size::frs a:=l;exact mem_cons.mp this
 have e0:Env0 P w K mg base (eN CX0 P w K mg base N c scope f i A a s H E).A (envOfC c scope s.heap.objs.size f i::a) s2 H3:=by
  have z:=J.env0;refine⟨z.frames,z.mod,λb o e=>⟨(z.bs b o e).1,B.free b o (J.ok.bs b o e).1 (J.ok.bs b o e).2 (by simp)⟩,z.bsz,z.funs,λb l=>?_,ac,z.bare⟩;cases q3:H3 b with
  | none=>rfl
  | some o =>
   obtain⟨y,hy⟩:=Y b (z.frf b l) (by rw[q3];simp)
   rcases hL b l with rfl | hb'
   .exact absurd rfl (J.cne y _ hy)
   .obtain⟨_,o',a1,_⟩:=J.ok.funs.mem hb'
    have:=J.ok.cab y b rfl hy;exact absurd (Nat.lt_of_lt_of_le (Heap.lt_size a1) this) (Nat.lt_irrefl _)
 refine wpAny_call (codeAny_mono (F.run _ _ s2 H3 ⟨Q,[]⟩ (Q++W) (vs++C) R _ hr e0 (l s2 Q J.kIn hl) r2 q') λrr s' M=>?_);cases rr with
 | error e=>exact False.elim M
 | ok fl =>
  cases fl with
  | ret u =>
   obtain⟨v,H4,os,X,d,T,rv,qq⟩:=M
   have ab:∀ b o,s.heap.get? b=some o->b ∉ frs a->b ∉ frs (envOfC c scope s.heap.objs.size f i::a):=λb o e n z=>by
    rcases hL b z with rfl | z
    .exact absurd (Heap.lt_size e) (Nat.lt_irrefl _)
    .exact n z
   have a0:∀ b,b∈frs a->b∈frs (envOfC c scope s.heap.objs.size f i::a):=λb z=>by
    show b∈s.heap.objs.size::frs a;exact mem_cons_of_mem _ z
   refine⟨u,rfl,.inr ⟨v,H4,os.trans J.os,X,⟨λb o e n l j=>d.keep b o (B.keep b o e n l j) (B.free b o e n j) (ab b o e l) j,λb o e n l j=>?_,λb o e n j=>?_,λb o e j=>?_,λb xs e=>d.tups b xs (B.tups b xs e),λb o u e=>d.frzs b o u (B.frzs b o u e),λb qs e=>?_⟩,T,rv,qq⟩⟩
   .obtain⟨sl,L⟩:=B.slot b o e n l j
    obtain⟨al,e2⟩:=d.slot b _ L (B.free b o e n j) (a0 b l) j;exact⟨al,e2⟩
   .obtain⟨o',L⟩:=B.there b o e j
    exact d.free b o' L (B.free b o e n j) j
   .obtain⟨o',L⟩:=B.there b o e j
    exact d.there b o' L j
   .obtain⟨m1,L⟩:=B.tbls b qs e
    obtain⟨m2,e2⟩:=d.tbls b _ L;exact⟨m1++m2,by rw[e2,Array.append_assoc]⟩
  | next=>exact False.elim M
  | brk=>exact False.elim M
  | cont=>exact False.elim M
theorem Fun.okL{x a:Str}{st:Stmt}{f c:Addr}{z:FuncData}{N ps:List Str}{k:Nat}{sp:Sp}(F:Fun K x a st f z)(hc:z.code=.ref c)(S:FnScope N ps (ae st))(G:∀ p∈(ae st).names,p.2=.cell->(ae st).names.lookup p.1=some .cell)
  (j:∀ vs H Q E,sp vs H Q E->vs.length=ps.length)
  (d:∀(A:Around) (outer:List Env) (s:Shared) (H:Hp) (vs:List V) (Q:VK) (E:XK),Room k (A.deeper (envOfC a (ae st) s.heap.objs.size f (.ref c)))->sp vs H Q E ->
   ∃ t,PR (eN CX0 P w K mg base N a (ae st) f (.ref c) A outer s H E).nox (ah st) t/\t Q (λv σ H'=>∀ H3,Same H' H3->kF (cellsFrom (s.heap.objs.size+1) (ae st).names []) N σ H3->Q v H3) (start N vs) H):FnOk P w K mg base CX0 (k+1) f z ps sp:=by
 obtain⟨oc,od,kV,ab,pm,an,L,ct,Z,rfl,lk,C⟩:=F.ex;obtain rfl:L=.ref c:=hc;refine⟨j,λA outer s H T us vs Q E B i hb r h=>?_⟩;have hl:=j _ _ _ _ h;have R:K.In s.heap:=i.mod.kin.keeps λb o e=>(i.bs b o e).1
 have D:s.heap.NoLimit:=i.mod.nolimit.keeps λb o e=>(i.bs b o e).1
 have g:∀ y ∈ ps.zip us,(ae st).names.lookup y.1 = some .local\/((ae st).names.lookup y.1 = some .cell/\((cellsFrom (s.heap.objs.size + 1) (ae st).names []).lookup y.1).isSome = true):=λ⟨n,v⟩ hy=>by
  rcases S.par n (of_mem_zip hy).1 with q | q
  .exact .inl q
  .exact .inr ⟨q,cellsFrom_some _ _ _ (.inl q)⟩
 refine codeAny_call_function B.depth (R _ _ lk) rfl S.co S.gen rfl (codeRec_of R C) (hb _ _ _ _ ?_);refine wpAny_newFunctionEnv_cells S.kind g λac he W x=>?_
 subst he;refine⟨D.keeps x.toInCall.keep,codeAny_func ?_⟩;obtain⟨t,ht,hq⟩:=d A outer s H vs Q E (B.deeper _) h;have I:Inv (eN CX0 P w K mg base N a (ae st) f (.ref c) A outer s H E) [] (start N vs) H W:=kE S B.hd i hl r x;refine wpAny_mono (ht [] W (start N vs) H Q _ (I.wish _) hq) (λfl X M=>?_) λe X M=>False.elim M
 obtain⟨u,rfl,⟨v,Y,H',J,l,q⟩ | ⟨v,H',g1,g2,g3,g4,l,q⟩⟩:=M
 .have J:=J.unwish
  rcases q with q | q
  .exact⟨v,H',J.os,J.bare,J.base,J.hok,l,q⟩
  .obtain⟨H3,h1,h2,_,h3,h4⟩:=xW S.nd G J
   exact⟨v,H3,J.os,J.bare,h3,h4,l,q H3 h1 h2⟩
 .exact⟨v,H',g1,g2,g3,g4,l,q⟩
end
theorem qU{P:Program}{w:World}{K:Frag}{mg mb:Str->Option Value}{CX:CXT}{k:Nat}{fa a:Addr}{fd:FuncData}{x:Str}{sp:Sp}{f:Shared}{vs:List Value}{Y:List Int}{p:List Addr}
  (KX:K.In f.heap) (N:f.heap.Ns mainGlobals mg) (g:f.heap.Ns builtinsNs mb) (ac:∀ x:Str,x ≠ "__name__" -> mb x=bootBuiltins x) (M:f.heap.NoLimit) (hg:f.gens = #[])
  (G:f.heap.get? a=some { cls:=.type "list",data:=.seq vs.toArray }) (hi:IntsAre vs Y) (hl:Y.length<=sizeLine) (hr:Room k callerA) (a2:Bm mg f.heap)
  (l:∀ P∈p,f.heap.get? P=some (tabObj #[])) (a0:∀ P∈p,∃ c,codeHdIn K c P=true) (ab:∀ P∈p,K.lookup P=none)
  (F:∀ base:Heap,K.In base->base.Ns mainGlobals mg->Bm mg base->FnOk P w K mg base CX k fa fd [x] sp) (E:∀(s:Shared) (u:Value),BindsTo s fd ⟨[u],[]⟩ [(x,u)])
  (az:∀ H:Hp,(∀ P∈p,H P=some (.tbl #[]))->SqL K H a (Y.map V.int)->sp [.ref a] H (λv _=>v=.bl true) λ_ _ _=>False)
  (a1:∀ H e s',CX [] H f (λ_ _ _=>False) e s'->False) :
  codeAny (model P w) callerA (.call (.ref fa) ⟨[.ref a],[]⟩) (λr s'=>r=.ok (.ret (.bool true))/\OldK f.heap s'.heap/\s'.os=f.os/\AllBare s'.gens) f:=by
 have rv:=kz hi;have J:=hi.length;have L:a ∉ p:=λz=>by have:=l a z;rw[G]at this;cases this
 have D:∀ H:Hp,(∀ P∈p,H P=some (.tbl #[]))->SqL K H a (Y.map V.int)->HOk P w H f.heap->(∀ b u,H b=some u->(b=a/\∃ o xs,u=.frz o (.lst xs))\/(b∈p/\u=.tbl #[]))->(H a≠none->K.lookup a=none) ->
   codeAny (model P w) callerA (.call (.ref fa) ⟨[.ref a],[]⟩) (λr s'=>r=.ok (.ret (.bool true))/\OldK f.heap s'.heap/\s'.os=f.os/\AllBare s'.gens) f:=by
  intro H hT hS I hA hK;have j:∀{b:Addr}{o:Obj},f.heap.get? b=some o->H b=none->(jN f.heap H).get? b=some o:=λe n=>uG e n
  have an:∀{b:Addr}{o:Obj},f.heap.get? b=some o->o.cls≠.none->(∀ R n,o.data≠.seq R n)->H b=none:=λ{b o} e d1 d2=>by
   cases q:H b with
   | none=>rfl
   | some u =>
    rcases hA b u q with⟨rfl,_⟩ | ⟨g,_⟩
    .rw[G]at e;cases e;exact(d2 _ _ rfl).elim
    .rw[l b g]at e;cases e;exact(d1 rfl).elim
  have al:∀{b:Addr}{o:Obj}{W:Array DictEntry}{X:Nat},f.heap.get? b=some o->o.data=.dict W X->H b=none:=λ{b o W X} e d=>by
   cases q:H b with
   | none=>rfl
   | some u =>
    rcases hA b u q with⟨rfl,_⟩ | ⟨g,_⟩
    .rw[G]at e;cases e
     have d':Data.seq vs.toArray _=Data.dict W X:=d;cases d'
    .rw[l b g]at e;cases e;cases d
  have y:∀{b:Addr}{m:Str->Option Value},f.heap.Ns b m->(jN f.heap H).Ns b m:=λ{b m} ⟨o,W,X,e,d,r⟩=>⟨o,W,X,j e (al e d),d,r⟩
  have Z:K.In (jN f.heap H):=λb o e=>j (KX b o e) (by
   cases q:H b with
   | none=>rfl
   | some u =>
    rcases hA b u q with⟨rfl,_⟩ | ⟨g,_⟩
    .rw[hK (by rw[q];simp)]at e;cases e
    .rw[ab b g]at e;cases e)
  have hM:Mod K mg (jN f.heap H):=⟨Z,y N,⟨mb,y g,ac⟩,let ⟨mc,h1,h2⟩:=M;⟨mc,y h1,h2⟩⟩
  have hB:Bm mg (jN f.heap H):=by
   obtain⟨bm,ob,b1,b2,b3,b4,b5⟩:=a2;exact⟨bm,ob,b1,j b2 (an b2 (by rw[b3];simp) (λR n=>by rw[b5];intro z;cases z)),b3,b4,b5⟩
  have e0:Env0 P w K mg (jN f.heap H) callerA [] f H:=⟨rfl,hM,λb o e=>xu e,Nat.le_of_eq (rj _ _),trivial,λb g=>absurd (show b∈([]:List Addr) from g) (by simp),I,.of_eq hg⟩
  refine codeAny_mono ((F _ Z (y N) hB).run callerA [] f H ⟨[.ref a],[]⟩ [.ref a] [.ref a] _ _ hr e0 (E f (.ref a)) (.cons rfl .nil) (az H hT hS)) λr s' h=>?_
  cases r with
  | error e=>exact(a1 H e s' h).elim
  | ok fl =>
   cases fl with
   | next=>exact False.elim h
   | brk=>exact False.elim h
   | cont=>exact False.elim h
   | ret u =>
    obtain⟨v,H',os,Q,un,B,r',q⟩:=h;have q':v=.bl true:=q;subst q';obtain rfl:u=Value.bool true:=r';refine⟨rfl,⟨λb o e=>?_,λb o e=>un.there b o e (by simp)⟩,os,Q⟩;cases q:H b with
    | none=>exact .inl (un.keep b o e q (by intro z;exact absurd (show b∈([]:List Addr) from z) (by simp)) (by simp))
    | some u =>
     rcases hA b u q with⟨_,ob,xs,rfl⟩ | ⟨g,rfl⟩
     .have z2:=un.frzs b ob _ q
      obtain⟨e1,_⟩:=I b _ q;obtain⟨e2,_⟩:=B b _ z2;rw[e]at e1;cases e1;exact .inl e2
     .obtain⟨c,hc⟩:=a0 b g
      have C:=codeHd_of_K KX hc;obtain⟨A,z⟩:=un.tbls b _ q;have z2:s'.heap.get? b=some (tabObj (#[]++A)):=B b _ z;rw[l b g]at e;cases e;exact .inr (.inl ⟨(C.tab (l b g)).isCodeTable,rfl,#[],A,rfl,z2⟩)
 let T:Hp:=λb=>if b∈p then some (.tbl #[]) else none
 cases hk:K.lookup a with
 | some o =>
  have e:=KX a o hk;rw[G]at e;cases e;refine D T (λP hP=>if_pos hP) (.inr ⟨_,vs.toArray,_,hk,rfl,rfl,rfl,by rw[size_toArray,J];exact hl,by simpa using rv⟩) (λb u z=>?_) (λb u z=>?_) λz=>absurd (if_neg L) z
  .by_cases g:b∈p
   .have i:=(if_pos g).symm.trans z
    cases i;exact l b g
   .have i:=(if_neg g).symm.trans z
    cases i
  .by_cases g:b∈p
   .have i:=(if_pos g).symm.trans z
    cases i;exact .inr ⟨g,rfl⟩
   .have i:=(if_neg g).symm.trans z
    cases i
 | none =>
  refine D (λb=>if b=a then some (.frz { cls:=.type "list",data:=.seq vs.toArray } (.lst (Y.map V.int))) else T b) (λP hP=>?_) (.inl (.inr ⟨{ cls:=.type "list",data:=.seq vs.toArray },if_pos rfl⟩)) (λb u z=>?_) (λb u z=>?_) λ_=>hk
  .have as:P≠a:=λz=>L (by rw[<- z];exact hP)
   exact(if_neg as).trans (if_pos hP)
  .by_cases g:b=a
   .have i:=(if_pos g).symm.trans z
    cases i;subst g;exact⟨G,by rw[length_map];exact hl,vs,_,rv,G⟩
   .have i:=(if_neg g).symm.trans z
    by_cases g:b∈p
    .have i:=(if_pos g).symm.trans i
     cases i;exact l b g
    .have i:=(if_neg g).symm.trans i
     cases i
  .by_cases g:b=a
   .have i:=(if_pos g).symm.trans z
    cases i;exact .inl ⟨g,_,_,rfl⟩
   .have i:=(if_neg g).symm.trans z
    by_cases g:b∈p
    .have i:=(if_pos g).symm.trans i
     cases i;exact .inr ⟨g,rfl⟩
    .have i:=(if_neg g).symm.trans i
     cases i
theorem walk_ofT{l:PySem.W.OpenLaw}{n k:Nat}{q:Program}{p:List Str}{Q:(Str->Option Value)->Heap->Prop}{J:World->Heap->Prop}{d:DefRec}{K:Params->Frag}{CX:CXT}{sp:Frag->List Addr->Sp}{x:Str}{b:List Addr}
  (hn:l.most=some n) (A:n<=sizeLine) (B:d.params.defaults=[]) (N:Room k callerA)
  (hY:∀(w:World) (h:Heap),J w h->(K w.params).In h/\∀ P∈b,h.get? P=some (tabObj #[]))
  (F:∀(ts':List Addr),ts'=b->∀(w:World) (mg:Str->Option Value) (fa:Addr) (h:Heap),(K w.params).In h->h.Ns mainGlobals mg->mg d.name=some (.ref fa) ->
   ∃ fd:FuncData,(∀(s:Shared) (u:Value),BindsTo s fd ⟨[u],[]⟩ [(x,u)])/\(∀ P∈b,∃ c,codeHdIn (K w.params) c P=true)/\(∀ P∈b,(K w.params).lookup P=none) /\
    ∀ base:Heap,(K w.params).In base->base.Ns mainGlobals mg->Bm mg base->FnOk l.prog w (K w.params) mg base CX k fa fd [x] (sp (K w.params) b))
  (C:∀(K:Frag) (H:Hp) (a:Addr) (ns:List Int),ns.length<=n->(∀ P∈b,H P=some (.tbl #[]))->SqL K H a (ns.map V.int)->sp K b [.ref a] H (λv _=>v=.bl true) λ_ _ _=>False)
  (E:∀(H:Hp) (s:Shared) (e:Value) (s':Shared),CX [] H s (λ_ _ _=>False) e s'->False) :
  PySem.W.WalkO q p Q J l.row.toRowW d [] (λf vs=>PySem.call f vs):=by
 refine Att.attach_call hn B λw M g mg mb fa o pm cd T a vs ns G Y ho hd ab y r j i W=>?_
 obtain⟨L,hT⟩:=hY w _ Y;obtain⟨fd,Z,D,z,hF⟩:=F b rfl w mg fa _ L G.T.g y;have I:Bm mg g.heap:=let ⟨bm,ob,b1,_,b3,b4,b5,b6⟩:=G.T.bmain;⟨bm,ob,b1,b3,b4,b5,b6⟩;exact qU L G.T.g G.T.b G.T.builtins G.T.nolimit W r j (Nat.le_trans i A) N I hT D z hF Z (λH R X=>C (K w.params) H a ns i R X) λH e s'=>E H g e s'
end L2
namespace FrM
def hI(t b:Int):Int×Int:=(t/(Int.gcd t b:Int),b/(Int.gcd t b:Int))
end FrM
namespace L2
open PySem PySem.Spec PyProof.Rows
def kL:List V->List Value->Bool
 | [],[]=>true
 | .int i::xs,.int j _::us=>decide (i=j) && kL xs us
 | _,_=>false
theorem iI:∀{xs:List V}{us:List Value},kL xs us=true->Vals xs us
 | [],[],_=>.nil
 | .int i::xs,.int j t::us,h=>by
  have h:(decide (i=j) && kL xs us)=true:=h;rw[Bool.and_eq_true]at h;have e:=of_decide_eq_true h.1;exact .cons ⟨t,by rw[e]⟩ (iI h.2)
def tX(K:Frag)(a:Addr)(xs:List V):Bool :=
 match K.lookup a with
 | some o =>
  (match o.cls with
  | .type t=>t == "tuple"
  | _=>false) &&
  (match o.data with
  | .seq its _=>decide (its.size<=1000) && kL xs its.toList
  | _=>false)
 | none=>false
theorem zI{K:Frag}{H:Hp}{a:Addr}{xs:List V}(h:tX K a xs=true):SqT K H a xs:=by
 unfold tX at h
 split at h
 .rename_i o e
  rw[Bool.and_eq_true]at h;obtain⟨c,b⟩:=h
  split at c
  .rename_i t ec
   split at b
   .rename_i its n ed
    rw[Bool.and_eq_true]at b;refine .inr ⟨o,its,n,e,by rw[ec,beq_iff_eq.mp c],ed,?_,iI b.2⟩;have:=of_decide_eq_true b.1;have:sizeLine=16777216:=sizeLine_eq;lia
   .cases b
  .cases c
 .cases h
section
variable {X:Cx}
theorem lu:bootBuiltins "sum" = some (.builtin "sum"):=by decide +kernel
theorem gS:∀{ns:List Int}{us:List Value},Vals (ns.map V.int) us->IntsAre us ns
 | [],_,.nil=>.nil
 | n::ns,_,.cons r t=>by
  obtain⟨a,rfl⟩:=r;exact .cons _ _ (gS t)
inductive rSumI(K:Frag)(xs:List V)(H:Hp)(Q:VK):Prop
 | mk(p:Addr)(ns:List Int)(h0:xs=[.ref p])(h1:SqL K H p (ns.map V.int))(h2:Q (.int ns.sum) H):rSumI K xs H Q
theorem fZ(l:X.calm=true):CallR X (.builtin "sum") (rSumI X.K):=by
 intro f s y H xs x Q I r h;obtain⟨p,b,rfl,j,q⟩:=h;obtain⟨u,rfl,g⟩:=fK r;cases g;obtain⟨a,k,o,w⟩:=I.list j;have d:=gS k;obtain⟨xs,c⟩:=d.allInts.items;have i:(numsOf a)=b:=d.numsOf;refine sum_intListG (I.ok.hd l) (xs:=xs) (by rw[<- c];exact o.isList) λA z B v=>?_
 have n:preSum (numAt xs) xs.size=b.sum:=by
  rw[preSum_eq,take_of_length_le (by simp),<- i,<- nums_intItems,<- c]
 rw[n];exact⟨.int b.sum,H,I.kept v,⟨_,rfl⟩,q⟩
end
def dE:Expr:=.Name "" ⟨0,0,0,0⟩
def sh(st:Stmt)(i:Nat):Stmt:=(ah st).getD i (.Pass ⟨0,0,0,0⟩)
def rg:Stmt->Expr
 | .Return (some e) _=>e
 | _=>dE
def zn:Expr->Nat->Expr
 | .Call _ es _ _,i=>es.getD i dE
 | _,_=>dE
def kB(q:Str):Expr->LamD
 | .Lambda p b s _=>⟨q,p,b,s⟩
 | _=>⟨q,default,dE,default⟩
def sI:Expr->Pos
 | .Lambda _ _ _ p=>p
 | _=>⟨0,0,0,0⟩
theorem bU:bootBuiltins "sorted" = some (.builtin "sorted"):=by decide +kernel
theorem eY:∀{us:List Value}{ns:List Int},IntsAre us ns->Vals (ns.map V.int) us
 | _,_,.nil=>.nil
 | _,_,.cons n t h=>.cons ⟨_,rfl⟩ (eY h)
theorem cW{X:Cx}:CallR X (.builtin "sorted") (λxs H Q=>∃(p:Addr) (ns:List Int),xs=[.ref p]/\SqL X.K H p (ns.map V.int)/\ns.length<64/\∀ q (ns':List Int),ns'.Perm ns->ns'.Pairwise (·<=·)->H q=none->Q (.ref q) (upd H q (.lst (ns'.map V.int)))):=by
 intro i s F H xs D Q I r h;obtain⟨p,ns,rfl,w,E,q⟩:=h;obtain⟨u,rfl,l⟩:=fK r;cases l;obtain⟨d,g,A,C⟩:=I.list w;have n:=gS g;have j:d.length=ns.length:=by have:=g.length;rw[length_map]at this;exact this.symm
 refine sorted_ints A.isList n (by lia) λc ns' y k v=>?_
 obtain⟨e,B⟩:=sortedAll_at s.heap d c;have x:H (s.heap.objs.size+1)=none:=I.hok.fresh (Nat.le_succ _);have f:sizeLine=16777216:=sizeLine_eq;refine⟨.ref (s.heap.objs.size+1),_,I.laid (a:=s.heap.objs.size+1) (o:=.lst (ns'.map V.int)) (t':=s.toks) (λb u z=>sortedAll_old z) (Nat.le_succ _) ⟨?_,c.toList,e,eY y,?_⟩,rfl,q _ ns' k v x⟩
 .rw[length_map,k.length_eq];lia
 .rw[B,Array.toArray_toList]
section
variable {X:Cx}{e:Expr}{es:List Expr}{pos:Pos}
theorem yL{a b:Expr}{c d:TE}{r:R2}(g:IxR X r)(h:PEq X a c)(f:PE X b d)(i:p6 b):PEq X (.Subscript a b pos) (tOp r c d):=uF (cD g (p8 h) f i)
theorem Au:OpR X (binaryOp .BitAnd) (rI2 λi j=>.int (Builtin.bitAnd i j)):=op_and.i2
end
end L2
namespace L2
open PySem PySem.Calls PySem.Spec PyProof.Rows PySem.W
section
variable {prog:Program}{w:World}{s:Shared}{A:Around}{E:Value->Shared->Prop}
theorem vb{t:Addr}{us:List Value}{g:List Int}{R:Value->Shared->Prop}(v:IsTup s.heap t us.toArray)(r:IntsAre us g)(a:us.length<64)
  (c:∀(out:Array Value) (ns':List Int),IntsAre out.toList ns'->ns'.Perm g->ns'.Pairwise (·<=·)->R (.ref (s.heap.objs.size+1)) { s with heap:=sortedAll s.heap us out }) :
  wpAny (model prog w) A (call (.builtin "sorted") [.ref t]) R E s:=by
 obtain⟨o,i,x,n,j⟩:=id v;have u:us.length<=sizeLine:=by rw[sizeLine_eq];lia
 refine call_function_entry kind_sorted plain_sorted entry_sorted (args_sorted1 _) ?_;unfold Builtin.«sorted»;refine wpAny_bind (m:=checkCount "sorted" 1 1 _) (wpAny_pure (wpAny_bind ?_));unfold collect;refine wpAny_bind (wpAny_runValue (codeAny_builtin entry_proto_collect' ?_));show wpAny _ _ (do again (.builtin "list.__iadd__" ⟨[<- newList [],.ref t],[]⟩)) _ _ s;refine wpAny_bind (wpAny_newList (wpAny_pure ⟨Code.quiet_builtin _ (by decide +kernel),codeAny_builtin entry_list_iadd' ?_⟩));show wpAny _ _ (Builtin.List.listExtendWith (.ref s.heap.objs.size) (.ref t) (.ref s.heap.objs.size)) _ _ { s with heap:=s.heap.push (seqObj "list" #[] 0) };unfold Builtin.List.listExtendWith;have b:(s.heap.push (seqObj "list" #[] 0)).get? t=some o:=Heap.get?_push_of_some _ i;have d:(s.heap.push (seqObj "list" #[] 0)).get? s.heap.objs.size=some (seqObj "list" #[] 0):=Heap.get?_push_size _ rfl;refine wpAny_bind (wpAny_typeOf (T := "tuple") ⟨o,b,x⟩ ?_);have e:(Value.type "tuple" == Value.type "tuple")=true:=rfl;rw[if_pos (by rw[e];simp)];refine wpAny_bind (listItems_at b j (wpAny_bind (listItems_at (xs:=#[]) (n:=0) d rfl ?_)));rw[if_neg (by simp)];refine wpAny_bind (listUpdate_at (xs:=#[]) (n:=0) d rfl (wpAny_pure ?_) (Nat.zero_le _) (by show(#[]++us.toArray).size<=sizeLine+1;simp only[Array.size_append,size_toArray,length_nil];lia));show wpAny (model prog w) _ (do let o <- load s.heap.objs.size;match o.data with | .seq xs _=>pure xs.toList | _=>unsupported "internal:collect") _ E { s with heap:=(s.heap.push (seqObj "list" #[] 0)).update s.heap.objs.size (Obj.mapSeq (· ++ us.toArray)) };refine wpAny_bind (wpAny_load (get?_update_seq d _) ?_);show wpAny _ _ (pure ((#[]:Array Value)++us.toArray).toList) _ E _;have k:((#[]:Array Value)++us.toArray).toList=us:=by simp
 rw[k];refine wpAny_pure (wpAny_bind (wpAny_newList ?_));have h:((s.heap.push (seqObj "list" #[] 0)).update s.heap.objs.size (Obj.mapSeq (· ++ us.toArray))).objs.size=s.heap.objs.size+1:=by rw[Heap.size_update,size_push']
 have f:(((s.heap.push (seqObj "list" #[] 0)).update s.heap.objs.size (Obj.mapSeq (· ++ us.toArray))).push (seqObj "list" us.toArray 0)).get? (s.heap.objs.size+1)=some (seqObj "list" us.toArray 0):=by rw[<- h];exact Heap.get?_push_size _ rfl
 show wpAny _ _ _ _ _ { s with heap:=((s.heap.push (seqObj "list" #[] 0)).update s.heap.objs.size (Obj.mapSeq (· ++ us.toArray))).push (seqObj "list" us.toArray 0) };rw[h];exact wpAny_bind (wpAny_holding (wpAny_call_entry slot_list_sort ⟨_,f,rfl⟩ entry_list_sort (list_sort_tree f r a λout ns' l p q=>⟨_,rfl,wpAny_pure ⟨_,rfl,c out ns' l p q⟩⟩) (args_list_sort _)))
end
theorem eO{X:Cx}:CallR X (.builtin "sorted") (λxs H Q=>∃(p:Addr) (ns:List Int),xs=[.ref p]/\(SqL X.K H p (ns.map V.int)\/SqT X.K H p (ns.map V.int))/\ns.length<64/\∀ q (ns':List Int),ns'.Perm ns->ns'.Pairwise (·<=·)->H q=none->Q (.ref q) (upd H q (.lst (ns'.map V.int)))):=by
 intro d s y H xs D Q I r h;obtain⟨p,ns,rfl,hq,l,q⟩:=h
 rcases hq with hq | hq
 .exact cW d s y H _ D Q I r ⟨p,ns,rfl,hq,l,q⟩
 obtain⟨u,rfl,n⟩:=fK r;cases n;obtain⟨f,k,x,E⟩:=I.tuple hq;have A:=gS k;have i:f.length=ns.length:=by have:=k.length;rw[length_map]at this;exact this.symm
 refine vb x A (by lia) λc ns' v j B=>?_
 obtain⟨e,C⟩:=sortedAll_at s.heap f c;have w:H (s.heap.objs.size+1)=none:=I.hok.fresh (Nat.le_succ _);have g:sizeLine=16777216:=sizeLine_eq;refine⟨.ref (s.heap.objs.size+1),_,I.laid (a:=s.heap.objs.size+1) (o:=.lst (ns'.map V.int)) (t':=s.toks) (λb u z=>sortedAll_old z) (Nat.le_succ _) ⟨?_,c.toList,e,eY v,?_⟩,rfl,q _ ns' j B w⟩
 .rw[length_map,j.length_eq];lia
 .rw[C,Array.toArray_toList]
end L2
namespace WSrt
open PySem PySem.W PyProof.Rows
def run{α:Type}(lt:Nat->Nat->Bool):KasT α->α
 | .ret x=>x
 | .ask i j k=>run lt (k (lt i j))
theorem eT{a b:Type}(lt:Nat->Nat->Bool)(f:a->KasT b):∀ t:KasT a,run lt (t.bind f)=run lt (f (run lt t))
 | .ret _=>rfl
 | .ask i j k=>eT lt f (k (lt i j))
def e(p:Array Nat)(i:Nat):Nat:=(p[i]?).getD 0
theorem aX(p:Array Nat)(i:Nat):p.getD i 0=e p i:=by unfold e;simp[Array.getD_eq_getD_getElem?]
variable (lt:Nat->Nat->Bool) (n:Nat)
structure Wk:Prop where
 asy:∀ i j,i<n->j<n->lt i j=true->lt j i=false
 tr:∀ i j k,i<n->j<n->k<n->lt j i=false->lt k j=false->lt k i=false
structure PV(p:Array Nat):Prop where
 sz:p.size=n
 pm:p.toList.Perm (List.range n)
theorem e_list{p:Array Nat}{i:Nat}(h:i<p.size):p.toList[i]? = some (e p i):=by
 unfold e;rw[Array.getElem?_toList];simp[h]
theorem PV.bd{p:Array Nat}(h:PV n p){i:Nat}(b:i<n):e p i<n:=by
 have:=e_list (p:=p) (i:=i) (by rw[h.sz];exact b);have a:=h.pm.mem_iff.mp (List.mem_of_getElem? this);exact mem_range.mp a
theorem PV.ne{p:Array Nat}(h:PV n p){i j:Nat}(s:i<n)(u:j<n)(a:i≠j):e p i≠e p j:=by
 have r:p.toList.Nodup:=h.pm.nodup_iff.mpr nodup_range;have d:=e_list (p:=p) (i:=i) (by rw[h.sz];exact s);have q:=e_list (p:=p) (i:=j) (by rw[h.sz];exact u);intro z;rw[z]at d
 have o:=(List.getElem?_eq_some_iff.mp d)
 have v:=(List.getElem?_eq_some_iff.mp q)
 obtain⟨g,b⟩:=o;obtain⟨l,k⟩:=v;have f:=pairwise_iff_getElem.mp r
 rcases Nat.lt_trichotomy i j with c | c | c
 .exact f i j g l c (b.trans k.symm)
 .exact a c
 .exact f j i l g c (k.trans b.symm)
def Asc(p:Array Nat)(m:Nat):Prop:=∀ i j,i<j->j<m->lt (e p j) (e p i)=false
def Dsc(p:Array Nat)(m:Nat):Prop:=∀ i j,i<j->j<m->lt (e p i) (e p j)=false
def Blk(p:Array Nat)(i j:Nat):Prop:=∀ x y,i<=x->x<j->i<=y->y<j->lt (e p x) (e p y)=false
variable (T:Wk lt n)
include T
theorem vh{p:Array Nat}{m:Nat}(h:PV n p)(g:1<=m)(d:m<n)(a:Asc lt p m)(c:lt (e p m) (e p (m - 1))=false):Asc lt p (m+1):=by
 intro i j b f
 by_cases c1:j<m
 .exact a i j b c1
 .have:j=m:=by omega
  subst this
  by_cases c2:i=j - 1
  .rw[c2];exact c
  .exact T.tr _ (e p (j - 1)) _ (h.bd n (by omega)) (h.bd n (by omega)) (h.bd n (by omega)) (a i (j - 1) (by omega) (by omega)) c
theorem jk{p:Array Nat}{m:Nat}(h:PV n p)(g:1<=m)(d:m<n)(a:Dsc lt p m)(c:lt (e p (m - 1)) (e p m)=false):Dsc lt p (m+1):=by
 intro i j b f
 by_cases c1:j<m
 .exact a i j b c1
 .have:j=m:=by omega
  subst this
  by_cases c2:i=j - 1
  .rw[c2];exact c
  .exact T.tr _ (e p (j - 1)) _ (h.bd n (by omega)) (h.bd n (by omega)) (h.bd n (by omega)) c (a i (j - 1) (by omega) (by omega))
theorem iW{p:Array Nat}(h:PV n p):∀(f m:Nat),1<=m->m+f<=n->Asc lt p m->m<=run lt (kas_asc p f m)/\run lt (kas_asc p f m)<=m+f/\Asc lt p (run lt (kas_asc p f m))/\(run lt (kas_asc p f m)<m+f->lt (e p (run lt (kas_asc p f m))) (e p (run lt (kas_asc p f m) - 1))=true)
 | 0,m,_,_,a=>⟨Nat.le_refl _,Nat.le_refl _,a,λz=>absurd z (Nat.lt_irrefl _)⟩
 | f+1,m,h1,h2,a=>by
  have b:run lt (kas_asc p (f+1) m)=run lt (if lt (e p m) (e p (m - 1))=true then .ret m else kas_asc p f (m+1)):=by
   show run lt (if lt (p.getD m 0) (p.getD (m - 1) 0)=true then .ret m else kas_asc p f (m+1))=_;rw[aX,aX]
  rw[b];cases c:lt (e p m) (e p (m - 1)) with
  | true =>
   rw[if_pos rfl];exact⟨Nat.le_refl _,by show m<=_;omega,a,λ_=>c⟩
  | false =>
   rw[if_neg (by decide)];obtain⟨i,j,d,g⟩:=iW h f (m+1) (by omega) (by omega) (vh lt n T h h1 (by omega) a c);exact⟨by omega,by omega,d,λz=>g (by omega)⟩
omit T in
theorem fT{p:Array Nat}{i m k:Nat}(a:m<=p.size):e (kas_rev p i m) k=if i<=k/\k<m then e p (i+m - 1 - k) else e p k:=by
 unfold e kas_rev;rw[getElem?_mirror_all a]
 split <;> rfl
omit T in
theorem PV.rev{p:Array Nat}(h:PV n p)(i m:Nat):PV n (kas_rev p i m):=⟨by unfold kas_rev;rw[mirror_size];exact h.sz,(Array.perm_iff_toList_perm.mp (mirror_perm p i m ((m - i)/2))).trans h.pm⟩
theorem mG{p:Array Nat}{i m:Nat}(h:PV n p)(f:m<=n)(a:Dsc lt p m)(b:Blk lt p i m):Dsc lt (kas_rev p i m) m:=by
 intro x y c g;have d:m<=p.size:=by rw[h.sz];exact f
 rw[fT d,fT d]
 by_cases cy:i<=y/\y<m
 .rw[if_pos cy]
  by_cases cx:i<=x/\x<m
  .rw[if_pos cx]
   exact b _ _ (by omega) (by omega) (by omega) (by omega)
  .rw[if_neg cx]
   exact a _ _ (by omega) (by omega)
 .rw[if_neg cy,if_neg (by omega)]
  exact a _ _ c g
theorem fG:∀(f:Nat) (p:Array Nat) (m q:Nat),PV n p->q+1<=m->m+f<=n->Dsc lt p m->Blk lt p (m - (q+1)) m->∃ p' m' q',run lt (kas_desc f p m q)=(p',m',q')/\PV n p'/\m<=m'/\m'<=m+f/\q'+1<=m'/\Dsc lt p' m'/\Blk lt p' (m' - (q'+1)) m'
 | 0,p,m,q,h,hq,_,a,b=>⟨p,m,q,rfl,h,Nat.le_refl _,Nat.le_refl _,hq,a,b⟩
 | f+1,p,m,q,h,hq,hf,a,b=>by
  have I:run lt (kas_desc (f+1) p m q)=run lt (if lt (e p m) (e p (m - 1))=true then (if q > 0 then kas_desc f (kas_rev p (m - (q+1)) m) (m+1) 0 else kas_desc f p (m+1) 0) else (if lt (e p (m - 1)) (e p m)=true then .ret (p,m,q) else kas_desc f p (m+1) (q+1))):=by
   show run lt (if lt (p.getD m 0) (p.getD (m - 1) 0)=true then (if q > 0 then kas_desc f (kas_rev p (m - (q+1)) m) (m+1) 0 else kas_desc f p (m+1) 0) else .ask (p.getD (m - 1) 0) (p.getD m 0) λd=>if d=true then .ret (p,m,q) else kas_desc f p (m+1) (q+1))=_;rw[aX,aX]
   split <;> rfl
  rw[I]
  have j:∀ p':Array Nat,PV n p'->Blk lt p' (m+1 - (0+1)) (m+1):=λp' k x y g v i w=>by
   have:x=m:=by omega
   have:y=m:=by omega
   subst x y;cases c:lt (e p' m) (e p' m) with
   | false=>rfl
   | true=>rw[T.asy _ _ (k.bd n (by omega)) (k.bd n (by omega)) c]at c;exact absurd c (by decide)
  have z:m<=p.size:=by rw[h.sz];omega
  cases c:lt (e p m) (e p (m - 1)) with
  | true =>
   have F:=T.asy _ _ (h.bd n (by omega)) (h.bd n (by omega)) c;rw[if_pos rfl]
   by_cases hq0:q > 0
   .rw[if_pos hq0]
    have k:=h.rev n (m - (q+1)) m;have K:=mG lt n T h (by omega) a b
    have G:lt (e (kas_rev p (m - (q+1)) m) (m - 1)) (e (kas_rev p (m - (q+1)) m) m)=false:=by
     rw[fT z,fT z,if_pos ⟨by omega,by omega⟩,if_neg (by omega)];have L:m - (q+1)+m - 1 - (m - 1)=m - (q+1):=by omega
     rw[L];exact T.tr _ (e p (m - 1)) _ (h.bd n (by omega)) (h.bd n (by omega)) (h.bd n (by omega)) F (b _ _ (by omega) (by omega) (by omega) (by omega))
    obtain⟨p',m',q',o,l,D,E,s,r,u⟩:=fG f _ (m+1) 0 k (by omega) (by omega) (jk lt n T k (by omega) (by omega) K G) (j _ k);exact⟨p',m',q',o,l,by omega,by omega,s,r,u⟩
   .rw[if_neg hq0]
    obtain⟨p',m',q',o,l,D,E,s,r,u⟩:=fG f p (m+1) 0 h (by omega) (by omega) (jk lt n T h (by omega) (by omega) a F) (j _ h);exact⟨p',m',q',o,l,by omega,by omega,s,r,u⟩
  | false =>
   rw[if_neg (by decide)];cases d:lt (e p (m - 1)) (e p m) with
   | true =>
    rw[if_pos rfl];exact⟨p,m,q,rfl,h,Nat.le_refl _,by omega,hq,a,b⟩
   | false =>
    rw[if_neg (by decide)]
    have J:Blk lt p (m+1 - (q+1+1)) (m+1):=by
     have H:m+1 - (q+1+1)=m - (q+1):=by omega
     rw[H]
     have B:∀ x,m - (q+1)<=x->x<m->lt (e p x) (e p m)=false/\lt (e p m) (e p x)=false:=λx C A =>
      ⟨T.tr _ (e p (m - 1)) _ (h.bd n (by omega)) (h.bd n (by omega)) (h.bd n (by omega)) d (b _ _ C A (by omega) (by omega)),T.tr _ (e p (m - 1)) _ (h.bd n (by omega)) (h.bd n (by omega)) (h.bd n (by omega)) (b _ _ (by omega) (by omega) C A) c⟩
     intro x y g v i w
     by_cases cx:x=m
     .by_cases cy:y=m
      .rw[cx,cy]
       exact j p h m m (by omega) (by omega) (by omega) (by omega)
      .rw[cx];exact(B y i (by omega)).2
     .by_cases cy:y=m
      .rw[cy];exact(B x g (by omega)).1
      .exact b x y g (by omega) i (by omega)
    obtain⟨p',m',q',o,l,D,E,s,r,u⟩:=fG f p (m+1) (q+1) h (by omega) (by omega) (jk lt n T h (by omega) (by omega) a d) J;exact⟨p',m',q',o,l,by omega,by omega,s,r,u⟩
omit T in
theorem v5{p:Array Nat}{m:Nat}(h:PV n p)(c:m<=n)(a:Dsc lt p m):Asc lt (kas_rev p 0 m) m:=by
 intro i j d f;have b:m<=p.size:=by rw[h.sz];exact c
 rw[fT b,fT b,if_pos ⟨by omega,by omega⟩,if_pos ⟨by omega,by omega⟩];exact a _ _ (by omega) (by omega)
theorem ng{p:Array Nat}{m:Nat}(h:PV n p)(d:1<=m)(c:m<=n)(a:Dsc lt p m):∃ m' p',run lt (kas_tail3 m n p)=(m',p')/\PV n p'/\Asc lt p' m'/\1<=m'/\m'<=n:=by
 unfold kas_tail3;rw[eT];have b:=h.rev n 0 m;obtain⟨g,i,f,_⟩:=iW lt n T b (n - m) m d (by omega) (v5 lt n h c a);exact⟨_,_,rfl,b,f,by omega,by omega⟩
theorem jT{p:Array Nat}{m:Nat}(h:PV n p)(u:1<=m)(g:m<n)(a:Dsc lt p (m+1)):∃ m' p',run lt (kas_descPart m n p)=(m',p')/\PV n p'/\Asc lt p' m'/\1<=m'/\m'<=n:=by
 unfold kas_descPart;rw[eT]
 have d:Blk lt p (m+1 - (0+1)) (m+1):=λx y q j r k=>by
  have:x=m:=by omega
  have:y=m:=by omega
  subst x y;cases c:lt (e p m) (e p m) with
  | false=>rfl
  | true=>rw[T.asy _ _ (h.bd n g) (h.bd n g) c]at c;exact absurd c (by decide)
 obtain⟨p',m',b,o,f,v,w,s,i,l⟩:=fG lt n T (n - (m+1)) p (m+1) 0 h (by omega) (by omega) a d;rw[o];show ∃ m'' p'',run lt (if b > 0 then kas_tail3 m' n (kas_rev p' (m' - (b+1)) m') else kas_tail3 m' n p')=_/\_
 by_cases c:b > 0
 .rw[if_pos c]
  exact ng lt n T (f.rev n _ _) (by omega) (by omega) (mG lt n T f (by omega) i l)
 .rw[if_neg c]
  exact ng lt n T f (by omega) (by omega) i
theorem me{p:Array Nat}{m:Nat}(h:PV n p)(s:1<=m)(r:m<n)(k:Asc lt p m)(q:lt (e p 0) (e p (m - 1))=false)(l:lt (e p (m - 1)) (e p m)=false):Dsc lt (kas_rev p 0 m) (m+1):=by
 have b:m<=p.size:=by rw[h.sz];omega
 have d:∀ x y,x<=y->y<m->lt (e p y) (e p x)=false:=λx y g c=>by
  by_cases z:x=y
  .subst z
   cases c4:lt (e p x) (e p x) with
   | false=>rfl
   | true=>rw[T.asy _ _ (h.bd n (by omega)) (h.bd n (by omega)) c4]at c4;exact absurd c4 (by decide)
  .exact k x y (by omega) c
 have a:∀ x y,x<m->y<m->lt (e p x) (e p y)=false:=λx y f c =>
  T.tr _ (e p 0) _ (h.bd n (by omega)) (h.bd n (by omega)) (h.bd n (by omega)) (T.tr _ (e p (m - 1)) _ (h.bd n (by omega)) (h.bd n (by omega)) (h.bd n (by omega)) (d y (m - 1) (by omega) (by omega)) q) (d 0 x (by omega) f)
 intro i j o u;rw[fT b,fT b,if_pos ⟨by omega,by omega⟩]
 by_cases cj:j<m
 .rw[if_pos ⟨by omega,cj⟩]
  exact a _ _ (by omega) (by omega)
 .rw[if_neg (by omega)]
  have:j=m:=by omega
  subst this;exact T.tr _ (e p (j - 1)) _ (h.bd n (by omega)) (h.bd n (by omega)) (h.bd n (by omega)) l (a _ _ (by omega) (by omega))
theorem j6{p:Array Nat}(h:PV n p)(r:2<=n):∃ m' p',run lt (kas_count n p)=(m',p')/\PV n p'/\Asc lt p' m'/\1<=m'/\m'<=n:=by
 unfold kas_count;rw[eT];have k:Asc lt p 1:=λi j d o=>by omega
 obtain⟨a,q,b,g⟩:=iW lt n T h (n - 1) 1 (Nat.le_refl _) (by omega) k;generalize run lt (kas_asc p (n - 1) 1)=m at a q b g
 by_cases c:m=n
 .have:(m == n)=true:=by simpa using c
  rw[if_pos this];exact⟨m,p,rfl,h,b,a,by omega⟩
 .have:¬(m == n)=true:=by simpa using c
  rw[if_neg this];have f:=T.asy _ _ (h.bd n (by omega)) (h.bd n (by omega)) (g (by omega))
  by_cases c2:m > 1
  .rw[if_pos c2]
   show ∃ m' p',run lt (if lt (p.getD 0 0) (p.getD (m - 1) 0)=true then .ret (m,p) else kas_descPart m n (kas_rev p 0 m))=_/\_;rw[aX,aX];cases c3:lt (e p 0) (e p (m - 1)) with
   | true =>
    rw[if_pos rfl];exact⟨m,p,rfl,h,b,a,by omega⟩
   | false =>
    rw[if_neg (by decide)];exact jT lt n T (h.rev n 0 m) (by omega) (by omega) (me lt n T h a (by omega) b c3 f)
  .rw[if_neg c2]
   have l:m=1:=by omega
   subst l;refine jT lt n T h (by omega) (by omega) ?_;intro i j d o;have:i=0:=by omega
   have:j=1:=by omega
   subst i j;exact f
theorem gZ{p:Array Nat}{k:Nat}(h:PV n p)(j:k<n)(a:Asc lt p k):∀(f l r:Nat),l<=r->r<=k->r - l<=f->(∀ i,i<l->lt (e p k) (e p i)=false)->(∀ i,r<=i->i<k->lt (e p i) (e p k)=false) ->
  run lt (kas_place p k f l r)<=k/\(∀ i,i<run lt (kas_place p k f l r)->lt (e p k) (e p i)=false)/\(∀ i,run lt (kas_place p k f l r)<=i->i<k->lt (e p i) (e p k)=false)
 | 0,l,r,h1,h2,h3,lo,hi=>⟨by show l<=k;omega,lo,λi d b=>hi i (by have z:l<=i:=d;omega) b⟩
 | f+1,l,r,h1,h2,h3,lo,hi=>by
  by_cases c:l >= r
  .have s:run lt (kas_place p k (f+1) l r)=l:=by
    show run lt (if l >= r then .ret l else _)=l;rw[if_pos c];rfl
   rw[s];exact⟨by omega,lo,λi d b=>hi i (by omega) b⟩
  .have s:run lt (kas_place p k (f+1) l r)=run lt (if lt (e p k) (e p ((l+r)/2))=true then kas_place p k f l ((l+r)/2) else kas_place p k f ((l+r)/2+1) r):=by
    show run lt (if l >= r then .ret l else .ask (p.getD k 0) (p.getD ((l+r)/2) 0) λc=>if c=true then kas_place p k f l ((l+r)/2) else kas_place p k f ((l+r)/2+1) r)=_;rw[if_neg c,aX,aX];rfl
   rw[s];have o:l<=(l+r)/2:=by omega
   have q:(l+r)/2<r:=by omega
   generalize (l+r)/2=m at o q;cases cc:lt (e p k) (e p m) with
   | true =>
    have g:=T.asy _ _ (h.bd n j) (h.bd n (by omega)) cc;rw[if_pos rfl];refine gZ h j a f l m o (by omega) (by omega) lo λi d b=>?_
    by_cases c3:i=m
    .rw[c3];exact g
    .exact T.tr _ (e p m) _ (h.bd n j) (h.bd n (by omega)) (h.bd n (by omega)) g (a m i (by omega) b)
   | false =>
    rw[if_neg (by decide)];refine gZ h j a f (m+1) r (by omega) h2 (by omega) (λi d=>?_) hi
    by_cases c3:i=m
    .rw[c3];exact cc
    .exact T.tr _ (e p m) _ (h.bd n (by omega)) (h.bd n (by omega)) (h.bd n j) (a i m (by omega) (by omega)) cc
omit T in
theorem gL{p:Array Nat}{k l i:Nat}(a:k<p.size)(c:l<=k):e (bubble p k (k - l)) i=if i=l then e p k else if l<i/\i<=k then e p (i - 1) else e p i:=by
 unfold e;rw[getElem?_bubble a (k - l) (by omega)];have b:k - (k - l)=l:=by omega
 rw[b]
 split
 .rfl
 .split <;> rfl
theorem pX:∀(f:Nat) (p:Array Nat) (k:Nat),PV n p->k+f<=n->Asc lt p k->∃ p',run lt (kas_bin f p k)=p'/\PV n p'/\Asc lt p' (k+f)
 | 0,p,k,h,_,a=>⟨p,rfl,h,a⟩
 | f+1,p,k,h,hk,a=>by
  obtain⟨b,r,s⟩:=gZ lt n T h (by omega) a k 0 k (by omega) (Nat.le_refl _) (by omega) (λi hi=>by omega) (λi h1 h2=>by omega)
  have y:run lt (kas_bin (f+1) p k)=run lt (kas_bin f (bubble p k (k - run lt (kas_place p k k 0 k))) (k+1)):=by
   show run lt ((kas_place p k k 0 k).bind λl=>kas_bin f (bubble p k (k - l)) (k+1))=_;rw[eT]
  rw[y];generalize run lt (kas_place p k k 0 k)=l at b r s;have d:k<p.size:=by rw[h.sz];omega
  have v:PV n (bubble p k (k - l)):=⟨by rw[bubble_size];exact h.sz,(Array.perm_iff_toList_perm.mp (bubble_perm p k (k - l))).trans h.pm⟩
  have A:Asc lt (bubble p k (k - l)) (k+1):=by
   intro i j q B
   by_cases c1:i=l
   .have o:e (bubble p k (k - l)) i=e p k:=by rw[gL d b,if_pos c1]
    have g:e (bubble p k (k - l)) j=e p (j - 1):=by rw[gL d b,if_neg (by omega),if_pos ⟨by omega,by omega⟩]
    rw[o,g];exact s (j - 1) (by omega) (by omega)
   .by_cases c2:j=l
    .have o:e (bubble p k (k - l)) i=e p i:=by rw[gL d b,if_neg c1,if_neg (by omega)]
     have g:e (bubble p k (k - l)) j=e p k:=by rw[gL d b,if_pos c2]
     rw[o,g];exact r i (by omega)
    .have o:e (bubble p k (k - l)) i=if l<i then e p (i - 1) else e p i:=by
      rw[gL d b,if_neg c1]
      by_cases c:l<i
      .rw[if_pos ⟨c,by omega⟩,if_pos c]
      .rw[if_neg (λz=>c z.1),if_neg c]
     have g:e (bubble p k (k - l)) j=if l<j then e p (j - 1) else e p j:=by
      rw[gL d b,if_neg c2]
      by_cases c:l<j
      .rw[if_pos ⟨c,by omega⟩,if_pos c]
      .rw[if_neg (λz=>c z.1),if_neg c]
     rw[o,g]
     split
     .split
      .exact a _ _ (by omega) (by omega)
      .exact a _ _ (by omega) (by omega)
     .split
      .omega
      .exact a _ _ q (by omega)
  obtain⟨p',w,x,u⟩:=pX f _ (k+1) v (by omega) A;exact⟨p',w,x,by rw[show k+(f+1)=k+1+f by omega];exact u⟩
theorem run_sort(g:2<=n):∃ p,run lt (kas_sort n)=p/\PV n p/\Asc lt p n:=by
 unfold kas_sort;rw[eT]
 have i:PV n (List.toArray (List.range n)):=⟨by simp,by simp⟩
 obtain⟨m,p,k,f,d,q,o⟩:=j6 lt n T i g;rw[k];show ∃ a,run lt (if m<n then kas_bin (n - max m 1) p (max m 1) else .ret p)=a/\_;have l:max m 1=m:=by omega
 by_cases c:m<n
 .rw[if_pos c,l]
  obtain⟨a,h,j,b⟩:=pX lt n T (n - m) p m f (by omega) d;exact⟨a,h,j,by rw[show m+(n - m)=n by omega]at b;exact b⟩
 .rw[if_neg c]
  have:m=n:=by omega
  subst this;exact⟨p,rfl,f,d⟩
omit T in
def In{α:Type}:KasT α->Prop
 | .ret _=>True
 | .ask i j k=>i<n/\j<n/\i≠j/\In (k (lt i j))
omit T in
theorem gg{a b:Type}{f:a->KasT b}:∀{t:KasT a},In lt n t->In lt n (f (run lt t))->In lt n (t.bind f)
 | .ret _,_,h=>h
 | .ask i j k,h,h'=>⟨h.1,h.2.1,h.2.2.1,gg h.2.2.2 h'⟩
omit T in
theorem nO{p:Array Nat}(h:PV n p):∀(f m:Nat),1<=m->m+f<=n->In lt n (kas_asc p f m)
 | 0,_,_,_=>trivial
 | f+1,m,h1,h2=>by
  refine⟨by rw[aX];exact h.bd n (by omega),by rw[aX];exact h.bd n (by omega),by rw[aX,aX];exact h.ne n (by omega) (by omega) (by omega),?_⟩;dsimp only
  split
  .exact trivial
  .exact nO h f (m+1) (by omega) (by omega)
omit T in
theorem i5:∀(f:Nat) (p:Array Nat) (m q:Nat),PV n p->1<=m->m+f<=n->In lt n (kas_desc f p m q)
 | 0,_,_,_,_,_,_=>trivial
 | f+1,p,m,q,h,h1,h2=>by
  refine⟨by rw[aX];exact h.bd n (by omega),by rw[aX];exact h.bd n (by omega),by rw[aX,aX];exact h.ne n (by omega) (by omega) (by omega),?_⟩;dsimp only
  split
  .split
   .exact i5 f _ _ _ (h.rev n _ _) (by omega) (by omega)
   .exact i5 f _ _ _ h (by omega) (by omega)
  .refine⟨by rw[aX];exact h.bd n (by omega),by rw[aX];exact h.bd n (by omega),by rw[aX,aX];exact h.ne n (by omega) (by omega) (by omega),?_⟩
   dsimp only
   split
   .exact trivial
   .exact i5 f _ _ _ h (by omega) (by omega)
omit T in
theorem qJ{p:Array Nat}{m:Nat}(h:PV n p)(a:1<=m)(b:m<=n):In lt n (kas_tail3 m n p):=gg lt n (nO lt n (h.rev n 0 m) (n - m) m a (by omega)) trivial
theorem ny{p:Array Nat}{m:Nat}(h:PV n p)(u:1<=m)(f:m<n)(a:Dsc lt p (m+1)):In lt n (kas_descPart m n p):=by
 have d:Blk lt p (m+1 - (0+1)) (m+1):=λx y q k r l=>by
  have:x=m:=by omega
  have:y=m:=by omega
  subst x y;cases c:lt (e p m) (e p m) with
  | false=>rfl
  | true=>rw[T.asy _ _ (h.bd n f) (h.bd n f) c]at c;exact absurd c (by decide)
 obtain⟨j,b,g,o,i,w,z,s,A,v⟩:=fG lt n T (n - (m+1)) p (m+1) 0 h (by omega) (by omega) a d;refine gg lt n (i5 lt n _ _ _ _ h (by omega) (by omega)) ?_;rw[o];show In lt n (if g > 0 then kas_tail3 b n (kas_rev j (b - (g+1)) b) else kas_tail3 b n j)
 split
 .exact qJ lt n (i.rev n _ _) (by omega) (by omega)
 .exact qJ lt n i (by omega) (by omega)
theorem vv{p:Array Nat}(h:PV n p)(r:2<=n):In lt n (kas_count n p):=by
 refine gg lt n (nO lt n h (n - 1) 1 (by omega) (by omega)) ?_;have k:Asc lt p 1:=λi j a o=>by omega
 obtain⟨b,q,d,g⟩:=iW lt n T h (n - 1) 1 (Nat.le_refl _) (by omega) k;generalize run lt (kas_asc p (n - 1) 1)=m at b q d g
 by_cases c:m=n
 .have:(m == n)=true:=by simpa using c
  rw[if_pos this];exact trivial
 .have:¬(m == n)=true:=by simpa using c
  rw[if_neg this];have f:=T.asy _ _ (h.bd n (by omega)) (h.bd n (by omega)) (g (by omega))
  by_cases c2:m > 1
  .rw[if_pos c2]
   refine⟨by rw[aX];exact h.bd n (by omega),by rw[aX];exact h.bd n (by omega),by rw[aX,aX];exact h.ne n (by omega) (by omega) (by omega),?_⟩;rw[aX,aX];cases c3:lt (e p 0) (e p (m - 1)) with
   | true=>exact trivial
   | false =>
    show In lt n (if false=true then _ else kas_descPart m n (kas_rev p 0 m));rw[if_neg (by decide)];exact ny lt n T (h.rev n 0 m) (by omega) (by omega) (me lt n T h b (by omega) d c3 f)
  .rw[if_neg c2]
   have l:m=1:=by omega
   subst l;refine ny lt n T h (by omega) (by omega) ?_;intro i j a o;have:i=0:=by omega
   have:j=1:=by omega
   subst i j;exact f
omit T in
theorem jy{p:Array Nat}{k:Nat}(h:PV n p)(a:k<n):∀(f l r:Nat),r<=k->In lt n (kas_place p k f l r)
 | 0,_,_,_=>trivial
 | f+1,l,r,h2=>by
  show In lt n (if l >= r then .ret l else .ask (p.getD k 0) (p.getD ((l+r)/2) 0) λc=>if c=true then kas_place p k f l ((l+r)/2) else kas_place p k f ((l+r)/2+1) r)
  split
  .exact trivial
  .refine⟨by rw[aX];exact h.bd n a,by rw[aX];exact h.bd n (by omega),by rw[aX,aX];exact h.ne n a (by omega) (by omega),?_⟩
   dsimp only
   split
   .exact jy h a f l _ (by omega)
   .exact jy h a f _ r h2
omit T in
theorem va:∀(f:Nat) (p:Array Nat) (k:Nat),PV n p->k+f<=n->In lt n (kas_bin f p k)
 | 0,_,_,_,_=>trivial
 | f+1,p,k,h,hk=>by
  refine gg lt n (jy lt n h (by omega) k 0 k (Nat.le_refl _)) ?_;exact va f _ (k+1) ⟨by rw[bubble_size];exact h.sz,(Array.perm_iff_toList_perm.mp (bubble_perm p k _)).trans h.pm⟩ (by omega)
theorem In_sort(a:2<=n):In lt n (kas_sort n):=by
 have b:PV n (List.toArray (List.range n)):=⟨by simp,by simp⟩
 refine gg lt n (vv lt n T b a) ?_;obtain⟨m,p,d,c,g,h,f⟩:=j6 lt n T b a;rw[d];show In lt n (if m<n then kas_bin (n - max m 1) p (max m 1) else .ret p)
 split
 .exact va lt n _ _ _ c (by omega)
 .exact trivial
omit T in
theorem wp_run{c:Type}{a:Nat->Nat->(Bool->Shared->Prop)->Shared->Prop}{s:Shared}(b:∀ i j,i<n->j<n->i≠j->∀ C,C (lt i j) s->a i j C s){Q:c->Shared->Prop}:∀ t:KasT c,In lt n t->Q (run lt t) s->t.kasWp a Q s
 | .ret _,_,h=>h
 | .ask i j k,hi,h=>b i j hi.1 hi.2.1 hi.2.2.1 _ (wp_run b (k (lt i j)) hi.2.2.2 h)
end WSrt
namespace L2
open PySem PySem.Spec PyProof.Rows PySem.W
def ord(lt:Nat->Nat->Bool)(n:Nat):List Nat:=if 2<=n then (WSrt.run lt (kas_sort n)).toList else List.range n
theorem uy{lt:Nat->Nat->Bool}{n:Nat}(T:WSrt.Wk lt n):(ord lt n).Perm (List.range n):=by
 unfold ord
 split
 .rename_i h
  obtain⟨p,e,a,b⟩:=WSrt.run_sort lt n T h;rw[e];exact a.pm
 .exact .refl _
theorem xp{lt:Nat->Nat->Bool}{n:Nat}(T:WSrt.Wk lt n):(ord lt n).Pairwise λi j=>lt j i=false:=by
 unfold ord
 split
 .rename_i h
  obtain⟨p,e,a,f⟩:=WSrt.run_sort lt n T h;rw[e,pairwise_iff_getElem];intro i j l d b;have c:j<n:=by rw[Array.length_toList,a.sz]at d;exact d
  have k:=(List.getElem?_eq_some_iff.mp (WSrt.e_list (p:=p) (i:=i) (by rw[a.sz];lia))).2;have g:=(List.getElem?_eq_some_iff.mp (WSrt.e_list (p:=p) (i:=j) (by rw[a.sz];lia))).2;rw[k,g];exact f i j b c
 .match n with
  | 0=>exact List.Pairwise.nil
  | 1=>exact List.pairwise_singleton _ _
  | n+2=>exact absurd (show 2<=n+2 by lia) (by assumption)
section
variable {X:Cx}{pins:List (Addr×Obj)}{σ:St}{H:Hp}{s:Shared}{κ:SortKind}{lt:Nat->Nat->Bool}{KO:Nat->V->Hp->Prop}{xs:List V}{q:Addr}
end
def DE(h:Heap)(d:Addr)(es:Array DictEntry)(ep:Nat):Prop:=∃ o,h.get? d=some o/\o.ExactDict/\o.data=.dict es ep
theorem DE.on{h h':Heap}{d:Addr}{es:Array DictEntry}{ep:Nat}(x:DE h d es ep)(k:∀ o,h.get? d=some o->h'.get? d=some o):DE h' d es ep:=let ⟨o,e,r⟩:=x;⟨o,k o e,r⟩
theorem DE.lt{h:Heap}{d:Addr}{es:Array DictEntry}{ep:Nat}(x:DE h d es ep):d<h.objs.size:=let ⟨_,e,_⟩:=x;Heap.lt_size e
theorem DE.ty{s:Shared}{d:Addr}{es:Array DictEntry}{ep:Nat}(x:DE s.heap d es ep):s.TypeIs (.ref d) "dict" := let ⟨o,e,c,_⟩:=x;⟨o,e,c.1⟩
section
variable {prog:Program}{w:World}{A:Around}{E:Value->Shared->Prop}{s:Shared}{d I:Addr}{es:Array DictEntry}{ep i:Nat}
theorem qa{Q:Value->Shared->Prop}(f:(d == sysModules)=false)(x:DE s.heap d es ep)
  (q:Q (.ref s.heap.objs.size) { s with heap:=s.heap.push { cls:=.type "dict_keyiterator",data:=.fields #[.ref d,.int 0 0,.int es.size 0,.int ep 0] } }):wpAny (model prog w) A (pyIter (.ref d)) Q E s:=by
 have a:=x.ty;obtain⟨g,c,h,b⟩:=id x;refine wpAny_pyIter_slot a F.slot_dict_iter (wpAny_call_entry F.slot_dict_iter a F.entry_dict_iter ?_ (F.args_dict_iter_1 _));unfold Builtin.«dict.__iter__»;refine wpAny_bind ?_;unfold Builtin.Dict.dictSlotNone;refine wpAny_bind (wpAny_notOrdered_dict a (wpAny_pure ?_));show wpAny _ _ (Builtin.Dict.showsAll d >>= _) _ _ _;unfold Builtin.Dict.showsAll;rw[if_neg (λz=>by rw[f]at z;cases z)];refine wpAny_bind (wpAny_pure (wpAny_bind (wpAny_dictEntries c b (wpAny_bind (wpAny_dictEpoch c b ?_)))));refine wpAny_bind (wpAny_newObj_type (wpAny_pure ⟨_,rfl, "dict_keyiterator",_,⟨_,Heap.get?_push_size _ rfl,rfl⟩,F.slot_dict_keyiterator_next.lookup,?_⟩));simpa[rawInt] using q
theorem pF{Q:Option Value->Shared->Prop}{e:DictEntry}(a:s.heap.IsKeyIter I d i es.size ep)(x:DE s.heap d es ep)(n:es[i]? = some e)
  (q:∀ h',h'.IsKeyIter I d (i+1) es.size ep->Heap.SameBut I s.heap h'->Q (some e.key) { s with heap:=h' }):wpAny (model prog w) A (pyNext (.ref I)) Q E s:=by
 obtain⟨p,g,l,c⟩:=id a;obtain⟨o,k,r,j⟩:=id x;unfold pyNext;refine wpAny_bind (wpAny_attempt (wpAny_callSpecial?_slot (name:=Str.ofString "__next__") a.typeIs F.slot_dict_keyiterator_next (wpAny_call_entry F.slot_dict_keyiterator_next a.typeIs F.entry_dict_keyiterator_next ?_ (F.args_dict_keyiterator_next_1 _))));refine wpAny_bind (wpAny_pure (wpAny_bind (wpAny_bind ?_)))
 first | refine wpAny_bind (wpAny_typeNameOfWhole_keyiter a.typeIs (wpAny_pure ?_)) | refine wpAny_bind (wpAny_typeNameOf_keyiter a.typeIs (wpAny_pure ?_))
 refine wpAny_bind (wpAny_fieldsOf g c ?_);have f:Builtin.Dict_items.ownsTuple "dict_keyiterator" = false:=by decide
 simp only[f,Bool.false_eq_true,if_false];show wpAny _ _ (if (Value.ref d == Value.none)=true then _ else _) _ _ _;rw[if_neg (λz:(Value.ref d == Value.none)=true=>Bool.false_ne_true z)];refine wpAny_bind (wpAny_pure (wpAny_bind (wpAny_dictEntries k j ?_)));rw[if_neg (by simp)];refine wpAny_bind (wpAny_pure (wpAny_bind (wpAny_dictEpoch k j ?_)));rw[if_neg (by simp)];refine wpAny_pure ?_;obtain⟨h,rfl⟩:=Array.getElem?_eq_some_iff.mp n;simp only[show ¬((i:Int)<0) from by lia,if_false,Int.toNat_natCast,Array.getElem?_eq_getElem h];refine wpAny_bind ?_
 first | refine wpAny_bind (wpAny_typeNameOfWhole_keyiter a.typeIs (wpAny_pure ?_)) | refine wpAny_bind (wpAny_typeNameOf_keyiter a.typeIs (wpAny_pure ?_))
 refine wpAny_bind (wpAny_isOneOf_keyiter a.typeIs ?_);show wpAny _ _ (setField (.ref I) 1 (rawInt ((i:Int)+1)) >>= _) _ _ _;refine wpAny_bind (wpAny_setField g c (by simp) ?_)
 have b:(s.heap.update I (Obj.mapFields (·.setIfInBounds 1 (rawInt ((i:Int)+1))))).IsKeyIter I d (i+1) es.size ep:=⟨_,Heap.get?_update_self _ g (Obj.isFreed_of_fields (Obj.data_mapFields c _)),(Obj.cls_mapFields ..).trans l,by rw[Obj.data_mapFields c];simp[rawInt]⟩
 refine wpAny_bind (wpAny_holding (wpAny_bind (wpAny_isOneOf_keyiter (s:={ s with heap:=s.heap.update I (Obj.mapFields (·.setIfInBounds 1 (rawInt ((i:Int)+1)))) }) b.typeIs ?_)));show wpAny _ _ (pure es[i].key) _ _ _;exact wpAny_pure (wpAny_pure ⟨_,rfl,wpAny_pure (q _ b (Heap.SameBut.update ..))⟩)
theorem uA{Q:Option Value->Shared->Prop}(l:A.handled=none)(c:s.heap.IsKeyIter I d i es.size ep)(x:DE s.heap d es ep)(n:es.size<=i)
  (q:∀ h',Heap.ExtBut I s.heap h'->Q none { s with heap:=h' }):wpAny (model prog w) A (pyNext (.ref I)) Q E s:=by
 obtain⟨p,h,r,j⟩:=id c;obtain⟨o,k,u,g⟩:=id x;unfold pyNext;refine wpAny_bind (wpAny_attempt (wpAny_callSpecial?_slot (name:=Str.ofString "__next__") c.typeIs F.slot_dict_keyiterator_next (wpAny_call_entry F.slot_dict_keyiterator_next c.typeIs F.entry_dict_keyiterator_next ?_ (F.args_dict_keyiterator_next_1 _))));refine wpAny_bind (wpAny_pure (wpAny_bind (wpAny_bind ?_)))
 first | refine wpAny_bind (wpAny_typeNameOfWhole_keyiter c.typeIs (wpAny_pure ?_)) | refine wpAny_bind (wpAny_typeNameOf_keyiter c.typeIs (wpAny_pure ?_))
 refine wpAny_bind (wpAny_fieldsOf h j ?_);have f:Builtin.Dict_items.ownsTuple "dict_keyiterator" = false:=by decide
 simp only[f,Bool.false_eq_true,if_false];show wpAny _ _ (if (Value.ref d == Value.none)=true then _ else _) _ _ _;rw[if_neg (λz:(Value.ref d == Value.none)=true=>Bool.false_ne_true z)];refine wpAny_bind (wpAny_pure (wpAny_bind (wpAny_dictEntries k g ?_)));rw[if_neg (by simp)];refine wpAny_bind (wpAny_pure (wpAny_bind (wpAny_dictEpoch k g ?_)));rw[if_neg (by simp)];refine wpAny_pure ?_;simp only[show ¬((i:Int)<0) from by lia,if_false,Int.toNat_natCast,Array.getElem?_eq_none n];refine wpAny_bind ?_
 first | refine wpAny_bind (wpAny_typeNameOfWhole_keyiter c.typeIs (wpAny_pure ?_)) | refine wpAny_bind (wpAny_typeNameOf_keyiter c.typeIs (wpAny_pure ?_))
 show wpAny _ _ (setField (.ref I) 0 .none >>= _) _ _ _;refine wpAny_bind (wpAny_setField h j (by simp) ?_);show wpAny _ _ (newExc (.type "StopIteration") [] >>= _) _ _ _;refine wpAny_bind ?_;simp only[newExc,newTuple];refine wpAny_bind (wpAny_newObj_type (wpAny_bind (m:=firstArgMember _ _) (wpAny_of_eq (a:=Value.none) (by first | rfl | (simp only[firstArgMember];rfl)) (wpAny_newObj_type ?_ (by size_fits)))) (by size_fits));simp only[raiseNew];refine wpAny_bind (wpAny_handled ?_);rw[show A.in1.handled=none from l];refine wpAny_bind (wpAny_pure (wpAny_throw ?_));refine wpAny_bind (wpAny_isInstance (T := "StopIteration") (b:=true) ⟨_,Heap.get?_push_size _ rfl,rfl⟩ isSubtype_stop ?_);exact wpAny_pure (q _ (((Heap.SameBut.update ..).extBut.push _).push _))
theorem sO(p:A.handled=none)(k:d≠I):Walks prog w A I [I,d] [I] es.size (λi v=>∃ e,es[i]? = some e/\v=e.key) (λi h=>h.IsKeyIter I d i es.size ep/\DE h d es ep) where
 sub:=λb c=>by rw[mem_singleton.mp c];exact mem_cons_self ..
 frame:=λ_ _ _ a n=>⟨a.1.at λo e=>n I (mem_cons_self ..) o e,a.2.on λo e=>n d (by simp) o e⟩
 item:=λi s Q E l a f=>by
  refine pF a.1 a.2 (Array.getElem?_eq_getElem l) λj q g=>?_
  exact f _ j s.toks ⟨_,Array.getElem?_eq_getElem l,rfl⟩ ⟨q,a.2.on λo e=>g.extBut d o k e⟩ λb o c e=>g.extBut b o (λz=>c (by rw[z];exact mem_cons_self ..)) e
 done:=λs Q E a f=>uA p a.1 a.2 (Nat.le_refl _) λj g=>f j s.toks λb o c e=>g b o (λz=>c (by rw[z];exact mem_cons_self ..)) e
 self:=λ_ _ _ _ a f=>wpAny_pyIter_keyiter a.1 f
theorem yq(b:(d == sysModules)=false):KdlSrc prog w "dict" d d es.size (λi v=>∃ e,es[i]? = some e/\v=e.key) (λh=>DE h d es ep) where
 type:=λ_ x=>x.ty
 there:=λ_ x=>⟨x.lt,x.lt⟩
 keep:=λ_ _ x c=>x.on λo e=>c d (.inl rfl) o e
 notList:=by decide
 notTuple:=by decide
 hint:=λ_ _ _ _ x q=>kdl_hint_dict x.ty q
 iter:=λ_ _ a x=>⟨_,_,(λ_ _ q=>qa b x q),sO a (Nat.ne_of_lt x.lt),⟨⟨_,Heap.get?_push_size _ rfl,rfl,rfl⟩,x.on λo e=>Heap.get?_push_of_some _ e⟩⟩
def jv(es:Array DictEntry):List Value:=es.toList.map (·.key)
theorem oP{a:Array Value}(h:ItemsOf (λi v=>∃ e,es[i]? = some e/\v=e.key) a es.size):a.toList=jv es:=by
 obtain⟨g,b⟩:=h;refine List.ext_getElem? λj=>?_
 unfold jv;rw[List.getElem?_map,Array.getElem?_toList,Array.getElem?_toList]
 by_cases c:j<a.size
 .obtain⟨e,f,d⟩:=b j _ (Array.getElem?_eq_getElem c)
  rw[Array.getElem?_eq_getElem c,f,d];rfl
 .rw[Array.getElem?_eq_none (by lia),Array.getElem?_eq_none (by lia)];rfl
theorem nQ{Q:List Value->Shared->Prop}(g:A.handled=none)(h:(d == sysModules)=false)(x:DE s.heap d es ep)(i:es.size<=sizeLine)
  (q:∀ h' tk,s.heap.objs.size<h'.objs.size->(∀ b o,s.heap.get? b=some o->h'.get? b=some o)->Q (jv es) { s with heap:=h',toks:=tk }):wpAny (model prog w) A (collect (.ref d)) Q E s:=by
 unfold collect;refine wpAny_bind (wpAny_runValue (codeAny_builtin entry_proto_collect' ?_));show wpAny _ _ (do again (.builtin "list.__iadd__" ⟨[<- newList [],.ref d],[]⟩)) _ _ _;refine wpAny_bind (wpAny_newList (wpAny_pure ⟨Code.quiet_builtin _ (by decide +kernel),codeAny_builtin entry_list_iadd' ?_⟩));have c:=x.lt;refine kdl_extend (R:=λr f=>match r with | Except.ok (Flow.ret v)=>wpAny (model prog w) A (match v with | Value.ref a=>(do let o <- load a;match o.data with | Data.seq xs _=>pure xs.toList | _=>unsupported "internal:collect") | _=>unsupported "internal:collect") Q E f | Except.ok _=>False | Except.error e=>E e f) (s:={ s with heap:=s.heap.push { cls:=.type "list",data:=.seq #[] } }) (yq h) g (x.on λo e=>Heap.get?_push_of_some _ e) s.heap.objs.size (Nat.ne_of_gt c) (Nat.ne_of_gt c) _ 0 (Heap.get?_push_size _ rfl) (λh' tk acc c' hk hS ha=>?_) i
 show wpAny (model prog w) A (do
   let o <- load s.heap.objs.size
   match o.data with
   | .seq xs _=>pure xs.toList
   | _=>unsupported "internal:collect") Q E _
 refine wpAny_bind (wpAny_load hS (wpAny_pure ?_));rw[oP ha];exact q h' tk (Heap.lt_size hS) λb o e=>hk b o (Nat.ne_of_lt (Heap.lt_size e)) (Heap.get?_push_of_some _ e)
end
section
variable {X:Cx}
theorem KT.at{H:Hp}:∀{kvs:List (List Key×V)}{xs:List (List Key×Addr×Value)}{i:Nat}{kv:List Key×V},KT H kvs xs->kvs[i]? = some kv->∃ x,xs[i]? = some x/\H x.2.1=some (.tup (kv.1.map kV))
 | _,_,_,_,.nil,h=>by cases h
 | _,_,0,_,.cons r t,h=>by cases h;exact⟨_,rfl,r.2.1⟩
 | _,_,i+1,_,.cons r t,h=>KT.at (i:=i) t h
theorem hV{vs:List Value}(f:Nat->V):∀{o:List Nat},(∀ i∈o,RelV (f i) (vs.getD i Value.none))->Vals (o.map f) (o.map λi=>vs.getD i Value.none)
 | [],_=>.nil
 | i::o,h=>.cons (h i (mem_cons_self ..)) (hV f λj a=>h j (mem_cons_of_mem _ a))
end
section
variable {X:Cx}{pins:List (Addr×Obj)}{σ:St}{H:Hp}{s:Shared}{a:Addr}{kvs:List (List Key×V)}{o:Obj}
theorem Inv.freeze(I:Inv X pins σ H s)(h:Rd H a (.dT kvs))(r:s.heap.get? a=some o):Inv X pins σ (upd H a (.frz o (.dT kvs))) s:=by
 have l:=h.ok I.hok
 have G:∃ u,H a=some u:=by rcases h with e | ⟨_,e⟩ <;> exact⟨_,e⟩
 have j:∀{b},H b=none->b≠a:=λ{b} e z=>by subst z;obtain⟨u,q⟩:=G;rw[e]at q;cases q
 have k:∀{b d},H b=some (.tup d)->b≠a:=λ{b d} e z=>by subst z;rcases h with q | ⟨_,q⟩ <;> (rw[e]at q;cases q)
 have w:∀{b y},H b=some (.own y)->b≠a:=λ{b y} e z=>by subst z;rcases h with q | ⟨_,q⟩ <;> (rw[e]at q;cases q)
 have C:∀{b i},H b=some (.tbl i)->b≠a:=λ{b i} e z=>by subst z;rcases h with q | ⟨_,q⟩ <;> (rw[e]at q;cases q)
 have D:∀ b u v,H b=some (.frz u v)->(upd H a (.frz o (.dT kvs))) b=some (.frz u v):=λb u v e=>by
  by_cases c:b=a
  .subst c
   rcases h with q | ⟨J,q⟩
   .rw[e]at q;cases q
   .rw[e]at q
    cases q
    obtain⟨g,_⟩:=(show ObjOk X.prog X.w H s.heap b (.frz u (.dT kvs)) from I.hok b _ e)
    rw[r]at g;cases g;exact ad
  .rw[ag c];exact e
 refine⟨I.ok,I.os,I.bare,⟨I.base.keep,I.base.slot,λb u e n E=>?_,I.base.there,λb d e=>?_,λb u v e=>D b u v (I.base.frzs b u v e),λb i e=>?_⟩,I.loc,I.cell,?_,λx c e=>?_,λp hp=>?_,λb u e=>?_,I.len⟩
 .have:=I.base.free b u e n E;rw[ag (j this)];exact this
 .have:=I.base.tups b d e;rw[ag (k this)];exact this
 .obtain⟨f,z⟩:=I.base.tbls b i e;exact⟨f,by rw[ag (C z)];exact z⟩
 .rw[ag (j I.free)];exact I.free
 .rw[ag (j (I.freeC x c e))];exact I.freeC x c e
 .obtain⟨F,A,B⟩:=I.pin p hp;exact⟨F,by rw[ag (j A)];exact A,B⟩
 .by_cases hb:b=a
  .subst hb
   rw[ad]at e;cases e;exact⟨r,l.stay (λ_ _ _ q=>q) (λc q=>by rw[ag (w q)];exact q) λc d q=>by rw[ag (k q)];exact q⟩
  .rw[ag hb]at e
   exact(I.hok b u e).stay (λ_ _ _ q=>q) (λc q=>by rw[ag (w q)];exact q) λc d q=>by rw[ag (k q)];exact q
end
theorem oV{P:Program}{w:World}{H:Hp}{h:Heap}{d:Addr}{o:Obj}{kvs:List (List Key×V)}(f:HOk P w H h)(e:H d=some (.frz o (.dT kvs))):∃ xs es ep,KT H kvs xs/\h.get? d=some o/\o.ExactDict/\o.data=.dict es ep/\es.toList=xs.map (entryOfKey (tupleKind (aW P w)))/\(d == sysModules)=false:=by
 obtain⟨g,z,y,xs,r,j,es,ep,a,b,c,i,k⟩:=(show ObjOk P w H h d (.frz o (.dT kvs)) from f d _ e)
 rw[g]at a;cases a;exact⟨xs,es,ep,r,g,b,c,i,y⟩
section
variable {X:Cx}{pins:List (Addr×Obj)}{σ:St}{H:Hp}{s:Shared}{a:Addr}{kvs:List (Key×V)}{o:Obj}
theorem Inv.freezeK(I:Inv X pins σ H s)(h:H a=some (.dK kvs))(w:s.heap.get? a=some o):Inv X pins σ (upd H a (.frz o (.dK kvs))) s:=by
 have k:ObjOk X.prog X.w H s.heap a (.dK kvs):=I.hok a _ h;have i:∀{b},H b=none->b≠a:=λ{b} e z=>by subst z;rw[e]at h;cases h
 have j:∀{b d},H b=some (.tup d)->b≠a:=λ{b d} e z=>by subst z;rw[e]at h;cases h
 have l:∀{b y},H b=some (.own y)->b≠a:=λ{b y} e z=>by subst z;rw[e]at h;cases h
 have D:∀{b g},H b=some (.tbl g)->b≠a:=λ{b g} e z=>by subst z;rw[e]at h;cases h
 have E:∀ b u v,H b=some (.frz u v)->(upd H a (.frz o (.dK kvs))) b=some (.frz u v):=λb u v e=>by
  rw[ag (λc=>by subst c;rw[e]at h;cases h)];exact e
 refine⟨I.ok,I.os,I.bare,⟨I.base.keep,I.base.slot,λb u e n C=>?_,I.base.there,λb d e=>?_,λb u v e=>E b u v (I.base.frzs b u v e),λb g e=>?_⟩,I.loc,I.cell,?_,λx c e=>?_,λp hp=>?_,λb u e=>?_,I.len⟩
 .have:=I.base.free b u e n C;rw[ag (i this)];exact this
 .have:=I.base.tups b d e;rw[ag (j this)];exact this
 .obtain⟨f,z⟩:=I.base.tbls b g e;exact⟨f,by rw[ag (D z)];exact z⟩
 .rw[ag (i I.free)];exact I.free
 .rw[ag (i (I.freeC x c e))];exact I.freeC x c e
 .obtain⟨B,r,A⟩:=I.pin p hp;exact⟨B,by rw[ag (i r)];exact r,A⟩
 .by_cases hb:b=a
  .subst hb
   rw[ad]at e;cases e;exact⟨w,k.stay (λ_ _ _ q=>q) (λc q=>by rw[ag (l q)];exact q) λc d q=>by rw[ag (j q)];exact q⟩
  .rw[ag hb]at e
   exact(I.hok b u e).stay (λ_ _ _ q=>q) (λc q=>by rw[ag (l q)];exact q) λc d q=>by rw[ag (j q)];exact q
end
def Itk(d:Addr)(o:Obj)(kvs:List (Key×V)):It :=
 ⟨λi H=>H d=some (.frz o (.dK kvs))/\i<kvs.length,λi H x H'=>H'=H/\∃ kv,kvs[i]? = some kv/\x=kV kv.1,λi H=>H d=some (.frz o (.dK kvs))/\kvs.length<=i⟩
theorem pj{P:Program}{w:World}{H:Hp}{h:Heap}{d:Addr}{o:Obj}{kvs:List (Key×V)}(i:HOk P w H h)(e:H d=some (.frz o (.dK kvs))):∃ vs es ep,KV kvs vs/\h.get? d=some o/\o.ExactDict/\o.data=.dict es ep/\(d == sysModules)=false/\h.DictOf (aW P w) d vs:=by
 obtain⟨g,z,y,vs,r,b⟩:=(show ObjOk P w H h d (.frz o (.dK kvs)) from i d _ e)
 obtain⟨j,es,ep,a,c,f,k⟩:=id b;rw[g]at a;cases a;exact⟨vs,es,ep,r,g,c,f,y,b⟩
theorem AV{k:Key}{v:Value}(h:jF k v=true):RelV (kV k) v:=by
 rcases bw h with⟨i,t,rfl,rfl⟩ | ⟨x,t,rfl,rfl⟩
 .exact⟨t,rfl⟩
 .exact⟨t,rfl⟩
theorem wT{P:Program}{w:World}{K:Frag}{tg:Expr}{d p:Addr}{o:Obj}{kvs:List (Key×V)}{es:Array DictEntry}{ep:Nat}(a:o.data=.dict es ep)(hsz:es.size=kvs.length):Turn P w K tg (Itk d o kvs) [p] p (λi h=>h.IsKeyIter p d i es.size ep) where
 mem:=mem_cons_self ..
 obj:=λi h j b n=>by
  have e:b=p:=mem_singleton.mp n;subst e;obtain⟨o,e,c,d⟩:=j;exact⟨o,e,λv z=>by rw[d]at z;cases z⟩
 keep:=λi h F j k=>j.at λo e=>k p (mem_cons_self ..) o e
 item:=by
  intro X R J hK hc i l s σ H E I B j T;subst R J hK;obtain⟨hd,Q⟩:=T;obtain⟨u,ac,N,q,G,Z,y,g5,⟨o',an,al,k1,k2,k3,k4,k5,k6⟩⟩:=pj I.hok hd;have e0:=a.symm.trans y;cases e0;rw[G]at k1;cases k1;have e1:=a.symm.trans k3;cases e1;obtain⟨M,f1,f2,L,Y,W⟩:=B p (mem_cons_self ..)
  obtain⟨f,hkv⟩:∃ f,kvs[i]? = some f:=⟨_,List.getElem?_eq_getElem Q⟩
  obtain⟨e,he⟩:∃ e,es[i]? = some e:=⟨_,Array.getElem?_eq_getElem (by lia)⟩
  obtain⟨g,hvk⟩:∃ g,u[i]? = some g:=⟨_,List.getElem?_eq_getElem (by rw[<- q.length];exact Q)⟩
  have x:(aW X.prog X.w).is f.1 e.key=true:=by
   have D:=(Pairs.get? k5 (i:=i) (e:=e) (k:=g.1) (v:=g.2) (by simpa using he) hvk).1
   have C:f.1=g.1:=by
    have ab:∀{kvs:List (Key×V)}{u:List (Key×Value)}{i:Nat}{f:Key×V}{g:Key×Value},KV kvs u->kvs[i]? = some f->u[i]? = some g->f.1=g.1:=by
     intro kvs u i f g r;unfold KV at r
     induction r generalizing i with
     | nil=>intro h;cases h
     | cons r _ ih =>
      intro D C;cases i with
      | zero=>cases D;cases C;exact r.1
      | succ i=>exact ih D C
    exact ab q hkv hvk
   rw[C];exact D
  refine pF j ⟨o,G,Z,y⟩ he λF A sb=>?_
  have I1:Inv X l σ H { s with heap:=F }:=I.turned (t':=s.toks) (λb o n e=>(sb.2 b n).trans e) M f1 L Y W;obtain⟨oi,e2,c,dd⟩:=id A;exact⟨_,rfl,km (s:={ s with heap:=F }) e2 c dd (by decide) ⟨kV f.1,H,I1,AV x,⟨rfl,f,hkv,rfl⟩,A,λb n=>(B b n).1⟩⟩
 done:=by
  intro X R J hK hc i l s σ H E I B j T;subst R J hK;obtain⟨hd,Q⟩:=T;obtain⟨u,ac,N,q,G,Z,y,g5,_⟩:=pj I.hok hd;have e0:=a.symm.trans y;cases e0;obtain⟨M,f1,f2,L,Y,W⟩:=B p (mem_cons_self ..)
  exact uA (I.ok.hd hc) j ⟨o,G,Z,y⟩ (by lia) λF eb=>⟨rfl,I.turned (t':=s.toks) (λb o n e=>eb b o n e) M f1 L Y W⟩
 self:=λ_ _ _ _ _ j h=>wpAny_pyIter_keyiter j h
theorem AN{X:Cx}{tg e:Expr}{n:TE}(J:PE X e n):PI X tg e (λσ H R=>n σ H λx H1=>∃ d kvs,x=.ref d/\H1 d=some (.dK kvs)/\∀ o,R (Itk d o kvs) (upd H1 d (.frz o (.dK kvs)))):=by
 intro c s σ H R I h;refine thn (J c s σ H _ I h) λv a ⟨x,H1,r,B,d,kvs,z,u,q⟩=>?_
 subst z;obtain rfl:v=Value.ref d:=B
 obtain⟨o,ho⟩:∃ o,a.heap.get? d=some o:=by
  obtain⟨_,_,p,_,o,_,_,g,_⟩:=(show ObjOk X.prog X.w H1 a.heap d (.dK kvs) from r.hok d _ u)
  exact⟨o,g⟩
 have f:=r.freezeK u ho;obtain⟨p,l,T,j,y,D,k,F,⟨Q,G,E,w,W,C,N,A,P⟩⟩:=pj f.hok ad;rw[y]at w;cases w;have K:=k.symm.trans C;cases K
 have i:l.size=kvs.length:=by
  have L:=A.length;have Y:l.toList.length=l.size:=by simp
  have M:kvs.length=p.length:=j.length;lia
 refine qa F ⟨o,y,D,k⟩ ?_;refine⟨a.heap.objs.size,[a.heap.objs.size],_,_,_,rfl,f.kept (t':=a.toks) λb o e=>Heap.get?_push_of_some _ e,wT k i,⟨_,Heap.get?_push_size _ rfl,rfl,rfl⟩,λb hb=>?_,q o⟩;have e:b=a.heap.objs.size:=mem_singleton.mp hb;subst e;exact f.fpOk (Nat.le_refl _) (f.hok.fresh (Nat.le_refl _))
theorem wU{D:Addr}{c:St}{g:TG}{h:TT}{j:TE}{Q:Hp->List V->Prop}{H:Hp}{d:Addr}{o:Obj}{kvs:List (Key×V)}(Pv:Nat->List V->Hp->Prop)(h0:Pv 0 [] H)(n:∀ i ys H,Pv i ys H->H d=some (.frz o (.dK kvs)))(k:∀ i ys H,Pv i ys H->H D=some (.lst ys))
  (r:∀(i:Nat) kv ys H P,kvs[i]? = some kv->Pv i ys H->(∀ a b,Pv (i+1) a b->P a b)->qi D c g h j (kV kv.1) ys H P) (l:∀ ys H,Pv kvs.length ys H->Q H ys):∃ W,(∃ m,W 0 m [] H)/\ju (Itk d o kvs) D c g h j Q W:=by
 refine⟨λi m ys H=>m=kvs.length - i/\i<=kvs.length/\Pv i ys H,⟨_,rfl,Nat.zero_le _,h0⟩,?_⟩;rintro i m ys H ⟨rfl,u,p⟩;refine⟨k i ys H p,?_⟩;have q:=n i ys H p
 by_cases hlt:i<kvs.length
 .refine .inr ⟨⟨q,hlt⟩,λx s y=>?_⟩
  obtain⟨rfl,kv,f,rfl⟩:=y;exact r i kv ys _ (λa b=>∃ m',m'<kvs.length - i/\m'=kvs.length - (i+1)/\i+1<=kvs.length/\Pv (i+1) a b) f p (λa b q=>⟨kvs.length - (i+1),by lia,rfl,hlt,q⟩)
 .have e:i=kvs.length:=by lia
  subst e;exact .inl ⟨⟨q,Nat.le_refl _⟩,l ys H p⟩
end L2
namespace Du
open FrM
def fr(q:Rat):Int×Int:=(q.num,(q.den:Int))
theorem gm(n:Int){d:Nat}(a:d≠0):hI n (d:Int)=fr (mkRat n d):=by
 unfold hI fr;rw[Rat.num_mkRat,Rat.den_mkRat,if_neg a,if_neg a];have e:Int.gcd n (d:Int)=d.gcd n.natAbs:=by rw[Int.gcd,Nat.gcd_comm];rfl
 rw[e];rfl
theorem pH(t:Int){b:Int}(a:0<b):hI t b=fr ((t:Rat)/(b:Rat)):=by
 obtain⟨d,rfl⟩:=Int.eq_ofNat_of_zero_le (Int.le_of_lt a);rw[gm t (by omega),<- Rat.divInt_eq_div,<- Rat.divInt_ofNat]
theorem we(p q:Rat):hI (p.num*(q.den:Int)+q.num*(p.den:Int)) ((p.den:Int)*(q.den:Int))=fr (p+q):=by
 rw[Rat.add_def',<- gm _ (Nat.mul_ne_zero p.den_nz q.den_nz)];simp
theorem wX(p q:Rat):hI (p.num*q.num) ((p.den:Int)*(q.den:Int))=fr (p*q):=by
 rw[Rat.mul_def',<- gm _ (Nat.mul_ne_zero p.den_nz q.den_nz)];simp
def Bq(D:Nat)(q:Rat):Prop:=0<=q/\q<=1/\∃ n:Nat,q*(D:Rat)=(n:Rat)
theorem uh{D:Nat}(h:0<D):(0:Rat)<(D:Rat):=by exact_mod_cast h
theorem AL{D:Nat}{q:Rat}{n:Int}(a:0<D)(e:q*(D:Rat)=(n:Rat)):q=mkRat n D:=by
 have b:=uh a;have:q=(n:Rat)/(D:Rat):=by grind
 rw[this,<- Rat.divInt_ofNat,Rat.divInt_eq_div];rfl
theorem kP{a b:Rat}(c:0<=a)(d:0<=b):0<=a*b:=Rat.mul_nonneg c d
section
variable {B:Nat}{h c:Rat}
end
end Du
namespace Tb
open FrM Du
inductive Tr where
 | leaf (ns:List Int)
 | die (ps:List (Int×Tr))
def tot(ps:List (Int×Tr)):Int:=(ps.map (·.1)).sum
mutual
def lv:Tr->Nat
 | .leaf _=>1
 | .die ps=>lvs ps
def lvs:List (Int×Tr)->Nat
 | []=>0
 | (_,u)::r=>lv u+lvs r
end
mutual
def sz:Tr->Nat
 | .leaf _=>1
 | .die ps=>szs ps+1
def szs:List (Int×Tr)->Nat
 | []=>0
 | (_,u)::r=>sz u+szs r
end
mutual
def Ok:Tr->Prop
 | .leaf ns=>ns.Nodup/\ns.length<=12
 | .die ps=>ps≠[]/\Oks ps
def Oks:List (Int×Tr)->Prop
 | []=>True
 | (m,u)::r=>1<=m/\Ok u/\Oks r
end
abbrev Way:=List Int×(Int×Int)
mutual
def wl:Tr->Int->Int->List Way
 | .leaf ns,t,b=>[(ns,(t,b))]
 | .die ps,t,b=>wls ps t b (tot ps)
def wls:List (Int×Tr)->Int->Int->Int->List Way
 | [],_,_,_=>[]
 | (m,u)::r,t,b,S=>wls r t b S++wl u (t*m) (b*S)
end
abbrev Ent:=Tr×(Int×Int)
def st:List Ent->List Way
 | []=>[]
 | (u,(t,b))::r=>st r++wl u t b
def stL:List Ent->Nat
 | []=>0
 | (u,_)::r=>stL r+lv u
def stS:List Ent->Nat
 | []=>0
 | (u,_)::r=>stS r+sz u
theorem kZ:∀(a b:List Ent),st (a++b)=st b++st a
 | [],b=>by simp[st]
 | (u,(t,c))::a,b=>by rw[cons_append,st,kZ a b,st,append_assoc]
theorem stS_app:∀(a b:List Ent),stS (a++b)=stS a+stS b
 | [],b=>by simp[stS]
 | (u,c)::a,b=>by rw[cons_append,stS,stS_app a b,stS];lia
def kids(ps:List (Int×Tr))(t b S:Int):List Ent:=ps.map λp=>(p.2,(t*p.1,b*S))
theorem pS(t b S:Int):∀ ps:List (Int×Tr),st (kids ps t b S)=wls ps t b S
 | []=>rfl
 | (m,u)::r=>by
  have a:=pS t b S r;unfold kids at *;rw[map_cons,st,a,wls]
theorem stS_kids(t b S:Int):∀ ps:List (Int×Tr),stS (kids ps t b S)=szs ps
 | []=>rfl
 | (m,u)::r=>by
  have a:=stS_kids t b S r;unfold kids at *;rw[map_cons,stS,a,szs];lia
mutual
theorem uM:∀ t:Tr,Ok t->1<=lv t
 | .leaf _,_=>by simp[lv]
 | .die ps,h=>by rw[lv];rw[Ok]at h;exact wV ps h.2 h.1
theorem wV:∀ ps:List (Int×Tr),Oks ps->ps≠[]->1<=lvs ps
 | [],_,h=>absurd rfl h
 | (m,u)::r,h,_=>by rw[Oks]at h;rw[lvs];have:=uM u h.2.1;lia
end
def StOk(s:List Ent):Prop:=∀ e∈s,Ok e.1
theorem pR:∀ s:List Ent,StOk s->s.length<=stL s
 | [],_=>Nat.le_refl _
 | (u,c)::r,h=>by
  have:=pR r λe a=>h e (mem_cons_of_mem _ a)
  have:=uM u (h _ mem_cons_self);rw[stL,length_cons];lia
theorem pK:∀{ps:List (Int×Tr)},Oks ps->∀ p∈ps,1<=p.1/\Ok p.2
 | (m,u)::r,h,p,hp=>by
  rw[Oks]at h
  rcases mem_cons.mp hp with rfl | hp
  .exact⟨h.1,h.2.1⟩
  .exact pK h.2.2 p hp
theorem StOk.kids{ps:List (Int×Tr)}{t b S:Int}(h:Oks ps):StOk (kids ps t b S):=λe a=>by
 obtain⟨p,c,rfl⟩:=mem_map.mp a;exact(pK h p c).2
mutual
theorem wl_len:∀(t:Tr) (a b:Int),(wl t a b).length=lv t
 | .leaf _,_,_=>rfl
 | .die ps,a,b=>by rw[wl,lv];exact qF ps a b _
theorem qF:∀(ps:List (Int×Tr)) (a b S:Int),(wls ps a b S).length=lvs ps
 | [],_,_,_=>rfl
 | (m,u)::r,a,b,S=>by rw[wls,lvs,length_append,qF r,wl_len u];lia
end
structure Wk(t:Tr)(ways:List Way)(s:List Ent):Prop where
 all:ways++st s=wl t 1 1
 ok:StOk s
theorem Wk.start{t:Tr}(h:Ok t):Wk t [] [(t,(1,1))]:=⟨by simp[st],λe a=>by cases mem_singleton.mp a;exact h⟩
theorem Wk.leaf{t:Tr}{c:List Way}{s:List Ent}{d:List Int}{a b:Int}(h:Wk t c (s++[(.leaf d,(a,b))])):Wk t (c++[(d,(a,b))]) s:=by
 refine⟨?_,λe f=>h.ok e (mem_append_left _ f)⟩;have:=h.all;rw[kZ]at this;rw[append_assoc];exact this
theorem Wk.die{t:Tr}{c:List Way}{s:List Ent}{ps:List (Int×Tr)}{a b:Int}(h:Wk t c (s++[(.die ps,(a,b))])):Wk t c (s++kids ps a b (tot ps)):=by
 have o:=h.ok _ (mem_append_right _ mem_cons_self);rw[Ok]at o;refine⟨?_,λe he=>?_⟩
 .rw[kZ,pS]
  have:=h.all;rw[kZ]at this;simpa[st,wl] using this
 .rcases mem_append.mp he with he | he
  .exact h.ok e (mem_append_left _ he)
  .exact StOk.kids o.2 e he
theorem tm:∀ s:List Ent,(st s).length=stL s
 | []=>rfl
 | (u,(a,b))::r=>by rw[st,stL,length_append,tm r,wl_len]
theorem Wk.few{t:Tr}{a:List Way}{s:List Ent}(h:Wk t a s):a.length+s.length<=lv t:=by
 have e:=congrArg List.length h.all;rw[length_append,tm,wl_len]at e;have:=pR s h.ok;lia
theorem Wk.done{t:Tr}{a:List Way}(h:Wk t a []):a=wl t 1 1:=by have:=h.all;simpa[st] using this
abbrev Rws:=List (List Int×Rat)
def bQ(W:Rws)(k:List Int):Rat:=((W.filter λw=>decide (w.1=k)).map (·.2)).sum
theorem gF{k:List Int}:bQ [] k=0:=rfl
theorem aM{w:List Int×Rat}{W:Rws}{k:List Int}:bQ (w::W) k=(if w.1=k then w.2 else 0)+bQ W k:=by
 unfold bQ;rw[List.filter_cons]
 by_cases h:w.1=k
 .rw[if_pos (decide_eq_true h),if_pos h,map_cons,sum_cons]
 .rw[if_neg (by simp[h]),if_neg h];grind
theorem uJ{A B:Rws}{k:List Int}:bQ (A++B) k=bQ A k+bQ B k:=by
 induction A with
 | nil=>rw[nil_append,gF];grind
 | cons w A ih=>rw[cons_append,aM,aM,ih];grind
theorem ke{A B:Rws}{k:List Int}(h:A.Perm B):bQ A k=bQ B k:=by
 induction h with
 | nil=>rfl
 | cons x _ ih=>rw[aM,aM,ih]
 | swap x y l=>rw[aM,aM,aM,aM];grind
 | trans _ _ a b=>rw[a,b]
theorem jh{W:Rws}{k:List Int}(h:k ∉ W.map (·.1)):bQ W k=0:=by
 induction W with
 | nil=>rfl
 | cons w W ih =>
  rw[map_cons,mem_cons,not_or]at h;rw[aM,if_neg (λe=>h.1 e.symm),ih h.2];grind
def addR(k:List Int)(m:Rat):Rws->Rws
 | []=>[(k,m)]
 | x::r=>if x.1=k then (k,x.2+m)::r else x::addR k m r
def getR:Rws->List Int->Rat
 | [],_=>0
 | x::r,k=>if x.1=k then x.2 else getR r k
def NdR(st:Rws):Prop:=(st.map (·.1)).Nodup
theorem ij(k:List Int)(m:Rat):∀ st:Rws,(addR k m st).map (·.1)=if k∈st.map (·.1) then st.map (·.1) else st.map (·.1)++[k]
 | []=>by simp[addR]
 | x::r=>by
  rw[addR]
  by_cases c:x.1=k
  .rw[if_pos c];simp[c]
  .rw[if_neg c,map_cons,ij k m r,map_cons]
   have a:¬k=x.1:=λe=>c e.symm
   by_cases d:k∈r.map (·.1)
   .rw[if_pos d,if_pos (mem_cons_of_mem _ d)]
   .rw[if_neg d,if_neg (by simp only[mem_cons,not_or];exact⟨a,d⟩)];rfl
theorem NdR.add{k:List Int}{m:Rat}{st:Rws}(h:NdR st):NdR (addR k m st):=by
 unfold NdR at *;rw[ij]
 split
 .exact h
 .rename_i n
  exact nodup_append.mpr ⟨h,by simp,λa d b c e=>n (by rw[mem_singleton]at c;rw[<- c,<- e];exact d)⟩
theorem nj{k a:List Int}{m:Rat}:∀{st:Rws},bQ (addR k m st) a=bQ st a+if k=a then m else 0
 | []=>by rw[addR,aM,gF];grind
 | x::r=>by
  rw[addR]
  by_cases c:x.1=k
  .rw[if_pos c,aM,aM]
   show(if k=a then x.2+m else 0)+bQ r a=_
   rw[c];split <;> grind
  .rw[if_neg c,aM,aM,nj];grind
def adds(W:Rws):Rws:=W.foldl (λst w=>addR w.1 w.2 st) []
theorem qZ(st:Rws):∀(W:Rws) (k:List Int),bQ (W.foldl (λst w=>addR w.1 w.2 st) st) k=bQ st k+bQ W k:=by
 intro W
 induction W generalizing st with
 | nil=>intro k;rw[List.foldl_nil,gF];grind
 | cons w W ih=>intro k;rw[foldl_cons,ih,nj,aM];grind
theorem eV(W:Rws)(k:List Int):bQ (adds W) k=bQ W k:=by
 unfold adds;rw[qZ,gF];grind
theorem vA(st:Rws)(h:NdR st):∀ W:Rws,NdR (W.foldl (λst w=>addR w.1 w.2 st) st):=by
 intro W
 induction W generalizing st with
 | nil=>exact h
 | cons w W ih=>exact ih _ h.add
theorem adds_nd(W:Rws):NdR (adds W):=vA [] nodup_nil W
theorem oK(st:Rws):∀(W:Rws) (k:List Int),k∈(W.foldl (λst w=>addR w.1 w.2 st) st).map (·.1)↔k∈st.map (·.1)\/k∈W.map (·.1):=by
 intro W
 induction W generalizing st with
 | nil=>intro k;simp
 | cons w W ih =>
  intro k;rw[foldl_cons,ih,ij,map_cons,mem_cons]
  split
  .rename_i h
   constructor
   .rintro(a | a)
    .exact .inl a
    .exact .inr (.inr a)
   .rintro(a | a | a)
    .exact .inl a
    .exact .inl (by rw[a];exact h)
    .exact .inr a
  .rw[mem_append,mem_singleton]
   constructor
   .rintro((a | a) | a)
    .exact .inl a
    .exact .inr (.inl a)
    .exact .inr (.inr a)
   .rintro(a | a | a)
    .exact .inl (.inl a)
    .exact .inl (.inr a)
    .exact .inr a
theorem dQ(W:Rws)(k:List Int):k∈(adds W).map (·.1)↔k∈W.map (·.1):=by
 unfold adds;rw[oK];simp
theorem gU{st:Rws}(a:NdR st):∀ x∈st,bQ st x.1=x.2:=by
 induction st with
 | nil=>intro x hx;cases hx
 | cons y r ih =>
  intro x hx;unfold NdR at a;rw[map_cons,nodup_cons]at a;rw[aM]
  rcases mem_cons.mp hx with rfl | hx
  .rw[if_pos rfl,jh a.1];grind
  .have e:=ih a.2 x hx
   rw[if_neg (λz=>a.1 (by rw[z];exact mem_map.mpr ⟨x,hx,rfl⟩)),e];grind
abbrev Grp:=List (List Int×List (Int×Int))
def pushG(k:List Int)(c:Int×Int):Grp->Grp
 | []=>[(k,[c])]
 | x::r=>if x.1=k then (k,x.2++[c])::r else x::pushG k c r
def grp(W:List Way):Grp:=W.foldl (λg w=>pushG w.1 w.2 g) []
def qv(c:Int×Int):Rat:=(c.1:Rat)/(c.2:Rat)
def sumQ(l:List (Int×Int)):Rat:=(l.map qv).sum
def rat(g:Grp):Rws:=g.map λx=>(x.1,sumQ x.2)
def toR(W:List Way):Rws:=W.map λw=>(w.1,qv w.2)
theorem mh(k:List Int)(c:Int×Int):∀ g:Grp,rat (pushG k c g)=addR k (qv c) (rat g)
 | []=>by
  show [(k,sumQ [c])]=[(k,qv c)];unfold sumQ;simp only[map_cons,map_nil,sum_cons,sum_nil];have:qv c+0=qv c:=by grind
  rw[this]
 | x::r=>by
  rw[pushG]
  by_cases h:x.1=k
  .rw[if_pos h]
   show(k,sumQ (x.2++[c]))::rat r=addR k (qv c) ((x.1,sumQ x.2)::rat r);rw[addR,if_pos h];have:sumQ (x.2++[c])=sumQ x.2+qv c:=by unfold sumQ;rw[map_append,List.sum_append];simp only[map_cons,map_nil,sum_cons,sum_nil];grind
   rw[this]
  .rw[if_neg h]
   show(x.1,sumQ x.2)::rat (pushG k c r)=addR k (qv c) ((x.1,sumQ x.2)::rat r);rw[addR,if_neg h,mh k c r]
theorem um(g:Grp):∀ W:List Way,rat (W.foldl (λg w=>pushG w.1 w.2 g) g)=(toR W).foldl (λst w=>addR w.1 w.2 st) (rat g):=by
 intro W
 induction W generalizing g with
 | nil=>rfl
 | cons w W ih =>
  rw[foldl_cons,ih,mh];rfl
theorem rat_grp(W:List Way):rat (grp W)=adds (toR W):=um [] W
theorem grp_snoc{W:List Way}{i:Nat}{w:Way}(h:W[i]? = some w):grp (W.take (i+1))=pushG w.1 w.2 (grp (W.take i)):=by
 unfold grp;rw[take_add_one,h,List.foldl_append];rfl
mutual
def wf:Tr->Rat->Rws
 | .leaf ns,q=>[(ns,q)]
 | .die ps,q=>wfs ps q (tot ps)
def wfs:List (Int×Tr)->Rat->Int->Rws
 | [],_,_=>[]
 | (m,u)::r,q,S=>wf u (q*((m:Rat)/(S:Rat)))++wfs r q S
end
theorem zW{a b m S:Int}(d:b≠0)(g:S≠0):qv (a*m,b*S)=qv (a,b)*((m:Rat)/(S:Rat)):=by
 unfold qv;have f:(b:Rat)≠0:=by exact_mod_cast d
 have c:(S:Rat)≠0:=by exact_mod_cast g
 simp only[Rat.intCast_mul]
 grind
theorem oks_tot:∀{ps:List (Int×Tr)},Oks ps->(ps.length:Int)<=tot ps
 | [],_=>by simp[tot]
 | (m,u)::r,h=>by
  rw[Oks]at h;have:=oks_tot h.2.2;unfold tot at *;rw[map_cons,sum_cons,length_cons];have:=h.1;show((r.length+1:Nat):Int)<=m+_;lia
mutual
theorem yk:∀(t:Tr) (a b:Int),Ok t->0<b->(toR (wl t a b)).Perm (wf t (qv (a,b)))
 | .leaf ns,a,b,_,_=>by rw[wl,wf];exact .refl _
 | .die ps,a,b,h,hb=>by
  rw[Ok]at h;rw[wl,wf];have:=oks_tot h.2;have:0<ps.length:=length_pos_iff.mpr h.1;exact sY ps a b (tot ps) h.2 hb (by lia)
theorem sY:∀(ps:List (Int×Tr)) (a b S:Int),Oks ps->0<b->0<S->(toR (wls ps a b S)).Perm (wfs ps (qv (a,b)) S)
 | [],_,_,_,_,_,_=>by rw[wls,wfs];exact .refl _
 | (m,u)::r,a,b,S,h,hb,hS=>by
  rw[Oks]at h;rw[wls,wfs];have e:toR (wls r a b S++wl u (a*m) (b*S))=toR (wls r a b S)++toR (wl u (a*m) (b*S)):=by unfold toR;rw[map_append]
  rw[e,<- zW (by lia) (by lia)];exact(perm_append_comm).trans ((yk u _ _ h.2.1 (Int.mul_pos hb hS)).append (sY r a b S h.2.2 hb hS))
end
end Tb
namespace LexM
def aH:List Int->List Int->Bool
 | [],[]=>false
 | [],_::_=>true
 | _::_,[]=>false
 | x::xs,y::ys=>if x=y then aH xs ys else decide (x<y)
theorem lN:∀ a,aH a a=false
 | []=>rfl
 | x::xs=>by rw[aH,if_pos rfl];exact lN xs
theorem jg:∀ a b,aH a b=true->aH b a=false
 | [],[],h=>by cases h
 | [],_::_,_=>rfl
 | _::_,[],h=>by cases h
 | x::xs,y::ys,h=>by
  rw[aH]at h ⊢
  by_cases e:x=y
  .rw[if_pos e]at h;rw[if_pos e.symm];exact jg xs ys h
  .rw[if_neg e]at h;rw[if_neg (λz=>e z.symm)]
   have:=of_decide_eq_true h;exact decide_eq_false (by omega)
theorem kH:∀ a b,a≠b->aH a b=true\/aH b a=true
 | [],[],h=>absurd rfl h
 | [],_::_,_=>.inl rfl
 | _::_,[],_=>.inr rfl
 | x::xs,y::ys,h=>by
  rw[aH,aH]
  by_cases e:x=y
  .rw[if_pos e,if_pos e.symm]
   exact kH xs ys λz=>h (by rw[e,z])
  .rw[if_neg e,if_neg (λz=>e z.symm)]
   rcases Int.lt_or_gt_of_ne e with z | z
   .exact .inl (decide_eq_true z)
   .exact .inr (decide_eq_true z)
theorem im:∀ a b c,aH a b=true->aH b c=true->aH a c=true
 | [],[],_,h,_=>by cases h
 | [],_::_,[],_,h=>by cases h
 | [],_::_,_::_,_,_=>rfl
 | _::_,[],_,h,_=>by cases h
 | _::_,_::_,[],_,h=>by cases h
 | x::xs,y::ys,z::zs,h,k=>by
  rw[aH]at h k ⊢
  by_cases e:x=y
  .rw[if_pos e]at h
   by_cases e2:y=z
   .rw[if_pos e2]at k;rw[if_pos (e.trans e2)];exact im xs ys zs h k
   .rw[if_neg e2]at k;rw[if_neg (λq=>e2 (by omega))]
    have:=of_decide_eq_true k;exact decide_eq_true (by omega)
  .rw[if_neg e]at h
   have h:=of_decide_eq_true h
   by_cases e2:y=z
   .rw[if_neg (by omega)];exact decide_eq_true (by omega)
   .rw[if_neg e2]at k
    have k:=of_decide_eq_true k;rw[if_neg (by omega)];exact decide_eq_true (by omega)
end LexM
namespace Tb
open FrM Du LexM
def so(l:List Int):List Int:=l.mergeSort (λa b=>decide (a<=b))
theorem so_perm(l:List Int):(so l).Perm l:=List.mergeSort_perm l _
theorem lQ(l:List Int):(so l).Pairwise (·<=·):=by
 have h:=List.pairwise_mergeSort (le:=λ(a b:Int)=>decide (a<=b)) (by intro a b c h1 h2;simp at *;lia) (by intro a b;simp;lia) l;exact h.imp λh=>by simpa using h
theorem i9:∀{a b:List Int},a.Perm b->a.Pairwise (·<=·)->b.Pairwise (·<=·)->a=b
 | [],b,p,_,_=>(List.nil_perm.mp p).symm ▸ rfl
 | x::a,[],p,_,_=>absurd p.length_eq (by simp)
 | x::a,y::b,p,h1,h2=>by
  rw[pairwise_cons]at h1 h2
  have e:x=y:=by
   have d:x∈y::b:=p.mem_iff.mp mem_cons_self;have c:y∈x::a:=p.mem_iff.mpr mem_cons_self
   rcases mem_cons.mp d with z | z
   .exact z
   .rcases mem_cons.mp c with z' | z'
    .exact z'.symm
    .have:=h2.1 x z
     have:=h1.1 y z';lia
  subst e;rw[i9 (List.perm_cons x |>.mp p) h1.2 h2.2]
theorem so_uniq{a l:List Int}(h:a.Perm l)(s:a.Pairwise (·<=·)):a=so l:=i9 (h.trans (so_perm l).symm) s (lQ l)
def kW(W:List Way):List Way:=W.map λw=>(so w.1,w.2)
def kR(W:Rws):Rws:=W.map λw=>(so w.1,w.2)
theorem yx(W:List Way):toR (kW W)=kR (toR W):=by unfold toR kW kR;rw[map_map,map_map];rfl
def kt(t:Tr):Rws:=kR (wf t 1)
theorem kt_perm{t:Tr}(h:Ok t):(toR (kW (wl t 1 1))).Perm (kt t):=by
 rw[yx];have:=yk t 1 1 h (by decide);have e:qv (1,1)=1:=by unfold qv;grind
 rw[e]at this;exact this.map _
structure IsTab(W R:Rws):Prop where
 pm:R.Perm (adds W)
 up:(R.map (·.1)).Pairwise λa b=>aH a b=true
theorem kX:∀{a b:List (List Int)},(a.Pairwise λx y=>aH x y=true)->(b.Pairwise λx y=>aH x y=true)->(∀ x,x∈a↔x∈b)->a=b
 | [],[],_,_,_=>rfl
 | [],y::b,_,_,h=>absurd ((h y).mpr mem_cons_self) (by simp)
 | x::a,[],_,_,h=>absurd ((h x).mp mem_cons_self) (by simp)
 | x::a,y::b,h1,h2,h=>by
  rw[pairwise_cons]at h1 h2
  have e:x=y:=by
   rcases mem_cons.mp ((h x).mp mem_cons_self) with z | z
   .exact z
   .rcases mem_cons.mp ((h y).mpr mem_cons_self) with z' | z'
    .exact z'.symm
    .have d:=jg _ _ (h2.1 x z)
     rw[h1.1 y z']at d;cases d
  subst e
  have:a=b:=kX h1.2 h2.2 λz=>by
   have c:=h z;rw[mem_cons,mem_cons]at c
   constructor
   .intro m
    rcases c.mp (.inr m) with e | e
    .have:=h1.1 z m;rw[e,lN]at this;cases this
    .exact e
   .intro m
    rcases c.mpr (.inr m) with e | e
    .have:=h2.1 z m;rw[e,lN]at this;cases this
    .exact e
  rw[this]
theorem IsTab.keys{W R:Rws}(h:IsTab W R)(k:List Int):k∈R.map (·.1)↔k∈W.map (·.1):=by
 rw[<- dQ W k];exact(h.pm.map _).mem_iff
theorem IsTab.val{W R:Rws}(h:IsTab W R){x:List Int×Rat}(a:x∈R):x.2=bQ W x.1:=by
 rw[<- eV,gU (adds_nd W) x (h.pm.mem_iff.mp a)]
theorem IsTab.eqv{W R:Rws}(h:IsTab W R):R=(R.map (·.1)).map λk=>(k,bQ W k):=by
 rw[map_map]
 have:∀ x∈R,x=((λk=>(k,bQ W k)) ∘ λx=>x.1) x:=λx hx=>by
  show x=(x.1,bQ W x.1);rw[<- h.val hx]
 conv=>lhs;rw[<- map_id R]
 exact map_congr_left this
theorem IsTab.uniq{W b R a:Rws}(p:W.Perm b)(h:IsTab W R)(h':IsTab b a):R=a:=by
 have e:R.map (·.1)=a.map (·.1):=kX h.up h'.up λk=>by rw[h.keys,h'.keys];exact(p.map _).mem_iff
 rw[h.eqv,h'.eqv,e];exact map_congr_left λk _=>by rw[ke p]
theorem tab_of{g:Rws}{o:List Nat}(u:NdR g)(l:o.Perm (List.range g.length))(B:o.Pairwise λi j=>aH ((g.map (·.1)).getD j []) ((g.map (·.1)).getD i [])=false) :
  (o.map λi=>g.getD i ([],0)).Perm g/\((o.map λi=>g.getD i ([],0)).map (·.1)).Pairwise λa b=>aH a b=true:=by
 constructor
 .have e:(List.range g.length).map (λi=>g.getD i ([],0))=g:=by
   apply ext_getElem
   .simp
   .intro i n r
    rw[getElem_map,getElem_range,List.getD,List.getElem?_eq_getElem r];rfl
  have:=l.map λi=>g.getD i ([],0)
  rw[e]at this;exact this
 .have q:o.Nodup:=l.nodup_iff.mpr nodup_range
  rw[map_map,pairwise_map];have d:=B.and q;refine List.Pairwise.imp_of_mem (λ{i j} w A h=>?_) d;have k:i<g.length:=mem_range.mp (l.mem_iff.mp w);have f:j<g.length:=mem_range.mp (l.mem_iff.mp A);have x:(g.map (·.1)).getD i []=(g.getD i ([],0)).1:=by simp[List.getD,k]
  have v:(g.map (·.1)).getD j []=(g.getD j ([],0)).1:=by simp[List.getD,f]
  rw[x,v]at h
  have s:(g.getD i ([],0)).1≠(g.getD j ([],0)).1:=λe=>by
   have p:(g.map (·.1))[i]'(by simpa using k)=(g.map (·.1))[j]'(by simpa using f):=by
    simp[List.getD,k,f]at e;simpa using e
   have c:∀ i j (k:i<(g.map (·.1)).length) (f:j<(g.map (·.1)).length),i<j->(g.map (·.1))[i]≠(g.map (·.1))[j]:=pairwise_iff_getElem.mp u
   rcases Nat.lt_trichotomy i j with y | y | y
   .exact c i j _ _ y p
   .exact h.2 y
   .exact c j i _ _ y p.symm
  rcases kH _ _ s with z | z
  .exact z
  .have n:=h.1
   rw[z]at n;cases n
abbrev sm(W:Rws):Rat:=(W.map (·.2)).sum
def pm(p:List Int->Bool)(W:Rws):Rat:=(W.map λx=>if p x.1=true then x.2 else 0).sum
def Nn(D:Nat)(x:Rat):Prop:=0<=x/\∃ n:Nat,x*(D:Rat)=(n:Rat)
theorem Nn.add{D:Nat}{x y:Rat}(h:Nn D x)(h':Nn D y):Nn D (x+y):=by
 obtain⟨a,n,e⟩:=h;obtain⟨b,m,f⟩:=h';refine⟨by grind,n+m,?_⟩
 push_cast
 grind
theorem Nn.zero{D:Nat}:Nn D 0:=⟨by grind,0,by grind⟩
structure Gd(D:Nat)(W:Rws):Prop where
 nn:∀ x∈W,Nn D x.2
 le:sm W<=1
theorem jV{D:Nat}:∀{W:Rws},(∀ x∈W,Nn D x.2)->Nn D (sm W)
 | [],_=>by show Nn D 0;exact Nn.zero
 | x::W,h=>by
  show Nn D (x.2+sm W);exact(h x mem_cons_self).add (jV λy a=>h y (mem_cons_of_mem _ a))
theorem lX(A B:Rws):sm (A++B)=sm A+sm B:=by unfold sm;rw[map_append,List.sum_append]
theorem pC{D:Nat}{p:List Int->Bool}:∀{W:Rws}{i:Nat},(∀ x∈W,Nn D x.2)->Nn D (pm p (W.take i))/\pm p (W.take i)<=sm W
 | [],i,_=>by
  rw[List.take_nil];exact⟨(show Nn D 0 from Nn.zero),(show(0:Rat)<=0 by grind)⟩
 | x::W,0,h=>by
  have:=(jV h).1;exact⟨(show Nn D 0 from Nn.zero),(show(0:Rat)<=sm (x::W) from this)⟩
 | x::W,i+1,h=>by
  have c:=h x mem_cons_self;obtain⟨a,b⟩:=pC (p:=p) (i:=i) λy hy=>h y (mem_cons_of_mem _ hy)
  rw[List.take_succ_cons];have e:pm p (x::W.take i)=(if p x.1=true then x.2 else 0)+pm p (W.take i):=by unfold pm;rw[map_cons,sum_cons]
  have d:sm (x::W)=x.2+sm W:=by unfold sm;rw[map_cons,sum_cons]
  rw[e,d];have:=c.1
  split
  .exact⟨c.add a,by grind⟩
  .exact⟨Nn.zero.add a,by grind⟩
theorem Gd.pm{D:Nat}{W:Rws}(h:Gd D W)(p:List Int->Bool)(i:Nat):Bq D (Tb.pm p (W.take i)):=by
 obtain⟨⟨a,n⟩,b⟩:=pC (p:=p) (i:=i) h.nn;have:=h.le;exact⟨a,by grind,n⟩
theorem Gd.pmA{D:Nat}{W:Rws}(h:Gd D W)(p:List Int->Bool):Bq D (Tb.pm p W):=by
 have:=h.pm p W.length;rwa [take_length]at this
theorem Gd.left{D:Nat}{A B:Rws}(h:Gd D (A++B)):Gd D A:=by
 refine⟨λx a=>h.nn x (mem_append_left _ a),?_⟩;have b:=h.le;rw[lX]at b;have:=(jV (D:=D) (W:=B) λx a=>h.nn x (mem_append_right _ a)).1
 grind
theorem Gd.right{D:Nat}{A B:Rws}(h:Gd D (A++B)):Gd D B:=by
 refine⟨λx a=>h.nn x (mem_append_right _ a),?_⟩;have b:=h.le;rw[lX]at b;have:=(jV (D:=D) (W:=A) λx a=>h.nn x (mem_append_left _ a)).1
 grind
theorem Gd.sm{D:Nat}{W:Rws}(h:Gd D W):Bq D (Tb.sm W):=⟨(jV h.nn).1,h.le,(jV h.nn).2⟩
theorem Gd.one{D:Nat}{W:Rws}(h:Gd D W){x:List Int×Rat}(b:x∈W):Bq D x.2:=by
 obtain⟨A,B,rfl⟩:=List.append_of_mem b;have a:=h.right;have c:Gd D ([x]++B):=a;have:=c.left.sm;have e:Tb.sm [x]=x.2:=by show x.2+0=x.2;grind
 rw[e]at this;exact this
theorem qx{W:Rws}{k:List Int}:bQ W k=pm (λy=>decide (y=k)) W:=by
 induction W with
 | nil=>rfl
 | cons w W ih =>
  rw[aM,ih];have e:pm (λy=>decide (y=k)) (w::W)=(if decide (w.1=k)=true then w.2 else 0)+pm (λy=>decide (y=k)) W:=by unfold pm;rw[map_cons,sum_cons]
  rw[e]
  by_cases h:w.1=k
  .rw[if_pos h,if_pos (decide_eq_true h)]
  .rw[if_neg h,if_neg (by simp[h])]
theorem rV{st:Rws}(a:NdR st)(k:List Int):getR st k=bQ st k:=by
 induction st with
 | nil=>rfl
 | cons x r ih =>
  unfold NdR at a;rw[map_cons,nodup_cons]at a;rw[getR,aM]
  by_cases h:x.1=k
  .rw[if_pos h,if_pos h,jh (by rw[<- h];exact a.1)];grind
  .rw[if_neg h,if_neg h,ih a.2];grind
theorem adds_app(A:Rws)(x:List Int×Rat):adds (A++[x])=addR x.1 x.2 (adds A):=by unfold adds;rw[List.foldl_append];rfl
theorem kR_sm(W:Rws):sm (kR W)=sm W:=by unfold sm kR;rw[map_map];rfl
mutual
def dn:Tr->Nat
 | .leaf _=>1
 | .die ps=>(tot ps).toNat*dns ps
def dns:List (Int×Tr)->Nat
 | []=>1
 | (_,u)::r=>dn u*dns r
end
theorem oe{D E:Nat}{x:Rat}(h:Nn D x):Nn (D*E) x:=by
 obtain⟨a,n,e⟩:=h;refine⟨a,n*E,?_⟩
 push_cast
 grind
mutual
theorem ye:∀(t:Tr) (q:Rat) (E:Nat),Ok t->Nn E q->(∀ x∈wf t q,Nn (E*dn t) x.2)/\sm (wf t q)=q
 | .leaf ns,q,E,_,h=>by
  rw[wf,dn];refine⟨λx c=>?_,?_⟩
  .rw[mem_singleton.mp c];exact oe h
  .show q+0=q;grind
 | .die ps,q,E,h,hq=>by
  rw[Ok]at h;have i:=oks_tot h.2;have g:0<ps.length:=length_pos_iff.mpr h.1;have f:0<tot ps:=by lia
  obtain⟨a,b⟩:=vJ ps q E (tot ps) h.2 f hq;rw[wf,dn];refine⟨λx c=>?_,?_⟩
  .have:=a x c
   rwa [Nat.mul_assoc]at this
  .rw[b]
   have d:((tot ps:Int):Rat)≠0:=by have:tot ps≠0:=(by lia);exact_mod_cast this
   grind
theorem vJ:∀(ps:List (Int×Tr)) (q:Rat) (E:Nat) (S:Int),Oks ps->0<S->Nn E q->(∀ x∈wfs ps q S,Nn (E*S.toNat*dns ps) x.2)/\sm (wfs ps q S)=q*((tot ps:Rat)/(S:Rat))
 | [],q,E,S,_,hS,_=>by
  rw[wfs];refine⟨(λx hx=>by cases hx),?_⟩;show(0:Rat)=q*(((0:Int):Rat)/(S:Rat))
  grind
 | (m,u)::r,q,E,S,h,hS,hq=>by
  rw[Oks]at h;rw[wfs,dns];have l:(S:Rat)≠0:=by have:S≠0:=(by lia);exact_mod_cast this
  have p:((S.toNat:Nat):Rat)=(S:Rat):=by
   have:((S.toNat:Nat):Int)=S:=by lia
   exact_mod_cast this
  have k:Nn (E*S.toNat) (q*((m:Rat)/(S:Rat))):=by
   obtain⟨a,n,e⟩:=hq;refine⟨?_,n*m.toNat,?_⟩
   .have c:(0:Rat)<=(m:Rat):=by have:(0:Int)<=m:=(by lia);exact_mod_cast this
    have o:(0:Rat)<(S:Rat):=by exact_mod_cast hS
    have i:(0:Rat)<=(S:Rat)⁻¹:=by have:=Rat.inv_pos.mpr o;grind
    rw[Rat.div_def];exact kP a (kP c i)
   .have f:((m.toNat:Nat):Rat)=(m:Rat):=by
     have:((m.toNat:Nat):Int)=m:=by lia
     exact_mod_cast this
    push_cast
    rw[p,f]
    grind
  obtain⟨d,s⟩:=ye u _ (E*S.toNat) h.2.1 k;obtain⟨b,g⟩:=vJ r q E S h.2.2 hS hq;refine⟨λx hx=>?_,?_⟩
  .rcases mem_append.mp hx with hx | hx
   .have:=oe (E:=dns r) (d x hx)
    rwa [Nat.mul_assoc]at this
   .have:=oe (E:=dn u) (b x hx)
    rwa [Nat.mul_assoc,Nat.mul_comm (dns r)]at this
  .rw[lX,s,g]
   have j:tot ((m,u)::r)=m+tot r:=by unfold tot;rw[map_cons,sum_cons]
   rw[j]
   push_cast
   grind
end
theorem kt_gd{t:Tr}(h:Ok t):Gd (dn t) (kt t)/\sm (kt t)=1:=by
 obtain⟨a,b⟩:=ye t 1 1 h ⟨by grind,1,by grind⟩;rw[Nat.one_mul]at a;have e:sm (kt t)=1:=by unfold kt;rw[kR_sm,b]
 refine⟨⟨λx d=>?_,by rw[e];grind⟩,e⟩;obtain⟨y,c,rfl⟩:=mem_map.mp d;exact a y c
mutual
theorem dn_pos:∀ t:Tr,Ok t->0<dn t
 | .leaf _,_=>by rw[dn];decide
 | .die ps,h=>by
  rw[Ok]at h;have b:=oks_tot h.2;have a:0<ps.length:=length_pos_iff.mpr h.1;rw[dn];exact Nat.mul_pos (by lia) (mI ps h.2)
theorem mI:∀ ps:List (Int×Tr),Oks ps->0<dns ps
 | [],_=>by rw[dns];decide
 | (m,u)::r,h=>by rw[Oks]at h;rw[dns];exact Nat.mul_pos (dn_pos u h.2.1) (mI r h.2.2)
end
structure Ch(D:Int)(c:Int×Int):Prop where
 t0:0<=c.1
 le:c.1<=c.2
 b0:0<c.2
 dv:c.2 ∣ D
mutual
theorem wl_ch:∀(t:Tr) (a b E:Int),Ok t->0<=a->a<=b->0<b->b ∣ E->∀ w∈wl t a b,Ch (E*(dn t:Nat)) w.2
 | .leaf ns,a,b,E,_,h0,h1,h2,h3,w,hw=>by
  rw[wl]at hw;rw[mem_singleton.mp hw];exact⟨h0,h1,h2,Int.dvd_mul_of_dvd_left h3⟩
 | .die ps,a,b,E,h,h0,h1,h2,h3,w,hw=>by
  rw[Ok]at h;have d:=oks_tot h.2;have f:0<ps.length:=length_pos_iff.mpr h.1;rw[wl]at hw;rw[dn];have:=vB ps a b E (tot ps) h.2 h0 h1 h2 h3 (by lia) (λp c=>mem_tot h.2 c) w hw;have e:(((tot ps).toNat*dns ps:Nat):Int)=tot ps*(dns ps:Nat):=by push_cast;rw[Int.toNat_of_nonneg (by lia)]
  rw[e,<- Int.mul_assoc];exact this
theorem vB:∀(ps:List (Int×Tr)) (a b E S:Int),Oks ps->0<=a->a<=b->0<b->b ∣ E->0<S->(∀ p∈ps,p.1<=S)->∀ w∈wls ps a b S,Ch (E*S*(dns ps:Nat)) w.2
 | [],_,_,_,_,_,_,_,_,_,_,_,w,hw=>by rw[wls]at hw;cases hw
 | (m,u)::r,a,b,E,S,h,h0,h1,h2,h3,hS,hm,w,hw=>by
  rw[Oks]at h;rw[wls]at hw;rw[dns];have c:m<=S:=hm _ mem_cons_self
  rcases mem_append.mp hw with hw | hw
  .have:=vB r a b E S h.2.2 h0 h1 h2 h3 hS (λp d=>hm p (mem_cons_of_mem _ d)) w hw
   refine⟨this.t0,this.le,this.b0,?_⟩
   push_cast
   have e:E*S*((dn u:Int)*(dns r:Int))=E*S*(dns r:Int)*(dn u:Int):=by rw[Int.mul_comm (dn u:Int),<- Int.mul_assoc]
   rw[e];exact Int.dvd_mul_of_dvd_left this.dv
  .have:=wl_ch u (a*m) (b*S) (E*S) h.2.1 (Int.mul_nonneg h0 (by lia)) (Int.mul_le_mul h1 c (by lia) (by lia)) (Int.mul_pos h2 hS) (Int.mul_dvd_mul h3 (Int.dvd_refl S)) w hw
   refine⟨this.t0,this.le,this.b0,?_⟩
   push_cast
   rw[<- Int.mul_assoc];exact Int.dvd_mul_of_dvd_left this.dv
theorem mem_tot:∀{ps:List (Int×Tr)},Oks ps->∀{p:Int×Tr},p∈ps->p.1<=tot ps
 | (m,u)::r,h,p,hp=>by
  rw[Oks]at h;have a:tot ((m,u)::r)=m+tot r:=by unfold tot;rw[map_cons,sum_cons]
  rw[a];have:=oks_tot h.2.2
  rcases mem_cons.mp hp with rfl | hp
  .show m<=_;lia
  .have:=mem_tot h.2.2 hp
   have:=h.1;lia
end
theorem lcm_step{r n D:Int}(q:0<r)(f:0<n)(k:r ∣ D)(i:n ∣ D):0<r/(Int.gcd r n:Int)*n/\r ∣ r/(Int.gcd r n:Int)*n/\n ∣ r/(Int.gcd r n:Int)*n/\r/(Int.gcd r n:Int)*n ∣ D:=by
 have x:0<Int.gcd r n:=Int.gcd_pos_of_ne_zero_right _ (by lia);have o:(0:Int)<(Int.gcd r n:Int):=by lia
 obtain⟨c,d⟩:=Int.gcd_dvd_left (a:=r) (b:=n);obtain⟨e,v⟩:=Int.gcd_dvd_right (a:=r) (b:=n)
 have u:r/(Int.gcd r n:Int)=c:=by
  have:=Int.mul_ediv_cancel_left c (show(Int.gcd r n:Int)≠0 by lia);rw[<- d]at this;exact this
 have p:0<c:=by
  rcases Int.lt_or_le 0 c with h | h
  .exact h
  .have:=Int.mul_nonpos_of_nonneg_of_nonpos (Int.le_of_lt o) h;lia
 rw[u];refine⟨Int.mul_pos p f,⟨e,?_⟩,⟨c,Int.mul_comm _ _⟩,?_⟩
 .rw[d]
  conv=>lhs;rw[v]
  generalize (Int.gcd r n:Int)=g;rw[<- Int.mul_assoc,Int.mul_comm c g]
 .have l:(Int.lcm r n:Int) ∣ D:=by
   have:=Nat.lcm_dvd (Int.natAbs_dvd_natAbs.mpr k) (Int.natAbs_dvd_natAbs.mpr i);exact Int.natAbs_dvd_natAbs.mp (by rw[Int.natAbs_natCast];exact this)
  have j:(Int.lcm r n:Int)=c*n:=by
   have:=Int.gcd_mul_lcm r n
   have w:(Int.gcd r n:Int)*(Int.lcm r n:Int)=r*n:=by
    have h:((Int.gcd r n*Int.lcm r n:Nat):Int)=((r*n).natAbs:Int):=by rw[this,Int.natAbs_mul]
    rw[Int.natCast_mul]at h;have:=Int.mul_pos q f;lia
   have s:(Int.gcd r n:Int)*(Int.lcm r n:Int)=(Int.gcd r n:Int)*(c*n):=by
    rw[w,<- Int.mul_assoc,<- d]
   exact Int.eq_of_mul_eq_mul_left (by lia) s
  rw[<- j];exact l
theorem vT{L t b:Int}(f:0<L)(d:0<b)(h:b ∣ L):((t*(L/b):Int):Rat)=qv (t,b)*(L:Rat):=by
 obtain⟨c,rfl⟩:=h;rw[Int.mul_ediv_cancel_left c (by lia)];have a:(b:Rat)≠0:=by have:b≠0:=(by lia);exact_mod_cast this
 unfold qv
 push_cast
 grind
theorem top_sum{L:Int}(a:0<L):∀{fs:List (Int×Int)},(∀ f∈fs,0<f.2/\f.2 ∣ L)->(((fs.map λf=>f.1*(L/f.2)).sum:Int):Rat)=sumQ fs*(L:Rat)
 | [],_=>by show((0:Int):Rat)=0*_;grind
 | f::fs,h=>by
  have c:=vT (t:=f.1) a (h f mem_cons_self).1 (h f mem_cons_self).2;have b:=top_sum a λx d=>h x (mem_cons_of_mem _ d)
  rw[map_cons,sum_cons,Rat.intCast_add,c,b];have e:sumQ (f::fs)=qv (f.1,f.2)+sumQ fs:=by unfold sumQ;rw[map_cons,sum_cons]
  rw[e]
  grind
theorem low_tops{L T:Int}{q:Rat}(b:0<L)(e:(T:Rat)=q*(L:Rat)):hI T L=fr q:=by
 rw[pH T b,e];have a:(L:Rat)≠0:=by have:L≠0:=(by lia);exact_mod_cast this
 congr 1
 grind
theorem bq_bt{D:Nat}{q:Rat}(g:0<D)(h:Bq D q):0<=q.num/\q.num<=(q.den:Int)/\(0:Int)<q.den/\(q.den:Int) ∣ (D:Int):=by
 obtain⟨j,d,n,e⟩:=h;have f:q*(D:Rat)=((n:Int):Rat):=by rw[e];rfl
 have k:=AL g f;have l:=gm (n:Int) (show D≠0 by lia);rw[<- k]at l;have i:(hI (n:Int) (D:Int)).2=(q.den:Int):=by rw[l];rfl
 have c:(D:Int)/(Int.gcd (n:Int) (D:Int):Int)=(q.den:Int):=i;refine⟨Rat.num_nonneg.mpr j,?_,by have:=q.den_pos;lia,?_⟩
 .have:q<=1:=d
  rw[Rat.le_iff]at this;simpa using this
 .rw[<- c]
  exact Int.ediv_dvd_of_dvd (Int.gcd_dvd_right (a:=(n:Int)) (b:=(D:Int)))
def Lm2:Nat:=2 ^ 2720
theorem bt_of{D:Nat}{i:Int}(a:0<D)(b:D<=Lm2)(h0:0<=i)(h:i<=(D:Int)):Bt 2721 i:=by
 unfold Bt;have e:(2:Nat) ^ 2721=Lm2*2:=by unfold Lm2;exact Nat.pow_succ 2 2720
 rw[e];have:0<Lm2:=by unfold Lm2;exact Nat.pow_pos (by decide)
 lia
theorem bq_bb{D:Nat}{q:Rat}(f:0<D)(g:D<=Lm2)(h:Bq D q):Bt 2721 q.num/\Bt 2721 (q.den:Int):=by
 obtain⟨a,b,c,d⟩:=bq_bt f h;have:=Int.le_of_dvd (by lia) d;exact⟨bt_of f g a (by lia),bt_of f g (by lia) this⟩
theorem ch_bt{D:Nat}{c:Int×Int}(a:0<D)(b:D<=Lm2)(h:Ch (D:Int) c):Bt 2721 c.1/\Bt 2721 c.2:=by
 have:=Int.le_of_dvd (by lia) h.dv;have:=h.le;have:=h.b0;exact⟨bt_of a b h.t0 (by lia),bt_of a b (by lia) (by lia)⟩
def fb:Nat->Nat
 | 0=>0
 | d+1=>32+4*fb d
mutual
def Dp:Nat->Tr->Prop
 | _,.leaf ns=>ns.Nodup/\ns.length<=6
 | 0,.die _=>False
 | d+1,.die ps=>1<=ps.length/\ps.length<=4/\Dps d ps
def Dps:Nat->List (Int×Tr)->Prop
 | _,[]=>True
 | d,(m,u)::r=>1<=m/\m<=1000000000/\Dp d u/\Dps d r
end
theorem fb_mono:∀{d:Nat},d<=4->fb d<=2720
 | 0,_=>by decide
 | 1,_=>by decide
 | 2,_=>by decide
 | 3,_=>by decide
 | 4,_=>by decide
 | n+5,h=>by lia
theorem nF{k:List Int}{c:Int×Int}:∀ g:Grp,(pushG k c g).length<=g.length+1
 | []=>by rw[pushG];simp
 | y::r=>by
  rw[pushG]
  split
  .simp
  .rw[length_cons,length_cons];have:=nF (k:=k) (c:=c) r;lia
def Gk(W:List Way)(n:Nat)(g:Grp):Prop:=g.length<=n/\∀ x∈g,x.2.length<=n/\∀ c∈x.2,∃ w∈W,w.2=c
theorem Gk.push{W:List Way}{n:Nat}{g:Grp}(h:Gk W n g){w:Way}(b:w∈W):Gk W (n+1) (pushG w.1 w.2 g):=by
 refine⟨Nat.le_trans (nF g) (by have:=h.1;lia),λx hx=>?_⟩
 have d:∀ g:Grp,(∀ x∈g,x.2.length<=n/\∀ c∈x.2,∃ w∈W,w.2=c)->∀ x∈pushG w.1 w.2 g,x.2.length<=n+1/\∀ c∈x.2,∃ w∈W,w.2=c:=by
  intro g
  induction g with
  | nil=>intro _ x hx;rw[pushG]at hx;rw[mem_singleton.mp hx];exact⟨by simp,λc hc=>⟨w,b,(mem_singleton.mp hc).symm⟩⟩
  | cons y r ih =>
   intro h x hx;rw[pushG]at hx;have a:=h y mem_cons_self
   split at hx
   .rcases mem_cons.mp hx with rfl | hx
    .refine⟨by rw[length_append];have:=a.1;simp;lia,λc hc=>?_⟩
     rcases mem_append.mp hc with hc | hc
     .exact a.2 c hc
     .exact⟨w,b,(mem_singleton.mp hc).symm⟩
    .have:=h x (mem_cons_of_mem _ hx);exact⟨by lia,this.2⟩
   .rcases mem_cons.mp hx with rfl | hx
    .exact⟨by have:=a.1;lia,a.2⟩
    .exact ih (λz f=>h z (mem_cons_of_mem _ f)) x hx
 exact d g h.2 x hx
theorem grp_gk(W:List Way):∀ i,i<=W.length->Gk W i (grp (W.take i))
 | 0,_=>⟨Nat.le_refl _,λx a=>by cases a⟩
 | i+1,h=>by
  obtain⟨w,hw⟩:∃ w,W[i]? = some w:=⟨_,List.getElem?_eq_getElem (by lia)⟩
  rw[grp_snoc hw];exact(grp_gk W i (by lia)).push (List.mem_of_getElem? hw)
theorem rat_keys(g:Grp):(rat g).map (·.1)=g.map (·.1):=by unfold rat;rw[map_map];rfl
theorem grp_nd(W:List Way):NdR (rat (grp W)):=by rw[rat_grp];exact adds_nd _
theorem kW_len(t:Tr):(kW (wl t 1 1)).length=lv t:=by unfold kW;rw[length_map,wl_len]
theorem kW_get{W:List Way}{i:Nat}{w:Way}(h:W[i]? = some w):(kW W)[i]? = some (so w.1,w.2):=by unfold kW;rw[List.getElem?_map,h];rfl
mutual
theorem wf_sm:∀(t:Tr) (q:Rat),Ok t->sm (wf t q)=q
 | .leaf ns,q,_=>by rw[wf];show q+0=q;grind
 | .die ps,q,h=>by
  rw[Ok]at h;have c:=oks_tot h.2;have b:0<ps.length:=length_pos_iff.mpr h.1;rw[wf,tq ps q (tot ps) h.2 (by lia)];have a:((tot ps:Int):Rat)≠0:=by have:tot ps≠0:=(by lia);exact_mod_cast this
  grind
theorem tq:∀(ps:List (Int×Tr)) (q:Rat) (S:Int),Oks ps->0<S->sm (wfs ps q S)=q*((tot ps:Rat)/(S:Rat))
 | [],q,S,_,hS=>by
  rw[wfs];show(0:Rat)=q*(((0:Int):Rat)/(S:Rat))
  grind
 | (m,u)::r,q,S,h,hS=>by
  rw[Oks]at h;rw[wfs,lX,wf_sm u _ h.2.1,tq r q S h.2.2 hS];have a:tot ((m,u)::r)=m+tot r:=by unfold tot;rw[map_cons,sum_cons]
  rw[a]
  push_cast
  grind
end
theorem kJ(q:Rat)(S:Int):∀(a b:List (Int×Tr)),wfs (a++b) q S=wfs a q S++wfs b q S
 | [],b=>by rw[nil_append,wfs,nil_append]
 | (m,u)::a,b=>by rw[cons_append,wfs,wfs,kJ q S a b,append_assoc]
theorem wfs_snoc{ps:List (Int×Tr)}{i:Nat}{m:Int}{u:Tr}(q:Rat)(S:Int)(h:ps[i]? = some (m,u)):wfs (ps.take (i+1)) q S=wfs (ps.take i) q S++wf u (q*((m:Rat)/(S:Rat))):=by
 rw[take_add_one,h,kJ]
 congr 1
 show wfs [(m,u)] q S=_;rw[wfs,wfs,append_nil]
theorem kR_app(A B:Rws):kR (A++B)=kR A++kR B:=by unfold kR;rw[map_append]
mutual
theorem wf_len:∀(t:Tr) (q:Rat),(wf t q).length=lv t
 | .leaf _,_=>rfl
 | .die ps,q=>by rw[wf,lv];exact wfs_len ps q _
theorem wfs_len:∀(ps:List (Int×Tr)) (q:Rat) (S:Int),(wfs ps q S).length=lvs ps
 | [],_,_=>rfl
 | (m,u)::r,q,S=>by rw[wfs,lvs,length_append,wf_len u,wfs_len r]
end
theorem kR_len(W:Rws):(kR W).length=W.length:=by unfold kR;rw[length_map]
theorem my(k:List Int)(m:Rat):∀ st:Rws,(addR k m st).length<=st.length+1
 | []=>by rw[addR];simp
 | x::r=>by
  rw[addR]
  split
  .simp
  .rw[length_cons,length_cons];have:=my k m r;lia
theorem rO(st:Rws):∀ W:Rws,(W.foldl (λst w=>addR w.1 w.2 st) st).length<=st.length+W.length:=by
 intro W
 induction W generalizing st with
 | nil=>simp
 | cons w W ih=>rw[foldl_cons,length_cons];have:=ih (addR w.1 w.2 st);have:=my w.1 w.2 st;lia
theorem adds_len(W:Rws):(adds W).length<=W.length:=by have:=rO [] W;unfold adds;simpa using this
theorem getR_bq{D:Nat}{W:Rws}(h:Gd D W)(k:List Int):Bq D (getR (adds W) k):=by
 rw[rV (adds_nd W),eV,qx];exact h.pmA _
theorem share_bq{m S:Int}(h0:1<=m)(b:m<=S):Bq S.toNat ((m:Rat)/(S:Rat)):=by
 have f:(0:Rat)<(S:Rat):=by have:(0:Int)<S:=(by lia);exact_mod_cast this
 have a:(0:Rat)<=(m:Rat):=by have:(0:Int)<=m:=(by lia);exact_mod_cast this
 have g:(m:Rat)<=(S:Rat):=by exact_mod_cast b
 have h:=Rat.inv_pos.mpr f;have i:(S:Rat)*(S:Rat)⁻¹=1:=by grind
 rw[Rat.div_def];refine⟨kP a (by grind),?_,m.toNat,?_⟩
 .have:=kP (show(0:Rat)<=(S:Rat) - (m:Rat) by grind) (show(0:Rat)<=(S:Rat)⁻¹ by grind)
  grind
 .have c:((S.toNat:Nat):Rat)=(S:Rat):=by
   have:((S.toNat:Nat):Int)=S:=by lia
   exact_mod_cast this
  have d:((m.toNat:Nat):Rat)=(m:Rat):=by
   have:((m.toNat:Nat):Int)=m:=by lia
   exact_mod_cast this
  rw[c,d]
  grind
theorem lvs_part{ps:List (Int×Tr)}{i:Nat}{m:Int}{u:Tr}(h:ps[i]? = some (m,u)):lvs (ps.take i)+lv u<=lvs ps:=by
 induction ps generalizing i with
 | nil=>cases h
 | cons x r ih =>
  obtain⟨b,a⟩:=x;cases i with
  | zero=>cases h;show 0+lv u<=lv u+lvs r;lia
  | succ i =>
   have:=ih (i:=i) h;rw[List.take_succ_cons,lvs,lvs];lia
theorem gd_pre{D:Nat}{W:Rws}{ps:List (Int×Tr)}{q:Rat}{S:Int}(i:Nat)(g:Gd D (W++kR (wfs ps q S))):Gd D (W++kR (wfs (ps.take i) q S)):=by
 have e:ps=ps.take i++ps.drop i:=(take_append_drop i ps).symm;rw[e,kJ,kR_app,<- append_assoc]at g;exact g.left
mutual
def bnd:Tr->(List Int->Tr)->Tr
 | .leaf ns,g=>g (so ns)
 | .die ps,g=>.die (cQ ps g)
def cQ:List (Int×Tr)->(List Int->Tr)->List (Int×Tr)
 | [],_=>[]
 | (m,u)::r,g=>(m,bnd u g)::cQ r g
end
theorem bnds_map(g:List Int->Tr):∀ ps:List (Int×Tr),cQ ps g=ps.map λp=>(p.1,bnd p.2 g)
 | []=>by rw[cQ];rfl
 | (m,u)::r=>by rw[cQ,bnds_map g r];rfl
theorem sP(ps:List (Int×Tr))(g:List Int->Tr):(cQ ps g).length=ps.length:=by rw[bnds_map,length_map]
theorem bnds_tot(ps:List (Int×Tr))(g:List Int->Tr):tot (cQ ps g)=tot ps:=by unfold tot;rw[bnds_map,map_map];rfl
mutual
def Dq:Nat->Tr->Prop
 | _,.leaf ns=>ns.Nodup/\ns.length<=12
 | 0,.die _=>False
 | d+1,.die ps=>1<=ps.length/\ps.length<=4/\Dqs d ps
def Dqs:Nat->List (Int×Tr)->Prop
 | _,[]=>True
 | d,(m,u)::r=>1<=m/\m<=1000000000/\Dq d u/\Dqs d r
end
theorem dq_part{d:Nat}{ps:List (Int×Tr)}(h:Dqs d ps):∀{p:Int×Tr},p∈ps->1<=p.1/\p.1<=1000000000/\Dq d p.2:=by
 induction ps with
 | nil=>intro p hp;cases hp
 | cons x r ih =>
  intro p hp;obtain⟨m,u⟩:=x;rw[Dqs]at h
  rcases mem_cons.mp hp with rfl | hp
  .exact⟨h.1,h.2.1,h.2.2.1⟩
  .exact ih h.2.2.2 hp
mutual
def Lb:Tr->Prop
 | .leaf ns=>ns.length<=12
 | .die ps=>Lbs ps
def Lbs:List (Int×Tr)->Prop
 | []=>True
 | (_,u)::r=>Lb u/\Lbs r
end
mutual
def Par(o:Int):Tr->Prop
 | .leaf ns=>(∀ x∈ns,x % 2=o)/\ns.length<=6/\ns.Nodup
 | .die ps=>Pars o ps
def Pars(o:Int):List (Int×Tr)->Prop
 | []=>True
 | (_,u)::r=>Par o u/\Pars o r
end
mutual
def Lq:Tr->Prop
 | .leaf ns=>ns.length<=6
 | .die ps=>Lqs ps
def Lqs:List (Int×Tr)->Prop
 | []=>True
 | (_,u)::r=>Lq u/\Lqs r
end
theorem lq_part:∀{ps:List (Int×Tr)},Lqs ps->∀ p∈ps,Lq p.2
 | (m,u)::r,h,p,hp=>by
  rw[Lqs]at h
  rcases mem_cons.mp hp with rfl | hp
  .exact h.1
  .exact lq_part h.2 p hp
theorem lqs_snoc{m:Int}{u:Tr}(a:Lq u):∀{ps:List (Int×Tr)},Lqs ps->Lqs (ps++[(m,u)])
 | [],_=>by rw[nil_append,Lqs,Lqs];exact⟨a,trivial⟩
 | (k,v)::r,h=>by rw[Lqs]at h;rw[cons_append,Lqs];exact⟨h.1,lqs_snoc a h.2⟩
theorem pars_snoc{o m:Int}{u:Tr}(a:Par o u):∀{ps:List (Int×Tr)},Pars o ps->Pars o (ps++[(m,u)])
 | [],_=>by rw[nil_append,Pars,Pars];exact⟨a,trivial⟩
 | (k,v)::r,h=>by rw[Pars]at h;rw[cons_append,Pars];exact⟨h.1,pars_snoc a h.2⟩
theorem lbs_of:∀{ps:List (Int×Tr)},(∀ p∈ps,Lb p.2)->Lbs ps
 | [],_=>by rw[Lbs];trivial
 | (m,u)::r,h=>by rw[Lbs];exact⟨h _ mem_cons_self,lbs_of λp a=>h p (mem_cons_of_mem _ a)⟩
theorem par_part{o:Int}:∀{ps:List (Int×Tr)},Pars o ps->∀ p∈ps,Par o p.2
 | (m,u)::r,h,p,hp=>by
  rw[Pars]at h
  rcases mem_cons.mp hp with rfl | hp
  .exact h.1
  .exact par_part h.2 p hp
def gone(s:Int)(ns:List Int):Tr:=if ns.length % 2=1 then .leaf (so ns++[99]) else .die [(1,.leaf []),(s,.leaf [97]),(2,.leaf (so ns))]
theorem so_so(a:List Int):so (so a)=so a:=(so_uniq (List.Perm.refl _) (lQ a)).symm
theorem gone_so(s:Int)(a:List Int):gone s (so a)=gone s a:=by unfold gone;rw[so_so,(so_perm a).length_eq]
theorem so_nd{a:List Int}(h:a.Nodup):(so a).Nodup:=(so_perm a).nodup_iff.mpr h
theorem so_odd{c:List Int}(h:c.Nodup)(j:∀ x∈c,x % 2=0){y:Int}(k:y % 2=1):(so c++[y]).Nodup:=by
 refine nodup_append.mpr ⟨so_nd h,by simp,λa i b d e=>?_⟩;have g:=j a ((so_perm c).mem_iff.mp i);have f:b=y:=by simpa using d
 rw[e,f]at g;lia
end Tb
namespace L2
open PySem PySem.Spec PyProof.Rows PySem.W
section
variable {prog:Program}{w:World}{A:Around}{E:Value->Shared->Prop}{s:Shared}{d I v:Addr}{es:Array DictEntry}{ep i:Nat}{k0 v0:Value}
theorem wB(a:(d == sysModules)=false):MeetsIn prog w (Builtin.«dict.items» ⟨[.ref d],[]⟩) (λ_ R s=>DE s.heap d es ep /\
  R (.ok (.ret (.ref s.heap.objs.size))) { s with heap:=s.heap.push { cls:=.type "dict_items",data:=.fields #[.ref d] } }):=.of_wp λA R s ⟨x,h⟩=>by
 unfold Builtin.«dict.items»;refine wpAny_bind ?_;unfold Builtin.Dict.noArgs;refine wpAny_bind (wpAny_notOrdered_dict x.ty ?_);show wpAny _ _ (pure d) _ _ s;refine wpAny_pure ?_;show wpAny _ _ (Builtin.Dict.showsAll d >>= _) _ _ s;unfold Builtin.Dict.showsAll;rw[if_neg (λz=>by rw[a]at z;cases z)];refine wpAny_bind (wpAny_pure ?_);exact wpAny_bind (wpAny_newObj_type (wpAny_pure ⟨_,rfl,h⟩))
theorem qL{Q:Value->Shared->Prop}(b:s.heap.IsItemsView v d)(x:DE s.heap d es ep)
  (q:Q (.ref s.heap.objs.size) { s with heap:=s.heap.push { cls:=.type "dict_itemiterator",data:=.fields #[.none,.bool false,.ref d,.int 0 0,.int es.size 0,.int ep 0,.none,.none] } }):wpAny (model prog w) A (pyIter (.ref v)) Q E s:=by
 obtain⟨g,c,h,f⟩:=id b;obtain⟨ob,g1,g2,g3⟩:=id x;refine wpAny_pyIter_slot b.typeIs F.slot_dict_items_iter (wpAny_call_entry F.slot_dict_items_iter b.typeIs F.entry_dict_items_iter ?_ (F.args_dict_items_iter_1 _));unfold Builtin.«dict_items.__iter__»;refine wpAny_bind (wpAny_pure (wpAny_bind ?_));unfold Builtin.Dict_items.dictOf;refine wpAny_bind (wpAny_field c f (x:=.ref d) rfl (wpAny_pure (wpAny_bind ?_)));unfold Builtin.Dict_items.newIterator;refine wpAny_bind (wpAny_dictEntries g1 g3 (wpAny_bind (wpAny_dictEpoch g1 g3 ?_)));have a:Builtin.Dict_items.ownsTuple "dict_itemiterator" = true:=by decide
 simp only[a,if_true];refine wpAny_newObj_type (wpAny_pure ⟨_,rfl, "dict_itemiterator",_,⟨_,Heap.get?_push_size _ rfl,rfl⟩,F.slot_dict_itemiterator_next.lookup,?_⟩) (by simp only[sizeOk,Builtin.Dict_items.ownedTupleFields,size_toArray,length_append,length_cons,length_nil,sizeLine_eq];lia);simpa[rawInt,Builtin.Dict_items.ownedTupleFields] using q
theorem qR{Q:Option Value->Shared->Prop}{e:DictEntry}(y:IsItemIter s.heap I d i es.size ep k0 v0)(x:DE s.heap d es ep)(hx:es[i]? = some e)
  (q:∀ h',IsItemIterOut h' I d (i+1) es.size ep e.key e.val s.heap.objs.size->h'.get? s.heap.objs.size=some { cls:=.type "tuple",data:=.seq #[e.key,e.val] }->h'.objs.size=s.heap.objs.size+1 ->
   (∀ b o,b≠I->s.heap.get? b=some o->h'.get? b=some o)->Q (some (.ref s.heap.objs.size)) { s with heap:=h' }):wpAny (model prog w) A (pyNext (.ref I)) Q E s:=by
 obtain⟨a,g,u,r,n⟩:=s;obtain⟨ob,g1,g2,g3⟩:=id x;have h:Shared.TypeIs ⟨a,g,u,r,n⟩ (.ref I) "dict_itemiterator" := ⟨_,y,rfl⟩;unfold pyNext;refine wpAny_bind (wpAny_attempt (wpAny_callSpecial?_slot (name:=Str.ofString "__next__") h F.slot_dict_itemiterator_next (wpAny_call_entry F.slot_dict_itemiterator_next h F.entry_dict_itemiterator_next ?_ (F.args_dict_itemiterator_next_1 _))));refine wpAny_bind (wpAny_pure (wpAny_bind (wpAny_bind ?_)))
 first | refine wpAny_bind (wpAny_typeNameOfWhole_itemiter h (wpAny_pure ?_)) | refine wpAny_bind (wpAny_typeNameOf_itemiter h (wpAny_pure ?_))
 refine wpAny_bind (wpAny_fieldsOf y rfl ?_);have N:Builtin.Dict_items.ownsTuple "dict_itemiterator" = true:=by decide
 simp only[N,if_true];show wpAny _ _ (if (Value.ref d == Value.none)=true then _ else _) _ _ _;rw[if_neg (λz:(Value.ref d == Value.none)=true=>Bool.false_ne_true z)];refine wpAny_bind (wpAny_pure (wpAny_bind (wpAny_dictEntries g1 g3 ?_)));rw[if_neg (by simp)];refine wpAny_bind (wpAny_pure (wpAny_bind (wpAny_dictEpoch g1 g3 ?_)));rw[if_neg (by simp)];refine wpAny_pure ?_;obtain⟨M,rfl⟩:=Array.getElem?_eq_some_iff.mp hx;simp only[show ¬((i:Int)<0) from by lia,if_false,Int.toNat_natCast,Array.getElem?_eq_getElem M];refine wpAny_bind ?_
 first | refine wpAny_bind (wpAny_typeNameOfWhole_itemiter h (wpAny_pure ?_)) | refine wpAny_bind (wpAny_typeNameOf_itemiter h (wpAny_pure ?_))
 refine wpAny_bind (wpAny_isOneOf_itemiter h ?_);show wpAny _ _ (setField (.ref I) 3 (rawInt ((i:Int)+1)) >>= _) _ _ ⟨a,g,u,r,n⟩;refine wpAny_bind (wpAny_setField_rec y (by simp) λf v p=>?_);replace p:Heap.SameBut I a f:=p
 replace v:IsItemIter f I d (i+1) es.size ep k0 v0:=by
  have z:((i+1:Nat):Int)=(i:Int)+1:=by lia
  unfold IsItemIter;rw[z];simpa[rawInt] using v
 have j:Shared.TypeIs ⟨f,g,u,r,n⟩ (.ref I) "dict_itemiterator" := ⟨_,v,rfl⟩;refine wpAny_bind (wpAny_holding (wpAny_bind (wpAny_isOneOf_itemiter j (wpAny_bind (wpAny_isOneOf_itemiter j ?_)))));show wpAny _ _ (Builtin.Dict_items.pairFromOwner (.ref I) 6 es[i].key es[i].val) _ _ ⟨f,g,u,r,n⟩;unfold Builtin.Dict_items.pairFromOwner;refine wpAny_bind (wpAny_newTuple ?_);have l:IsItemIter (f.push { cls:=.type "tuple",data:=.seq #[es[i].key,es[i].val] }) I d (i+1) es.size ep k0 v0:=Heap.get?_push_of_some _ v;generalize hh:f.push { cls:=.type "tuple",data:=.seq #[es[i].key,es[i].val] }=h2 at l;have C:f.objs.size=a.objs.size:=p.1;have Z:I<a.objs.size:=Heap.lt_size y;have t2:h2.get? a.objs.size=some { cls:=.type "tuple",data:=.seq #[es[i].key,es[i].val] }:=by rw[<- hh,<- C];exact Heap.get?_push_size _ rfl
 have Y:h2.objs.size=a.objs.size+1:=by rw[<- hh,Heap.size_push,C]
 have k2:∀ b o,b≠I->a.get? b=some o->h2.get? b=some o:=λb o c e=>by rw[<- hh];exact Heap.get?_push_of_some _ (p.extBut b o c e)
 show wpAny _ _ (Builtin.Dict_items.ownedTupleIsFree (.ref I) >>= _) _ _ ⟨h2,g,u,r,n⟩;rw[C];clear hh v p j C f;refine wpAny_bind ?_;unfold Builtin.Dict_items.ownedTupleIsFree;refine wpAny_bind (wpAny_field l rfl (x:=.none) rfl (wpAny_pure ?_));simp only[if_true];refine wpAny_bind (wpAny_field l rfl (x:=k0) rfl (wpAny_bind (wpAny_field l rfl (x:=v0) rfl ?_)));refine wpAny_bind (wpAny_setField_rec l (by simp) λT W D=>?_);replace D:Heap.SameBut I h2 T:=D;replace W:IsItemIter T I d (i+1) es.size ep es[i].key v0:=W;refine wpAny_bind (wpAny_setField_rec W (by simp) λP R B=>?_);replace B:Heap.SameBut I T P:=B;replace R:IsItemIter P I d (i+1) es.size ep es[i].key es[i].val:=R;refine wpAny_bind (wpAny_setField_rec R (by simp) λL K G=>?_);replace G:Heap.SameBut I P L:=G;replace K:IsItemIterOut L I d (i+1) es.size ep es[i].key es[i].val a.objs.size:=K;refine wpAny_bind (wpAny_setField_rec K (by simp) λk J H=>?_);replace H:Heap.SameBut I L k:=H;replace J:IsItemIterOut k I d (i+1) es.size ep es[i].key es[i].val a.objs.size:=J;have X:∀ b o,b≠I->h2.get? b=some o->k.get? b=some o:=λb o c e=>H.extBut b o c (G.extBut b o c (B.extBut b o c (D.extBut b o c e)))
 refine wpAny_bind (wpAny_letGo (wpAny_pure (wpAny_pure ⟨_,rfl,wpAny_pure (q k J (X _ _ (Nat.ne_of_gt Z) t2) ?_ λb o c e=>X b o c (k2 b o c e))⟩)));show k.objs.size=a.objs.size+1;rw[H.1,G.1,B.1,D.1,Y]
theorem ug{Q:Option Value->Shared->Prop}(k:A.handled=none)(g:IsItemIter s.heap I d i es.size ep k0 v0)(x:DE s.heap d es ep)(l:es.size<=i)
  (q:∀ h',Heap.ExtBut I s.heap h'->Q none { s with heap:=h' }):wpAny (model prog w) A (pyNext (.ref I)) Q E s:=by
 obtain⟨n,j,o,h⟩:=id x;have c:s.TypeIs (.ref I) "dict_itemiterator" := ⟨_,g,rfl⟩;unfold pyNext;refine wpAny_bind (wpAny_attempt (wpAny_callSpecial?_slot (name:=Str.ofString "__next__") c F.slot_dict_itemiterator_next (wpAny_call_entry F.slot_dict_itemiterator_next c F.entry_dict_itemiterator_next ?_ (F.args_dict_itemiterator_next_1 _))));refine wpAny_bind (wpAny_pure (wpAny_bind (wpAny_bind ?_)))
 first | refine wpAny_bind (wpAny_typeNameOfWhole_itemiter c (wpAny_pure ?_)) | refine wpAny_bind (wpAny_typeNameOf_itemiter c (wpAny_pure ?_))
 refine wpAny_bind (wpAny_fieldsOf g rfl ?_);have f:Builtin.Dict_items.ownsTuple "dict_itemiterator" = true:=by decide
 simp only[f,if_true];show wpAny _ _ (if (Value.ref d == Value.none)=true then _ else _) _ _ _;rw[if_neg (λz:(Value.ref d == Value.none)=true=>Bool.false_ne_true z)];refine wpAny_bind (wpAny_pure (wpAny_bind (wpAny_dictEntries j h ?_)));rw[if_neg (by simp)];refine wpAny_bind (wpAny_pure (wpAny_bind (wpAny_dictEpoch j h ?_)));rw[if_neg (by simp)];refine wpAny_pure ?_;simp only[show ¬((i:Int)<0) from by lia,if_false,Int.toNat_natCast,Array.getElem?_eq_none l];refine wpAny_bind ?_
 first | refine wpAny_bind (wpAny_typeNameOfWhole_itemiter c (wpAny_pure ?_)) | refine wpAny_bind (wpAny_typeNameOf_itemiter c (wpAny_pure ?_))
 show wpAny _ _ (setField (.ref I) 2 .none >>= _) _ _ s;refine wpAny_bind (wpAny_setField g rfl (by simp) ?_);show wpAny _ _ (newExc (.type "StopIteration") [] >>= _) _ _ _;refine wpAny_bind ?_;simp only[newExc,newTuple];refine wpAny_bind (wpAny_newObj_type ?_ (by size_fits));refine wpAny_bind (m:=firstArgMember _ _) (wpAny_of_eq (a:=Value.none) (by first | rfl | (simp only[firstArgMember];rfl)) (wpAny_newObj_type ?_ (by size_fits)));simp only[raiseNew];refine wpAny_bind (wpAny_handled ?_);rw[show A.in1.handled=none from k];refine wpAny_bind (wpAny_pure (wpAny_throw ?_));exact wpAny_bind (wpAny_isInstance (T := "StopIteration") (b:=true) ⟨_,Heap.get?_push_size _ rfl,rfl⟩ isSubtype_stop (wpAny_pure (q _ (((Heap.SameBut.update ..).extBut.push _).push _))))
end
def Iti(d:Addr)(o:Obj)(kvs:List (List Key×V)):It :=
 ⟨λi H=>H d=some (.frz o (.dT kvs))/\i<kvs.length,λi H x H'=>∃ p b kv,H p=none/\kvs[i]? = some kv/\x=.ref p/\H b=some (.tup (kv.1.map kV))/\H'=upd H p (.tup [.ref b,kv.2]),λi H=>H d=some (.frz o (.dT kvs))/\kvs.length<=i⟩
theorem KT.at2{H:Hp}:∀{kvs:List (List Key×V)}{xs:List (List Key×Addr×Value)}{i:Nat}{kv:List Key×V},KT H kvs xs->kvs[i]? = some kv->∃ x,xs[i]? = some x/\H x.2.1=some (.tup (kv.1.map kV))/\RelV kv.2 x.2.2
 | _,_,0,_,.cons r _,h=>by cases h;exact⟨_,rfl,r.2.1,r.2.2⟩
 | _,_,i+1,_,.cons _ t,h=>by obtain⟨x,e,q⟩:=KT.at2 (i:=i) t h;exact⟨x,e,q⟩
theorem wZ{prog:Program}{w:World}{A:Around}{E:Value->Shared->Prop}{s:Shared}{a d:Addr}{i n ep:Nat}{f j:Value}{Q:Value->Shared->Prop}(g:IsItemIter s.heap a d i n ep f j)(h:Q (.ref a) s):wpAny (model prog w) A (pyIter (.ref a)) Q E s:=by
 have b:s.TypeIs (.ref a) "dict_itemiterator" := ⟨_,g,rfl⟩;have c:entryFor table "dict_itemiterator.__iter__" = some Builtin.«dict_keyiterator.__iter__»:=entryFor_alias (id' := "dict_keyiterator.__iter__") (by kernel_rfl) rfl (by decide +kernel) (by kernel_rfl);refine wpAny_pyIter_slot b F.slot_dict_itemiterator_iter (wpAny_call_entry F.slot_dict_itemiterator_iter b c ?_ (F.args_dict_itemiterator_iter_1 _));show wpAny _ _ (ret (.ref a)) _ _ s;exact wpAny_pure ⟨_,rfl, "dict_itemiterator",_,b,F.slot_dict_itemiterator_next.lookup,h⟩
theorem oO{P:Program}{w:World}{K:Frag}{el:List Expr}{kk:Nat}{B:Pos}{d c:Addr}{o:Obj}{kvs:List (List Key×V)}{es:Array DictEntry}{ep:Nat}(f:o.data=.dict es ep)(hsz:es.size=kvs.length):Turn P w K (.Tuple el kk B) (Iti d o kvs) [c] c (λi h=>∃ k0 v0,IsItemIter h c d i es.size ep k0 v0) where
 mem:=mem_cons_self ..
 obj:=λi h a b j=>by
  rw[mem_singleton.mp j];obtain⟨k0,v0,e⟩:=a;exact⟨_,e,λv z=>by cases z⟩
 keep:=λi h h' a kp=>by
  obtain⟨k0,v0,e⟩:=a;exact⟨k0,v0,kp c (mem_cons_self ..) _ e⟩
 item:=by
  intro X y r F hc i g s Y H E I p a A;subst y r F;obtain⟨L,Q⟩:=A;obtain⟨k0,v0,a⟩:=a;obtain⟨xs,G,u,l,N,C,n,W,g5⟩:=oV I.hok L;have D:=f.symm.trans n;cases D
  obtain⟨kv,hkv⟩:∃ kv,kvs[i]? = some kv:=⟨_,List.getElem?_eq_getElem Q⟩
  obtain⟨x,hx,hH,rv⟩:=l.at2 hkv;have he:es[i]? = some (entryOfKey (tupleKind (aW X.prog X.w)) x):=by rw[entry_at W,hx];rfl
  refine qR a ⟨o,N,C,n⟩ he λh1 e1 e2 e3 e4=>?_
  refine⟨_,rfl,wpAny_letOwnedTupleGo_items e1 λT e5 Z=>?_⟩;have k:s.heap.objs.size≠c:=λq=>absurd (Heap.lt_size a) (by rw[<- q];exact Nat.lt_irrefl _)
  have hn:H s.heap.objs.size=none:=I.hok.fresh (Nat.le_refl _);have M:T.get? s.heap.objs.size=some { cls:=.type "tuple",data:=.seq #[.ref x.2.1,x.2.2] }:=(Z.2 _ k).trans e2
  have J:Inv X g Y (upd H s.heap.objs.size (.tup [.ref x.2.1,kv.2])) { s with heap:=T,toks:=s.toks }:=by
   refine I.turnedNew (ch:=[c]) (λb o j q=>?_) p (Nat.le_refl _) ⟨by rw[sizeLine_eq];show 2<=16777216;decide,[.ref x.2.1,x.2.2],.cons rfl (.cons rv .nil),_,M,rfl,0,rfl⟩;have R:b≠c:=λz=>j (by simp[z])
   exact(Z.2 b R).trans (e4 b o R q)
  refine⟨.ref s.heap.objs.size,_,J,rfl,⟨s.heap.objs.size,x.2.1,kv,hn,hkv,rfl,hH,rfl⟩,⟨_,_,e5⟩,λb j=>?_⟩;rw[mem_singleton.mp j,ag k.symm];exact(p c (mem_cons_self ..)).1
 done:=by
  intro X y r F hc i g s Y H E I p a A;subst y r F;obtain⟨L,Q⟩:=A;obtain⟨k0,v0,a⟩:=a;obtain⟨xs,G,u,l,N,C,n,W,g5⟩:=oV I.hok L;have D:=f.symm.trans n;cases D
  exact ug (I.ok.hd hc) a ⟨o,N,C,n⟩ (by lia) λh1 eb=>⟨rfl,I.turnedN (ch:=[c]) (t':=s.toks) (λb o j q=>eb b o (λz=>j (by simp[z])) q) p⟩
 self:=λ_ _ _ _ _ a h=>by
  obtain⟨k0,v0,e⟩:=a;exact wZ e h
def pB:V->List V->Hp->VK->Prop:=λx vs H Q=>∃(d:Addr) (kvs:List (List Key×V)),x=.ref d/\vs=[]/\Rd H d (.dT kvs)/\∀ v,H v=none->Q (.ref v) (upd H v (.ext (IV v d)))
section
variable {X:Cx}{o e:Expr}{es:List Expr}{to:TE}{t:TA}{apos cpos:Pos}
theorem ss:MtR X "dict.items" pB:=by
 intro l s E H x G v K Q I p C h;obtain⟨d,c,rfl,rfl,e,q⟩:=h;cases p;cases C
 obtain⟨z,y,D,r,o,w,A,i,f,n,F,J⟩:=(show ObjOk X.prog X.w H s.heap d (.dT c) from e.ok I.hok)
 have x:DE s.heap d w A:=⟨o,i,f,n⟩
 refine call_meetsIn PySem.F.slot_dict_items x.ty PySem.F.entry_dict_items (PySem.F.args_dict_items_1 _) (wB y) ⟨x,?_⟩;refine⟨.ref s.heap.objs.size,_,I.laid (t':=s.toks) (a:=s.heap.objs.size) (o:=.ext (IV s.heap.objs.size d)) (λb u e=>Heap.get?_push_of_some _ e) (Nat.le_refl _) ?_,rfl,q _ (I.hok.fresh (Nat.le_refl _))⟩;have g:(s.heap.push { cls:=.type "dict_items",data:=.fields #[.ref d] }).get? s.heap.objs.size=some { cls:=.type "dict_items",data:=.fields #[.ref d] }:=Heap.get?_push_size _ rfl;exact⟨⟨_,g,rfl,rfl⟩,⟨_,g⟩,λi f ⟨j,B,r⟩ k=>⟨j,k j B,r⟩⟩
theorem nz{F:List Expr}{C:Nat}{f:Pos}{n:TE}(J:PE X e n):PI X (.Tuple F C f) e (λσ H R=>n σ H λx H1=>∃ v d kvs,x=.ref v/\H1 v=some (.ext (IV v d))/\Rd H1 d (.dT kvs)/\∀ o,R (Iti d o kvs) (upd H1 d (.frz o (.dT kvs)))):=by
 intro c s σ H R I h;refine thn (J c s σ H _ I h) λu a ⟨x,H1,k,B,v,d,kvs,y,z,p,q⟩=>?_
 subst y;obtain rfl:u=Value.ref v:=B
 obtain⟨o,ho⟩:∃ o,a.heap.get? d=some o:=by
  obtain⟨_,_,w,_,o,_,_,g,_⟩:=(show ObjOk X.prog X.w H1 a.heap d (.dT kvs) from p.ok k.hok)
  exact⟨o,g⟩
 have D:a.heap.IsItemsView v d:=(show ObjOk X.prog X.w H1 a.heap v (.ext (IV v d)) from k.hok v _ z).1;have i:=k.freeze p ho;obtain⟨w,G,M,l,K,E,r,A,L⟩:=oV i.hok ad;have j:G.size=kvs.length:=by rw[size_of_entries A,Paired.length l]
 refine qL D ⟨o,K,E,r⟩ ?_;refine⟨a.heap.objs.size,[a.heap.objs.size],_,_,_,rfl,i.kept (t':=a.toks) λb o e=>Heap.get?_push_of_some _ e,oO r j,⟨_,_,Heap.get?_push_size _ rfl⟩,λb hb=>?_,q o⟩;have e:b=a.heap.objs.size:=mem_singleton.mp hb;subst e;exact i.fpOk (Nat.le_refl _) (i.hok.fresh (Nat.le_refl _))
end
theorem kA{d:Addr}{o:Obj}{kvs:List (List Key×V)}{g:TG}{h:TS}{D:Ends}{a:St}{H:Hp}(Pv:Nat->St->Hp->Prop)(h0:Pv 0 a H)(k:∀ i a H,Pv i a H->H d=some (.frz o (.dT kvs)))
  (r:∀(i:Nat) kv b a H p,kvs[i]? = some kv->H b=some (.tup (kv.1.map kV))->Pv i a H->H p=none->g (.ref p) a (upd H p (.tup [.ref b,kv.2])) λσ2 H2=>h { D with nx:=Pv (i+1),ct:=Pv (i+1),bk:=D.nx } σ2 H2) (l:∀ a H,Pv kvs.length a H->D.nx a H) :
  ∃ W:Nat->Nat->St->Hp->Prop,(∃ m,W 0 m a H)/\∀ i m a H,W i m a H ->
   ((Iti d o kvs).stop i H/\D.nx a H)\/((Iti d o kvs).go i H/\∃ N:St->Hp->Prop,(∀ σ' H',N σ' H'->∃ m',m'<m/\W (i+1) m' σ' H')/\∀ x H',(Iti d o kvs).yld i H x H'->g x a H' λσ2 H2=>h { D with nx:=N,ct:=N,bk:=D.nx } σ2 H2):=by
 refine⟨λi m a H=>m=kvs.length - i/\i<=kvs.length/\Pv i a H,⟨_,rfl,Nat.zero_le _,h0⟩,?_⟩;rintro i m a H ⟨rfl,u,p⟩;have q:=k i a H p
 by_cases hlt:i<kvs.length
 .refine .inr ⟨⟨q,hlt⟩,Pv (i+1),λσ' H' s=>⟨_,by lia,rfl,hlt,s⟩,λx H' y=>?_⟩
  obtain⟨b,n,kv,j,c,rfl,f,rfl⟩:=y;exact r i kv n a H b c f p j
 .have e:i=kvs.length:=by lia
  subst e;exact .inl ⟨⟨q,Nat.le_refl _⟩,l a H p⟩
end L2
namespace L2
open PySem PySem.Spec PyProof.Rows
section
variable {prog:Program}{w:World}{KT:Type} [DecidableEq KT] {knd:HeapKind prog w KT}{A:Around}{E:Value->Shared->Prop}{s:Shared}{d a:Addr}{xs:List (KT×Addr×Value)}{k:KT}{dflt:Value}
theorem sdH{Q:Value->Shared->Prop}(r:knd.room A)(b:knd.is s.heap k a)(B:s.heap.DictOfH knd d xs)(hsz:xs.length<=sizeLine)
  (C:∀ p,atKey xs k=some p->Q p.2 { s with toks:=s.toks+knd.draws k })
  (z:atKey xs k=none->∀ h',h'.DictOfH knd d (storedH xs k a dflt)->Heap.SameBut d s.heap h'->Q dflt { s with heap:=h',toks:=s.toks+knd.draws k }):wpAny (model prog w) A (dictSetDefault d (.ref a) dflt) Q E s:=by
 obtain⟨o,G,D,f,F,c,n,h,q⟩:=B;unfold dictSetDefault;refine wpAny_holding (wpAny_bind (knd.pyHash r b (wpAny_bind (wpAny_dictFind_heap (s:={ s with toks:=s.toks+knd.draws k }) r b f c n h q ?_ ?_))))
 .intro l
  have i:k ∉ xs.map (·.1):=not_mem_keys_of_get l;have g:=atKey_none_of_get l
  refine wpAny_bind (wpAny_rule (wpAny_bind (wpAny_updateDictKeys (hz:=by have e:=size_of_entries n;lia) (s:={ s with toks:=s.toks+knd.draws k }) f c (wpAny_pure (z g _ ⟨_,_,D+1,Heap.get?_update_self _ f (Obj.isFreed_of_dict (Obj.data_mapDictKeys c _)),
   F.mapDictKeys _,Obj.data_mapDictKeys c _,?_,?_,?_⟩ (Heap.SameBut.update ..))))))
  .rw[storedH_new g]
   simp[n,entryOfKey]
  .rw[storedH_new g]
   intro x hx
   rcases mem_append.mp hx with hx | hx
   .exact knd.keeps (h x hx) f c (Heap.SameBut.update ..)
   .simp only[mem_singleton]at hx
    subst hx;exact knd.keeps b f c (Heap.SameBut.update ..)
  .rw[storedH_new g]
   rw[map_append,nodup_append];refine⟨q,by simp,?_⟩;intro x hx y v;simp only[map_cons,map_nil,mem_singleton]at v;subst v;exact λe=>i (e ▸ hx)
 .intro j p u
  have g:=atKey_of_get q u;refine wpAny_bind (wpAny_dictEntries (s:={ s with toks:=s.toks+knd.draws k }) f c ?_);rw[entry_at n j,u];exact wpAny_bind (wpAny_rule (wpAny_pure (C p g)))
theorem rL(j:(d == sysModules)=false)(b:Value):MeetsIn prog w (Builtin.«dict.setdefault» ⟨[.ref d,.ref a,b],[]⟩) (λA R s=>knd.room A.in1/\∃ k xs,knd.is s.heap k a/\s.heap.DictOfH knd d xs/\xs.length<=sizeLine /\
  (∀ p,atKey xs k=some p->R (.ok (.ret p.2)) { s with toks:=s.toks+knd.draws k })/\(atKey xs k=none->∀ h',h'.DictOfH knd d (storedH xs k a b)->Heap.SameBut d s.heap h'->R (.ok (.ret b)) { s with heap:=h',toks:=s.toks+knd.draws k })) :=
 .of_wp λA R s ⟨h,k,xs,c,f,l,g,i⟩=>by
  unfold Builtin.«dict.setdefault»;refine wpAny_bind ?_;unfold Builtin.Dict.keyAndDefault;refine wpAny_bind (wpAny_notOrdered_dict f.typeIs (show wpAny _ _ (pure (d,Value.ref a,some b)) _ _ s from wpAny_pure ?_));show wpAny _ _ (if (d == sysModules)=true then _ else (dictSetDefault d (.ref a) b >>= _)) _ _ s;rw[if_neg (by rw[j];exact Bool.false_ne_true)];exact wpAny_bind (sdH h c f l (λp n=>wpAny_pure ⟨_,rfl,g p n⟩) λhn h' m' s'=>wpAny_pure ⟨_,rfl,i hn h' m' s'⟩)
end
def BQ(td ty tx:TE):TE:=λσ H Q=>td σ H λx H1=>∃ a,x=.ref a/\IsD H1 a/\ty σ H1 λy H2=>tx σ H2 λz H3=>∃ kvs k b,y=.ref b/\H3 b=some (.tup (k.map kV))/\H3 a=some (.dT kvs)/\kvs.length<sizeLine /\
 (∀ v,dO kvs k=some v->Q v H3)/\(dO kvs k=none->Q z (upd H3 a (.dT (kvs++[(k,z)]))))
section
variable {X:Cx}{o e f:Expr}{apos cpos:Pos}{td ty tx:TE}
theorem ze(hu:X.A.units+1<cLine)(ho:PE X o td)(he:PE X e ty)(N:PE X f tx)(m:M2 X o "setdefault" apos e f cpos):PE X (.Call (.Attribute o "setdefault" apos) [e,f] [] cpos) (BQ td ty tx):=by
 intro i s v H Q I h;refine wpAny_Call_method m.base m.few m.line PySem.F.plainAttrs_dict PySem.F.slot_dict_setdefault PySem.F.type_dict_setdefault (thn (ho i s v H _ I h) λu s1 ⟨x,T,G,K,a,M,d,P⟩=>?_);subst M;obtain rfl:u=Value.ref a:=K;obtain⟨L,t2,_⟩:=tD G d;refine⟨L,t2,?_⟩;rw[m.trees]
 refine Calls.callWith_builtin rfl (Calls.evalArgs_plain (Calls.spliced_cons (thn (he i s1 v T _ G P) λiv s2 ⟨y,H2,I2,ry,q2⟩ =>
  Calls.spliced_cons (thn (N i s2 v H2 _ I2 q2) λfv s3 ⟨z,H3,r,F,g,k,b,ey,C,w,l,R,q4⟩=>Calls.spliced_nil ?_))))
 subst ey;cases(show iv=Value.ref b from ry);obtain⟨zz,J,A,n,E⟩:=uk r.hok w;have W:A.length<=sizeLine:=by rw[<- Paired.length n];exact zz
 refine call_meetsIn PySem.F.slot_dict_setdefault E.typeIs PySem.F.entry_dict_setdefault (PySem.F.args_dict_setdefault_3 _ _ _) (rL (knd:=tupleKind (aW X.prog X.w)) J fv) ⟨tupleKind_room_in1 hu,k,A,jf r.hok C,E,W,λp hp=>?_,λhn h' m' s'=>?_⟩
 .have j:=n.val k
  rw[hp]at j;cases q:dO g k with
  | none=>rw[q]at j;exact False.elim j
  | some y'=>rw[q]at j;exact⟨y',H3,r.tok _,j,R y' q⟩
 .have j:=n.val k
  rw[hn]at j
  have q:dO g k=none:=by
   cases q:dO g k with
   | none=>rfl
   | some y'=>rw[q]at j;exact False.elim j
  have Z:(g++[(k,z)]).length<=sizeLine:=by rw[length_append];exact l
  have D:=n.put k C F;rw[mj z q]at D;obtain⟨ob,es,ep,B,Y,h3,h4,_,h5⟩:=m';refine⟨z,_,lc (ob:=.dT (g++[(k,z)])) r (by rw[w];exact True.intro) s' ⟨ob,B⟩ ⟨Z,J,_,D.keeps λc ys ec=>?_,ob,es,ep,B,Y,h3,h4,h5⟩,F,q4 q⟩;rw[ag (cY ec w (λz=>nomatch z))];exact ec
end
end L2
namespace TS
open PySem PySem.W PyProof.Rows WSrt
abbrev SM:=StateT SortSt Sem
def S(κ:SortKind)(it:Nat->Keyed)(p:Array Nat)(pd:Array (Nat×Nat×Nat))(g:Nat):SortSt:=SortSt.mk' κ (p.map it) pd g none
def fO(prog:Program)(w:World)(A:Around)(s:Shared)(κ:SortKind)(it:Nat->Keyed)(n:Nat):Prop :=
 ∀ i j,i<n->j<n->i≠j->∀ Q:Bool->Shared->Prop,Q (decide (i<j)) s->wpAny (model prog w) A (keyLt' κ (it i).1 (it j).1) Q (λ_ _=>False) s
def Up(p:Array Nat)(lo hi:Nat):Prop:=∀ i j,lo<=i->i<j->j<hi->e p i<e p j
section
variable {prog:Program}{w:World}{A:Around}{E:Value->Shared->Prop}{s:Shared}{κ:SortKind}{it:Nat->Keyed}{n:Nat}
theorem nG(k:fO prog w A s κ it n){st:SortSt}{i j:Nat}{Q:Option Bool->SortSt->Prop}(f:kindOf st=κ)(d:i<n)(g:j<n)(a:i≠j)(h:Q (some (decide (i<j))) st):wpS (model prog w) A E s (lt' (it i) (it j)) Q st:=by
 rw[lt'_eq];refine wpS_bind (wpS_get ?_);rw[f];refine wpS_bind (wpS_lift (wpAny_attempt (wpAny_mono (k i j d g a (λb c=>c=s/\b=decide (i<j)) ⟨rfl,rfl⟩) (λb c hb=>?_) λ_ _ z=>z.elim)));obtain⟨rfl,rfl⟩:=hb;exact⟨rfl,wpS_pure h⟩
theorem kT{p:Array Nat}{i:Nat}(h:i<p.size):(p.map it)[i]? = some (it (e p i)):=by
 unfold e;rw[Array.getElem?_map,getElem?_pos p i h];rfl
theorem be{p:Array Nat}{i:Nat}{st:SortSt}{Q:Keyed->SortSt->Prop}(a:i<p.size)(h:Q (it (e p i)) st):wpS (model prog w) A E s (elem' (p.map it) i) Q st:=by
 rw[elem'_eq,kT a];exact wpS_pure h
theorem gH(k:fO prog w A s κ it n){p:Array Nat}{f:Array (Nat×Nat×Nat)}{g i j:Nat}{Q:Option Bool->SortSt->Prop}(a:PV n p)(c:i<n)(d:j<n)(b:i≠j)(h:Q (some (decide (e p i<e p j))) (S κ it p f g)) :
  wpS (model prog w) A E s (ltAt' i j) Q (S κ it p f g):=by
 rw[ltAt'_eq];refine wpS_bind (wpS_get ?_);show wpS _ _ _ _ (do let x <- elem' (p.map it) i;let y <- elem' (p.map it) j;lt' x y) Q _;refine wpS_bind (be (by rw[a.sz];exact c) (wpS_bind (be (by rw[a.sz];exact d) ?_)));exact nG k rfl (a.bd n c) (a.bd n d) (a.ne n c d b) h
theorem yV{p:Array Nat}{a:Array (Nat×Nat×Nat)}{g i j:Nat}{Q:Unit->SortSt->Prop}(h:Q () (S κ it (kas_rev p i j) a g)):wpS (model prog w) A E s (reverseSlice' i j) Q (S κ it p a g):=by
 rw[reverseSlice'_eq];refine wpS_modify ?_;have b:mirror (p.map it) i j ((j - i)/2)=(mirror p i j ((j - i)/2)).map it:=kas_swaps_map it (λk=>i+k) (λk=>j - 1 - k) _ p;show Q () (SortSt.mk' κ (mirror (p.map it) i j ((j - i)/2)) a g none);rw[b];exact h
theorem vY{p:Array Nat}{a:Array (Nat×Nat×Nat)}{g k l:Nat}{Q:Unit->SortSt->Prop}(h:Q () (S κ it (bubble p k (k - l)) a g)):wpS (model prog w) A E s (moveDown' k l) Q (S κ it p a g):=by
 rw[moveDown'_eq];refine wpS_modify ?_;have b:bubble (p.map it) k (k - l)=(bubble p k (k - l)).map it:=kas_swaps_map it (λi=>k - i) (λi=>k - i - 1) _ p;show Q () (SortSt.mk' κ (bubble (p.map it) k (k - l)) a g none);rw[b];exact h
theorem wc{p:Array Nat}{lo m:Nat}(h:Up p lo m)(f:lo+1<=m)(c:e p (m - 1)<e p m):Up p lo (m+1):=by
 intro i j b a d
 by_cases c1:j<m
 .exact h i j b a c1
 .have:j=m:=by lia
  subst this
  by_cases c2:i=j - 1
  .rw[c2];exact c
  .exact Nat.lt_trans (h i (j - 1) b (by lia) (by lia)) c
theorem yM{p:Array Nat}{lo:Nat}:Up p lo (lo+1):=λi j c a b=>by lia
theorem vm(v:fO prog w A s κ it n){p:Array Nat}{k:Array (Nat×Nat×Nat)}{g lo a b:Nat}{Q:Option (Option Nat)×Nat->SortSt->Prop}(o:PV n p)(C:lo+b<=n)(B:1<=a)(u:a<=b)(q:Up p lo (lo+a))
  (h:∀ m,a<=m->m<=b->Up p lo (lo+m)->(m<b->e p (lo+m)<e p (lo+m - 1))->Q (none,m) (S κ it p k g)) :
  wpS (model prog w) A E s (forIn [a:b] ((none,a):Option (Option Nat)×Nat) λ_ __s=>do
   let __x <- ltAt' (lo+__s.snd) (lo+__s.snd - 1)
   match __x with
   | some smaller=>if smaller=true then pure (ForInStep.done (none,__s.snd)) else pure (ForInStep.yield (none,__s.snd+1))
   | _=>pure (ForInStep.done (some none,__s.snd))) Q (S κ it p k g):=by
 refine wpS_forRange (I:=λx c f=>f=S κ it p k g/\c=(none,x)/\Up p lo (lo+x)) ?step ?fin ⟨rfl,rfl,q⟩
 case fin =>
  rintro c f ⟨rfl,rfl,d⟩;rw[show max a b=b by lia]at d ⊢;exact h b u (Nat.le_refl _) d (λz=>absurd z (Nat.lt_irrefl _))
 case step =>
  rintro x c f l r ⟨rfl,rfl,d⟩;dsimp only;refine wpS_bind (gH v o (by lia) (by lia) (by lia) ?_)
  by_cases c:e p (lo+x)<e p (lo+x - 1)
  .rw[decide_eq_true c]
   exact wpS_pure (h x l (by lia) d (λ_=>c))
  .rw[decide_eq_false c]
   have y:=o.ne n (i:=lo+x) (j:=lo+x - 1) (by lia) (by lia) (by lia);exact wpS_pure ⟨rfl,rfl,wc (m:=lo+x) d (by lia) (by lia)⟩
def Dn(p:Array Nat)(lo hi:Nat):Prop:=∀ i j,lo<=i->i<j->j<hi->e p j<e p i
theorem qu{p:Array Nat}{lo m:Nat}(h:Dn p lo m)(f:lo+1<=m)(c:e p m<e p (m - 1)):Dn p lo (m+1):=by
 intro i j b a d
 by_cases c1:j<m
 .exact h i j b a c1
 .have:j=m:=by lia
  subst this
  by_cases c2:i=j - 1
  .rw[c2];exact c
  .exact Nat.lt_trans c (h i (j - 1) b (by lia) (by lia))
theorem zH{p:Array Nat}{lo m:Nat}(a:m<=p.size)(h:Dn p lo m):Up (kas_rev p lo m) lo m:=by
 intro i j d b c;rw[fT a,fT a,if_pos (by lia),if_pos (by lia)];exact h _ _ (by lia) (by lia) (by lia)
theorem sX(l:fO prog w A s κ it n){p:Array Nat}{q:Array (Nat×Nat×Nat)}{g lo a:Nat}{Q:Option Nat->SortSt->Prop}(d:PV n p)(B:lo+a<=n)(G:1<=a)
  (h:∀ m p',PV n p'->1<=m->m<=a->Up p' lo (lo+m)->(∀ k,k<lo->e p' k=e p k)->Q (some m) (S κ it p' q g)) :
  wpS (model prog w) A E s (countRun' lo a) Q (S κ it p q g):=by
 rw[countRun'_eq];refine wpS_bind (vm l d B (Nat.le_refl 1) G yM λm z o r v=>?_);dsimp only
 by_cases c0:m=a
 .rw[if_pos (by simpa using c0)]
  exact wpS_pure (h m p d z o r λ_ _=>rfl)
 rw[if_neg (by simpa using c0)]
 by_cases c1:m > 1
 .rw[if_pos c1]
  refine wpS_bind (gH l d (by lia) (by lia) (by lia) ?_);rw[decide_eq_true (r lo (lo+m - 1) (by lia) (by lia) (by lia))];exact wpS_pure (h m p d z o r λ_ _=>rfl)
 rw[if_neg c1];obtain rfl:m=1:=by lia
 have v:=v (by lia);refine wpS_bind (wpS_lift (wpAny_rule ⟨rfl,?_⟩));refine wpS_bind (wpS_mono (wpS_forRange (I:=λx c b=>b=S κ it p q g/\c=(none,x,0)/\Dn p lo (lo+x)) (Q:=λc b=>b=S κ it p q g/\∃ x,c=(none,x,0)/\1<=x/\x<=a/\Dn p lo (lo+x)) ?step ?fin ⟨rfl,rfl,?ini⟩) ?post)
 case ini=>exact qu (m:=lo+1) (λi j L K M=>by lia) (by lia) v
 case fin =>
  rintro c b ⟨rfl,rfl,f⟩;rw[show max (1+1) a=a by lia]at f ⊢;exact⟨rfl,a,rfl,by lia,Nat.le_refl _,f⟩
 case step =>
  rintro x c b J F ⟨rfl,rfl,f⟩;dsimp only;refine wpS_bind (gH l d (by lia) (by lia) (by lia) ?_)
  by_cases c:e p (lo+x)<e p (lo+x - 1)
  .rw[decide_eq_true c]
   exact wpS_pure ⟨rfl,rfl,qu (m:=lo+x) f (by lia) c⟩
  .rw[decide_eq_false c]
   have N:=d.ne n (i:=lo+x) (j:=lo+x - 1) (by lia) (by lia) (by lia);refine wpS_bind (gH l d (by lia) (by lia) (by lia) ?_);rw[decide_eq_true (show e p (lo+x - 1)<e p (lo+x) by lia)];exact wpS_pure ⟨rfl,x,rfl,by lia,by lia,f⟩
 case post =>
  rintro c b ⟨rfl,x,rfl,D,H,f⟩;dsimp only;rw[if_neg (by lia)];have y:lo+x<=p.size:=by rw[d.sz];lia
  refine wpS_bind (yV ?_);refine wpS_bind (vm l (d.rev n _ _) B D H (zH y f) λo P C u _=>?_);refine wpS_pure (h o _ (d.rev n _ _) (by lia) C u λk R=>?_);rw[fT y,if_neg (by lia)]
theorem PV.bub{p:Array Nat}(h:PV n p)(k d:Nat):PV n (bubble p k d):=⟨by rw[bubble_size];exact h.sz,(Array.perm_iff_toList_perm.mp (bubble_perm p k d)).trans h.pm⟩
theorem rq(T:fO prog w A s κ it n){p:Array Nat}{B:Array (Nat×Nat×Nat)}{g lo m z:Nat}{Q:Bool->SortSt->Prop}(Y:PV n p)(hn:lo+m<=n)(J:z<=m)(G:1<=z)(P:Up p lo (lo+z))
  (h:∀ p',PV n p'->Up p' lo (lo+m)->(∀ k,k<lo->e p' k=e p k)->Q true (S κ it p' B g)):wpS (model prog w) A E s (binarySort' lo m z) Q (S κ it p B g):=by
 rw[binarySort'_eq]
 refine wpS_bind (wpS_mono (wpS_forRange (I:=λk c q=>c=(none,())/\∃ p',q=S κ it p' B g/\PV n p'/\Up p' lo (lo+min k m)/\∀ k,k<lo->e p' k=e p k)
  (Q:=λc q=>c=(none,())/\∃ p',q=S κ it p' B g/\PV n p'/\Up p' lo (lo+m)/\∀ k,k<lo->e p' k=e p k) ?step ?fin ?init) ?post)
 case post =>
  rintro c q ⟨rfl,p',rfl,d,b,u⟩;exact wpS_pure (h p' d b u)
 case init=>exact⟨rfl,p,rfl,Y,by rw[show min (max z 1) m=z by lia];exact P,λ_ _=>rfl⟩
 case fin =>
  rintro c q ⟨D,p',M,d,b,u⟩;rw[show min (max (max z 1) m) m=m by lia]at b;exact⟨D,p',M,d,b,u⟩
 case step =>
  rintro k c q L R ⟨rfl,p',rfl,d,b,u⟩;rw[show min k m=k by lia]at b
  refine wpS_bind (wpS_mono (wpS_forRange (I:=λx c a=>a=S κ it p' B g/\∃ l r,c=(none,l,r)/\l<=r/\r<=k/\r - l<=k - x/\(∀ i,i<l->e p' (lo+i)<e p' (lo+k))/\(∀ i,r<=i->i<k->e p' (lo+k)<e p' (lo+i)))
   (Q:=λc a=>a=S κ it p' B g/\∃ l r,c=(none,l,r)/\l<=k/\(∀ i,i<l->e p' (lo+i)<e p' (lo+k))/\(∀ i,l<=i->i<k->e p' (lo+k)<e p' (lo+i))) ?istep ?ifin ?iinit) ?ipost)
  case iinit=>exact⟨rfl,0,k,rfl,by lia,by lia,by lia,λi C=>by lia,λi G K=>by lia⟩
  case ifin =>
   rintro c a ⟨rfl,l,r,rfl,F,y,N,o,f⟩;obtain rfl:l=r:=by lia
   exact⟨rfl,l,l,rfl,y,o,f⟩
  case istep =>
   rintro x c a _ H ⟨rfl,l,r,rfl,F,y,N,o,f⟩;dsimp only
   by_cases hge:l >= r
   .rw[if_pos hge]
    obtain rfl:l=r:=by lia
    exact wpS_pure ⟨rfl,l,l,rfl,y,o,f⟩
   .rw[if_neg hge]
    refine wpS_bind (gH T d (by lia) (by lia) (by lia) ?_)
    by_cases c:e p' (lo+k)<e p' (lo+(l+r)/2)
    .rw[decide_eq_true c]
     refine wpS_pure ⟨rfl,l,(l+r)/2,rfl,by lia,by lia,by lia,o,λi G K=>?_⟩
     by_cases ci:i=(l+r)/2
     .rw[ci];exact c
     .exact Nat.lt_trans c (b _ _ (by lia) (by lia) (by lia))
    .rw[decide_eq_false c]
     have ne:=d.ne n (i:=lo+k) (j:=lo+(l+r)/2) (by lia) (by lia) (by lia);refine wpS_pure ⟨rfl,(l+r)/2+1,r,rfl,by lia,by lia,by lia,λi G=>?_,f⟩
     by_cases ci:i=(l+r)/2
     .rw[ci];lia
     .have:=b (lo+i) (lo+(l+r)/2) (by lia) (by lia) (by lia)
      lia
  case ipost =>
   rintro c a ⟨rfl,l,r,rfl,W,o,f⟩;dsimp only;have v:lo+k<p'.size:=by rw[d.sz];lia
   refine wpS_bind (vY (wpS_pure ⟨rfl,_,rfl,PV.bub d _ _,?_,λi C=>?_⟩))
   .rw[show min (k+1) m=k+1 by lia]
    intro i j C X Z;rw[gL v (by lia),gL v (by lia)]
    repeat' split
    all_goals first
     | (exfalso;lia)
     | (have:=o (i - lo) (by lia);rw[show lo+(i - lo)=i by lia]at this;exact this)
     | (have:=f (j - 1 - lo) (by lia) (by lia);rw[show lo+(j - 1 - lo)=j - 1 by lia]at this;exact this)
     | exact b _ _ (by lia) (by lia) (by lia)
   .rw[gL v (by lia),if_neg (by lia),if_neg (by lia)]
    exact u i C
end
def cM:Bool->Keyed->Array Keyed->Nat->Nat->Nat->SM (Option Nat):=sortPriv% PySem.Builtin.gallop
def eE(left:Bool)(key:Keyed)(arr:Array Keyed)(base:Nat)(i:Nat):SM (Option Bool):=do
 let x <- elem' arr (base+i)
 if left then lt' x key else return (<- lt' key x).map (!·)
theorem oA(left:Bool)(c:Keyed)(d:Array Keyed)(b n a:Nat):cM left c d b n a=(do
 let mut lastofs:=0
 let mut ofs:=1
 let mut lo:=0
 let mut hi:=0
 let some right <- eE left c d b a | return none
 if right then
  let maxofs:=n - a
  for _ in [0:n] do
   if ofs >= maxofs then break
   let some more <- eE left c d b (a+ofs) | return none
   if !more then break
   lastofs:=ofs
   ofs:=2*ofs+1
  lo:=a+lastofs+1
  hi:=a+min ofs maxofs
 else
  let maxofs:=a+1
  for _ in [0:n] do
   if ofs >= maxofs then break
   let some found <- eE left c d b (a - ofs) | return none
   if found then break
   lastofs:=ofs
   ofs:=2*ofs+1
  lo:=a+1 - min ofs maxofs
  hi:=a - lastofs
 for _ in [0:n] do
  if lo >= hi then break
  let m:=lo+(hi - lo)/2
  let some more <- eE left c d b m | return none
  if more then lo:=m+1 else hi:=m
 return some hi):=rfl
section
variable {prog:Program}{w:World}{A:Around}{E:Value->Shared->Prop}{s:Shared}{κ:SortKind}{it:Nat->Keyed}{n:Nat}
theorem rk(g:fO prog w A s κ it n){left:Bool}{k:Nat}{p:Array Nat}{a i:Nat}{st:SortSt}{Q:Option Bool->SortSt->Prop}(b:kindOf st=κ)(j:k<n)(l:a+i<p.size)(f:e p (a+i)<n)(d:e p (a+i)≠k)
  (h:Q (some (decide (e p (a+i)<k))) st):wpS (model prog w) A E s (eE left (it k) (p.map it) a i) Q st:=by
 unfold eE;refine wpS_bind (be l ?_);cases left with
 | true=>exact nG g b f j d h
 | false =>
  refine wpS_bind (nG g b j f d.symm (wpS_pure ?_))
  have:(!decide (k<e p (a+i)))=decide (e p (a+i)<k):=by
   by_cases c:k<e p (a+i)
   .rw[decide_eq_true c,decide_eq_false (by lia)];rfl
   .rw[decide_eq_false c,decide_eq_true (by lia)];rfl
  show Q (some (!decide (k<e p (a+i)))) st;rw[this];exact h
theorem dU(hc:fO prog w A s κ it n){left:Bool}{k:Nat}{p:Array Nat}{a m b:Nat}{st:SortSt}{Q:Option Nat->SortSt->Prop}(R:kindOf st=κ)(hk:k<n)(hsz:a+m<=p.size)(P:∀ i,i<m->e p (a+i)<n/\e p (a+i)≠k)(hu:Up p a (a+m))(hh:b<m)
  (h:∀ r,r<=m->(∀ i,i<r->e p (a+i)<k)->(∀ i,r<=i->i<m->k<e p (a+i))->Q (some r) st):wpS (model prog w) A E s (cM left (it k) (p.map it) a m b) Q st:=by
 have C:∀{i:Nat}{Q:Option Bool->SortSt->Prop},i<m->Q (some (decide (e p (a+i)<k))) st->wpS (model prog w) A E s (eE left (it k) (p.map it) a i) Q st:=λu Y=>rk hc R hk (by lia) (P _ u).1 (P _ u).2 Y
 have D:∀ i j,i<=j->j<m->e p (a+j)<k->e p (a+i)<k:=λi j K M c=>by
  by_cases z:i=j
  .rw[z];exact c
  .exact Nat.lt_trans (hu _ _ (by lia) (by lia) (by lia)) c
 have B:∀ i j,i<=j->j<m->¬e p (a+i)<k->k<e p (a+j):=λi j K M c=>by
  by_cases z:e p (a+j)<k
  .exact absurd (D i j K M z) c
  .have:=(P j M).2;lia
 have G:∀ g u,g<=u->u<=m->(∀ i,i<g->e p (a+i)<k)->(∀ i,u<=i->i<m->k<e p (a+i)) ->
   wpS (model prog w) A E s (forIn [0:m] ((none,g,u):Option (Option Nat)×Nat×Nat) λ_ o=>if o.snd.fst >= o.snd.snd then pure (ForInStep.done (none,o.snd.fst,o.snd.snd)) else do
    let __x <- eE left (it k) (p.map it) a (o.snd.fst+(o.snd.snd - o.snd.fst)/2)
    match __x with
    | some more=>if more=true then pure (ForInStep.yield (none,o.snd.fst+(o.snd.snd - o.snd.fst)/2+1,o.snd.snd)) else pure (ForInStep.yield (none,o.snd.fst,o.snd.fst+(o.snd.snd - o.snd.fst)/2))
    | _=>pure (ForInStep.done (some none,o.snd.fst,o.snd.snd))) (λc f=>f=st/\∃ l r,c=(none,l,r)/\r<=m/\(∀ i,i<r->e p (a+i)<k)/\(∀ i,r<=i->i<m->k<e p (a+i))) st:=by
  intro g u h1 Z h3 h4;refine wpS_forRange (I:=λx c f=>f=st/\∃ l r,c=(none,l,r)/\l<=r/\r<=m/\r - l<=m - x/\(∀ i,i<l->e p (a+i)<k)/\(∀ i,r<=i->i<m->k<e p (a+i))) ?_ ?_ ⟨rfl,g,u,rfl,h1,Z,by lia,h3,h4⟩
  .rintro x c f _ X ⟨rfl,l,r,rfl,y,H,v,q,F⟩
   dsimp only
   by_cases c:l >= r
   .rw[if_pos c]
    obtain rfl:l=r:=by lia
    exact wpS_pure ⟨rfl,l,l,rfl,H,q,F⟩
   rw[if_neg c];refine wpS_bind (C (by lia) ?_)
   by_cases c:e p (a+(l+(r - l)/2))<k
   .rw[decide_eq_true c]
    exact wpS_pure ⟨rfl,_,_,rfl,by lia,by lia,by lia,λi u=>D i _ (by lia) (by lia) c,F⟩
   .rw[decide_eq_false c]
    exact wpS_pure ⟨rfl,_,_,rfl,by lia,by lia,by lia,q,λi u J=>B _ i u J c⟩
  .rintro c f ⟨rfl,l,r,rfl,y,H,v,q,F⟩
   rw[show max 0 m=m by lia]at v;obtain rfl:l=r:=by lia
   exact⟨rfl,l,l,rfl,H,q,F⟩
 rw[oA];refine wpS_bind (C hh ?_)
 by_cases c0:e p (a+b)<k
 .rw[decide_eq_true c0]
  dsimp only;rw[if_pos rfl]
  refine wpS_bind (wpS_mono (wpS_forRange (I:=λx c f=>f=st/\∃ g d,c=(none,g,d)/\g<d/\x<d/\b+g<m/\e p (a+(b+g))<k)
   (Q:=λc f=>f=st/\∃ g d,c=(none,g,d)/\g<d/\b+g<m/\e p (a+(b+g))<k/\(m - b<=d\/(b+d<m/\¬e p (a+(b+d))<k))) ?step ?fin ⟨rfl,0,1,rfl,by lia,by lia,by lia,c0⟩) ?post)
  case fin =>
   rintro c f ⟨rfl,g,d,rfl,y,H,v,q⟩;exact⟨rfl,g,d,rfl,y,v,q,.inl (by lia)⟩
  case step =>
   rintro x c f _ X ⟨rfl,g,d,rfl,y,H,v,q⟩;dsimp only
   by_cases c:d >= m - b
   .rw[if_pos c]
    exact wpS_pure ⟨rfl,g,d,rfl,y,v,q,.inl c⟩
   rw[if_neg c];refine wpS_bind (C (by lia) ?_)
   by_cases c2:e p (a+(b+d))<k
   .rw[decide_eq_true c2]
    exact wpS_pure ⟨rfl,d,2*d+1,rfl,by lia,by lia,by lia,c2⟩
   .rw[decide_eq_false c2]
    exact wpS_pure ⟨rfl,g,d,rfl,y,v,q,.inr ⟨by lia,c2⟩⟩
  case post =>
   rintro c f ⟨rfl,g,d,rfl,y,v,q,F⟩;dsimp only;refine wpS_bind (wpS_mono (G (b+g+1) (b+min d (m - b)) (by lia) (by lia) (λi u=>D i _ (by lia) v q) (λi u J=>?_)) ?_)
   .rcases F with z | ⟨z1,T⟩
    .lia
    .exact B _ i (by lia) J T
   .rintro c f ⟨rfl,l,r,rfl,N,L,W⟩
    exact wpS_pure (h r N L W)
 .rw[decide_eq_false c0]
  dsimp only;rw[if_neg (by simp)]
  refine wpS_bind (wpS_mono (wpS_forRange (I:=λx c f=>f=st/\∃ g d,c=(none,g,d)/\g<d/\x<d/\g<=b/\¬e p (a+(b - g))<k)
   (Q:=λc f=>f=st/\∃ g d,c=(none,g,d)/\g<d/\g<=b/\¬e p (a+(b - g))<k/\(b+1<=d\/(d<=b/\e p (a+(b - d))<k))) ?step ?fin ⟨rfl,0,1,rfl,by lia,by lia,by lia,c0⟩) ?post)
  case fin =>
   rintro c f ⟨rfl,g,d,rfl,y,H,v,q⟩;exact⟨rfl,g,d,rfl,y,v,q,.inl (by lia)⟩
  case step =>
   rintro x c f _ X ⟨rfl,g,d,rfl,y,H,v,q⟩;dsimp only
   by_cases c:d >= b+1
   .rw[if_pos c]
    exact wpS_pure ⟨rfl,g,d,rfl,y,v,q,.inl c⟩
   rw[if_neg c];refine wpS_bind (C (by lia) ?_)
   by_cases c2:e p (a+(b - d))<k
   .rw[decide_eq_true c2]
    exact wpS_pure ⟨rfl,g,d,rfl,y,v,q,.inr ⟨by lia,c2⟩⟩
   .rw[decide_eq_false c2]
    exact wpS_pure ⟨rfl,d,2*d+1,rfl,by lia,by lia,by lia,c2⟩
  case post =>
   rintro c f ⟨rfl,g,d,rfl,y,v,q,F⟩;dsimp only;refine wpS_bind (wpS_mono (G (b+1 - min d (b+1)) (b - g) (by lia) (by lia) (λi u=>?_) (λi u J=>B _ i (by lia) J q)) ?_)
   .rcases F with z | ⟨z1,T⟩
    .lia
    .exact D i _ (by lia) (by lia) T
   .rintro c f ⟨rfl,l,r,rfl,N,L,W⟩
    exact wpS_pure (h r N L W)
end
structure MI(la lb q:List Nat)(ia ib:Nat):Prop where
 perm:q.Perm (la.take ia++lb.take ib)
 srt:q.Pairwise (· < ·)
 ba:∀ x∈q,∀ y∈la.drop ia,x<y
 bb:∀ x∈q,∀ y∈lb.drop ib,x<y
def Fine(la lb q:List Nat):Prop:=q.Perm (la++lb)/\q.Pairwise (· < ·)
section
variable {la lb q:List Nat}{ia ib:Nat}
theorem rm(l:List Nat)(i k:Nat):l.take (i+k)=l.take i++(l.drop i).take k:=take_add
theorem MI.swap(m:MI la lb q ia ib):MI lb la q ib ia:=⟨m.perm.trans perm_append_comm,m.srt,m.bb,m.ba⟩
theorem MI.addB(m:MI la lb q ia ib)(d:lb.Pairwise (· < ·))(k:Nat)(h:∀ x∈(lb.drop ib).take k,∀ y∈la.drop ia,x<y):MI la lb (q++(lb.drop ib).take k) ia (ib+k):=by
 refine⟨?_,?_,?_,?_⟩
 .rw[rm,<- append_assoc]
  exact m.perm.append_right _
 .rw[pairwise_append]
  exact⟨m.srt,(d.sublist ((take_sublist _ _).trans (drop_sublist _ _))),λx c y a=>m.bb x c y (mem_of_mem_take a)⟩
 .intro x c y a
  rcases mem_append.mp c with z | z
  .exact m.ba x z y a
  .exact h x z y a
 .intro x c y a
  have b:y∈(lb.drop ib).drop k:=by rw[drop_drop];exact a
  rcases mem_append.mp c with z | z
  .exact m.bb x z y (mem_of_mem_drop b)
  .have f:(lb.drop ib).Pairwise (· < ·):=d.sublist (drop_sublist _ _)
   rw[<- take_append_drop k (lb.drop ib),pairwise_append]at f;exact f.2.2 x z y b
theorem MI.addA(m:MI la lb q ia ib)(a:la.Pairwise (· < ·))(k:Nat)(h:∀ x∈(la.drop ia).take k,∀ y∈lb.drop ib,x<y):MI la lb (q++(la.drop ia).take k) (ia+k) ib:=(m.swap.addB a k h).swap
theorem MI.endB(m:MI la lb q ia ib)(f:la.Pairwise (· < ·))(b:lb.Pairwise (· < ·))(h:∀ x∈lb.drop ib,∀ y∈la.drop ia,x<y):Fine la lb (q++lb.drop ib++la.drop ia):=by
 refine⟨?_,?_⟩
 .have c:(la.take ia++lb.take ib++lb.drop ib++la.drop ia).Perm (la++lb):=by
   rw[append_assoc (la.take ia),take_append_drop];refine(perm_append_comm (l₁:=la.take ia++lb) (l₂:=la.drop ia)).trans ?_;rw[<- append_assoc];refine List.Perm.append_right _ (perm_append_comm.trans ?_);rw[take_append_drop]
  exact((m.perm.append_right _).append_right _).trans c
 .rw[pairwise_append,pairwise_append]
  refine⟨⟨m.srt,b.sublist (drop_sublist _ _),m.bb⟩,f.sublist (drop_sublist _ _),λx d y a=>?_⟩
  rcases mem_append.mp d with z | z
  .exact m.ba x z y a
  .exact h x z y a
theorem Fine.swap(h:Fine lb la q):Fine la lb q:=⟨h.1.trans perm_append_comm,h.2⟩
theorem MI.endA(m:MI la lb q ia ib)(a:la.Pairwise (· < ·))(b:lb.Pairwise (· < ·))(h:∀ x∈la.drop ia,∀ y∈lb.drop ib,x<y):Fine la lb (q++la.drop ia++lb.drop ib):=(m.swap.endB b a h).swap
theorem iF{l:List Nat}{i y:Nat}(h:y∈l.drop i):∃ j,i<=j/\j<l.length/\y=e l.toArray j:=by
 obtain⟨j,a,rfl⟩:=List.mem_iff_getElem.mp h;rw[length_drop]at a;refine⟨i+j,by lia,by lia,?_⟩;unfold e;simp[show i+j<l.length by lia]
theorem eK{l:List Nat}{i k y:Nat}(h:y∈(l.drop i).take k):∃ j,i<=j/\j<i+k/\j<l.length/\y=e l.toArray j:=by
 obtain⟨j,a,rfl⟩:=List.mem_iff_getElem.mp h;rw[length_take,length_drop]at a;refine⟨i+j,by lia,by lia,by lia,?_⟩;unfold e;simp[show i+j<l.length by lia]
theorem pE{l:List Nat}(h:l.Pairwise (· < ·)):Up l.toArray 0 l.length:=by
 intro i j _ a b;have:=pairwise_iff_getElem.mp h i j (by lia) b a;unfold e;simpa[show i<l.length by lia,b] using this
theorem fo{l:List Nat}{i:Nat}(h:i<l.length):e l.toArray i∈l:=by
 unfold e;simp[h]
theorem cb{l:List Nat}{i:Nat}(h:i<l.length):(l.drop i).take 1=[e l.toArray i]:=by
 rw[drop_eq_getElem_cons h];unfold e;simp only[List.getElem?_toArray,List.getElem?_eq_getElem h,Option.getD_some,List.take_succ_cons,take_zero]
end
def jH:Array Keyed->Array Keyed->SM (Array Keyed):=sortPriv% PySem.Builtin.mergeLo
def jp:Array Keyed->Array Keyed->SM (Array Keyed):=sortPriv% PySem.Builtin.mergeHi
def nU(g:Nat):SM Unit:=modify λst=>SortSt.mk' (kindOf st) (arrOf st) (pendingOf st) g (failedOf st)
theorem mO(a b:Array Keyed):jH a b=(do
 rule "list.sort.merge-lo"
 let total:=a.size+b.size
 let done (out:Array Keyed) (ia ib:Nat):=out++a.extract ia a.size++b.extract ib b.size
 let lastOfA (out:Array Keyed) (ia ib:Nat):=out++b.extract ib b.size++a.extract ia a.size
 let mut out:Array Keyed:=#[<- elem' b 0]
 let mut ia:=0
 let mut ib:=1
 if ib == b.size then return done out ia ib
 if ia+1 == a.size then return lastOfA out ia ib
 let mut minGallop:=gallopOf (<- get)
 for _ in [0:total] do
  let mut acount:=0
  let mut bcount:=0
  for _ in [0:total] do
   let some bWins <- lt' (<- elem' b ib) (<- elem' a ia) | return done out ia ib
   if bWins then
    out:=out.push (<- elem' b ib);ib:=ib+1;bcount:=bcount+1;acount:=0
    if ib == b.size then return done out ia ib
    if bcount >= minGallop then break
   else
    out:=out.push (<- elem' a ia);ia:=ia+1;acount:=acount+1;bcount:=0
    if ia+1 == a.size then return lastOfA out ia ib
    if acount >= minGallop then break
  rule "list.sort.gallop"
  minGallop:=minGallop+1
  for _ in [0:total] do
   if minGallop > 1 then minGallop:=minGallop - 1
   nU minGallop
   let some k <- cM false (<- elem' b ib) a ia (a.size - ia) 0 | return done out ia ib
   acount:=k
   if k > 0 then
    out:=out++a.extract ia (ia+k);ia:=ia+k
    if ia+1 == a.size then return lastOfA out ia ib
    if ia == a.size then return done out ia ib
   out:=out.push (<- elem' b ib);ib:=ib+1
   if ib == b.size then return done out ia ib
   let some k <- cM true (<- elem' a ia) b ib (b.size - ib) 0 | return done out ia ib
   bcount:=k
   if k > 0 then
    out:=out++b.extract ib (ib+k);ib:=ib+k
    if ib == b.size then return done out ia ib
   out:=out.push (<- elem' a ia);ia:=ia+1
   if ia+1 == a.size then return lastOfA out ia ib
   if acount<7 && bcount<7 then break
  minGallop:=minGallop+1
  nU minGallop
 unsupported "internal:list.sort.merge-bound"):=rfl
abbrev pf:=Option (Array Keyed)×Array Keyed×Nat×Nat×Nat×Nat×Nat
def xg(a b out:Array Keyed)(ia ib g ac bc:Nat):SM (ForInStep pf):=do
 let x <- elem' a ia
 if (ia+1+1 == a.size)=true then pure (.done (some (out.push x++b.extract ib b.size++a.extract (ia+1) a.size),out.push x,ia+1,ib,g,ac,bc))
 else if (decide (ac<7) && decide (bc<7))=true then pure (.done (none,out.push x,ia+1,ib,g,ac,bc)) else pure (.yield (none,out.push x,ia+1,ib,g,ac,bc))
def vQ(a b out:Array Keyed)(ia ib g ac bc:Nat):SM (ForInStep pf):=do
 let x <- elem' b ib
 if (ib+1 == b.size)=true then pure (.done (some (out.push x++a.extract ia a.size++b.extract (ib+1) b.size),out.push x,ia,ib+1,g,ac,bc)) else do
  let y <- elem' a ia
  let r <- cM true y b (ib+1) (b.size - (ib+1)) 0
  match r with
  | some k =>
   if k > 0 then
    if (ib+1+k == b.size)=true then pure (.done (some (out.push x++b.extract (ib+1) (ib+1+k)++a.extract ia a.size++b.extract (ib+1+k) b.size),out.push x++b.extract (ib+1) (ib+1+k),ia,ib+1+k,g,ac,k))
    else xg a b (out.push x++b.extract (ib+1) (ib+1+k)) ia (ib+1+k) g ac k
   else xg a b (out.push x) ia (ib+1) g ac k
  | _=>pure (.done (some (out.push x++a.extract ia a.size++b.extract (ib+1) b.size),out.push x,ia,ib+1,g,ac,bc))
def loG(a b out:Array Keyed)(ia ib g ac bc:Nat):SM (ForInStep pf):=do
 nU g
 let x <- elem' b ib
 let r <- cM false x a ia (a.size - ia) 0
 match r with
 | some k =>
  if k > 0 then
   if (ia+k+1 == a.size)=true then pure (.done (some (out++a.extract ia (ia+k)++b.extract ib b.size++a.extract (ia+k) a.size),out++a.extract ia (ia+k),ia+k,ib,g,k,bc))
   else if (ia+k == a.size)=true then pure (.done (some (out++a.extract ia (ia+k)++a.extract (ia+k) a.size++b.extract ib b.size),out++a.extract ia (ia+k),ia+k,ib,g,k,bc))
   else vQ a b (out++a.extract ia (ia+k)) (ia+k) ib g k bc
  else vQ a b out ia ib g k bc
 | _=>pure (.done (some (out++a.extract ia a.size++b.extract ib b.size),out,ia,ib,g,ac,bc))
section
variable {prog:Program}{w:World}{A:Around}{E:Value->Shared->Prop}{s:Shared}{κ:SortKind}{it:Nat->Keyed}{n:Nat}{la lb:List Nat}{p:Array Nat}{pd:Array (Nat×Nat×Nat)}
theorem dL(l:List Nat)(i j:Nat):(l.toArray.map it).extract i j=(((l.drop i).take (j - i)).map it).toArray:=by simp[map_take,map_drop]
theorem gI(q:List Nat)(x:Nat):(q.map it).toArray.push (it x)=((q++[x]).map it).toArray:=by simp
theorem ay(q r:List Nat):(q.map it).toArray++(r.map it).toArray=((q++r).map it).toArray:=by simp
theorem eM(l:List Nat):(l.toArray.map it).size=l.length:=by simp
structure Two(n:Nat)(la lb:List Nat):Prop where
 sa:la.Pairwise (· < ·)
 sb:lb.Pairwise (· < ·)
 na:∀ x∈la,x<n
 nb:∀ x∈lb,x<n
 ne:∀ x∈la,∀ y∈lb,x≠y
def Told(κ:SortKind)(it:Nat->Keyed)(p:Array Nat)(pd:Array (Nat×Nat×Nat))(la lb:List Nat)(st:SortSt)(o:Option (Array Keyed)):Prop:=∃ g,st=S κ it p pd g/\∃ q,o=some ((q.map it).toArray)/\Fine la lb q
theorem i4{g g':Nat}{Q:Unit->SortSt->Prop}(h:Q () (S κ it p pd g')):wpS (model prog w) A E s (nU g') Q (S κ it p pd g):=wpS_modify h
theorem i7{lo:Nat}(T:Two n la lb)(a:∀ y∈lb,y<e la.toArray (la.length - 1)){i j:Nat}(g:i+1=la.length):∀ x∈lb.drop j,∀ y∈la.drop i,x<y:=λx b y c=>by
 obtain⟨k,d,f,rfl⟩:=iF c;rw[show k=la.length - 1 by lia];exact a x (mem_of_mem_drop b)
theorem db{l m:List Nat}{i j:Nat}(a:m.Pairwise (· < ·))(g:j<m.length){x:Nat}(c:x<e m.toArray j):∀ y∈m.drop j,x<y:=λy d=>by
 obtain⟨k,f,b,rfl⟩:=iF d
 by_cases z:k=j
 .rw[z];exact c
 .exact Nat.lt_trans c (pE a j k (Nat.zero_le _) (by lia) b)
theorem pV(T:Two n la lb)(u:∀ y∈lb,y<e la.toArray (la.length - 1)){q:List Nat}{b a g d j h:Nat}{Q:ForInStep pf->SortSt->Prop}(m:MI la lb q b a)(C:b+1<la.length)(r:a<lb.length)(B:e la.toArray b<e lb.toArray a)
  (v:∀ c st,Told κ it p pd la lb st c.1->Q (.done c) st)
  (k:∀ q' ia',MI la lb q' ia' a->ia'+1<la.length->b<ia'->Q (.done (none,(q'.map it).toArray,ia',a,g,j,h)) (S κ it p pd d)/\Q (.yield (none,(q'.map it).toArray,ia',a,g,j,h)) (S κ it p pd d)) :
  wpS (model prog w) A E s (xg (la.toArray.map it) (lb.toArray.map it) ((q.map it).toArray) b a g j h) Q (S κ it p pd d):=by
 unfold xg;have f:=m.addA T.sa 1 (by rw[cb (by lia)];intro x o y z;rw[mem_singleton.mp o];exact db (l:=la) (i:=0) T.sb r B y z);rw[cb (by lia)]at f;refine wpS_bind (be (by simp;lia) ?_);rw[gI,eM,dL,dL,eM,take_of_length_le (by simp),take_of_length_le (by simp)]
 by_cases c:b+1+1=la.length
 .rw[if_pos (by simpa using c)]
  refine wpS_pure (v _ _ ⟨d,rfl,_,by rw[ay,ay],f.endB T.sa T.sb (i7 (lo:=0) T u c)⟩)
 .rw[if_neg (by simpa using c)]
  split
  .exact wpS_pure (k _ _ f (by lia) (by lia)).1
  .exact wpS_pure (k _ _ f (by lia) (by lia)).2
theorem jo{l:List Nat}{i:Nat}(h:l.length<=i){P:Nat->Prop}:∀ y∈l.drop i,P y:=λy a=>by rw[List.drop_of_length_le h]at a;cases a
theorem pi{m:List Nat}{k:Nat}(b:k ∉ m)(a:∀ x∈m,x<n){i:Nat}:∀ j,j<m.length - i->e m.toArray (i+j)<n/\e m.toArray (i+j)≠k:=λj c=>by
 have:=fo (l:=m) (i:=i+j) (by lia);exact⟨a _ this,λz=>b (z ▸ this)⟩
theorem iX{m:List Nat}(b:m.Pairwise (· < ·)){i j:Nat}(d:j<=m.length):Up m.toArray i j:=λx y c a f=>pE b x y (Nat.zero_le _) a (by lia)
theorem pP(P:fO prog w A s κ it n)(T:Two n la lb)(G:∀ y∈lb,y<e la.toArray (la.length - 1)){q:List Nat}{b a g f u N:Nat}{Q:ForInStep pf->SortSt->Prop}(m:MI la lb q b a)(J:b+1<la.length)(M:a<lb.length)(R:e lb.toArray a<e la.toArray b)
  (o:∀ c st,Told κ it p pd la lb st c.1->Q (.done c) st)
  (H:∀ q' ia' ib' bc',MI la lb q' ia' ib'->ia'+1<la.length->ib'<lb.length->b+a<ia'+ib'->Q (.done (none,(q'.map it).toArray,ia',ib',g,u,bc')) (S κ it p pd f)/\Q (.yield (none,(q'.map it).toArray,ia',ib',g,u,bc')) (S κ it p pd f)) :
  wpS (model prog w) A E s (vQ (la.toArray.map it) (lb.toArray.map it) ((q.map it).toArray) b a g u N) Q (S κ it p pd f):=by
 unfold vQ;have r:=m.addB T.sb 1 (by rw[cb (by lia)];intro x h y v;rw[mem_singleton.mp h];exact db (l:=la) (i:=0) T.sa (by lia) R y v);rw[cb (by lia)]at r;refine wpS_bind (be (by simpa using M) ?_);rw[gI,eM,eM];have K:(la.toArray.map it).extract b la.length=((la.drop b).map it).toArray:=by rw[dL,take_of_length_le (by simp)]
 have F:∀ j,(lb.toArray.map it).extract j lb.length=((lb.drop j).map it).toArray:=λj=>by rw[dL,take_of_length_le (by simp)]
 by_cases c:a+1=lb.length
 .rw[if_pos (by simpa using c)]
  refine wpS_pure (o _ _ ⟨f,rfl,_,by rw[K,F,ay,ay],r.endA T.sa T.sb (λx h=>jo (by lia))⟩)
 rw[if_neg (by simpa using c)];refine wpS_bind (be (by simp;lia) ?_);have I:e la.toArray b∈la:=fo (by lia);refine wpS_bind (dU P rfl (T.na _ I) (by simp;lia) (pi (λz=>T.ne _ I _ z rfl) T.nb) (iX T.sb (by lia)) (by lia) λk k1 k2 d=>?_);dsimp only
 by_cases ck:k > 0
 .rw[if_pos ck,dL,ay,show a+1+k - (a+1)=k by lia]
  have D:=r.addB T.sb k (λx h y v=>by
   obtain⟨j,Y,X,W,rfl⟩:=eK h;have:=k2 (j - (a+1)) (by lia);rw[show a+1+(j - (a+1))=j by lia]at this
   exact db (l:=la) (i:=0) T.sa (by lia) this y v)
  by_cases c2:a+1+k=lb.length
  .rw[if_pos (by simpa using c2)]
   refine wpS_pure (o _ _ ⟨f,rfl,_,by rw[K,F,ay,ay],D.endA T.sa T.sb (λx h=>jo (by lia))⟩)
  .rw[if_neg (by simpa using c2)]
   have d:=d k (Nat.le_refl _) (by lia);exact pV T G D J (by lia) d o λq' ia' B C L=>H q' ia' _ _ B C (by lia) (by lia)
 .rw[if_neg ck]
  have d:=d 0 (by lia) (by lia);exact pV T G r J (by lia) d o λq' ia' B C L=>H q' ia' _ _ B C (by lia) (by lia)
theorem zc(v:fO prog w A s κ it n)(T:Two n la lb)(u:∀ y∈lb,y<e la.toArray (la.length - 1)){q:List Nat}{a d g J I L:Nat}{Q:ForInStep pf->SortSt->Prop}(m:MI la lb q a d)(N:a+1<la.length)(f:d<lb.length)
  (h:∀ c st,Told κ it p pd la lb st c.1->Q (.done c) st)
  (F:∀ q' ia' ib' ac' bc',MI la lb q' ia' ib'->ia'+1<la.length->ib'<lb.length->a+d<ia'+ib'->Q (.done (none,(q'.map it).toArray,ia',ib',g,ac',bc')) (S κ it p pd g)/\Q (.yield (none,(q'.map it).toArray,ia',ib',g,ac',bc')) (S κ it p pd g)) :
  wpS (model prog w) A E s (loG (la.toArray.map it) (lb.toArray.map it) ((q.map it).toArray) a d g I L) Q (S κ it p pd J):=by
 unfold loG;refine wpS_bind (i4 ?_);refine wpS_bind (be (by simpa using f) ?_);rw[eM,eM];have H:∀ j,(la.toArray.map it).extract j la.length=((la.drop j).map it).toArray:=λj=>by rw[dL,take_of_length_le (by simp)]
 have D:∀ j,(lb.toArray.map it).extract j lb.length=((lb.drop j).map it).toArray:=λj=>by rw[dL,take_of_length_le (by simp)]
 have G:e lb.toArray d∈lb:=fo f;refine wpS_bind (dU v rfl (T.nb _ G) (by simp;lia) (pi (λz=>T.ne _ z _ G rfl) T.na) (iX T.sa (by lia)) (by lia) λk k1 k2 b=>?_);dsimp only
 by_cases ck:k > 0
 .rw[if_pos ck,dL,ay,show a+k - a=k by lia]
  have o:=m.addA T.sa k (λx P y M=>by
   obtain⟨j,X,W,R,rfl⟩:=eK P;have:=k2 (j - a) (by lia);rw[show a+(j - a)=j by lia]at this
   exact db (l:=la) (i:=0) T.sb f this y M)
  by_cases c2:a+k+1=la.length
  .rw[if_pos (by simpa using c2)]
   refine wpS_pure (h _ _ ⟨g,rfl,_,by rw[H,D,ay,ay],o.endB T.sa T.sb (i7 (lo:=0) T u c2)⟩)
  rw[if_neg (by simpa using c2)]
  by_cases c3:a+k=la.length
  .rw[if_pos (by simpa using c3)]
   refine wpS_pure (h _ _ ⟨g,rfl,_,by rw[H,D,ay,ay],o.endA T.sa T.sb (jo (by lia))⟩)
  rw[if_neg (by simpa using c3)];have b:=b k (Nat.le_refl _) (by lia);exact pP v T u o (by lia) f b h λq' ia' ib' bc' B C r K=>F q' ia' ib' _ _ B C r (by lia)
 .rw[if_neg ck]
  have b:=b 0 (by lia) (by lia);exact pP v T u m N f b h λq' ia' ib' bc' B C r K=>F q' ia' ib' _ _ B C r (by lia)
end
section
variable {prog:Program}{w:World}{A:Around}{E:Value->Shared->Prop}{s:Shared}{κ:SortKind}{it:Nat->Keyed}{n:Nat}{la lb:List Nat}{p:Array Nat}{pd:Array (Nat×Nat×Nat)}
def vO(κ:SortKind)(it:Nat->Keyed)(p:Array Nat)(pd:Array (Nat×Nat×Nat))(la lb:List Nat)(m:Nat)(c:pf)(st':SortSt):Prop:=∃ q ia2 ib2 g2 g3 ac bc,c=(none,(q.map it).toArray,ia2,ib2,g2,ac,bc)/\st'=S κ it p pd g3/\MI la lb q ia2 ib2/\ia2+1<la.length/\ib2<lb.length/\m<ia2+ib2
theorem om(ha:fO prog w A s κ it n)(T:Two n la lb)(Z:∀ y∈lb,y<e la.toArray (la.length - 1))(h1:0<la.length)(Y:0<lb.length)(hf:e lb.toArray 0<e la.toArray 0){g:Nat}{Q:Array Keyed->SortSt->Prop}
  (h:∀ q g',Fine la lb q->Q ((q.map it).toArray) (S κ it p pd g')):wpS (model prog w) A E s (jH (la.toArray.map it) (lb.toArray.map it)) Q (S κ it p pd g):=by
 rw[mO];refine wpS_bind (wpS_lift (wpAny_rule ⟨rfl,?_⟩));dsimp only;refine wpS_bind (be (by simpa using Y) ?_);have za:(la.toArray.map it).size=la.length:=eM la;have zb:(lb.toArray.map it).size=lb.length:=eM lb;have X:∀ j,(la.toArray.map it).extract j (la.toArray.map it).size=((la.drop j).map it).toArray:=λj=>by rw[za,dL,take_of_length_le (by simp)]
 have R:∀ j,(lb.toArray.map it).extract j (lb.toArray.map it).size=((lb.drop j).map it).toArray:=λj=>by rw[zb,dL,take_of_length_le (by simp)]
 have m0:MI la lb [] 0 0:=⟨.refl _,.nil,λx v=>(not_mem_nil v).elim,λx v=>(not_mem_nil v).elim⟩
 have m:=m0.addB T.sb 1 (by rw[cb Y];intro x v y L;rw[mem_singleton.mp v];exact db (l:=la) (i:=0) T.sa h1 hf y L);rw[cb Y,nil_append,Nat.zero_add]at m;have e0:(#[it (e lb.toArray 0)]:Array Keyed)=([e lb.toArray 0].map it).toArray:=rfl;rw[e0]
 by_cases c:1=lb.length
 .rw[if_pos (by simpa using c)]
  rw[X,R,ay,ay];exact wpS_pure (h _ _ (m.endA T.sa T.sb λx v=>jo (by lia)))
 rw[if_neg (by simpa using c)]
 by_cases c2:0+1=la.length
 .rw[if_pos (by simpa using c2)]
  rw[X,R,ay,ay];exact wpS_pure (h _ _ (m.endB T.sa T.sb (i7 (lo:=0) T Z c2)))
 rw[if_neg (by simpa using c2)];refine wpS_bind (wpS_get ?_);refine wpS_bind (wpS_mono (wpS_forRange (I:=λx c a=>∃ q u k g0 G,c=(none,(q.map it).toArray,u,k,g0)/\a=S κ it p pd G/\MI la lb q u k/\u+1<la.length/\k<lb.length/\1+x<=u+k) (Q:=λc a=>Told κ it p pd la lb a c.1) ?step ?fin ⟨_,0,1,_,g,rfl,rfl,m,by lia,by lia,by lia⟩) ?post)
 case post =>
  rintro⟨o,c⟩ a ⟨g',rfl,q,F,P⟩;dsimp only at F ⊢;rw[F];exact wpS_pure (h q g' P)
 case fin =>
  rintro c a ⟨q,u,k,g0,G,rfl,rfl,m,a1,a2,a3⟩;lia
 case step =>
  rintro x c a _ v ⟨q,u,k,g0,G,rfl,rfl,m,a1,a2,a3⟩;dsimp only
  refine wpS_bind (wpS_mono (wpS_forRange (I:=λy c a=>∃ q b d B C,c=(none,(q.map it).toArray,b,d,B,C)/\a=S κ it p pd G/\MI la lb q b d/\b+1<la.length/\d<lb.length/\u+k+y<=b+d)
   (Q:=λc a=>Told κ it p pd la lb a c.1\/∃ q b d B C,c=(none,(q.map it).toArray,b,d,B,C)/\a=S κ it p pd G/\MI la lb q b d/\b+1<la.length/\d<lb.length/\u+k<b+d) ?s1 ?f1 ⟨q,u,k,0,0,rfl,rfl,m,a1,a2,Nat.le_refl _⟩) ?p1)
  case f1 =>
   rintro c a ⟨D,b,d,B,C,rfl,rfl,N,M,H,b3⟩;exact .inr ⟨D,b,d,B,C,rfl,rfl,N,M,H,by lia⟩
  case s1 =>
   rintro y c a _ L ⟨D,b,d,B,C,rfl,rfl,N,M,H,b3⟩;dsimp only;have ma:e la.toArray b∈la:=fo (by lia);have mb:e lb.toArray d∈lb:=fo (by lia);refine wpS_bind (be (by simpa using H) (wpS_bind (be (by simp;lia) (wpS_bind (nG ha rfl (T.nb _ mb) (T.na _ ma) (λz=>T.ne _ ma _ mb z.symm) ?_)))));dsimp only
   by_cases c:e lb.toArray d<e la.toArray b
   .rw[decide_eq_true c,if_pos rfl]
    refine wpS_bind (be (by simpa using H) ?_);have f:=N.addB T.sb 1 (by rw[cb (by lia)];intro x v y L;rw[mem_singleton.mp v];exact db (l:=la) (i:=0) T.sa (by lia) c y L);rw[cb (by lia)]at f;rw[gI,X,R,ay,ay]
    by_cases c2:d+1=lb.length
    .rw[if_pos (by simpa using c2)]
     exact wpS_pure (.inl ⟨G,rfl,_,rfl,f.endA T.sa T.sb λx v=>jo (by lia)⟩)
    rw[if_neg (by simpa using c2)]
    split
    .exact wpS_pure (.inr ⟨_,_,_,_,_,rfl,rfl,f,M,by lia,by lia⟩)
    .exact wpS_pure ⟨_,_,_,_,_,rfl,rfl,f,M,by lia,by lia⟩
   .rw[decide_eq_false c,if_neg (by simp)]
    refine wpS_bind (be (by simp;lia) ?_);have ne:=T.ne _ ma _ mb;have f:=N.addA T.sa 1 (by rw[cb (by lia)];intro x v y L;rw[mem_singleton.mp v];exact db (l:=la) (i:=0) T.sb H (by lia) y L);rw[cb (by lia)]at f;rw[gI,X,R,ay,ay]
    by_cases c2:b+1+1=la.length
    .rw[if_pos (by simpa using c2)]
     exact wpS_pure (.inl ⟨G,rfl,_,rfl,f.endB T.sa T.sb (i7 (lo:=0) T Z c2)⟩)
    rw[if_neg (by simpa using c2)]
    split
    .exact wpS_pure (.inr ⟨_,_,_,_,_,rfl,rfl,f,by lia,by lia,by lia⟩)
    .exact wpS_pure ⟨_,_,_,_,_,rfl,rfl,f,by lia,by lia,by lia⟩
  case p1 =>
   rintro c a (⟨g',rfl,D,F,P⟩ | ⟨D,b,d,B,C,rfl,rfl,N,M,H,b3⟩)
   .obtain⟨o,c⟩:=c
    dsimp only at F ⊢;rw[F];exact wpS_pure ⟨g',rfl,D,rfl,P⟩
   dsimp only;refine wpS_bind (wpS_lift (wpAny_rule ⟨rfl,?_⟩))
   refine wpS_bind (wpS_mono (wpS_forRange (I:=λy c a=>vO κ it p pd la lb (u+k) c a)
    (Q:=λc a=>Told κ it p pd la lb a c.1\/vO κ it p pd la lb (u+k) c a) ?s2 ?f2 ⟨D,b,d,_,G,B,C,rfl,rfl,N,M,H,b3⟩) ?p2)
   case f2=>exact λc a z=>.inr z
   case s2 =>
    rintro y c a _ L ⟨q2,K,J,W,g3,B,C,rfl,rfl,f,d1,d2,d3⟩;dsimp only
    have go:∀ g,wpS (model prog w) A E s (loG (la.toArray.map it) (lb.toArray.map it) ((q2.map it).toArray) K J g B C) (λr a=>match r with | .done c'=>(Told κ it p pd la lb a c'.1\/vO κ it p pd la lb (u+k) c' a) | .yield c'=>vO κ it p pd la lb (u+k) c' a) (S κ it p pd g3):=λg =>
     zc ha T Z f d1 d2 (λc st z=>.inl z) λq3 ia3 ib3 ac3 bc3 f1 f2 f3 f4=>⟨.inr ⟨q3,ia3,ib3,g,g,ac3,bc3,rfl,rfl,f1,f2,f3,by lia⟩,q3,ia3,ib3,g,g,ac3,bc3,rfl,rfl,f1,f2,f3,by lia⟩
    by_cases cg:W > 1
    .rw[if_pos cg];exact wpS_mono (go (W - 1)) λr a z=>by cases r <;> exact z
    .rw[if_neg cg];exact wpS_mono (go W) λr a z=>by cases r <;> exact z
   case p2 =>
    rintro c a (⟨g',rfl,D,F,P⟩ | ⟨q2,K,J,W,g3,B,C,rfl,rfl,f,d1,d2,d3⟩)
    .obtain⟨o,c⟩:=c
     dsimp only at F ⊢;rw[F];exact wpS_pure ⟨g',rfl,D,rfl,P⟩
    dsimp only;refine wpS_bind (i4 (wpS_pure ⟨q2,K,J,_,_,rfl,rfl,f,d1,d2,by lia⟩))
end
structure MH(la lb r:List Nat)(na nb:Nat):Prop where
 perm:r.Perm (la.drop na++lb.drop nb)
 srt:r.Pairwise (· < ·)
 ba:∀ x∈la.take na,∀ y∈r,x<y
 bb:∀ x∈lb.take nb,∀ y∈r,x<y
section
variable {la lb r:List Nat}{na nb:Nat}
theorem MH.swap(m:MH la lb r na nb):MH lb la r nb na:=⟨m.perm.trans perm_append_comm,m.srt,m.bb,m.ba⟩
theorem se(l:List Nat){i j:Nat}(h:i<=j)(a:j<=l.length):l.drop i=(l.take j).drop i++l.drop j:=by
 rw[<- List.drop_append_of_le_length (by rw[length_take];lia),take_append_drop]
theorem MH.addA(m:MH la lb r na nb)(f:la.Pairwise (· < ·)){k:Nat}(d:k<=na)(i:na<=la.length)(h:∀ x∈lb.take nb,∀ y∈(la.take na).drop k,x<y):MH la lb ((la.take na).drop k++r) k nb:=by
 refine⟨?_,?_,?_,?_⟩
 .rw[se la d i,append_assoc]
  exact m.perm.append_left _
 .rw[pairwise_append]
  exact⟨f.sublist ((drop_sublist _ _).trans (take_sublist _ _)),m.srt,λx a y c=>m.ba x (mem_of_mem_drop a) y c⟩
 .intro x a y c
  have b:x∈(la.take na).take k:=by rw[List.take_take,Nat.min_eq_left d];exact a
  rcases mem_append.mp c with z | z
  .have g:(la.take na).Pairwise (· < ·):=f.sublist (take_sublist _ _)
   rw[<- take_append_drop k (la.take na),pairwise_append]at g;exact g.2.2 x b y z
  .exact m.ba x (mem_of_mem_take b) y z
 .intro x a y c
  rcases mem_append.mp c with z | z
  .exact h x a y z
  .exact m.bb x a y z
theorem MH.addB(m:MH la lb r na nb)(c:lb.Pairwise (· < ·)){k:Nat}(a:k<=nb)(b:nb<=lb.length)(h:∀ x∈la.take na,∀ y∈(lb.take nb).drop k,x<y):MH la lb ((lb.take nb).drop k++r) na k:=(m.swap.addA c a b h).swap
theorem MH.endA(m:MH la lb r na nb)(f:la.Pairwise (· < ·))(c:lb.Pairwise (· < ·))(h:∀ x∈la.take na,∀ y∈lb.take nb,x<y):Fine la lb (la.take na++lb.take nb++r):=by
 refine⟨?_,?_⟩
 .refine(m.perm.append_left _).trans ?_
  have a:(la.take na++lb.take nb++(la.drop na++lb.drop nb)).Perm (la.take na++la.drop na++(lb.take nb++lb.drop nb)):=by
   rw[append_assoc,append_assoc];refine List.Perm.append_left _ ?_;rw[<- append_assoc,<- append_assoc];exact List.Perm.append_right _ perm_append_comm
  rw[take_append_drop,take_append_drop]at a;exact a
 .rw[pairwise_append,pairwise_append]
  refine⟨⟨f.sublist (take_sublist _ _),c.sublist (take_sublist _ _),h⟩,m.srt,λx d y b=>?_⟩
  rcases mem_append.mp d with z | z
  .exact m.ba x z y b
  .exact m.bb x z y b
theorem MH.endB(m:MH la lb r na nb)(a:la.Pairwise (· < ·))(b:lb.Pairwise (· < ·))(h:∀ x∈lb.take nb,∀ y∈la.take na,x<y):Fine la lb (lb.take nb++la.take na++r):=(m.swap.endA b a h).swap
theorem kd{l:List Nat}{i y:Nat}(h:y∈l.take i):∃ j,j<i/\j<l.length/\y=e l.toArray j:=by
 obtain⟨j,c,d,a,b⟩:=eK (i:=0) (k:=i) (by rw[drop_zero];exact h);exact⟨j,by lia,a,b⟩
theorem kh{l:List Nat}{i k y:Nat}(h:y∈(l.take i).drop k):∃ j,k<=j/\j<i/\j<l.length/\y=e l.toArray j:=by
 rw[drop_take]at h;obtain⟨j,a,d,b,c⟩:=eK h;exact⟨j,a,by lia,b,c⟩
theorem cv{l:List Nat}{i:Nat}(h:i<l.length):(l.take (i+1)).drop i=[e l.toArray i]:=by
 rw[drop_take,show i+1 - i=1 by lia];exact cb h
theorem dR{m:List Nat}{j:Nat}(a:m.Pairwise (· < ·))(b:j<m.length){x:Nat}(c:e m.toArray j<x):∀ y∈m.take (j+1),y<x:=λy d=>by
 obtain⟨k,f,g,rfl⟩:=kd d
 by_cases z:k=j
 .rw[z];exact c
 .exact Nat.lt_trans (pE a k j (Nat.zero_le _) (by lia) b) c
end
theorem mJ(a b:Array Keyed):jp a b=(do
 rule "list.sort.merge-hi"
 let total:=a.size+b.size
 let done (out:Array Keyed) (na nb:Nat):=a.extract 0 na++b.extract 0 nb++out.reverse
 let firstOfB (out:Array Keyed) (na nb:Nat):=b.extract 0 nb++a.extract 0 na++out.reverse
 let mut na:=a.size - 1
 let mut nb:=b.size
 let mut out:Array Keyed:=#[<- elem' a na]
 if na == 0 then return done out na nb
 if nb == 1 then return firstOfB out na nb
 let mut minGallop:=gallopOf (<- get)
 for _ in [0:total] do
  let mut acount:=0
  let mut bcount:=0
  for _ in [0:total] do
   let some aWins <- lt' (<- elem' b (nb - 1)) (<- elem' a (na - 1)) | return done out na nb
   if aWins then
    na:=na - 1;out:=out.push (<- elem' a na);acount:=acount+1;bcount:=0
    if na == 0 then return done out na nb
    if acount >= minGallop then break
   else
    nb:=nb - 1;out:=out.push (<- elem' b nb);bcount:=bcount+1;acount:=0
    if nb == 1 then return firstOfB out na nb
    if bcount >= minGallop then break
  rule "list.sort.gallop"
  minGallop:=minGallop+1
  for _ in [0:total] do
   if minGallop > 1 then minGallop:=minGallop - 1
   nU minGallop
   let some at_ <- cM false (<- elem' b (nb - 1)) a 0 na (na - 1) | return done out na nb
   let k:=na - at_
   acount:=k
   if k > 0 then
    out:=out++(a.extract at_ na).reverse;na:=at_
    if na == 0 then return done out na nb
   nb:=nb - 1;out:=out.push (<- elem' b nb)
   if nb == 1 then return firstOfB out na nb
   let some at_ <- cM true (<- elem' a (na - 1)) b 0 nb (nb - 1) | return done out na nb
   let k:=nb - at_
   bcount:=k
   if k > 0 then
    out:=out++(b.extract at_ nb).reverse;nb:=at_
    if nb == 1 then return firstOfB out na nb
    if nb == 0 then return done out na nb
   na:=na - 1;out:=out.push (<- elem' a na)
   if na == 0 then return done out na nb
   if acount<7 && bcount<7 then break
  minGallop:=minGallop+1
  nU minGallop
 unsupported "internal:list.sort.merge-bound"):=rfl
abbrev o9:=Option (Array Keyed)×Nat×Nat×Array Keyed×Nat×Nat×Nat
def w5(a b out:Array Keyed)(na nb g ac bc:Nat):SM (ForInStep o9):=do
 let x <- elem' a (na - 1)
 if (na - 1 == 0)=true then pure (.done (some (a.extract 0 (na - 1)++b.extract 0 nb++(out.push x).reverse),na - 1,nb,out.push x,g,ac,bc))
 else if (decide (ac<7) && decide (bc<7))=true then pure (.done (none,na - 1,nb,out.push x,g,ac,bc)) else pure (.yield (none,na - 1,nb,out.push x,g,ac,bc))
def vR(a b out:Array Keyed)(na nb g ac bc:Nat):SM (ForInStep o9):=do
 let x <- elem' b (nb - 1)
 if (nb - 1 == 1)=true then pure (.done (some (b.extract 0 (nb - 1)++a.extract 0 na++(out.push x).reverse),na,nb - 1,out.push x,g,ac,bc)) else do
  let y <- elem' a (na - 1)
  let r <- cM true y b 0 (nb - 1) (nb - 1 - 1)
  match r with
  | some at_ =>
   if nb - 1 - at_ > 0 then
    if (at_ == 1)=true then pure (.done (some (b.extract 0 at_++a.extract 0 na++(out.push x++(b.extract at_ (nb - 1)).reverse).reverse),na,at_,out.push x++(b.extract at_ (nb - 1)).reverse,g,ac,nb - 1 - at_))
    else if (at_ == 0)=true then pure (.done (some (a.extract 0 na++b.extract 0 at_++(out.push x++(b.extract at_ (nb - 1)).reverse).reverse),na,at_,out.push x++(b.extract at_ (nb - 1)).reverse,g,ac,nb - 1 - at_))
    else w5 a b (out.push x++(b.extract at_ (nb - 1)).reverse) na at_ g ac (nb - 1 - at_)
   else w5 a b (out.push x) na (nb - 1) g ac (nb - 1 - at_)
  | _=>pure (.done (some (a.extract 0 na++b.extract 0 (nb - 1)++(out.push x).reverse),na,nb - 1,out.push x,g,ac,bc))
def hiG(a b out:Array Keyed)(na nb g ac bc:Nat):SM (ForInStep o9):=do
 nU g
 let x <- elem' b (nb - 1)
 let r <- cM false x a 0 na (na - 1)
 match r with
 | some at_ =>
  if na - at_ > 0 then
   if (at_ == 0)=true then pure (.done (some (a.extract 0 at_++b.extract 0 nb++(out++(a.extract at_ na).reverse).reverse),at_,nb,out++(a.extract at_ na).reverse,g,na - at_,bc))
   else vR a b (out++(a.extract at_ na).reverse) at_ nb g (na - at_) bc
  else vR a b out na nb g (na - at_) bc
 | _=>pure (.done (some (a.extract 0 na++b.extract 0 nb++out.reverse),na,nb,out,g,ac,bc))
section
variable {prog:Program}{w:World}{A:Around}{E:Value->Shared->Prop}{s:Shared}{κ:SortKind}{it:Nat->Keyed}{n:Nat}{la lb:List Nat}{p:Array Nat}{pd:Array (Nat×Nat×Nat)}
def O(it:Nat->Keyed)(r:List Nat):Array Keyed:=(r.reverse.map it).toArray
theorem kO(r:List Nat)(x:Nat):(O it r).push (it x)=O it (x::r):=by simp[O]
theorem xJ(l r:List Nat)(i j:Nat):O it r++((l.toArray.map it).extract i j).reverse=O it ((l.take j).drop i++r):=by
 rw[dL,drop_take];simp[O]
theorem iM(r:List Nat):(O it r).reverse=(r.map it).toArray:=by simp[O]
theorem ex0(l:List Nat)(j:Nat):(l.toArray.map it).extract 0 j=((l.take j).map it).toArray:=by rw[dL];rfl
theorem je{l:List Nat}{P:Nat->Prop}:∀ y∈l.take 0,P y:=λy a=>by rw[take_zero]at a;cases a
theorem gO(a:∀ x∈la,e lb.toArray 0<x){i:Nat}:∀ x∈lb.take 1,∀ y∈la.take i,x<y:=λx b y c=>by
 obtain⟨k,d,f,rfl⟩:=kd b;rw[show k=0 by lia];exact a y (mem_of_mem_take c)
theorem qA(T:Two n la lb){r:List Nat}{b a g d j h:Nat}{Q:ForInStep o9->SortSt->Prop}(m:MH la lb r b a)(C:1<=b)(i:b<=la.length)(B:2<=a)(v:a<=lb.length)(l:e lb.toArray (a - 1)<e la.toArray (b - 1))
  (u:∀ c st,Told κ it p pd la lb st c.1->Q (.done c) st)
  (o:∀ r' na',MH la lb r' na' a->1<=na'->na'<b->Q (.done (none,na',a,O it r',g,j,h)) (S κ it p pd d)/\Q (.yield (none,na',a,O it r',g,j,h)) (S κ it p pd d)) :
  wpS (model prog w) A E s (w5 (la.toArray.map it) (lb.toArray.map it) (O it r) b a g j h) Q (S κ it p pd d):=by
 unfold w5
 obtain⟨b,rfl⟩:∃ k,b=k+1:=⟨b - 1,by lia⟩
 obtain⟨a,rfl⟩:∃ k,a=k+1:=⟨a - 1,by lia⟩
 rw[Nat.add_sub_cancel]at l ⊢;rw[Nat.add_sub_cancel]at l;have f:=m.addA T.sa (k:=b) (by lia) i (by rw[cv (by lia)];intro x q y z;rw[mem_singleton.mp z];exact dR T.sb (by lia) l x q);rw[cv (by lia),singleton_append]at f;refine wpS_bind (be (by simp;lia) ?_);rw[kO,iM,ex0,ex0,ay,ay]
 by_cases c:b=0
 .rw[if_pos (by simpa using c)]
  subst c;exact wpS_pure (u _ _ ⟨d,rfl,_,rfl,f.endA T.sa T.sb je⟩)
 .rw[if_neg (by simpa using c)]
  split
  .exact wpS_pure (o _ _ f (by lia) (by lia)).1
  .exact wpS_pure (o _ _ f (by lia) (by lia)).2
theorem Am{m:List Nat}{k:Nat}(b:k ∉ m)(a:∀ x∈m,x<n){i:Nat}(d:i<=m.length):∀ j,j<i->e m.toArray (0+j)<n/\e m.toArray (0+j)≠k:=λj c=>pi (i:=0) b a j (by lia)
theorem qQ(N:fO prog w A s κ it n)(T:Two n la lb)(F:∀ x∈la,e lb.toArray 0<x){r:List Nat}{a b g f v M:Nat}{Q:ForInStep o9->SortSt->Prop}(m:MH la lb r a b)(J:1<=a)(i:a<=la.length)(W:2<=b)(u:b<=lb.length)(I:e la.toArray (a - 1)<e lb.toArray (b - 1))
  (h:∀ c st,Told κ it p pd la lb st c.1->Q (.done c) st)
  (G:∀ r' na' nb' bc',MH la lb r' na' nb'->1<=na'->na'<=la.length->2<=nb'->nb'<=lb.length->na'+nb'<a+b->Q (.done (none,na',nb',O it r',g,v,bc')) (S κ it p pd f)/\Q (.yield (none,na',nb',O it r',g,v,bc')) (S κ it p pd f)) :
  wpS (model prog w) A E s (vR (la.toArray.map it) (lb.toArray.map it) (O it r) a b g v M) Q (S κ it p pd f):=by
 unfold vR
 obtain⟨b,rfl⟩:∃ k,b=k+1:=⟨b - 1,by lia⟩
 rw[Nat.add_sub_cancel]at I ⊢
 have o:=m.addB T.sb (k:=b) (by lia) u (by
  rw[cv (by lia)];intro x l y B;rw[mem_singleton.mp B];refine dR (j:=a - 1) T.sa (by lia) I x ?_
  rw[show a - 1+1=a by lia];exact l)
 rw[cv (by lia),singleton_append]at o;refine wpS_bind (be (by simp;lia) ?_);rw[kO,iM,ex0,ex0,ay,ay]
 by_cases c:b=1
 .rw[if_pos (by simpa using c)]
  subst c;exact wpS_pure (h _ _ ⟨f,rfl,_,rfl,o.endB T.sa T.sb (gO F)⟩)
 rw[if_neg (by simpa using c)];refine wpS_bind (be (by simp;lia) ?_);have H:e la.toArray (a - 1)∈la:=fo (by lia);refine wpS_bind (dU N rfl (T.na _ H) (by simp;lia) (Am (λz=>T.ne _ H _ z rfl) T.nb (by lia)) (iX T.sb (by lia)) (by lia) λk k1 d k3=>?_);dsimp only
 by_cases ck:b - k > 0
 .rw[if_pos ck,xJ,iM,ex0,ay,ay]
  have q:=o.addB T.sb (k:=k) k1 (by lia) (λx l y B=>by
   obtain⟨j,P,L,R,rfl⟩:=kh B;have:=k3 j P L;rw[Nat.zero_add]at this;refine dR (j:=a - 1) T.sa (by lia) this x ?_
   rw[show a - 1+1=a by lia];exact l)
  by_cases c2:k=1
  .rw[if_pos (by simpa using c2)]
   subst c2;exact wpS_pure (h _ _ ⟨f,rfl,_,rfl,q.endB T.sa T.sb (gO F)⟩)
  rw[if_neg (by simpa using c2)]
  by_cases c3:k=0
  .rw[if_pos (by simpa using c3),ay,ay]
   subst c3;exact wpS_pure (h _ _ ⟨f,rfl,_,rfl,q.endA T.sa T.sb λx l=>je⟩)
  rw[if_neg (by simpa using c3)];have d:=d (k - 1) (by lia);rw[Nat.zero_add]at d;exact qA T q J i (by lia) (by lia) d h λr' na' C D K=>G r' na' _ _ C D (by lia) (by lia) (by lia) (by lia)
 .rw[if_neg ck]
  have d:=d (b - 1) (by lia);rw[Nat.zero_add]at d;exact qA T o J i (by lia) (by lia) d h λr' na' C D K=>G r' na' _ _ C D (by lia) (by lia) (by lia) (by lia)
theorem zq(B:fO prog w A s κ it n)(T:Two n la lb)(H:∀ x∈la,e lb.toArray 0<x){r:List Nat}{f a g P M R:Nat}{Q:ForInStep o9->SortSt->Prop}(m:MH la lb r f a)(Y:1<=f)(l:f<=la.length)(I:2<=a)(i:a<=lb.length)
  (C:∀ c st,Told κ it p pd la lb st c.1->Q (.done c) st)
  (J:∀ r' na' nb' ac' bc',MH la lb r' na' nb'->1<=na'->na'<=la.length->2<=nb'->nb'<=lb.length->na'+nb'<f+a->Q (.done (none,na',nb',O it r',g,ac',bc')) (S κ it p pd g)/\Q (.yield (none,na',nb',O it r',g,ac',bc')) (S κ it p pd g)) :
  wpS (model prog w) A E s (hiG (la.toArray.map it) (lb.toArray.map it) (O it r) f a g M R) Q (S κ it p pd P):=by
 unfold hiG;refine wpS_bind (i4 ?_);refine wpS_bind (be (by simp;lia) ?_);have K:e lb.toArray (a - 1)∈lb:=fo (by lia);refine wpS_bind (dU B rfl (T.nb _ K) (by simp;lia) (Am (λz=>T.ne _ z _ K rfl) T.na (by lia)) (iX T.sa (by lia)) (by lia) λk k1 b k3=>?_);dsimp only
 by_cases ck:f - k > 0
 .rw[if_pos ck,xJ,iM,ex0,ex0,ay,ay]
  have G:=m.addA T.sa (k:=k) k1 l (λx Z y W=>by
   obtain⟨j,X,N,j3,rfl⟩:=kh W;have:=k3 j X N;rw[Nat.zero_add]at this;refine dR (j:=a - 1) T.sb (by lia) this x ?_
   rw[show a - 1+1=a by lia];exact Z)
  by_cases c2:k=0
  .rw[if_pos (by simpa using c2)]
   subst c2;exact wpS_pure (C _ _ ⟨g,rfl,_,rfl,G.endA T.sa T.sb je⟩)
  rw[if_neg (by simpa using c2)];have b:=b (k - 1) (by lia);rw[Nat.zero_add]at b;exact qQ B T H G (by lia) (by lia) I i b C λq d h bc' D F o v u L=>J q d h _ _ D F o v u (by lia)
 .rw[if_neg ck]
  have b:=b (f - 1) (by lia);rw[Nat.zero_add]at b;exact qQ B T H m Y l I i b C λq d h bc' D F o v u L=>J q d h _ _ D F o v u (by lia)
def wG(κ:SortKind)(it:Nat->Keyed)(p:Array Nat)(pd:Array (Nat×Nat×Nat))(la lb:List Nat)(m:Nat)(c:o9)(st':SortSt):Prop:=∃ r na nb g2 g3 ac bc,c=(none,na,nb,O it r,g2,ac,bc)/\st'=S κ it p pd g3/\MH la lb r na nb/\1<=na/\na<=la.length/\2<=nb/\nb<=lb.length/\na+nb<m
theorem oH(ha:fO prog w A s κ it n)(T:Two n la lb)(hl:∀ y∈lb,y<e la.toArray (la.length - 1))(hf:∀ x∈la,e lb.toArray 0<x)(h1:0<la.length)(h2:0<lb.length){g:Nat}{Q:Array Keyed->SortSt->Prop}
  (h:∀ q g',Fine la lb q->Q ((q.map it).toArray) (S κ it p pd g')):wpS (model prog w) A E s (jp (la.toArray.map it) (lb.toArray.map it)) Q (S κ it p pd g):=by
 rw[mJ];refine wpS_bind (wpS_lift (wpAny_rule ⟨rfl,?_⟩));dsimp only;have za:(la.toArray.map it).size=la.length:=eM la;have zb:(lb.toArray.map it).size=lb.length:=eM lb;refine wpS_bind (be (by simp;lia) ?_)
 have m0:MH la lb [] la.length lb.length:=⟨by simp,.nil,λx _ y F=>(not_mem_nil F).elim,λx _ y F=>(not_mem_nil F).elim⟩
 have al:(la.take la.length).drop (la.length - 1)=[e la.toArray (la.length - 1)]:=by
  have:=cv (l:=la) (i:=la.length - 1) (by lia);rw[show la.length - 1+1=la.length by lia]at this;exact this
 have m:=m0.addA T.sa (k:=la.length - 1) (by lia) (Nat.le_refl _) (by rw[al];intro x W y F;rw[mem_singleton.mp F];exact hl x (mem_of_mem_take W));rw[al,append_nil]at m;rw[za];have e0:(#[it (e la.toArray (la.length - 1))]:Array Keyed)=O it [e la.toArray (la.length - 1)]:=rfl;rw[e0,zb]
 by_cases c:la.length - 1=0
 .rw[if_pos (by simpa using c)]
  rw[c,iM,ex0,ex0,ay,ay];rw[c]at m;exact wpS_pure (h _ _ (m.endA T.sa T.sb je))
 rw[if_neg (by simpa using c)]
 by_cases c2:lb.length=1
 .rw[if_pos (by simpa using c2)]
  rw[c2,iM,ex0,ex0,ay,ay];rw[c2]at m;exact wpS_pure (h _ _ (m.endB T.sa T.sb (gO hf)))
 rw[if_neg (by simpa using c2)];refine wpS_bind (wpS_get ?_);refine wpS_bind (wpS_mono (wpS_forRange (I:=λx c a=>∃ r u v g0 J,c=(none,u,v,O it r,g0)/\a=S κ it p pd J/\MH la lb r u v/\1<=u/\u<=la.length/\2<=v/\v<=lb.length/\x+u+v<la.length+lb.length) (Q:=λc a=>Told κ it p pd la lb a c.1) ?step ?fin ⟨_,_,_,_,g,rfl,rfl,m,by lia,by lia,by lia,by lia,by lia⟩) ?post)
 case post =>
  rintro⟨o,c⟩ a ⟨g',rfl,q,H,Z⟩;dsimp only at H ⊢;rw[H];exact wpS_pure (h q g' Z)
 case fin =>
  rintro c a ⟨q,u,v,g0,J,rfl,rfl,m,a1,ab,a2,Y,a3⟩;lia
 case step =>
  rintro x c a _ W ⟨q,u,v,g0,J,rfl,rfl,m,a1,ab,a2,Y,a3⟩;dsimp only
  refine wpS_bind (wpS_mono (wpS_forRange (I:=λy c a=>∃ r d b C D,c=(none,d,b,O it r,C,D)/\a=S κ it p pd J/\MH la lb r d b/\1<=d/\d<=la.length/\2<=b/\b<=lb.length/\d+b+y<=u+v)
   (Q:=λc a=>Told κ it p pd la lb a c.1\/∃ r d b C D,c=(none,d,b,O it r,C,D)/\a=S κ it p pd J/\MH la lb r d b/\1<=d/\d<=la.length/\2<=b/\b<=lb.length/\d+b<u+v) ?s1 ?f1 ⟨q,u,v,0,0,rfl,rfl,m,a1,ab,a2,Y,Nat.le_refl _⟩) ?p1)
  case f1 =>
   rintro c a ⟨G,d,b,C,D,rfl,rfl,X,R,j,P,f,b3⟩;exact .inr ⟨G,d,b,C,D,rfl,rfl,X,R,j,P,f,by lia⟩
  case s1 =>
   rintro y c a _ F ⟨G,d,b,C,D,rfl,rfl,X,R,j,P,f,b3⟩;dsimp only
   obtain⟨d,rfl⟩:∃ k,d=k+1:=⟨d - 1,by lia⟩
   obtain⟨b,rfl⟩:∃ k,b=k+1:=⟨b - 1,by lia⟩
   rw[Nat.add_sub_cancel,Nat.add_sub_cancel];have ma:e la.toArray d∈la:=fo (by lia);have mb:e lb.toArray b∈lb:=fo (by lia);refine wpS_bind (be (by simp;lia) (wpS_bind (be (by simp;lia) (wpS_bind (nG ha rfl (T.nb _ mb) (T.na _ ma) (λz=>T.ne _ ma _ mb z.symm) ?_)))));dsimp only
   by_cases c:e lb.toArray b<e la.toArray d
   .rw[decide_eq_true c,if_pos rfl]
    refine wpS_bind (be (by simp;lia) ?_);have B:=X.addA T.sa (k:=d) (by lia) j (by rw[cv (by lia)];intro x W y F;rw[mem_singleton.mp F];exact dR T.sb (by lia) c x W);rw[cv (by lia),singleton_append]at B;rw[kO,iM,ex0,ex0,ay,ay]
    by_cases c2:d=0
    .rw[if_pos (by simpa using c2)]
     subst c2;exact wpS_pure (.inl ⟨J,rfl,_,rfl,B.endA T.sa T.sb je⟩)
    rw[if_neg (by simpa using c2)]
    split
    .exact wpS_pure (.inr ⟨_,_,_,_,_,rfl,rfl,B,by lia,by lia,P,f,by lia⟩)
    .exact wpS_pure ⟨_,_,_,_,_,rfl,rfl,B,by lia,by lia,P,f,by lia⟩
   .rw[decide_eq_false c,if_neg (by simp)]
    refine wpS_bind (be (by simp;lia) ?_);have ne:=T.ne _ ma _ mb;have B:=X.addB T.sb (k:=b) (by lia) f (by rw[cv (by lia)];intro x W y F;rw[mem_singleton.mp F];exact dR T.sa (by lia) (by lia) x W);rw[cv (by lia),singleton_append]at B;rw[kO,iM,ex0,ex0,ay,ay]
    by_cases c2:b=1
    .rw[if_pos (by simpa using c2)]
     subst c2;exact wpS_pure (.inl ⟨J,rfl,_,rfl,B.endB T.sa T.sb (gO hf)⟩)
    rw[if_neg (by simpa using c2)]
    split
    .exact wpS_pure (.inr ⟨_,_,_,_,_,rfl,rfl,B,R,j,by lia,by lia,by lia⟩)
    .exact wpS_pure ⟨_,_,_,_,_,rfl,rfl,B,R,j,by lia,by lia,by lia⟩
  case p1 =>
   rintro c a (⟨g',rfl,G,H,Z⟩ | ⟨G,d,b,C,D,rfl,rfl,X,R,j,P,f,b3⟩)
   .obtain⟨o,c⟩:=c
    dsimp only at H ⊢;rw[H];exact wpS_pure ⟨g',rfl,G,rfl,Z⟩
   dsimp only;refine wpS_bind (wpS_lift (wpAny_rule ⟨rfl,?_⟩));refine wpS_bind (wpS_mono (wpS_forRange (I:=λy c a=>wG κ it p pd la lb (u+v) c a) (Q:=λc a=>Told κ it p pd la lb a c.1\/wG κ it p pd la lb (u+v) c a) ?s2 ?f2 ⟨G,d,b,_,J,C,D,rfl,rfl,X,R,j,P,f,b3⟩) ?p2)
   case f2=>exact λc a z=>.inr z
   case s2 =>
    rintro y c a _ F ⟨q2,K,L,g2,g3,C,D,rfl,rfl,B,d1,M,d2,N,d3⟩;dsimp only
    have go:∀ g,wpS (model prog w) A E s (hiG (la.toArray.map it) (lb.toArray.map it) (O it q2) K L g C D) (λr a=>match r with | .done c'=>(Told κ it p pd la lb a c'.1\/wG κ it p pd la lb (u+v) c' a) | .yield c'=>wG κ it p pd la lb (u+v) c' a) (S κ it p pd g3):=λg =>
     zq ha T hf B d1 M d2 N (λc st z=>.inl z) λq3 ia3 ib3 ac3 bc3 f1 f2 f2' f3 f3' f4=>⟨.inr ⟨q3,ia3,ib3,g,g,ac3,bc3,rfl,rfl,f1,f2,f2',f3,f3',by lia⟩,q3,ia3,ib3,g,g,ac3,bc3,rfl,rfl,f1,f2,f2',f3,f3',by lia⟩
    by_cases cg:g2 > 1
    .rw[if_pos cg];exact wpS_mono (go (g2 - 1)) λr a z=>by cases r <;> exact z
    .rw[if_neg cg];exact wpS_mono (go g2) λr a z=>by cases r <;> exact z
   case p2 =>
    rintro c a (⟨g',rfl,G,H,Z⟩ | ⟨q2,K,L,g2,g3,C,D,rfl,rfl,B,d1,M,d2,N,d3⟩)
    .obtain⟨o,c⟩:=c
     dsimp only at H ⊢;rw[H];exact wpS_pure ⟨g',rfl,G,rfl,Z⟩
    dsimp only;exact wpS_bind (i4 (wpS_pure ⟨q2,K,L,_,_,rfl,rfl,B,d1,M,d2,N,by lia⟩))
end
def Runs(p:Array Nat):Nat->List (Nat×Nat×Nat)->Nat->Prop
 | lo,[],hi=>lo=hi
 | lo,x::r,hi=>x.1=lo/\1<=x.2.1/\Up p lo (lo+x.2.1)/\Runs p (lo+x.2.1) r hi
theorem Runs.le{p:Array Nat}:∀{l:List (Nat×Nat×Nat)}{lo hi:Nat},Runs p lo l hi->lo+l.length<=hi
 | [],lo,hi,h=>Nat.le_of_eq h
 | x::r,lo,hi,⟨h1,h2,h3,h4⟩=>by have:=Runs.le h4;rw[length_cons];lia
theorem Runs.app{p:Array Nat}:∀{l m:List (Nat×Nat×Nat)}{lo hi:Nat},Runs p lo (l++m) hi↔∃ k,Runs p lo l k/\Runs p k m hi
 | [],m,lo,hi=>⟨λh=>⟨lo,rfl,h⟩,λ⟨k,e,h⟩=>by cases e;exact h⟩
 | x::r,m,lo,hi=>⟨λ⟨d,c,f,g⟩=>by obtain⟨k,a,b⟩:=Runs.app.mp g;exact⟨k,⟨d,c,f,a⟩,b⟩,λ⟨k,⟨d,c,f,a⟩,b⟩=>⟨d,c,f,Runs.app.mpr ⟨k,a,b⟩⟩⟩
theorem Up.congr{p d:Array Nat}{lo b:Nat}(h:Up p lo b)(g:∀ k,lo<=k->k<b->e d k=e p k):Up d lo b:=λi j a c f=>by
 rw[g i a (by lia),g j (by lia) f];exact h i j a c f
theorem Runs.congr{p c:Array Nat}:∀{l:List (Nat×Nat×Nat)}{lo hi:Nat},Runs p lo l hi->(∀ k,lo<=k->k<hi->e c k=e p k)->Runs c lo l hi
 | [],lo,hi,h,_=>h
 | x::r,lo,hi,⟨h1,h2,h3,h4⟩,e1=>⟨h1,h2,h3.congr λk a b=>e1 k a (by have:=h4.le;lia),h4.congr λk a b=>e1 k (by lia) b⟩
theorem nB{p:Array Nat}{i j x:Nat}(b:j<=p.size)(a:x<j - i):e ((p.toList.drop i).take (j - i)).toArray x=e p (i+x):=by
 unfold e;simp[List.getElem?_take,a]
theorem eX{p:Array Nat}{i j:Nat}(a:j<=p.size):((p.toList.drop i).take (j - i)).length=j - i:=by
 rw[length_take,length_drop,Array.length_toList];lia
theorem pp{p:Array Nat}{i j:Nat}(a:j<=p.size)(h:Up p i j):((p.toList.drop i).take (j - i)).Pairwise (· < ·):=by
 rw[pairwise_iff_getElem];intro x y c b d;rw[eX a]at c b;have:=h (i+x) (i+y) (by lia) (by lia) (by lia);rw[<- nB a c,<- nB a b]at this;unfold e at this;simpa[c,b,eX a,show x<p.size - i by lia,show y<p.size - i by lia] using this
theorem eL{p:Array Nat}{i j y:Nat}(b:j<=p.size)(h:y∈(p.toList.drop i).take (j - i)):∃ t,i<=t/\t<j/\y=e p t:=by
 obtain⟨x,a,rfl⟩:=List.mem_iff_getElem.mp h;rw[eX b]at a;refine⟨i+x,by lia,by lia,?_⟩;rw[<- nB b a];unfold e;simp[a,show x<p.size - i by lia]
theorem sZ{a:Nat->Keyed}(p:Array Nat)(i j:Nat):(p.map a).extract i j=((p.toList.drop i).take (j - i)).toArray.map a:=by
 apply Array.toList_inj.mp;simp[map_take,map_drop]
theorem nu{c:Type}(b:Nat):∀(C:List c) (o:Nat) (a:Array c),b+o+C.length<=a.size->((C.zipIdx o).foldl (λa (x:c×Nat)=>a.setIfInBounds (b+x.2) x.1) a).toList=a.toList.take (b+o)++C++a.toList.drop (b+o+C.length)
 | [],o,a,h=>by simp
 | v::C,o,a,h=>by
  rw[length_cons]at h;rw[List.zipIdx_cons,foldl_cons,nu b C (o+1) _ (by simp;lia)];have d:b+o<a.toList.length:=by rw[Array.length_toList];lia
  have f:(a.setIfInBounds (b+o) v).toList=a.toList.set (b+o) v:=by simp
  rw[f,show b+(o+1)=b+o+1 by lia,take_add_one,List.take_set_of_le (Nat.le_refl _)];rw[List.getElem?_set_self d];rw[List.drop_set_of_lt (by lia)];simp only[Option.toList_some,append_assoc,singleton_append,length_cons]
  congr 3
  lia
def put(p:Array Nat)(i:Nat)(C:List Nat):Array Nat:=(p.toList.take i++C++p.toList.drop (i+C.length)).toArray
theorem AG{p:Array Nat}{i:Nat}{C:List Nat}(h:i+C.length<=p.size)(x:Nat):e (put p i C) x=if i<=x/\x<i+C.length then e C.toArray (x - i) else e p x:=by
 unfold e put;have a:(p.toList.take i).length=i:=by rw[length_take,Array.length_toList];lia
 rw[List.getElem?_toArray,append_assoc]
 by_cases c1:x<i
 .rw[if_neg (by lia),List.getElem?_append_left (by lia),List.getElem?_take,if_pos c1]
  simp
 .rw[List.getElem?_append_right (by lia),a]
  by_cases c2:x<i+C.length
  .rw[if_pos (by lia),List.getElem?_append_left (by lia),List.getElem?_toArray]
  .rw[if_neg (by lia),List.getElem?_append_right (by lia),List.getElem?_drop,show i+C.length+(x - i - C.length)=x by lia]
   simp
theorem xi{b:Nat->Keyed}{p:Array Nat}{i:Nat}{C:List Nat}(h:i+C.length<=p.size):(C.map b).toArray.toList.zipIdx.foldl (λa (x:Keyed×Nat)=>a.setIfInBounds (i+x.2) x.1) (p.map b)=(put p i C).map b:=by
 apply Array.toList_inj.mp;rw[toList_toArray,nu i (C.map b) 0 (p.map b) (by simpa using h)];unfold put;simp[map_take,map_drop]
theorem tQ{n:Nat}{p:Array Nat}(c:PV n p){i j k:Nat}{C:List Nat}(l:i<=j)(g:j<=k)(q:k<=p.size)(a:C.Perm ((p.toList.drop i).take (j - i)++(p.toList.drop j).take (k - j))):PV n (put p i C)/\i+C.length=k:=by
 have d:C.length=k - i:=by rw[a.length_eq,length_append,eX (by lia),eX q];lia
 have r:p.toList=p.toList.take i++((p.toList.drop i).take (j - i)++(p.toList.drop j).take (k - j))++p.toList.drop (i+C.length):=by
  have f:(p.toList.drop j)=(p.toList.drop i).drop (j - i):=by rw[drop_drop,show i+(j - i)=j by lia]
  have h:(p.toList.drop i).take (j - i)++(p.toList.drop j).take (k - j)=(p.toList.drop i).take (k - i):=by
   rw[f,<- take_add,show j - i+(k - j)=k - i by lia]
  rw[h,d];have o:p.toList.drop (i+(k - i))=(p.toList.drop i).drop (k - i):=by rw[drop_drop]
  rw[o,append_assoc,take_append_drop,take_append_drop]
 have b:(put p i C).toList.Perm p.toList:=by
  refine List.Perm.trans ?_ (.of_eq r.symm);exact(a.append_left _).append_right _
 refine⟨⟨?_,b.trans c.pm⟩,by lia⟩;rw[<- c.sz,<- Array.length_toList,b.length_eq,Array.length_toList]
theorem nE(i:Nat):mergeAt' i=(do
 let s <- get
 let (some (sa,na,power),some (sb,nb,_)):=((pendingOf s)[i]?,(pendingOf s)[i+1]?) | unsupported "internal:list.sort.pending"
 set (SortSt.mk' (kindOf s) (arrOf s) (((pendingOf s).setIfInBounds i (sa,na+nb,power)).eraseIdxIfInBounds (i+1)) (gallopOf s) (failedOf s))
 let some k <- cM false (<- elem' (arrOf s) sb) (arrOf s) sa na 0 | return false
 let (sa,na):=(sa+k,na - k)
 if na == 0 then return true
 let some nb <- cM true (<- elem' (arrOf s) (sa+na - 1)) (arrOf s) sb nb (nb - 1) | return false
 if nb == 0 then return true
 let x:=(arrOf s).extract sa sb
 let y:=(arrOf s).extract sb (sb+nb)
 let merged <- if na<=nb then jH x y else jp x y
 modify λs=>setArr s (merged.toList.zipIdx.foldl (λa (p,j)=>a.setIfInBounds (sa+j) p) (arrOf s))
 return (failedOf (<- get)).isNone):=rfl
theorem wL{b:Type}{M:Model}{A:Around}{E:Value->Shared->Prop}{s:Shared}{st a:b}{Q:PUnit->b->Prop}(h:Q ⟨⟩ a):wpS M A E s (set a:StateT b Sem PUnit) Q st:=by
 unfold wpS;rw[StateT.run_set];exact wpAny_pure ⟨rfl,h⟩
section
variable {prog:Program}{w:World}{A:Around}{E:Value->Shared->Prop}{s:Shared}{κ:SortKind}{it:Nat->Keyed}{n:Nat}{p:Array Nat}
theorem rB{c:Type}(a:List c)(x y z:c)(b:List c):(((a++x::y::b).toArray.setIfInBounds a.length z).eraseIdxIfInBounds (a.length+1))=(a++z::b).toArray:=by
 apply Array.toList_inj.mp
 have d:((a++x::y::b).toArray.setIfInBounds a.length z)=(a++z::y::b).toArray:=by
  apply Array.toList_inj.mp;simp
 rw[d];unfold Array.eraseIdxIfInBounds;rw[dif_pos (by simp)];simp[List.eraseIdx_append_of_length_le]
theorem oY(hc:fO prog w A s κ it n)(hp:PV n p){o B:List (Nat×Nat×Nat)}{d f sb l v N g r:Nat}{Q:Bool->SortSt->Prop}(hr:Runs p 0 (o++(d,f,v)::(sb,l,N)::B) r)(hn:r<=n)
  (h:∀ p' g',PV n p'->Runs p' 0 (o++(d,f+l,v)::B) r->(∀ k,r<=k->e p' k=e p k)->Q true (S κ it p' (o++(d,f+l,v)::B).toArray g')) :
  wpS (model prog w) A E s (mergeAt' o.length) Q (S κ it p (o++(d,f,v)::(sb,l,N)::B).toArray g):=by
 obtain⟨k0,a2,e1,q1,W,e2,q2,R,Z⟩:=Runs.app.mp hr;dsimp only at e1 q1 W e2 q2 R Z;subst e1;subst e2;have a3:=Z.le;have hz:=hp.sz
 have ac:∀ p' g',PV n p'->(∀ k,k<d->e p' k=e p k)->(∀ k,d+f+l<=k->e p' k=e p k)->Up p' d (d+f+l)->Q true (S κ it p' (o++(d,f+l,v)::B).toArray g'):=λp' g' M o1 o2 hu=>by
  refine h p' g' M (Runs.app.mpr ⟨d,a2.congr λk _ hk=>o1 k hk,rfl,by show 1<=f+l;lia,?_,?_⟩) λk hk=>o2 k (by lia)
  .show Up p' d (d+(f+l));rw[<- Nat.add_assoc];exact hu
  .show Runs p' (d+(f+l)) B r;rw[<- Nat.add_assoc];exact Z.congr λk hk _=>o2 k hk
 rw[nE];refine wpS_bind (wpS_get ?_)
 have g1:(pendingOf (S κ it p (o++(d,f,v)::(d+f,l,N)::B).toArray g))[o.length]? = some (d,f,v):=by
  show(o++(d,f,v)::(d+f,l,N)::B).toArray[o.length]? = _;simp
 have g2:(pendingOf (S κ it p (o++(d,f,v)::(d+f,l,N)::B).toArray g))[o.length+1]? = some (d+f,l,N):=by
  show(o++(d,f,v)::(d+f,l,N)::B).toArray[o.length+1]? = _;simp[List.getElem?_append_right]
 rw[g1,g2];dsimp only;refine wpS_bind (wL ?_);show wpS _ _ _ _ _ Q (SortSt.mk' κ (p.map it) (((o++(d,f,v)::(d+f,l,N)::B).toArray.setIfInBounds o.length (d,f+l,v)).eraseIdxIfInBounds (o.length+1)) g none);rw[rB];show wpS _ _ _ _ _ Q (S κ it p (o++(d,f+l,v)::B).toArray g);have ea:arrOf (S κ it p (o++(d,f,v)::(d+f,l,N)::B).toArray g)=p.map it:=rfl;rw[ea];have bd:∀ k,k<n->e p k<n:=λk hk=>hp.bd n hk
 have ne:∀ i j,i<n->j<n->i≠j->e p i≠e p j:=λi j r I q=>hp.ne n r I q
 refine wpS_bind (be (by lia) ?_);refine wpS_bind (dU hc rfl (bd _ (by lia)) (by lia) (λi r=>⟨bd _ (by lia),ne _ _ (by lia) (by lia) (by lia)⟩) W (by lia) λk k1 k2 k3=>?_);dsimp only;have ab:∀ t,d<=t->t<d+k->e p t<e p (d+f):=λt a b=>by have:=k2 (t - d) (by lia);rw[show d+(t - d)=t by lia]at this;exact this
 have al:∀ t,d+k<=t->t<d+f->e p (d+f)<e p t:=λt a b=>by have:=k3 (t - d) (by lia) (by lia);rw[show d+(t - d)=t by lia]at this;exact this
 have D:∀ t,d+f<=t->t<d+f+l->e p (d+f)<=e p t:=λt a b=>by
  by_cases z:t=d+f
  .rw[z];exact Nat.le_refl _
  .exact Nat.le_of_lt (R _ _ (by lia) (by lia) b)
 by_cases c0:f - k=0
 .rw[if_pos (by simpa using c0)]
  refine wpS_pure (ac p g hp (λ_ _=>rfl) (λ_ _=>rfl) λi j r q I=>?_)
  by_cases c1:j<d+f
  .exact W i j r q c1
  .by_cases c2:i<d+f
   .exact Nat.lt_of_lt_of_le (ab i r (by lia)) (D j (by lia) (by lia))
   .exact R i j (by lia) q I
 rw[if_neg (by simpa using c0)];have ek:d+k+(f - k) - 1=d+f - 1:=by lia
 refine wpS_bind (be (by lia) ?_);rw[ek];refine wpS_bind (dU hc rfl (bd _ (by lia)) (by lia) (λi r=>⟨bd _ (by lia),ne _ _ (by lia) (by lia) (by lia)⟩) R (by lia) λm m1 m2 m3=>?_);dsimp only;have an:∀ t,d+f<=t->t<d+f+m->e p t<e p (d+f - 1):=λt a b=>by have:=m2 (t - (d+f)) (by lia);rw[show d+f+(t - (d+f))=t by lia]at this;exact this
 have H:∀ t,d+f+m<=t->t<d+f+l->e p (d+f - 1)<e p t:=λt a b=>by have:=m3 (t - (d+f)) (by lia) (by lia);rw[show d+f+(t - (d+f))=t by lia]at this;exact this
 have Y:∀ t,d<=t->t<d+f->e p t<=e p (d+f - 1):=λt a b=>by
  by_cases z:t=d+f - 1
  .rw[z];exact Nat.le_refl _
  .exact Nat.le_of_lt (W _ _ a (by lia) (by lia))
 by_cases c1:m=0
 .rw[if_pos (by simpa using c1)]
  refine wpS_pure (ac p g hp (λ_ _=>rfl) (λ_ _=>rfl) λi j r q I=>?_)
  by_cases c2:j<d+f
  .exact W i j r q c2
  .by_cases c3:i<d+f
   .exact Nat.lt_of_le_of_lt (Y i r c3) (H j (by lia) (by lia))
   .exact R i j (by lia) q I
 rw[if_neg (by simpa using c1)];have s1:d+f<=p.size:=by lia
 have L:d+f+m<=p.size:=by lia
 have K:=eX (p:=p) (i:=d+k) s1;have a1:=eX (p:=p) (i:=d+f) L
 have T:Two n ((p.toList.drop (d+k)).take (d+f - (d+k))) ((p.toList.drop (d+f)).take (d+f+m - (d+f))):=by
  refine⟨pp s1 λi j a b c=>W i j (by lia) b c,pp L λi j a b c=>R i j a b (by lia),λx P=>?_,λx P=>?_,λx P y hy=>?_⟩
  .obtain⟨t,F,G,rfl⟩:=eL s1 P;exact bd _ (by lia)
  .obtain⟨t,F,G,rfl⟩:=eL L P;exact bd _ (by lia)
  .obtain⟨t,F,G,rfl⟩:=eL s1 P
   obtain⟨u,v1,v2,rfl⟩:=eL L hy;exact ne _ _ (by lia) (by lia) (by lia)
 have hl:∀ y∈(p.toList.drop (d+f)).take (d+f+m - (d+f)),y<e ((p.toList.drop (d+k)).take (d+f - (d+k))).toArray (((p.toList.drop (d+k)).take (d+f - (d+k))).length - 1):=λy hy=>by
  obtain⟨t,F,G,rfl⟩:=eL L hy;rw[K,nB s1 (by lia),show d+k+(d+f - (d+k) - 1)=d+f - 1 by lia];exact an t F G
 have hf:∀ x∈(p.toList.drop (d+k)).take (d+f - (d+k)),e ((p.toList.drop (d+f)).take (d+f+m - (d+f))).toArray 0<x:=λx P=>by
  obtain⟨t,F,G,rfl⟩:=eL s1 P;rw[nB L (by lia)];exact al t F G
 have as:∀ C g',Fine ((p.toList.drop (d+k)).take (d+f - (d+k))) ((p.toList.drop (d+f)).take (d+f+m - (d+f))) C->Q true (S κ it (put p (d+k) C) (o++(d,f+l,v)::B).toArray g'):=λC g' J=>by
  obtain⟨M,az⟩:=tQ hp (by lia) (by lia) L J.1;have ep:=AG (p:=p) (i:=d+k) (C:=C) (by lia)
  have a0:∀ x,x<C.length->(∃ t,d+k<=t/\t<d+f/\e C.toArray x=e p t)\/∃ t,d+f<=t/\t<d+f+m/\e C.toArray x=e p t:=λx P=>by
   have:=J.1.mem_iff.mp (fo P)
   rcases mem_append.mp this with z | z
   .exact .inl (eL s1 z)
   .exact .inr (eL L z)
  have uC:=pE J.2;refine ac _ g' M (λt ht=>by rw[ep,if_neg (by lia)]) (λt ht=>by rw[ep,if_neg (by lia)]) λi j r q I=>?_
  rw[ep,ep]
  by_cases i1:i<d+k
  .rw[if_neg (show ¬(d+k<=i/\i<d+k+C.length) by lia)]
   by_cases j1:j<d+k
   .rw[if_neg (by lia)];exact W i j r q (by lia)
   .by_cases j2:j<d+k+C.length
    .rw[if_pos (by lia)]
     rcases a0 (j - (d+k)) (by lia) with⟨t,F,G,et⟩ | ⟨t,F,G,et⟩
     .rw[et];exact W i t r (by lia) G
     .rw[et];exact Nat.lt_of_lt_of_le (ab i r i1) (D t F (by lia))
    .rw[if_neg (by lia)]
     exact Nat.lt_of_lt_of_le (ab i r i1) (D j (by lia) I)
  .by_cases i2:i<d+k+C.length
   .rw[if_pos (show d+k<=i/\i<d+k+C.length by lia)]
    by_cases j2:j<d+k+C.length
    .rw[if_pos (by lia)]
     exact uC _ _ (Nat.zero_le _) (by lia) (by lia)
    .rw[if_neg (by lia)]
     rcases a0 (i - (d+k)) (by lia) with⟨t,F,G,et⟩ | ⟨t,F,G,et⟩
     .rw[et];exact Nat.lt_of_le_of_lt (Y t (by lia) G) (H j (by lia) I)
     .rw[et];exact R t j F (by lia) I
   .rw[if_neg (show ¬(d+k<=i/\i<d+k+C.length) by lia),if_neg (by lia)]
    exact R i j (by lia) q I
 have X:∀ C g',Fine ((p.toList.drop (d+k)).take (d+f - (d+k))) ((p.toList.drop (d+f)).take (d+f+m - (d+f))) C ->
   wpS (model prog w) A E s (do
    modify λs=>setArr s ((C.map it).toArray.toList.zipIdx.foldl (λa (x:Keyed×Nat)=>a.setIfInBounds (d+k+x.2) x.1) (arrOf s))
    let s <- get
    pure (failedOf s).isNone) Q (S κ it p (o++(d,f+l,v)::B).toArray g'):=λC g' J=>by
  obtain⟨M,az⟩:=tQ hp (by lia) (by lia) L J.1;refine wpS_bind (wpS_modify (wpS_bind (wpS_get (wpS_pure ?_))));show Q true (SortSt.mk' κ ((C.map it).toArray.toList.zipIdx.foldl (λa (x:Keyed×Nat)=>a.setIfInBounds (d+k+x.2) x.1) (p.map it)) (o++(d,f+l,v)::B).toArray g' none);rw[xi (by lia)];exact as C g' J
 rw[sZ,sZ]
 by_cases cm:f - k<=m
 .rw[if_pos cm]
  refine wpS_bind (om hc T hl (by lia) (by lia) (hf _ (fo (by lia))) λC g' J=>X C g' J)
 .rw[if_neg cm]
  refine wpS_bind (oH hc T hl hf (by lia) (by lia) λC g' J=>X C g' J)
end
section
variable {prog:Program}{w:World}{A:Around}{E:Value->Shared->Prop}{s:Shared}{κ:SortKind}{it:Nat->Keyed}{n:Nat}{p:Array Nat}
theorem zK{c:Prop}[Decidable c]{a b m:Nat}(f:a<=m)(d:b<=m):(if c then a else b)<=m:=by split <;> assumption
theorem zd{b:Type}{l:List b}{i:Nat}(h:i+1<l.length):∃ x y,l=l.take i++x::y::l.drop (i+2)/\(l.take i).length=i:=by
 refine⟨l[i],l[i+1],?_,by rw[length_take];lia⟩;have a:l.drop i=l[i]::l[i+1]::l.drop (i+2):=by rw[drop_eq_getElem_cons (by lia),drop_eq_getElem_cons h]
 rw[<- a,take_append_drop]
theorem j4(v:fO prog w A s κ it n)(x:PV n p){l:List (Nat×Nat×Nat)}{i g f:Nat}{Q:Bool->SortSt->Prop}(r:Runs p 0 l f)(u:f<=n)(o:i+1<l.length)
  (h:∀ p' l' g',PV n p'->Runs p' 0 l' f->(∀ k,f<=k->e p' k=e p k)->l'.length+1=l.length->Q true (S κ it p' l'.toArray g')) :
  wpS (model prog w) A E s (mergeAt' i) Q (S κ it p l.toArray g):=by
 obtain⟨⟨B,C,F⟩,⟨z,y,D⟩,j,q⟩:=zd o;have d:=congrArg List.length j;rw[length_append,length_cons,length_cons]at d;generalize l.take i=l1 at j q d;generalize l.drop (i+2)=l2 at j d;subst q;subst j;refine oY v x r u λp' g' a b c=>h p' _ g' a b c ?_
 rw[length_append,length_append,length_cons,length_cons,length_cons];lia
theorem Runs.like{p:Array Nat}:∀{l l':List (Nat×Nat×Nat)}{lo hi:Nat},Runs p lo l hi->l'.map (λx=>(x.1,x.2.1))=l.map (λx=>(x.1,x.2.1))->Runs p lo l' hi
 | [],[],lo,hi,h,_=>h
 | [],y::r,lo,hi,h,q=>by simp at q
 | x::r,[],lo,hi,h,q=>by simp at q
 | x::r,y::r',lo,hi,⟨h1,h2,h3,h4⟩,q=>by
  rw[map_cons,map_cons,List.cons.injEq,Prod.mk.injEq]at q;obtain⟨⟨c,a⟩,b⟩:=q;refine⟨c.trans h1,by rw[a];exact h2,by rw[a];exact h3,by rw[a];exact h4.like b⟩
theorem md(l:List (Nat×Nat×Nat))(i a:Nat):(l.modify i λ(x:Nat×Nat×Nat)=>(x.1,x.2.1,a)).map (λx=>(x.1,x.2.1))=l.map (λx=>(x.1,x.2.1)):=by
 apply List.ext_getElem?;intro k;rw[List.getElem?_map,List.getElem?_map,List.getElem?_modify];cases l[k]? with
 | none=>rfl
 | some x=>by_cases c:i=k <;> simp[c]
def gM(κ:SortKind)(it:Nat->Keyed)(n lo:Nat)(st:SortSt)(p:Array Nat)(l:List (Nat×Nat×Nat)):Prop:=∃ g,st=S κ it p l.toArray g/\PV n p/\Runs p 0 l lo
theorem mF(X:fO prog w A s κ it n)(hp:PV n p)(hn:1<=n){g:Nat}{Q:Unit->SortSt->Prop}(h:∀ p' pd g',PV n p'->Up p' 0 n->Q () (S κ it p' pd g')) :
  wpS (model prog w) A E s sortRuns' Q (S κ it p #[] g):=by
 rw[sortRuns'_eq];refine wpS_bind (wpS_get ?_);have Y:(arrOf (S κ it p #[] g)).size=n:=by show(p.map it).size=n;rw[Array.size_map];exact hp.sz
 dsimp only;rw[Y];generalize minRun' n n 0=mr;refine wpS_bind (wpS_mono (wpS_forRange (I:=λx c d=>∃ j p' l,c=(none,j)/\gM κ it n j d p' l/\j<=n/\(x<=j\/j=n)) (Q:=λc d=>∃ p' l,c=(none,n)/\gM κ it n n d p' l) ?step ?fin ⟨0,p,[],rfl,⟨g,rfl,hp,rfl⟩,Nat.zero_le _,.inl (Nat.le_refl _)⟩) ?post)
 case fin =>
  rintro c d ⟨j,p',l,rfl,hs,h1,h2⟩;obtain rfl:j=n:=by lia
  exact⟨p',l,rfl,hs⟩
 case step =>
  rintro x c d _ hx ⟨j,p',l,rfl,⟨g',rfl,D,L⟩,h1,h2⟩;dsimp only
  by_cases c:j >= n
  .rw[if_pos c]
   obtain rfl:j=n:=by lia
   exact wpS_pure ⟨p',l,rfl,g',rfl,D,L⟩
  rw[if_neg c];refine wpS_bind (sX X D (by lia) (by lia) λm p2 R W m2 hu hk=>?_);dsimp only;have K:Runs p2 0 l j:=L.congr λk _ F=>hk k F
  have M:∀{m} {o f q},1<=m->m<=n - j->PV n o->Runs o 0 f j->Up o j (j+m)->∃ lo' p' l,((none,j+m):Option Unit×Nat)=(none,lo')/\gM κ it n lo' (setPending (S κ it o f.toArray q) ((pendingOf (S κ it o f.toArray q)).push (j,m,0))) p' l/\lo'<=n/\(x+1<=lo'\/lo'=n):=λ{m o f q} W m2 a b c =>
   ⟨_,o,f++[(j,m,0)],rfl,⟨q,by show SortSt.mk' κ (o.map it) (f.toArray.push (j,m,0)) q none=SortSt.mk' κ (o.map it) (f++[(j,m,0)]).toArray q none;simp,a,Runs.app.mpr ⟨j,b,rfl,W,c,rfl⟩⟩,by lia,by lia⟩
  by_cases cm:m<mr
  case' pos =>
   rw[if_pos cm];refine wpS_bind (wpS_lift (wpAny_rule ⟨rfl,?_⟩));refine wpS_bind (rq X R (by lia) (by lia) W hu λp3 J C ab=>?_);simp only[Bool.not_true,Bool.false_eq_true,if_false];have G:Runs p3 0 l j:=K.congr λk _ F=>ab k F
   have N:1<=min (n - j) mr:=by lia
   have T:min (n - j) mr<=n - j:=by lia
   obtain⟨m',hm'⟩:∃ m',m'=min (n - j) mr:=⟨_,rfl⟩
   rw[<- hm']at C N T ⊢
  case' neg =>
   rw[if_neg cm];have J:=R;have G:=K;have C:=hu;have N:=W;have T:=m2
   obtain⟨m',hm'⟩:∃ m',m'=m:=⟨_,rfl⟩
   rw[<- hm']at C N T ⊢
  all_goals
   refine wpS_bind (wpS_get ?_);cases hb:(pendingOf (S κ it _ l.toArray g')).back? with
   | none=>exact wpS_bind (wpS_modify (wpS_pure (M N T J G C)))
   | some y =>
    obtain⟨s1,n1,z⟩:=y;dsimp only;generalize power' n (2*s1+n1) (2*s1+n1+n1+m') n=pw;refine wpS_bind (wpS_mono (wpS_forRange (I:=λ_ c d=>c=(none,())/\∃ p' l',gM κ it n j d p' l'/\Up p' j (j+m')) (Q:=λc d=>c=(none,())/\∃ p' l',gM κ it n j d p' l'/\Up p' j (j+m')) ?s1 ?f1 ⟨rfl,_,l,⟨g',rfl,J,G⟩,C⟩) ?p1)
    case f1=>exact λc d z=>z
    case s1 =>
     rintro x c d _ hx ⟨rfl,o,f,⟨q,rfl,v,u⟩,B⟩;refine wpS_bind (wpS_get ?_);have es:(pendingOf (S κ it o f.toArray q)).size=f.length:=by show f.toArray.size=_;simp
     rw[es]
     by_cases cs:f.length > 1
     .rw[if_pos cs]
      have eg:(pendingOf (S κ it o f.toArray q))[f.length - 2]? = some (f[f.length - 2]'(by lia)):=by show f.toArray[f.length - 2]? = _;simp
      rw[eg];obtain⟨a1,a2,H⟩:=f[f.length - 2]'(by lia);dsimp only
      by_cases co:H<=pw
      .rw[if_pos co]
       exact wpS_pure ⟨rfl,o,f,⟨q,rfl,v,u⟩,B⟩
      rw[if_neg co];refine wpS_bind (j4 X v u h1 (by lia) λp5 l5 g5 b1 Z b3 b4=>?_);exact wpS_pure ⟨rfl,p5,l5,⟨g5,rfl,b1,Z⟩,B.congr λk hk _=>b3 k hk⟩
     .rw[if_neg cs]
      exact wpS_pure ⟨rfl,o,f,⟨q,rfl,v,u⟩,B⟩
    case p1 =>
     rintro c d ⟨rfl,o,f,⟨q,rfl,v,u⟩,B⟩;dsimp only;refine wpS_bind (wpS_modify ?_)
     have em:setPending (S κ it o f.toArray q) ((pendingOf (S κ it o f.toArray q)).modify ((pendingOf (S κ it o f.toArray q)).size - 1) λ(x:Nat×Nat×Nat)=>(x.1,x.2.1,pw))=S κ it o (f.modify (f.length - 1) λ(x:Nat×Nat×Nat)=>(x.1,x.2.1,pw)).toArray q:=by
      show SortSt.mk' κ (o.map it) (f.toArray.modify (f.toArray.size - 1) _) q none=SortSt.mk' κ (o.map it) _ q none
      congr 1
      simp
     show wpS _ _ _ _ _ _ (setPending (S κ it o f.toArray q) ((pendingOf (S κ it o f.toArray q)).modify ((pendingOf (S κ it o f.toArray q)).size - 1) λ(x:Nat×Nat×Nat)=>(x.1,x.2.1,pw)));rw[em];exact wpS_bind (wpS_modify (wpS_pure (M N T v (u.like (md _ _ _)) B)))
 case post =>
  rintro c d ⟨p',l,rfl,g',rfl,D,L⟩;dsimp only;refine wpS_bind (wpS_mono (wpS_forRange (I:=λx c d=>c=(none,())/\∃ p' l,gM κ it n n d p' l/\(l.length+x<=n\/l.length<=1)) (Q:=λc d=>c=(none,())/\∃ p' l,gM κ it n n d p' l/\l.length<=1) ?s1 ?f1 ⟨rfl,p',l,⟨g',rfl,D,L⟩,.inl (by have:=L.le;lia)⟩) ?p1)
  case f1 =>
   rintro c d ⟨rfl,p',l,hs,P⟩;exact⟨rfl,p',l,hs,by lia⟩
  case s1 =>
   rintro x c d _ hx ⟨rfl,o,f,⟨q,rfl,v,u⟩,P⟩;refine wpS_bind (wpS_get ?_);have es:(pendingOf (S κ it o f.toArray q)).size=f.length:=by show f.toArray.size=_;simp
   rw[es]
   by_cases cs:f.length<=1
   .rw[if_pos cs]
    exact wpS_pure ⟨rfl,o,f,⟨q,rfl,v,u⟩,cs⟩
   rw[if_neg cs]
   have go:∀ i,i+1<f.length->wpS (model prog w) A E s (do
     let __x <- mergeAt' i
     if (!__x)=true then pure (ForInStep.done (some (),())) else pure (ForInStep.yield (none,()))) (λr d=>match r with | .done c'=>(c'=((none,()):Option Unit×Unit)/\∃ p' l,gM κ it n n d p' l/\l.length<=1) | .yield c'=>(c'=(none,())/\∃ p' l,gM κ it n n d p' l/\(l.length+(x+1)<=n\/l.length<=1))) (S κ it o f.toArray q):=λi hi=>by
    refine wpS_bind (j4 X v u (Nat.le_refl _) hi λp5 l5 g5 b1 Z b3 b4=>?_);exact wpS_pure ⟨rfl,p5,l5,⟨g5,rfl,b1,Z⟩,by lia⟩
   refine wpS_mono (go _ ?_) λr d z=>by cases r <;> exact z
   exact Nat.lt_of_le_of_lt (Nat.succ_le_succ (zK (m:=f.length - 2) (by lia) (Nat.le_refl _))) (by lia)
  case p1 =>
   rintro c d ⟨rfl,o,f,⟨q,rfl,v,u⟩,P⟩;refine wpS_pure (h o _ q v ?_)
   match f,u,P with
   | [],u,_=>exact absurd (show 0=n from u) (by lia)
   | [y],⟨a1,a2,a3,a4⟩,_ =>
    have a4:0+y.2.1=n:=a4;rw[a4]at a3;exact a3
   | _::_::_,_,P=>exact absurd P (by simp)
end
structure Tot(lt:Nat->Nat->Bool)(n:Nat):Prop where
 asy:∀ i j,i<n->j<n->lt i j=true->lt j i=false
 tr:∀ i j k,i<n->j<n->k<n->lt i j=true->lt j k=true->lt i k=true
 tot:∀ i j,i<n->j<n->i≠j->lt i j=false->lt j i=true
def ins(lt:Nat->Nat->Bool)(x:Nat):List Nat->List Nat
 | []=>[x]
 | y::r=>if lt x y=true then x::y::r else y::ins lt x r
def ordT(lt:Nat->Nat->Bool)(l:List Nat):List Nat:=l.foldr (ins lt) []
theorem jL{lt:Nat->Nat->Bool}{x:Nat}:∀ l:List Nat,(ins lt x l).Perm (x::l)
 | []=>.refl _
 | y::r=>by
  unfold ins
  split
  .exact .refl _
  .exact((jL r).cons y).trans (.swap x y r)
theorem ordT_perm{lt:Nat->Nat->Bool}:∀ l:List Nat,(ordT lt l).Perm l
 | []=>.refl _
 | x::r=>(jL _).trans ((ordT_perm r).cons x)
theorem uI{lt:Nat->Nat->Bool}{n x:Nat}(T:Tot lt n)(a:x<n):∀ l:List Nat,(∀ y∈l,y<n)->x ∉ l->l.Pairwise (λi j=>lt i j=true)->(ins lt x l).Pairwise (λi j=>lt i j=true)
 | [],_,_,_=>List.pairwise_singleton _ _
 | y::r,hl,hn,hp=>by
  have d:=hl y (mem_cons_self ..);obtain⟨b,f⟩:=pairwise_cons.mp hp;unfold ins
  split
  .rename_i c
   refine pairwise_cons.mpr ⟨λz hz=>?_,hp⟩
   rcases mem_cons.mp hz with rfl | hz
   .exact c
   .exact T.tr _ _ _ a d (hl z (mem_cons_of_mem _ hz)) c (b z hz)
  .rename_i c
   refine pairwise_cons.mpr ⟨λz hz=>?_,uI T a r (λz hz=>hl z (mem_cons_of_mem _ hz)) (λz=>hn (mem_cons_of_mem _ z)) f⟩
   rcases mem_cons.mp ((jL r).mem_iff.mp hz) with rfl | hz
   .exact T.tot _ _ a d (λe=>hn (e ▸ mem_cons_self ..)) (by simpa using c)
   .exact b z hz
theorem ordT_pw{lt:Nat->Nat->Bool}{n:Nat}(T:Tot lt n):∀ l:List Nat,(∀ y∈l,y<n)->l.Nodup->(ordT lt l).Pairwise (λi j=>lt i j=true)
 | [],_,_=>.nil
 | x::r,hl,hn=>by
  obtain⟨c,b⟩:=nodup_cons.mp hn;refine uI T (hl x (mem_cons_self ..)) _ (λy a=>hl y (mem_cons_of_mem _ ((ordT_perm r).mem_iff.mp a))) (λz=>c ((ordT_perm r).mem_iff.mp z)) (ordT_pw T r (λy a=>hl y (mem_cons_of_mem _ a)) b)
theorem zD{l:List Nat}(h:l.Nodup){k:Nat}(d:k<l.length):l.idxOf l[k]=k:=by
 have a:l.idxOf l[k]<l.length:=List.idxOf_lt_length_iff.mpr (getElem_mem _);have b:l[l.idxOf l[k]]=l[k]:=List.getElem_idxOf a;have f:=pairwise_iff_getElem.mp h
 rcases Nat.lt_trichotomy (l.idxOf l[k]) k with c | c | c
 .exact absurd b (f _ _ a d c)
 .exact c
 .exact absurd b.symm (f _ _ d a c)
section
variable {prog:Program}{w:World}{A:Around}{E:Value->Shared->Prop}{s:Shared}{κ:SortKind}{lt:Nat->Nat->Bool}{n:Nat}
theorem wp_many{item:Nat->Keyed}(T:Tot lt n)(L:1<=n)(R:∀ i j,i<n->j<n->i≠j->∀ Q:Bool->Shared->Prop,Q (lt i j) s->wpAny (model prog w) A (keyLt' κ (item i).1 (item j).1) Q (λ_ _=>False) s){Q:Unit->SortSt->Prop}
  (h:∀ st,arrOf st=((ordT lt (List.range n)).map item).toArray->failedOf st=none->Q () st) :
  wpS (model prog w) A E s sortRuns' Q (SortSt.mk' κ ((List.range n).map item).toArray #[] 7 none):=by
 have v:=ordT_perm (lt:=lt) (List.range n);have C:(ordT lt (List.range n)).length=n:=by rw[v.length_eq,length_range]
 have g:(ordT lt (List.range n)).Nodup:=v.nodup_iff.mpr nodup_range;have r:=ordT_pw T (List.range n) (λy G=>mem_range.mp G) nodup_range;have d:∀ y∈ordT lt (List.range n),y<n:=λy G=>mem_range.mp (v.mem_iff.mp G)
 generalize ordT lt (List.range n)=o at v C g r d h
 have I:∀ k,k<n->∃ Y:k<o.length,o.getD k 0=o[k]:=λk Y=>⟨by omega,by simp[List.getD,show k<o.length by omega]⟩
 have W:fO prog w A s κ (λk=>item (o.getD k 0)) n:=λi j D hj hne Q hq=>by
  obtain⟨f,F⟩:=I i D;obtain⟨l,H⟩:=I j hj;refine R _ _ ?_ ?_ ?_ Q ?_
  .rw[F];exact d _ (getElem_mem _)
  .rw[H];exact d _ (getElem_mem _)
  .rw[F,H]
   intro z
   rcases Nat.lt_or_gt_of_ne hne with c | c
   .exact pairwise_iff_getElem.mp g _ _ f l c z
   .exact pairwise_iff_getElem.mp g _ _ l f c z.symm
  .rw[F,H]
   rcases Nat.lt_or_gt_of_ne hne with c | c
   .rw[pairwise_iff_getElem.mp r _ _ f l c]
    rw[decide_eq_true c]at hq;exact hq
   .rw[T.asy _ _ (d _ (getElem_mem _)) (d _ (getElem_mem _)) (pairwise_iff_getElem.mp r _ _ l f c)]
    rw[decide_eq_false (by omega)]at hq;exact hq
 have K:o.map (λi=>o.idxOf i)=List.range n:=by
  refine ext_getElem (by rw[length_map,length_range,C]) λk q x=>?_
  rw[getElem_map,getElem_range];exact zD g (by rw[length_map]at q;exact q)
 have Z:PV n ((List.range n).map λi=>o.idxOf i).toArray:=by
  refine⟨by simp,?_⟩;rw[toList_toArray];exact(v.symm.map λi=>o.idxOf i).trans (.of_eq K)
 have P:((List.range n).map item).toArray=((List.range n).map λi=>o.idxOf i).toArray.map (λk=>item (o.getD k 0)):=by
  apply Array.toList_inj.mp;rw[Array.toList_map,toList_toArray,toList_toArray,map_map];refine map_congr_left λi D=>?_
  have M:i∈o:=v.mem_iff.mpr D;have q:o.idxOf i<o.length:=List.idxOf_lt_length_iff.mpr M;show item i=item (o.getD (o.idxOf i) 0);rw[List.getD,List.getElem?_eq_getElem q,Option.getD_some,List.getElem_idxOf q]
 rw[P];refine mF W Z L λB pd g' u N=>h _ ?_ rfl
 show B.map (λk=>item (o.getD k 0))=(o.map item).toArray
 have X:B.toList=List.range n:=by
  have J:B.toList.Pairwise (· < ·):=by
   have:=pp (p:=B) (i:=0) (j:=n) (by rw[u.sz];exact Nat.le_refl _) N;rw[Nat.sub_zero,drop_zero,take_of_length_le (by rw[Array.length_toList,u.sz];exact Nat.le_refl _)]at this;exact this
  exact u.pm.eq_of_pairwise (le:=(· < ·)) (λa b _ _ q x=>absurd (Nat.lt_trans q x) (Nat.lt_irrefl _)) J List.pairwise_lt_range
 apply Array.toList_inj.mp;rw[Array.toList_map,X,toList_toArray];refine ext_getElem (by rw[length_map,length_range,length_map,C]) λk q x=>?_
 rw[getElem_map,getElem_range,getElem_map];rw[length_map]at x;simp[List.getD,x]
end
end TS
namespace L2
open PySem PySem.Spec PyProof.Rows PySem.W
def fM(lt:Nat->Nat->Bool)(n:Nat):List Nat:=if n<64 then ord lt n else TS.ordT lt (List.range n)
theorem iz{lt:Nat->Nat->Bool}{n:Nat}(T:WSrt.Wk lt n):(fM lt n).Perm (List.range n):=by
 unfold fM
 split
 .exact uy T
 .exact TS.ordT_perm _
theorem ml{lt:Nat->Nat->Bool}{n:Nat}(T:WSrt.Wk lt n)(d:n<64\/TS.Tot lt n):(fM lt n).Pairwise λi j=>lt j i=false:=by
 unfold fM
 split
 .exact xp T
 .rename_i c
  have U:=d.resolve_left c;have h:=TS.ordT_pw U (List.range n) (λy f=>mem_range.mp f) nodup_range;have g:∀ y∈TS.ordT lt (List.range n),y<n:=λy f=>mem_range.mp ((TS.ordT_perm _).mem_iff.mp f)
  exact h.imp_of_mem λ{a b} l k q=>U.asy _ _ (g _ l) (g _ k) q
section
variable {prog:Program}{w:World}{A:Around}{E:Value->Shared->Prop}{s:Shared}{κ:SortKind}{lt:Nat->Nat->Bool}
theorem zA{ks vs:List Value}(d:ks.length=vs.length)(k:2<=vs.length)(T:WSrt.Wk lt vs.length)(q:vs.length<64\/TS.Tot lt vs.length)
  (u:∀ i j,i<vs.length->j<vs.length->i≠j->∀ C,C (lt i j) s->kas_ask prog w A κ ks i j C s){Q:Unit×SortSt->Shared->Prop}
  (h:∀ st,(arrOf st).map (·.2)=List.toArray ((fM lt vs.length).map λi=>vs.getD i Value.none)->failedOf st=none->Q ((),st) s) :
  wpAny (model prog w) A ((sortRuns').run (SortSt.mk' κ (ks.toArray.zip vs.toArray) #[] 7 none)) Q E s:=by
 by_cases c:vs.length<64
 .obtain⟨p,g,B,F⟩:=WSrt.run_sort lt vs.length T k
  refine wpAny_mono (kat_run (ks:=ks) (vs:=vs) (Q:=λa f=>f=s/\arrOf a=p.map (kas_item (ks.toArray.zip vs.toArray))/\failedOf a=none) (G:=λv f=>v=p/\f=s)
   d k c (λv a f H y D r=>⟨r.2,by rw[y,r.1],D⟩) (WSrt.wp_run lt vs.length (λi j hi hj hn C hC=>u i j hi hj hn C hC) _ (WSrt.In_sort lt vs.length T k) ⟨g,rfl⟩)) ?_ λ_ _ z=>z
  rintro⟨⟨⟩,a⟩ f ⟨rfl,b,l⟩;refine h a ?_ l;rw[kat_snds d b];unfold fM ord;rw[if_pos c,if_pos k,g]
 .have x:(ks.toArray.zip vs.toArray).size=vs.length:=by simp[d]
  have o:SortSt.mk' κ (ks.toArray.zip vs.toArray) #[] 7 none=SortSt.mk' κ ((List.range vs.length).map (kas_item (ks.toArray.zip vs.toArray))).toArray #[] 7 none:=by
   have e:=kas_range (ks.toArray.zip vs.toArray);rw[x]at e;rw[<- List.map_toArray,e]
  rw[o];refine wpAny_mono (TS.wp_many (E:=E) (Q:=λ_ st=>Q ((),st) s) (item:=kas_item (ks.toArray.zip vs.toArray)) (q.resolve_left c) (by lia) (λi j hi hj hn Q' n=>?_) λst b l=>h st ?_ l) ?_ λ_ _ z=>z
  .rw[kat_item d,kat_item d]
   exact u i j hi hj hn Q' n
  .have:=kat_snds d (st:=st) (p:=(TS.ordT lt (List.range vs.length)).toArray) (by rw[b,List.map_toArray])
   rw[this];unfold fM;rw[if_neg c]
  .rintro⟨⟨⟩,a⟩ f ⟨rfl,n⟩
   exact n
theorem p7{a:Addr}{vs:List Value}{m:Nat}{κ:SortKind}{lt:Nat->Nat->Bool}{P:PySem.Fin->Shared->Prop}(l:s.heap.get? a=some (seqObj "list" vs.toArray m))(T:WSrt.Wk lt vs.length)(hz:vs.length<16000000)(q:vs.length<64\/TS.Tot lt vs.length)
  (I:2<=vs.length->∀ g,(∀ b o,b≠a->s.heap.get? b=some o->g.get? b=some o)->∀ Q:SortKind->Shared->Prop,Q κ { s with heap:=g }->wpAny (model prog w) A (keyKind' vs.toArray) Q (λ_ _=>False) { s with heap:=g })
  (H:∀ g,(∀ b o,b≠a->s.heap.get? b=some o->g.get? b=some o)->∀ i j,i<vs.length->j<vs.length->i≠j->∀ C,C (lt i j) { s with heap:=g }->kas_ask prog w A κ vs i j C { s with heap:=g })
  (h:P (.done (.ret .none)) { s with heap:=sortedHeap s.heap a vs (List.toArray ((fM lt vs.length).map λi=>vs.getD i Value.none)) }) :
  wpAny (model prog w) A (Builtin.«list.sort» ⟨[.ref a],[]⟩) P E s:=by
 rw[list_sort_plain];have G:a<s.heap.objs.size:=Heap.lt_size l;refine wpAny_bind (listItems_at l rfl (wpAny_bind (listUpdate_at l rfl ?_)))
 obtain⟨c1,ho1⟩:∃ c1,(s.heap.update a (Obj.mapSeq λ_=>(#[]:Array Value))).get? a=some (seqObj "list" #[] c1):=⟨_,get?_update_seq l λ_=>#[]⟩
 refine wpAny_bind (seqEpoch_at ho1 rfl (wpAny_bind (wpAny_newTuple (wpAny_bind (wpAny_newList (wpAny_holding ?_))))));have c:(((s.heap.update a (Obj.mapSeq λ_=>(#[]:Array Value))).push (seqObj "tuple" vs.toArray 0)).push (seqObj "list" #[] 0)).get? a=some (seqObj "list" #[] c1):=Heap.get?_push_of_some _ (Heap.get?_push_of_some _ ho1);have d:∀ b o,b≠a->s.heap.get? b=some o->(((s.heap.update a (Obj.mapSeq λ_=>(#[]:Array Value))).push (seqObj "tuple" vs.toArray 0)).push (seqObj "list" #[] 0)).get? b=some o:=λb o hb e=>Heap.get?_push_of_some _ (Heap.get?_push_of_some _ (by rw[Heap.get?_update_ne _ _ _ _ hb];exact e))
 show wpAny (model prog w) A _ P E { s with heap:=((s.heap.update a (Obj.mapSeq λ_=>(#[]:Array Value))).push (seqObj "tuple" vs.toArray 0)).push (seqObj "list" #[] 0) };dsimp only
 by_cases h2:vs.toArray.size<2
 .rw[if_pos h2,if_pos h2]
  refine wpAny_bind (wpAny_pure ?_);rw[StateT.run_pure];refine wpAny_bind (wpAny_pure ?_);dsimp only;refine wpAny_bind (seqEpoch_at c rfl (wpAny_bind (listUpdate_at c rfl ?_ (hsz2:=by rw[Array.size_map];show(pairsOf vs).size<=_;rw[pairsOf_size,sizeLine_eq];lia))));simp only[bne_self_eq_false,Bool.false_eq_true,if_false];have n:vs.length<2:=by simpa using h2
  have y:fM lt vs.length=List.range vs.length:=by unfold fM ord;rw[if_pos (by lia),if_neg (by lia)]
  rw[y]at h;have f:=kas_range (vs.toArray.zip vs.toArray);rw[show(vs.toArray.zip vs.toArray).size=vs.length by simp]at f;have r:arrOf (SortSt.mk' general' (vs.toArray.zip vs.toArray) #[] 7 none)=(List.toArray (List.range vs.length)).map (kas_item (vs.toArray.zip vs.toArray)):=f.symm;have B:=(kat_snds (ks:=vs) rfl r).symm;rw[show(List.range vs.length).map (λi=>vs.getD i Value.none)=(List.toArray (List.range vs.length)).toList.map (λi=>vs.getD i Value.none) from rfl,B]at h;exact wpAny_pure h
 .rw[if_neg h2,if_neg h2]
  have n:2<=vs.length:=by simpa using h2
  refine wpAny_bind (wpAny_mono (I n _ d (λk u=>k=κ/\u={ s with heap:=((s.heap.update a (Obj.mapSeq λ_=>(#[]:Array Value))).push (seqObj "tuple" vs.toArray 0)).push (seqObj "list" #[] 0) }) ⟨rfl,rfl⟩) (λk s0 hs=>?_) λ_ _ z=>z.elim);obtain⟨rfl,rfl⟩:=hs;refine wpAny_bind (zA rfl n T q (λi j v x F C D=>H _ d i j v x F C D) λst' hout hf=>?_);dsimp only;have p:(List.toArray ((fM lt vs.length).map λi=>vs.getD i Value.none)).size=vs.length:=by rw[size_toArray,length_map,(iz T).length_eq,length_range]
  rw[hout];refine wpAny_bind (seqEpoch_at c rfl (wpAny_bind (listUpdate_at c rfl ?_ (hsz2:=Nat.le_trans (Nat.le_of_eq p) (by rw[sizeLine_eq];lia)))));rw[hf];simp only[bne_self_eq_false,Bool.false_eq_true,if_false];exact wpAny_pure h
end
section
variable {X:Cx}{pins:List (Addr×Obj)}{σ:St}{H:Hp}{s:Shared}{κ:SortKind}{lt:Nat->Nat->Bool}{KO:Nat->V->Hp->Prop}{xs:List V}{q:Addr}
end
section
variable {X:Cx}{tabs:ni}{d:LamD}{clos:List (Str×Addr)}{fv ps:List Str}{k:Nat}{sp:List V->Sp}{α:Type}{p pos lp kp:Pos}{e:Expr}{te:TE}{x:Str}
end
end L2
namespace L2
open PySem PySem.Spec PyProof.Rows PySem.W LexM
def Ti(h:Heap)(x:List Int)(a:Addr):Prop:=∃ o its n,h.get? a=some o/\o.cls=.type "tuple" /\ o.data=.seq its n/\IntsAre its.toList x
section
variable {prog:Program}{w:World}{A:Around}{E:Value->Shared->Prop}{s:Shared}
theorem Ti.ty{x:List Int}{a:Addr}(h:Ti s.heap x a):s.TypeIs (.ref a) "tuple" := by
 obtain⟨o,d,n,b,c,_⟩:=h;exact⟨o,b,c⟩
theorem kG{x y:List Int}{a b:Addr}{P:PySem.Fin->Shared->Prop}(R:Ti s.heap x a)(M:Ti s.heap y b)(h:P (.done (.ret (.bool (aH x y)))) s) :
  wpAny (model prog w) A (Builtin.«tuple.__lt__» ⟨[.ref a,.ref b],[]⟩) P E s:=by
 have F:=M.ty;obtain⟨Z,p,W,G,_,H,L⟩:=R;obtain⟨Y,C,nb,K,_,J,I⟩:=M;show wpAny _ _ (isInstance (.ref b) (.type "tuple") >>= _) _ _ s;refine wpAny_bind (wpAny_isInstance F isSubtype_tuple_tuple ?_);simp only[Bool.not_true,Bool.false_eq_true,if_false];refine wpAny_bind (wpAny_tupleItemsOf G H ?_);refine wpAny_bind (wpAny_tupleItemsOf K J ?_);refine wpAny_bind ?_
 refine wpAny_forIn_list _
  (λj r l=>r.1=none/\l=s/\∃ B q f d,j=List.zip f d/\IntsAre f B/\IntsAre d q/\aH B q=aH x y/\decide (f.length<d.length)=decide (p.size<C.size))
  _ ?_ ?_ _ _ ⟨rfl,rfl,x,y,p.toList,C.toList,rfl,L,I,rfl,by simp⟩
 .rintro⟨u,v⟩ j r l ⟨D,rfl,B,q,f,d,n,k,i,c,g⟩
  cases k with
  | nil=>simp at n
  | @cons k1 t1 xs'' x'' hx'' =>
   cases i with
   | nil=>simp at n
   | @cons k2 t2 ys'' y'' hy'' =>
    simp only[List.zip_cons_cons,List.cons.injEq,Prod.mk.injEq]at n;obtain⟨⟨rfl,rfl⟩,rfl⟩:=n;refine wpAny_bind (wpAny_eqBool_int ?_)
    by_cases hk:k1=k2
    .subst hk
     rw[show(k1 == k1)=true by simp];simp only[Bool.not_true,Bool.false_eq_true,if_false];refine wpAny_pure ⟨rfl,rfl,x'',y'',xs'',ys'',rfl,hx'',hy'',?_,by simpa using g⟩;rw[<- c,aH,if_pos rfl]
    .rw[show(k1 == k2)=false by simpa using hk]
     simp only[Bool.not_false,if_true];have Q:decide (k1<k2)=aH x y:=by rw[<- c,aH,if_neg hk]
     rw[<- Q]at h;refine wpAny_bind (wpAny_rule ?_);refine wpAny_bind ?_;refine wpAny_mono (show wpAny (model prog w) A (richCompare .Lt (.int k1 t1) (.int k2 t2)) (λv N=>v=.bool (decide (k1<k2))/\N=l) E l from lt_int ⟨rfl,rfl⟩) (λv N hv=>?_) λ_ _ z=>z
     obtain⟨rfl,rfl⟩:=hv;exact wpAny_pure (wpAny_pure h)
 .rintro⟨X,T⟩ l ⟨D,rfl,B,q,f,d,n,k,i,c,g⟩
  simp only at D;subst D;refine wpAny_pure ?_
  have o:decide (p.size<C.size)=aH x y:=by
   rw[<- c,<- g];cases k with
   | nil =>
    cases i with
    | nil=>rfl
    | cons _ _ _=>simp[aH]
   | cons _ _ _ =>
    cases i with
    | nil=>simp[aH]
    | cons _ _ _=>simp at n
  show P (.done (.ret (.bool (decide (p.size<C.size))))) l;rw[o];exact h
theorem nC{a:Bool}{C:Bool->Shared->Prop}:∀{xs ys:List Value}{x y:List Int}(i:Nat),IntsAre xs x->IntsAre ys y->decide (xs.length<ys.length)=a->C (aH x y) s->KatLex prog w A true a C (xs.zip ys) i s
 | _,_,_,_,i,.nil,.nil,hf,h=>kat_nil (by rw[<- hf];exact h)
 | _,_,_,_,i,.nil,.cons _ _ _,hf,h=>kat_nil (by rw[<- hf,decide_eq_true (by simp)];exact h)
 | _,_,_,_,i,.cons _ _ _,.nil,hf,h=>kat_nil (by rw[<- hf,decide_eq_false (by simp)];exact h)
 | _,_,_,_,i,.cons p t hx,.cons q t' hy,hf,h=>by
  rw[List.zip_cons_cons];refine kat_cons (wpAny_eqBool_int ?_);rw[aH]at h
  by_cases e:p=q
  .rw[show(p == q)=true by simpa using e]
   rw[if_pos e]at h;exact kat_yes (nC (i+1) hx hy (by rw[<- hf];simp) h)
  .rw[show(p == q)=false by simpa using e]
   rw[if_neg e]at h;cases i with
   | zero=>exact kat_no (oneLt_int h)
   | succ i=>exact kat_no (kat_one _ _ (lt_int h))
theorem wF{x y:List Int}{a b:Addr}{C:Bool->Shared->Prop}(k:Ti s.heap x a)(l:Ti s.heap y b)(h:C (aH x y) s):wpAny (model prog w) A (keyLt' (tuples' true) (.ref a) (.ref b)) C E s:=by
 obtain⟨r,n,p,i,_,d,j⟩:=k;obtain⟨o,q,u,g,_,c,f⟩:=l;exact kat_lt i d g c (nC 0 j f (by simp) h)
theorem tH{x y:List Int}{a b:Addr}{C:Bool->Shared->Prop}(d:A.units<cLine)(c:Ti s.heap x a)(f:Ti s.heap y b)(h:C (aH x y) s):wpAny (model prog w) A (keyLt' oneType' (.ref a) (.ref b)) C E s:=by
 rw[keyLt'_oneType,oneLt'_eq];simp only[if_true];refine wpAny_bind (wpAny_cRoomFor_or (.inr d) ?_);refine wpAny_bind (wpAny_callSpecialIfBound?_slot c.ty F.slot_tuple_lt (wpAny_call_entry F.slot_tuple_lt c.ty F.entry_tuple_lt (kG c f ⟨_,rfl,?_⟩) (F.args_tuple_lt_2 _ _)));exact wpAny_truthy_bool h
theorem uc{x y:List Int}{a b:Addr}{C:Bool->Shared->Prop}(f:A.units<cLine)(c:Ti s.heap x a)(d:Ti s.heap y b)(h:C (aH x y) s):wpAny (model prog w) A (keyLt' general' (.ref a) (.ref b)) C E s:=by
 show wpAny _ _ (oneLt' false (.ref a) (.ref b)) _ _ s;refine kat_one _ _ ?_;refine wpAny_richCompare_same_room (op:=.Lt) c.ty d.ty F.slot_tuple_lt (wpAny_call_entry F.slot_tuple_lt c.ty F.entry_tuple_lt (kG c d ⟨_,rfl,(λe=>nomatch e),h⟩) (F.args_tuple_lt_2 _ _)) f
inductive Tis(h:Heap):List Value->List (List Int)->Prop
 | nil:Tis h [] []
 | cons {a:Addr}{x:List Int}{vs:List Value}{gs:List (List Int)}(hx:Ti h x a) (t:Tis h vs gs):Tis h (.ref a::vs) (x::gs)
theorem Tis.len{h:Heap}:∀{vs:List Value}{gs:List (List Int)},Tis h vs gs->vs.length=gs.length
 | _,_,.nil=>rfl
 | _,_,.cons _ t=>by rw[length_cons,length_cons,t.len]
theorem Tis.mem{h:Heap}:∀{vs:List Value}{gs:List (List Int)},Tis h vs gs->∀ v∈vs,∃ a x,v=.ref a/\Ti h x a
 | _,_,.nil,v,hv=>by cases hv
 | _,_,.cons hx t,v,hv=>by
  rcases mem_cons.mp hv with rfl | hv
  .exact⟨_,_,rfl,hx⟩
  .exact t.mem v hv
theorem jz{M:Model}:∀{vs:List Value}{gs:List (List Int)}{Q:List (Option Value)->Shared->Prop},Tis s.heap vs gs->(∀ fs:List (Option Value),fs.length=gs.length->(∀(i:Nat) (x:List Int),gs[i]? = some x->(fs[i]? = some none/\x=[])\/∃(n:Int) (t:Tok) (r:List Int),fs[i]? = some (some (Value.int n t))/\x=n::r)->Q fs s)->wpAny M A (vs.mapM firstOfTuple') Q E s
 | _,_,Q,.nil,h=>by rw[List.mapM_nil];exact wpAny_pure (h [] rfl λi x e=>by cases e)
 | _,_,Q,.cons (a:=a) (x:=x) hx t,h=>by
  obtain⟨o,b,n,c,p,f,d⟩:=hx;rw[List.mapM_cons];refine wpAny_bind ?_;rw[kas_first_eq];refine wpAny_bind (Looks.here (show Looks M s.heap (typeOf (.ref a)) o.cls from(Looks.ld c).andThen .now) ?_);rw[p,if_neg (by first | decide | simp)];refine wpAny_bind (listItems_at c f (wpAny_pure ?_));refine wpAny_bind (jz (Q:=λj g=>wpAny M A (pure (b[0]? :: j)) Q E g) t λfs hl hf=>wpAny_pure (h _ (by rw[length_cons,length_cons,hl]) λi y hy=>?_));cases i with
  | succ i=>exact hf i y hy
  | zero =>
   cases hy;have k:b[0]? = b.toList[0]?:=by simp
   rw[List.getElem?_cons_zero,k];generalize b.toList=l at d;cases d with
   | nil=>exact .inl ⟨rfl,rfl⟩
   | cons n t _=>exact .inr ⟨n,t,_,rfl,rfl⟩
def j8(gs:List (List Int)):SortKind:=if gs.all (λx=>!x.isEmpty) then tuples' true else if (gs.headD []).isEmpty then oneType' else general'
theorem rS{M:Model}{vs:List Value}{gs:List (List Int)}{Q:SortKind->Shared->Prop}(t:Tis s.heap vs gs)(N:2<=vs.length)(h:Q (j8 gs) s):wpAny M A (keyKind' vs.toArray) Q E s:=by
 have P:=t.len;rw[kat_kind_eq,mapM_toArray,map_eq_pure_bind];refine wpAny_bind (wpAny_bind (jz t λj z u=>wpAny_pure ?_))
 by_cases ha:gs.all (λx=>!x.isEmpty)=true
 .have G:∀ f∈j,∃(n:Int) (t:Tok),f=some (Value.int n t):=λf l=>by
   obtain⟨i,w⟩:=List.getElem?_of_mem l;have F:i<gs.length:=by rw[<- z];exact(List.getElem?_eq_some_iff.mp w).1
   have C:=List.getElem?_eq_getElem F
   rcases u i _ C with⟨c,d⟩ | ⟨n,t,r,c,d⟩
   .have:=all_eq_true.mp ha _ (getElem_mem F)
    rw[d]at this;cases this
   .rw[w]at c
    exact⟨n,t,Option.some.inj c⟩
  rw[j8,if_pos ha]at h
  obtain⟨k,rfl,y⟩:∃ k:List Value,j=k.map some/\∀ v∈k,∃(n:Int) (t:Tok),v=Value.int n t:=by
   clear u z
   induction j with
   | nil=>exact⟨[],rfl,λv hv=>by cases hv⟩
   | cons f j ih =>
    obtain⟨k,e,y⟩:=ih λg C=>G g (mem_cons_of_mem _ C)
    obtain⟨n,t,rfl⟩:=G f (mem_cons_self ..);refine⟨Value.int n t::k,by rw[e];rfl,λv hv=>?_⟩
    rcases mem_cons.mp hv with rfl | hv
    .exact⟨n,t,rfl⟩
    .exact y v hv
  rw[length_map]at z
  obtain⟨w1,wr,rfl⟩:∃ w1 wr,k=w1::wr:=by
   match k,(show 0<k.length by lia) with
   | w1::wr,_=>exact⟨w1,wr,rfl⟩
  have p:(((w1::wr).map some).toArray.all λx=>x.isSome)=true:=by simp
  rw[if_pos p];refine wpAny_bind (wpAny_rule ?_);have l:(((w1::wr).map some).toArray.filterMap id)=(w1::wr).toArray:=by simp
  rw[l,oneTypeOnly'_eq,mapM_toArray,map_eq_pure_bind];refine wpAny_bind (wpAny_bind (wpAny_bind (kas_mapM (r:=Value.type "int") _ (λv hv L B=>?_) (wpAny_pure ?_))))
  .obtain⟨n,t,rfl⟩:=y v hv
   exact(Looks.of_pure rfl).here B
  .have b:((List.map (λ_=>Value.type "int") (w1::wr)).toArray.all λx=>x == Value.type "int")=true:=by
    simp only[all_toArray,all_map,all_eq_true];intro _ _;exact(by decide:(Value.type "int" == Value.type "int")=true)
   have q:(List.map (λ_=>Value.type "int") (w1::wr)).toArray[0]? = some (Value.type "int"):=by simp
   rw[q];simp only[b,if_true];exact wpAny_pure (wpAny_pure h)
 .have D:(j.toArray.all λx=>x.isSome)=false:=by
   rw[all_toArray];cases hb:j.all λx=>x.isSome with
   | false=>rfl
   | true =>
    refine absurd (all_eq_true.mpr λx K=>?_) ha;obtain⟨i,w⟩:=List.getElem?_of_mem K
    rcases u i x w with⟨c,_⟩ | ⟨n,t,r,_,d⟩
    .have:=all_eq_true.mp hb _ (List.mem_of_getElem? c)
     cases this
    .rw[d];rfl
  rw[D];simp only[Bool.false_eq_true,if_false];rw[j8,if_neg ha]at h
  obtain⟨g0,gr,rfl⟩:∃ g0 gr,gs=g0::gr:=by
   match gs,(show 0<gs.length by lia) with
   | g0::gr,_=>exact⟨g0,gr,rfl⟩
  have q:j.toArray[0]? = j[0]?:=by simp
  rw[q]
  rcases u 0 g0 rfl with⟨c,d⟩ | ⟨n,R,r,c,d⟩
  .rw[c]
   simp only[Option.bind_some,id_eq,Option.isSome_none,Bool.false_eq_true,if_false];rw[show((g0::gr).headD []).isEmpty=true by rw[d];rfl,if_pos rfl]at h;rw[oneTypeOnly'_eq,mapM_toArray,map_eq_pure_bind]
   obtain⟨v1,vr,rfl⟩:∃ v1 vr,vs=v1::vr:=by
    match vs,(show 0<vs.length by lia) with
    | v1::vr,_=>exact⟨v1,vr,rfl⟩
   refine wpAny_bind (wpAny_bind (wpAny_bind (kas_mapM (r:=Value.type "tuple") _ (λv hv L B=>?_) (wpAny_pure ?_))))
   .obtain⟨a,x,rfl,o,H,n,J,I,_⟩:=t.mem v hv
    refine Looks.here (show Looks M s.heap (typeOf (.ref a)) o.cls from(Looks.ld J).andThen .now) ?_;rw[I];exact B
   .have b:((List.map (λ_=>Value.type "tuple") (v1::vr)).toArray.all λx=>x == Value.type "tuple")=true:=by
     simp only[all_toArray,all_map,all_eq_true];intro _ _;exact(by decide:(Value.type "tuple" == Value.type "tuple")=true)
    have q:(List.map (λ_=>Value.type "tuple") (v1::vr)).toArray[0]? = some (Value.type "tuple"):=by simp
    rw[q];simp only[b,if_true];exact wpAny_pure (wpAny_pure h)
  .rw[c]
   simp only[Option.bind_some,id_eq,Option.isSome_some,if_true];rw[show((g0::gr).headD []).isEmpty=false by rw[d];rfl]at h;exact wpAny_pure h
theorem xn{x y:List Int}{a b:Addr}{gs:List (List Int)}{C:Bool->Shared->Prop}(f:A.units<cLine)(c:Ti s.heap x a)(d:Ti s.heap y b)(h:C (aH x y) s):wpAny (model prog w) A (keyLt' (j8 gs) (.ref a) (.ref b)) C E s:=by
 unfold j8
 split
 .exact wF c d h
 .split
  .exact tH f c d h
  .exact uc f c d h
end
section
variable {X:Cx}
def Row(H:Hp)(a:Addr)(x:List Int):Prop:=H a=some (.tup (x.map V.int))
theorem mn:∀{x:List Int}{us:List Value},Vals (x.map V.int) us->IntsAre us x
 | [],us,r=>by cases r;exact .nil
 | n::x,us,r=>by
  cases r with
  | cons r1 r =>
   obtain⟨t,rfl⟩:=r1;exact .cons n t (mn r)
theorem lz{P:Program}{w:World}{H:Hp}{h:Heap}(g:HOk P w H h){a:Addr}{x:List Int}(f:Row H a x):Ti h x a:=by
 obtain⟨_,b,j,o,c,i,n,d⟩:=(show ObjOk P w H h a (.tup _) from g a _ f)
 exact⟨o,b.toArray,n,c,i,d,by simpa using mn j⟩
end
section
variable {prog:Program}{w:World}{A:Around}{E:Value->Shared->Prop}{s:Shared}{d I:Addr}{es:Array DictEntry}{ep i:Nat}
theorem pc{κ:SortKind}{lt:Nat->Nat->Bool}{Q:Value->Shared->Prop}{vs:List Value}(B:A.handled=none)(z:(d == sysModules)=false)(x:DE s.heap d es ep)(a:jv es=vs)(T:WSrt.Wk lt vs.length)(hz:vs.length<16000000)(p:vs.length<64\/TS.Tot lt vs.length)
  (F:2<=vs.length->∀ g tk,(∀ b o,s.heap.get? b=some o->g.get? b=some o)->∀ Q:SortKind->Shared->Prop,Q κ { s with heap:=g,toks:=tk }->wpAny (model prog w) A.in1.in1 (keyKind' vs.toArray) Q (λ_ _=>False) { s with heap:=g,toks:=tk })
  (D:∀ g tk,(∀ b o,s.heap.get? b=some o->g.get? b=some o)->∀ i j,i<vs.length->j<vs.length->i≠j->∀ C,C (lt i j) { s with heap:=g,toks:=tk }->kas_ask prog w A.in1.in1 κ vs i j C { s with heap:=g,toks:=tk })
  (h:∀(r:Addr) g tk m,(∀ b o,s.heap.get? b=some o->g.get? b=some o)->s.heap.objs.size<=r->g.get? r=some (seqObj "list" (List.toArray ((fM lt vs.length).map λi=>vs.getD i Value.none)) m)->Q (.ref r) { s with heap:=g,toks:=tk }) :
  wpAny (model prog w) A (call (.builtin "sorted") [.ref d]) Q E s:=by
 have I:vs.length=es.size:=by rw[<- a];unfold jv;rw[length_map,Array.length_toList]
 have H:sizeLine=16777216:=sizeLine_eq;refine Calls.call_function_entry kind_sorted plain_sorted entry_sorted (args_sorted1 _) ?_;unfold Builtin.«sorted»;refine wpAny_bind (m:=checkCount "sorted" 1 1 _) (wpAny_pure (wpAny_bind (nQ B z x (by lia) λk tk n q=>wpAny_bind (wpAny_newList ?_ (by rw[a];lia)))));rw[a];have f:(k.push (seqObj "list" vs.toArray 0)).get? k.objs.size=some (seqObj "list" vs.toArray 0):=Heap.get?_push_size _ rfl
 have c:∀ b o,s.heap.get? b=some o->(k.push (seqObj "list" vs.toArray 0)).get? b=some o/\b≠k.objs.size:=λb o e=>⟨Heap.get?_push_of_some _ (q b o e),Nat.ne_of_lt (Heap.lt_size (q b o e))⟩
 refine wpAny_bind (wpAny_holding (wpAny_call_entry slot_list_sort ⟨_,f,rfl⟩ entry_list_sort (p7 (s:={ s with heap:=k.push (seqObj "list" vs.toArray 0),toks:=tk }) (lt:=lt) (κ:=κ) f T hz p (λu g l G y=>F u g tk (λb o e=>l b o (c b o e).2 (c b o e).1) G y) (λg l=>D g tk λb o e=>l b o (c b o e).2 (c b o e).1) ⟨_,rfl,?_⟩) (args_list_sort _)));obtain⟨m,v⟩:=sortedHeap_at (out:=List.toArray ((fM lt vs.length).map λi=>vs.getD i Value.none)) f;refine wpAny_pure ⟨_,rfl,h k.objs.size _ tk m (λb o e=>?_) (Nat.le_of_lt n) v⟩;rw[sortedHeap_old (c b o e).2 (Heap.lt_size (c b o e).1)];exact(c b o e).1
end
section
variable {X:Cx}
theorem eC(x:List Int):(x.map (Sum.inl:Int->Key)).map kV=x.map V.int:=by rw[map_map];rfl
theorem mD{gs:List (List Int)}(c:gs.Nodup){n:Nat}(a:n=gs.length):TS.Tot (λi j=>aH (gs.getD i []) (gs.getD j [])) n:=by
 subst a;refine⟨λi j _ _ h=>jg _ _ h,λi j k _ _ _ h1 h2=>im _ _ _ h1 h2,λi j h1 h2 a h=>?_⟩
 have b:gs.getD i []≠gs.getD j []:=λe=>by
  have f:gs.getD i []=gs[i]:=by simp[List.getD,h1]
  have d:gs.getD j []=gs[j]:=by simp[List.getD,h2]
  rw[f,d]at e
  rcases Nat.lt_or_gt_of_ne a with z | z
  .exact(pairwise_iff_getElem.mp c i j h1 h2 z) e
  .exact(pairwise_iff_getElem.mp c j i h2 h1 z) e.symm
 rcases kH _ _ b with z | z
 .have h:aH (gs.getD i []) (gs.getD j [])=false:=h
  rw[h]at z;cases z
 .exact z
theorem pv{gs:List (List Int)}{n:Nat}(U:TS.Tot (λi j=>aH (gs.getD i []) (gs.getD j [])) n):WSrt.Wk (λi j=>aH (gs.getD i []) (gs.getD j [])) n :=
 ⟨U.asy,λi j k f g h b a=>by
  cases e:aH (gs.getD k []) (gs.getD i []) with
  | false=>rfl
  | true =>
   exfalso;have b:aH (gs.getD j []) (gs.getD i [])=false:=b;have a:aH (gs.getD k []) (gs.getD j [])=false:=a
   by_cases e1:i=j
   .subst e1;rw[e]at a;cases a
   .have d:=U.tot j i g f (λz=>e1 z.symm) b
    have c:=im _ _ _ e d
    rw[a]at c;cases c⟩
theorem jR(hc:X.calm=true)(hu:X.A.units+64<cLine):CallR X (.builtin "sorted") (λxs H Q=>∃(p:Addr) (kvs:List (List Key×V)) (gs:List (List Int)),xs=[.ref p]/\H p=some (.dT kvs)/\kvs.length<16000000/\kvs.map (·.1)=gs.map (λx=>x.map Sum.inl)/\gs.Nodup /\
  ∀ q (o:List Nat) (f:Nat->V),H q=none->o.Perm (List.range gs.length)->(o.Pairwise λi j=>aH (gs.getD j []) (gs.getD i [])=false)->(∀ i,i<gs.length->∃ b,f i=.ref b/\Row H b (gs.getD i []))->Q (.ref q) (upd H q (.lst (o.map f)))):=by
 intro A s σ H xs us Q I r h;obtain⟨p,kvs,gs,rfl,hp,hz,w,gd,q⟩:=h;obtain⟨u,rfl,rx⟩:=fK r;cases rx;obtain⟨z,nm,xs,B,ob,es,ep,g1,g2,g3,g4,g5,g6⟩:=uk I.hok hp;have lx:kvs.length=xs.length:=Paired.length B;have lg:kvs.length=gs.length:=by have:=congrArg List.length w;rwa [length_map,length_map]at this
 obtain⟨vs,hvs⟩:∃ vs,vs=xs.map λx=>Value.ref x.2.1:=⟨_,rfl⟩
 have ek:jv es=vs:=by unfold jv;rw[g4,map_map,hvs];rfl
 have lv:vs.length=kvs.length:=by rw[hvs,length_map,lx]
 have g:∀ i,i<vs.length->∃ a,vs.getD i Value.none=.ref a/\Row H a (gs.getD i []):=λi c=>by
  obtain⟨kv,hkv⟩:∃ x,kvs[i]? = some x:=⟨_,List.getElem?_eq_getElem (by lia)⟩
  obtain⟨x,hx,hH⟩:=B.at hkv;refine⟨x.2.1,?_,?_⟩
  .rw[hvs,List.getD,List.getElem?_map,hx];rfl
  .have e:=congrArg (λl=>l[i]?) w
   simp only[List.getElem?_map,hkv]at e;have Y:i<gs.length:=by lia
   rw[List.getElem?_eq_getElem Y]at e;have e:kv.1=gs[i].map Sum.inl:=Option.some.inj e;show H x.2.1=_;rw[hH,e,eC,show gs.getD i []=gs[i] by simp[List.getD,Y]]
 have N:∀{d:Heap}{tk:Nat},(∀ b o,s.heap.get? b=some o->d.get? b=some o)->Inv X A σ H { s with heap:=d,toks:=tk }:=λk=>I.kept k
 have U:=mD gd (n:=vs.length) (by lia);have T:=pv U
 have G:∀{d:Heap},HOk X.prog X.w H d->Tis d vs gs:=λ{d} ok=>by
  have F:∀(vs:List Value) (gs:List (List Int)),vs.length=gs.length->(∀ i,i<vs.length->∃ a,vs.getD i Value.none=.ref a/\Row H a (gs.getD i []))->Tis d vs gs:=by
   intro vs
   induction vs with
   | nil=>intro gs e _;cases gs with | nil=>exact .nil | cons _ _=>cases e
   | cons v vs ih =>
    intro gs e P;cases gs with
    | nil=>cases e
    | cons x gs =>
     obtain⟨a,y,h1⟩:=P 0 (by simp);obtain rfl:v=Value.ref a:=y;exact .cons (lz ok h1) (ih gs (by simpa using e) λi c=>P (i+1) (by simpa using c))
  exact F vs gs (by lia) g
 refine pc (vs:=vs) (κ:=j8 gs) (lt:=λi j=>aH (gs.getD i []) (gs.getD j [])) (I.ok.hd hc) nm ⟨ob,g1,g2,g3⟩ ek T (by lia) (.inr U) (λh2 d tk k Q' q'=>?_) (λd tk k i j c hj W C hC=>?_) λrr d tk m k big at'=>?_
 .exact rS (G (N (tk:=tk) k).hok) h2 q'
 .have J:=N (tk:=tk) k
  obtain⟨a,ea,oa⟩:=g i c;obtain⟨b,eb,E⟩:=g j hj;unfold kas_ask;rw[ea,eb];exact xn (by show X.A.units+1+1<cLine;lia) (lz J.hok oa) (lz J.hok E) hC
 .have W:H rr=none:=I.hok.fresh big
  have D:=iz T;have Z:=ml T (.inr U);generalize fM (λi j=>aH (gs.getD i []) (gs.getD j [])) vs.length=o at D Z at';have M:sizeLine=16777216:=sizeLine_eq;have K:∀ i∈o,i<vs.length:=λi c=>mem_range.mp (D.mem_iff.mp c)
  let f:Nat->V:=λi=>match vs.getD i Value.none with | .ref a=>.ref a | _=>.non
  have R:∀ i,i<vs.length->∃ a,f i=.ref a/\vs.getD i Value.none=.ref a/\Row H a (gs.getD i []):=λi c=>by
   obtain⟨a,y,L⟩:=g i c;exact⟨a,by show(match vs.getD i Value.none with | .ref a=>V.ref a | _=>.non)=_;rw[y],y,L⟩
  refine⟨.ref rr,_,I.laid (a:=rr) (o:=.lst (o.map f)) (t':=tk) k big ⟨?_,_,m,hV (vs:=vs) f λi c=>?_,at'⟩,rfl,q rr o f W (by rw[<- lg,<- lv];exact D) Z λi c=>?_⟩
  .rw[length_map,D.length_eq,length_range];lia
  .obtain⟨a,y,e2,_⟩:=R i (K i c)
   rw[y,e2];rfl
  .obtain⟨a,y,_,L⟩:=R i (by lia)
   exact⟨a,y,L⟩
end
end L2
namespace L2
open PySem PySem.Spec PyProof.Rows PySem.W
section
variable {X:Cx}{pins:List (Addr×Obj)}{σ:St}{H H':Hp}{s:Shared}{h':Heap}
theorem Inv.more{t':Nat}(I:Inv X pins σ H s)(k:∀ b u,s.heap.get? b=some u->h'.get? b=some u)(a:∀ b,b<s.heap.objs.size->H' b=H b)(f:∀ b o,s.heap.objs.size<=b->H' b=some o->ObjOk X.prog X.w H' h' b o) :
  Inv X pins σ H' { s with heap:=h',toks:=t' }:=by
 have d:∀ b o,H b=some o->H' b=some o:=λb o e=>by
  have g:b<s.heap.objs.size:=by
   rcases Nat.lt_or_ge b s.heap.objs.size with z | z
   .exact z
   .rw[I.hok.fresh z]at e;cases e
  rw[a b g];exact e
 refine I.un ⟨λb u q _ _ _=>k b u q,λb u q _ _ _=>⟨u.slots,k b u q⟩,λb u q n _=>by rw[a b (Heap.lt_size q)];exact n,λb u q _=>⟨u,k b u q⟩,λb xs q=>d _ _ q,λb u xs q=>d _ _ q,λb ps q=>⟨#[],by rw[d _ _ q];simp⟩⟩ λb o e=>?_
 rcases Nat.lt_or_ge b s.heap.objs.size with z | z
 .rw[a b z]at e
  exact(I.hok b o e).stay (λc v _ q=>k c v q) (λc q=>d _ _ q) λc xs q=>d _ _ q
 .exact f b o z e
end
section
variable {prog:Program}{w:World}{A:Around}{E:Value->Shared->Prop}{s:Shared}{d I v:Addr}{es:Array DictEntry}{ep i:Nat}{k0 v0:Value}
theorem yW{Q:Option Value->Shared->Prop}{e:DictEntry}{a:Addr}{r:Bool}{N:Obj}(D:KdxIt s.heap I d i es.size ep k0 v0 a r)(W:s.heap.get? a=some N)(L:a≠I)(x:DE s.heap d es ep)(Y:es[i]? = some e)
  (q:∀ h',KdxIt h' I d (i+1) es.size ep k0 v0 a true->h'.get? s.heap.objs.size=some { cls:=.type "tuple",data:=.seq #[e.key,e.val] }->h'.objs.size=s.heap.objs.size+1 ->
   (∀ b o,b≠I->s.heap.get? b=some o->h'.get? b=some o)->Q (some (.ref s.heap.objs.size)) { s with heap:=h' }):wpAny (model prog w) A (pyNext (.ref I)) Q E s:=by
 obtain⟨c,g,p,n,l⟩:=s;obtain⟨ob,g1,g2,g3⟩:=id x;have j:Shared.TypeIs ⟨c,g,p,n,l⟩ (.ref I) "dict_itemiterator" := ⟨_,D,rfl⟩;unfold pyNext;refine wpAny_bind (wpAny_attempt (wpAny_callSpecial?_slot (name:=Str.ofString "__next__") j F.slot_dict_itemiterator_next (wpAny_call_entry F.slot_dict_itemiterator_next j F.entry_dict_itemiterator_next ?_ (F.args_dict_itemiterator_next_1 _))));refine wpAny_bind (wpAny_pure (wpAny_bind (wpAny_bind ?_)))
 first | refine wpAny_bind (wpAny_typeNameOfWhole_itemiter j (wpAny_pure ?_)) | refine wpAny_bind (wpAny_typeNameOf_itemiter j (wpAny_pure ?_))
 refine wpAny_bind (wpAny_fieldsOf D rfl ?_);have K:Builtin.Dict_items.ownsTuple "dict_itemiterator" = true:=by decide
 simp only[K,if_true];show wpAny _ _ (if (Value.ref d == Value.none)=true then _ else _) _ _ _;rw[if_neg (λz:(Value.ref d == Value.none)=true=>Bool.false_ne_true z)];refine wpAny_bind (wpAny_pure (wpAny_bind (wpAny_dictEntries g1 g3 ?_)));rw[if_neg (by simp)];refine wpAny_bind (wpAny_pure (wpAny_bind (wpAny_dictEpoch g1 g3 ?_)));rw[if_neg (by simp)];refine wpAny_pure ?_;obtain⟨J,rfl⟩:=Array.getElem?_eq_some_iff.mp Y;simp only[show ¬((i:Int)<0) from by lia,if_false,Int.toNat_natCast,Array.getElem?_eq_getElem J];refine wpAny_bind ?_
 first | refine wpAny_bind (wpAny_typeNameOfWhole_itemiter j (wpAny_pure ?_)) | refine wpAny_bind (wpAny_typeNameOf_itemiter j (wpAny_pure ?_))
 refine wpAny_bind (wpAny_isOneOf_itemiter j ?_);show wpAny _ _ (setField (.ref I) 3 (rawInt ((i:Int)+1)) >>= _) _ _ ⟨c,g,p,n,l⟩;refine wpAny_bind (wpAny_setField_rec D (by simp) λf C v=>?_);replace v:Heap.SameBut I c f:=v
 replace C:KdxIt f I d (i+1) es.size ep k0 v0 a r:=by
  have z:((i+1:Nat):Int)=(i:Int)+1:=by lia
  unfold KdxIt;rw[z];simpa[rawInt] using C
 have k:Shared.TypeIs ⟨f,g,p,n,l⟩ (.ref I) "dict_itemiterator" := ⟨_,C,rfl⟩;refine wpAny_bind (wpAny_holding (wpAny_bind (wpAny_isOneOf_itemiter k (wpAny_bind (wpAny_isOneOf_itemiter k ?_)))));show wpAny _ _ (Builtin.Dict_items.pairFromOwner (.ref I) 6 es[i].key es[i].val) _ _ ⟨f,g,p,n,l⟩;unfold Builtin.Dict_items.pairFromOwner;refine wpAny_bind (wpAny_newTuple ?_);have u:KdxIt (f.push { cls:=.type "tuple",data:=.seq #[es[i].key,es[i].val] }) I d (i+1) es.size ep k0 v0 a r:=Heap.get?_push_of_some _ C;generalize hh:f.push { cls:=.type "tuple",data:=.seq #[es[i].key,es[i].val] }=h2 at u;have H:f.objs.size=c.objs.size:=v.1;have T:I<c.objs.size:=Heap.lt_size D;have X:h2.get? c.objs.size=some { cls:=.type "tuple",data:=.seq #[es[i].key,es[i].val] }:=by rw[<- hh,<- H];exact Heap.get?_push_size _ rfl
 have R:h2.objs.size=c.objs.size+1:=by rw[<- hh,Heap.size_push,H]
 have P:∀ b o,b≠I->c.get? b=some o->h2.get? b=some o:=λb o G e=>by rw[<- hh];exact Heap.get?_push_of_some _ (v.extBut b o G e)
 show wpAny _ _ (Builtin.Dict_items.ownedTupleIsFree (.ref I) >>= _) _ _ ⟨h2,g,p,n,l⟩;rw[H];clear hh C v k H f;refine wpAny_bind ?_;unfold Builtin.Dict_items.ownedTupleIsFree;refine wpAny_bind (wpAny_field u rfl (x:=rawInt a) rfl ?_);show wpAny _ _ (loadIfAlive ((a:Int).toNat) >>= _) _ _ _;rw[Int.toNat_natCast];refine wpAny_bind (kdx_alive (P a N L W) ?_);simp only[Option.isNone_some,Bool.false_eq_true,if_false];refine wpAny_bind (wpAny_field u rfl (x:=.bool r) rfl ?_);have B:∀ h:Heap,KdxIt h I d (i+1) es.size ep k0 v0 a true->Heap.SameBut I h2 h->Q (some (.ref c.objs.size)) ⟨h,g,p,n,l⟩:=λh M y=>q h M (y.extBut _ _ (Nat.ne_of_gt T) X) (by show h.objs.size=c.objs.size+1;rw[y.1,R]) λb o G e=>y.extBut b o G (P b o G e)
 cases r with
 | true =>
  rw[if_neg (λz:(Value.bool true != Value.bool true)=true=>Bool.false_ne_true z)];refine wpAny_pure ?_;simp only[Bool.false_eq_true,if_false];exact wpAny_pure (wpAny_pure ⟨_,rfl,wpAny_pure (B h2 u (Heap.SameBut.refl _ _))⟩)
 | false =>
  rw[if_pos (show(Value.bool false != Value.bool true)=true by rfl)];refine wpAny_bind (wpAny_setField_rec u (by simp) λh M y=>?_);refine wpAny_pure ?_;simp only[Bool.false_eq_true,if_false];exact wpAny_pure (wpAny_pure ⟨_,rfl,wpAny_pure (B h M y)⟩)
theorem wI{Q:Option Value->Shared->Prop}(k:A.handled=none){a:Addr}{l:Bool}(g:KdxIt s.heap I d i es.size ep k0 v0 a l)(x:DE s.heap d es ep)(n:es.size<=i)
  (q:∀ h',Heap.ExtBut I s.heap h'->Q none { s with heap:=h' }):wpAny (model prog w) A (pyNext (.ref I)) Q E s:=by
 obtain⟨o,j,p,h⟩:=id x;have c:s.TypeIs (.ref I) "dict_itemiterator" := ⟨_,g,rfl⟩;unfold pyNext;refine wpAny_bind (wpAny_attempt (wpAny_callSpecial?_slot (name:=Str.ofString "__next__") c F.slot_dict_itemiterator_next (wpAny_call_entry F.slot_dict_itemiterator_next c F.entry_dict_itemiterator_next ?_ (F.args_dict_itemiterator_next_1 _))));refine wpAny_bind (wpAny_pure (wpAny_bind (wpAny_bind ?_)))
 first | refine wpAny_bind (wpAny_typeNameOfWhole_itemiter c (wpAny_pure ?_)) | refine wpAny_bind (wpAny_typeNameOf_itemiter c (wpAny_pure ?_))
 refine wpAny_bind (wpAny_fieldsOf g rfl ?_);have f:Builtin.Dict_items.ownsTuple "dict_itemiterator" = true:=by decide
 simp only[f,if_true];show wpAny _ _ (if (Value.ref d == Value.none)=true then _ else _) _ _ _;rw[if_neg (λz:(Value.ref d == Value.none)=true=>Bool.false_ne_true z)];refine wpAny_bind (wpAny_pure (wpAny_bind (wpAny_dictEntries j h ?_)));rw[if_neg (by simp)];refine wpAny_bind (wpAny_pure (wpAny_bind (wpAny_dictEpoch j h ?_)));rw[if_neg (by simp)];refine wpAny_pure ?_;simp only[show ¬((i:Int)<0) from by lia,if_false,Int.toNat_natCast,Array.getElem?_eq_none n];refine wpAny_bind ?_
 first | refine wpAny_bind (wpAny_typeNameOfWhole_itemiter c (wpAny_pure ?_)) | refine wpAny_bind (wpAny_typeNameOf_itemiter c (wpAny_pure ?_))
 show wpAny _ _ (setField (.ref I) 2 .none >>= _) _ _ s;refine wpAny_bind (wpAny_setField g rfl (by simp) ?_);show wpAny _ _ (newExc (.type "StopIteration") [] >>= _) _ _ _;refine wpAny_bind ?_;simp only[newExc,newTuple];refine wpAny_bind (wpAny_newObj_type ?_ (by size_fits));refine wpAny_bind (m:=firstArgMember _ _) (wpAny_of_eq (a:=Value.none) (by first | rfl | (simp only[firstArgMember];rfl)) (wpAny_newObj_type ?_ (by size_fits)));simp only[raiseNew];refine wpAny_bind (wpAny_handled ?_);rw[show A.in1.handled=none from k];refine wpAny_bind (wpAny_pure (wpAny_throw ?_));exact wpAny_bind (wpAny_isInstance (T := "StopIteration") (b:=true) ⟨_,Heap.get?_push_size _ rfl,rfl⟩ isSubtype_stop (wpAny_pure (q _ (((Heap.SameBut.update ..).extBut.push _).push _))))
end
section
variable {prog:Program}{w:World}{A:Around}{E:Value->Shared->Prop}{s:Shared}{d I v S:Addr}{es:Array DictEntry}{ep i:Nat}
theorem wR{Q:Option Value->Shared->Prop}{e:DictEntry}(st:KdxSt s.heap I d S i es.size ep)(z:S<s.heap.objs.size)(x:DE s.heap d es ep)(y:es[i]? = some e)
  (q:∀ h',KdxSt h' I d S (i+1) es.size ep->h'.get? s.heap.objs.size=some { cls:=.type "tuple",data:=.seq #[e.key,e.val] }->h'.objs.size=s.heap.objs.size+1->(∀ b o,b≠I->s.heap.get? b=some o->h'.get? b=some o)->Q (some (.ref s.heap.objs.size)) { s with heap:=h' }) :
  wpAny (model prog w) A (pyNext (.ref I)) Q E s:=by
 rcases st with⟨rfl,r,p,h⟩ | ⟨r,p,a,f,v,h,u,c,l⟩
 .exact qR h x y λh' n g k j=>q h' (.inr ⟨_,_,_,false,_,n,g,Nat.ne_of_gt (Heap.lt_size h),Nat.ne_of_gt z⟩) g k j
 .exact yW h u c x y λh' n g k j=>q h' (.inr ⟨r,p,a,true,v,n,j a v c u,c,l⟩) g k j
theorem yy{Q:Option Value->Shared->Prop}(c:A.handled=none)(st:KdxSt s.heap I d S i es.size ep)(x:DE s.heap d es ep)(g:es.size<=i)(q:∀ h',Heap.ExtBut I s.heap h'->Q none { s with heap:=h' }):wpAny (model prog w) A (pyNext (.ref I)) Q E s:=by
 rcases st with⟨rfl,j,h,b⟩ | ⟨j,h,a,f,k,b,_⟩
 .exact ug c b x g q
 .exact wI c b x g q
structure DxG(es:Array DictEntry)(lo:Addr)(h:Heap)(ps:List Addr):Prop where
 up:ps.Pairwise (· < ·)
 hi:∀ a∈ps,lo<a
 at_:∀(j:Nat) (a:Addr),ps[j]? = some a->∃ e,es[j]? = some e/\h.get? a=some { cls:=.type "tuple",data:=.seq #[e.key,e.val] }
theorem DxG.lt{lo:Addr}{h:Heap}{ps:List Addr}(g:DxG es lo h ps){a:Addr}(m:a∈ps):a<h.objs.size:=by
 obtain⟨j,b⟩:=List.mem_iff_getElem?.mp m;obtain⟨_,_,z⟩:=g.at_ j a b;exact Heap.lt_size z
theorem wH{R:Result->Shared->Prop}(hh:A.handled=none)(q:S<I)(nS:d≠S)(nI:d≠I)(M:es.size<=sizeLine)(n:Value){h0:Heap}
  (J:∀ h' tk acc c ps,(∀ b o,b≠S->b≠I->h0.get? b=some o->h'.get? b=some o)->h'.get? S=some { cls:=.type "list",dict:=none,data:=.seq acc c,slots:=#[] }->ps.length=es.size->DxG es I h' ps->acc.toList=ps.map Value.ref->R (.ok (.ret n)) { s with heap:=h',toks:=tk }) :
  ∀(m i:Nat) (h:Heap) (tk c:Nat) (acc:Array Value) (ps:List Addr),es.size - i=m->i<=es.size->KdxSt h I d S i es.size ep->DE h d es ep->(∀ b o,b≠S->b≠I->h0.get? b=some o->h.get? b=some o) ->
   h.get? S=some { cls:=.type "list",dict:=none,data:=.seq acc c,slots:=#[] }->acc.toList=ps.map Value.ref->ps.length=i->DxG es I h ps->I<h.objs.size->codeAny (model prog w) A (.builtin "list.extend.loop" ⟨[.ref S,.ref I,n],[]⟩) R { s with heap:=h,toks:=tk }:=by
 have L:S≠I:=Nat.ne_of_lt q;intro m
 induction m with
 | zero =>
  intro i h tk c acc ps em le G x D u B y g F;refine codeAny_builtin PySem.F.entry_extend_loop ?_;rw[Around.under_plainId PySem.F.plain_extend_loop _];show wpAny _ A.in1 (pyNext (.ref I) >>= _) _ _ _;refine wpAny_bind (yy (s:={ s with heap:=h,toks:=tk }) (A:=A.in1) hh G x (by lia) λh' E=>?_);refine wpAny_pure (J h' tk acc c ps (λb o C p z=>E b o p (D b o C p z)) (E S _ L u) (by lia) ⟨g.up,g.hi,λj a f=>?_⟩ B);obtain⟨e,z1,Z⟩:=g.at_ j a f;exact⟨e,z1,E a _ (Nat.ne_of_gt (g.hi a (List.mem_of_getElem? f))) Z⟩
 | succ m ih =>
  intro i h tk c acc ps em le G x D u B y g F;have P:i<es.size:=by lia
  obtain⟨e,he⟩:∃ e,es[i]? = some e:=⟨es[i],Array.getElem?_eq_getElem P⟩
  have T:acc.size=i:=by rw[<- Array.length_toList,B,length_map,y]
  refine codeAny_builtin PySem.F.entry_extend_loop ?_;rw[Around.under_plainId PySem.F.plain_extend_loop _];show wpAny _ A.in1 (pyNext (.ref I) >>= _) _ _ _;refine wpAny_bind (wR (s:={ s with heap:=h,toks:=tk }) (S:=S) G (Heap.lt_size u) x he λh' N H X r=>?_);dsimp only at H X r ⊢;have v:=r S _ L u;have Q:S<h.objs.size:=Heap.lt_size u;have l:∀ b o,b≠S->h'.get? b=some o->(h'.update S (Obj.mapSeq (·.push (Value.ref h.objs.size)))).get? b=some o:=λb o k z=>(Heap.get?_update_other _ _ (Ne.symm k)).trans z
  show wpAny _ A.in1 (updateSeq S (·.push (Value.ref h.objs.size)) >>= _) _ _ _;refine wpAny_bind (wpAny_updateSeq v rfl (wpAny_pure ⟨plainId_quiet PySem.F.plain_extend_loop _,ih (i+1) _ tk _ (acc.push (Value.ref h.objs.size)) (ps++[h.objs.size]) (by lia) P (N.keep l (Ne.symm L)) (x.on λo z=>l d o nS (r d o nI z)) (λb o C p z=>l b o C (r b o p (D b o C p z))) (Heap.get?_update_self _ v rfl) (by rw[Array.toList_push,B,map_append];rfl) (by rw[length_append,y];rfl) ⟨?_,?_,?_⟩ ?_⟩) (by rw[T];lia) (by show(acc.push (Value.ref h.objs.size)).size<=sizeLine+1;rw[Array.size_push,T];lia))
  .exact pairwise_append.mpr ⟨g.up,List.pairwise_singleton _ _,λa K b k=>by rw[mem_singleton.mp k];exact g.lt K⟩
  .intro a K
   rcases mem_append.mp K with z | z
   .exact g.hi a z
   .rw[mem_singleton.mp z];exact F
  .intro j b f
   rcases Nat.lt_trichotomy j ps.length with z | z | z
   .rw[List.getElem?_append_left z]at f
    obtain⟨Y,y1,W⟩:=g.at_ j b f;have k:=g.hi b (List.mem_of_getElem? f);exact⟨Y,y1,l b _ (Nat.ne_of_gt (Nat.lt_trans q k)) (r b _ (Nat.ne_of_gt k) W)⟩
   .subst z
    obtain rfl:h.objs.size=b:=by simpa using f
    exact⟨e,by rw[y];exact he,l _ _ (Nat.ne_of_gt Q) H⟩
   .rw[List.getElem?_eq_none (by rw[length_append,length_singleton];lia)]at f;cases f
  .exact Nat.lt_trans F (Heap.lt_size (l _ _ (Nat.ne_of_gt Q) H))
end
end L2
namespace L2
open PySem PySem.Calls PySem.Spec PyProof.Rows PySem.W
section
variable {prog:Program}{w:World}{A:Around}{E:Value->Shared->Prop}{s:Shared}{d r:Addr}{es:Array DictEntry}{ep:Nat}
theorem qY{R:Result->Shared->Prop}(W:A.handled=none)(u:s.heap.IsItemsView r d)(x:DE s.heap d es ep)(S:Addr)(N:S≠r)(D:d≠S)(g:Value)(C:Nat)(G:s.heap.get? S=some { cls:=.type "list",data:=.seq #[] C })
  (v:∀ h' tk acc c ps,(∀ b o,b≠S->s.heap.get? b=some o->h'.get? b=some o)->h'.get? S=some { cls:=.type "list",dict:=none,data:=.seq acc c,slots:=#[] }->ps.length=es.size->DxG es s.heap.objs.size h' ps->acc.toList=ps.map Value.ref->R (.ok (.ret g)) { s with heap:=h',toks:=tk }) (i:es.size<=sizeLine) :
  wpAny (model prog w) A.in1 (Builtin.List.listExtendWith (.ref S) (.ref r) g) (λf s'=>match f with | .done f=>R (.ok f) s' | .again c'=>c'.quiet=true/\codeAny (model prog w) A c' R s') (λe s'=>R (.error e) s') s:=by
 have F:S<s.heap.objs.size:=Heap.lt_size G;have L:d<s.heap.objs.size:=x.lt
 have p:∀(h:Heap) (y tk:Nat),(∀ b o,b≠S->(s.heap.push { cls:=.type "dict_itemiterator",data:=.fields #[.none,.bool false,.ref d,.int 0 0,.int es.size 0,.int ep 0,.none,.none] }).get? b=some o->h.get? b=some o) ->
   h.get? S=some { cls:=.type "list",data:=.seq #[] y }->codeAny (model prog w) A (.builtin "list.extend.loop" ⟨[.ref S,.ref s.heap.objs.size,g],[]⟩) R { s with heap:=h,toks:=tk }:=by
  intro h y tk k n;have B:=k s.heap.objs.size _ (Nat.ne_of_gt F) (Heap.get?_push_size _ rfl);refine wH (s:=s) (h0:=s.heap) W F D (Nat.ne_of_lt L) i g (λh' q acc c ps K X Y H Q=>v h' q acc c ps (λb o l z=>K b o l (Nat.ne_of_lt (Heap.lt_size z)) z) X Y H Q) es.size 0 h tk y #[] [] (Nat.sub_zero _) (Nat.zero_le _) (.inl ⟨rfl,.none,.none,B⟩) (x.on λo z=>k d o D (Heap.get?_push_of_some _ z)) (λb o l _ z=>k b o l (Heap.get?_push_of_some _ z)) n rfl rfl ⟨List.Pairwise.nil,(λ_ m=>nomatch m),(λj a hj=>by simp at hj)⟩ (Heap.lt_size B)
 unfold Builtin.List.listExtendWith;refine wpAny_bind (wpAny_typeOf (T := "dict_items") u.typeIs ?_);have I:Builtin.List.listSameRef (.ref S) (.ref r)=false:=by simp[Builtin.List.listSameRef,N]
 have M:(Value.type "dict_items" == Value.type "list")=false:=by decide
 have J:(Value.type "dict_items" == Value.type "tuple")=false:=by decide
 simp only[I,M,J,Bool.or_false,Bool.false_eq_true,if_false];refine wpAny_bind (qL u x ?_);have n:=Heap.get?_push_of_some { cls:=.type "dict_itemiterator",data:=.fields #[.none,.bool false,.ref d,.int 0 0,.int es.size 0,.int ep 0,.none,.none] } G;refine wpAny_bind (wpAny_holding (kdx_hint (let ⟨o,ho,hc,_⟩:=u;⟨o,Heap.get?_push_of_some _ ho,hc⟩) (wpAny_ite_split (λ_=>?_) (λ_=>wpAny_pure ⟨plainId_quiet PySem.F.plain_extend_loop _,p _ C _ (λb o _ z=>z) n⟩))));refine wpAny_bind (wpAny_rule (wpAny_bind ?_));show wpAny _ _ (updateSeq S (·.push .none) >>= λ_=>updateSeq S (·.pop)) _ _ _;refine wpAny_bind (wpAny_updateSeq n rfl ?_);have E:=Heap.get?_update_self (Obj.mapSeq (·.push Value.none)) n rfl;refine wpAny_updateSeq (hz:=by seq_fits) E rfl ?_;have P:=Heap.get?_update_self (Obj.mapSeq (·.pop)) E rfl;exact wpAny_pure ⟨plainId_quiet PySem.F.plain_extend_loop _,p _ _ _ (λb o l z=>(Heap.get?_update_other _ _ (Ne.symm l)).trans ((Heap.get?_update_other _ _ (Ne.symm l)).trans z)) P⟩
theorem DxG.low{lo b:Addr}{h:Heap}{ps:List Addr}(g:DxG es lo h ps)(l:b<=lo):DxG es b h ps:=⟨g.up,λa m=>Nat.lt_of_le_of_lt l (g.hi a m),g.at_⟩
theorem oj{R:List Value->Shared->Prop}(C:A.handled=none)(y:s.heap.IsItemsView r d)(x:DE s.heap d es ep)(h:es.size<=sizeLine)
  (i:∀(h':Heap) (tk:Nat) (ps:List Addr),s.heap.objs.size<h'.objs.size->(∀ b o,s.heap.get? b=some o->h'.get? b=some o)->ps.length=es.size->DxG es s.heap.objs.size h' ps->R (ps.map Value.ref) { s with heap:=h',toks:=tk }):wpAny (model prog w) A (collect (.ref r)) R E s:=by
 have G:r<s.heap.objs.size:=let ⟨_,ho,_⟩:=y;Heap.lt_size ho;have F:d<s.heap.objs.size:=x.lt;unfold collect;refine wpAny_bind (wpAny_runValue (codeAny_builtin entry_proto_collect' ?_));rw[Around.under_plainId PySem.F.plain_proto_collect _];show wpAny _ A.in1 (newList [] >>= λl=>again (.builtin "list.__iadd__" ⟨[l,.ref r],[]⟩)) _ _ s;refine wpAny_bind (wpAny_newObj_type (wpAny_pure ⟨plainId_quiet PySem.F.plain_list_iadd _,codeAny_builtin entry_list_iadd' ?_⟩));rw[Around.under_plainId PySem.F.plain_list_iadd _];have I:(s.heap.push { cls:=.type "list",data:=.seq ([]:List Value).toArray }).get? s.heap.objs.size=some { cls:=.type "list",data:=.seq #[] }:=Heap.get?_push_size _ rfl;show wpAny _ A.in1 (Builtin.List.listExtendWith (.ref s.heap.objs.size) (.ref r) (.ref s.heap.objs.size)) _ _ _
 have v:=qY (prog:=prog) (w:=w) (A:=A) (s:={ s with heap:=s.heap.push { cls:=.type "list",data:=.seq ([]:List Value).toArray } }) (es:=es) (ep:=ep)
  (R:=λ(q:Result) (u:Shared)=>∃(h':Heap) (tk:Nat) (a:Array Value) (c:Nat) (ps:List Addr),q=.ok (.ret (.ref s.heap.objs.size))/\u={ s with heap:=h',toks:=tk }/\(∀ b o,s.heap.get? b=some o->h'.get? b=some o)/\h'.get? s.heap.objs.size=some { cls:=.type "list",dict:=none,data:=.seq a c,slots:=#[] }/\ps.length=es.size/\DxG es s.heap.objs.size h' ps/\a.toList=ps.map Value.ref)
  C (let ⟨o,ho,z⟩:=y;⟨o,Heap.get?_push_of_some _ ho,z⟩) (x.on λo z=>Heap.get?_push_of_some _ z) s.heap.objs.size (Nat.ne_of_gt G) (Nat.ne_of_lt F) (.ref s.heap.objs.size) 0 I
  (λh' tk a c ps k g n j p=>⟨h',tk,a,c,ps,rfl,rfl,λb o z=>k b o (Nat.ne_of_lt (Heap.lt_size z)) (Heap.get?_push_of_some _ z),g,n,j.low (by show s.heap.objs.size<=(s.heap.push _).objs.size;rw[Heap.size_push];exact Nat.le_succ _),p⟩) h
 refine wpAny_mono v (λf u z=>?_) λe u z=>?_
 .cases f with
  | done f =>
   obtain⟨h',tk,a,c,ps,e,rfl,k,g,n,j,p⟩:=z;cases e;show wpAny _ A (load s.heap.objs.size >>= _) _ _ _;refine wpAny_bind (wpAny_load g (wpAny_pure ?_));rw[p];exact i h' tk ps (Heap.lt_size g) k n j
  | again c' =>
   obtain⟨D,H⟩:=z;refine⟨D,codeAny_mono H λf u z=>?_⟩;obtain⟨h',tk,a,c,ps,rfl,rfl,k,g,n,j,p⟩:=z;show wpAny _ A (load s.heap.objs.size >>= _) _ _ _;refine wpAny_bind (wpAny_load g (wpAny_pure ?_));rw[p];exact i h' tk ps (Heap.lt_size g) k n j
 .obtain⟨_,_,_,_,_,B,_⟩:=z
  cases B
end
end L2
namespace L2
open PySem PySem.Spec PyProof.Rows PySem.W LexM
section
variable {prog:Program}{w:World}{A:Around}{E:Value->Shared->Prop}{s:Shared}
theorem tB{h:Heap}{x:List Int}{a:Addr}(t:Ti h x a):IsTupleKey (aW prog w) h (x.map Sum.inl) a:=by
 obtain⟨o,c,n,f,j,g,i⟩:=t
 have b:∀{d:List Value}{x:List Int},IntsAre d x->ItemsAre (aW prog w) (x.map (Sum.inl:Int->Key)) d:=by
  intro d x h
  induction h with
  | nil=>exact .nil
  | cons n t _ ih=>exact .cons (by show Value.isInt n (.int n t)=true;simp[Value.isInt]) ih
 exact⟨o,c,n,f,j,g,b i⟩
theorem dB:∀{x y:List Int},x.map (Sum.inl:Int->Key)=y.map Sum.inl->x=y
 | [],[],_=>rfl
 | [],_::_,h=>by cases h
 | _::_,[],h=>by cases h
 | a::x,b::y,h=>by
  rw[map_cons,map_cons]at h;injection h with h1 h2
  rw[Sum.inl.inj h1,dB h2]
def Pr(h:Heap)(x:List Int)(a:Addr):Prop:=∃ o its n k u,h.get? a=some o/\o.cls=.type "tuple" /\ o.data=.seq its n/\its.toList=[.ref k,u]/\Ti h x k
theorem sT{x y:List Int}{a b:Addr}{C:Bool->Shared->Prop}(f:A.units<cLine)(o:x≠y)(q:Pr s.heap x a)(n:Pr s.heap y b)(h:C (aH x y) s):wpAny (model prog w) A (keyLt' (tuples' false) (.ref a) (.ref b)) C E s:=by
 obtain⟨I,r,B,u,J,p,_,g,l,c⟩:=q;obtain⟨G,D,K,v,H,i,_,k,j,d⟩:=n;refine kat_lt p g i k ?_;rw[l,j];refine kat_cons (wpAny_eqBool_tuple (knd:=aW prog w) f (tB c) (tB d) ?_);rw[decide_eq_false (λz=>o (dB z))];refine kat_no (kat_one _ _ ?_);exact wpAny_richCompare_same_room (op:=.Lt) c.ty d.ty F.slot_tuple_lt (wpAny_call_entry F.slot_tuple_lt c.ty F.entry_tuple_lt (kG c d ⟨_,rfl,(λe=>nomatch e),h⟩) (F.args_tuple_lt_2 _ _)) f
theorem oo{M:Model}{ps:List Addr}{gs:List (List Int)}{Q:SortKind->Shared->Prop}(F:ps.length=gs.length)(D:∀ i a,ps[i]? = some a->Pr s.heap (gs.getD i []) a)(h0:0<ps.length)(h:Q (tuples' false) s):wpAny M A (keyKind' (ps.map Value.ref).toArray) Q E s:=by
 have d:∀(ps:List Addr),(∀ a∈ps,∃ x,Pr s.heap x a)->∃ c:List Value,KatTups s.heap (ps.map Value.ref) c/\c.length=ps.length/\∀ v∈c,∃ k x,v=.ref k/\Ti s.heap x k:=by
  intro ps
  induction ps with
  | nil=>intro _;exact⟨[],trivial,rfl,λv hv=>by cases hv⟩
  | cons a ps ih =>
   intro l;obtain⟨c,g,p,f⟩:=ih λb hb=>l b (mem_cons_of_mem _ hb)
   obtain⟨x,o,j,n,k,u,B,y,w,r,t⟩:=l a (mem_cons_self ..);refine⟨.ref k::c,KatTups.cons B y w (by rw[<- Array.getElem?_toList,r];rfl) g,by rw[length_cons,length_cons,p],λv hv=>?_⟩
   rcases mem_cons.mp hv with rfl | hv
   .exact⟨k,x,rfl,t⟩
   .exact f v hv
 obtain⟨c,g,p,f⟩:=d ps λa ha=>by
  obtain⟨i,z⟩:=List.getElem?_of_mem ha;exact⟨_,D i a z⟩
 refine kat_kind (T:=.type "tuple") g (by lia) (λv hv=>?_) (by decide) h;obtain⟨k,x,rfl,o,j,n,q,C,_⟩:=f v hv;rw[<- C];exact(Looks.ld q).andThen .now
end
section
variable {prog:Program}{w:World}{A:Around}{E:Value->Shared->Prop}{s:Shared}{d r:Addr}{es:Array DictEntry}{ep:Nat}
theorem DxG.on{lo:Addr}{h h':Heap}{ps:List Addr}(g:DxG es lo h ps)(k:∀ b o,b∈ps->h.get? b=some o->h'.get? b=some o):DxG es lo h' ps:=⟨g.up,g.hi,λj a c=>let ⟨e,e1,e2⟩:=g.at_ j a c;⟨e,e1,k a _ (List.mem_of_getElem? c) e2⟩⟩
theorem qS{κ:SortKind}{lt:Nat->Nat->Bool}{Q:Value->Shared->Prop}(J:A.handled=none)(F:s.heap.IsItemsView r d)(x:DE s.heap d es ep)(hz:es.size<16000000)(T:WSrt.Wk lt es.size)(U:TS.Tot lt es.size)
  (K:2<=es.size->∀ g tk (ps:List Addr),(∀ b o,s.heap.get? b=some o->g.get? b=some o)->ps.length=es.size->DxG es s.heap.objs.size g ps->∀ Q:SortKind->Shared->Prop,Q κ { s with heap:=g,toks:=tk }->wpAny (model prog w) A.in1.in1 (keyKind' (ps.map Value.ref).toArray) Q (λ_ _=>False) { s with heap:=g,toks:=tk })
  (I:∀ g tk (ps:List Addr),(∀ b o,s.heap.get? b=some o->g.get? b=some o)->ps.length=es.size->DxG es s.heap.objs.size g ps->∀ i j,i<es.size->j<es.size->i≠j->∀ C,C (lt i j) { s with heap:=g,toks:=tk }->kas_ask prog w A.in1.in1 κ (ps.map Value.ref) i j C { s with heap:=g,toks:=tk })
  (h:∀(q:Addr) g tk m (ps:List Addr),(∀ b o,s.heap.get? b=some o->g.get? b=some o)->s.heap.objs.size<=q->q ∉ ps->ps.length=es.size->DxG es s.heap.objs.size g ps->g.get? q=some (seqObj "list" (List.toArray ((fM lt es.size).map λi=>(ps.map Value.ref).getD i Value.none)) m)->Q (.ref q) { s with heap:=g,toks:=tk }) :
  wpAny (model prog w) A (call (.builtin "sorted") [.ref r]) Q E s:=by
 have N:sizeLine=16777216:=sizeLine_eq;refine Calls.call_function_entry kind_sorted plain_sorted entry_sorted (args_sorted1 _) ?_;unfold Builtin.«sorted»;refine wpAny_bind (m:=checkCount "sorted" 1 1 _) (wpAny_pure (wpAny_bind (oj J F x (by lia) λa tk ps n D u B=>wpAny_bind (wpAny_newList ?_ (by rw[length_map];lia)))))
 obtain⟨vs,hvs⟩:∃ vs,vs=ps.map Value.ref:=⟨_,rfl⟩
 rw[<- hvs];have v:vs.length=es.size:=by rw[hvs,length_map,u]
 have k:(a.push (seqObj "list" vs.toArray 0)).get? a.objs.size=some (seqObj "list" vs.toArray 0):=Heap.get?_push_size _ rfl
 have f:∀ b o,s.heap.get? b=some o->(a.push (seqObj "list" vs.toArray 0)).get? b=some o/\b≠a.objs.size:=λb o e=>⟨Heap.get?_push_of_some _ (D b o e),Nat.ne_of_lt (Heap.lt_size (D b o e))⟩
 have p:a.objs.size ∉ ps:=λz=>Nat.lt_irrefl _ (B.lt z)
 have c:DxG es s.heap.objs.size (a.push (seqObj "list" vs.toArray 0)) ps:=B.on λb o _ e=>Heap.get?_push_of_some _ e
 have y:s.heap.objs.size<=a.objs.size:=Nat.le_of_lt n;refine wpAny_bind (wpAny_holding (wpAny_call_entry slot_list_sort ⟨_,k,rfl⟩ entry_list_sort (p7 (s:={ s with heap:=a.push (seqObj "list" vs.toArray 0),toks:=tk }) (lt:=lt) (κ:=κ) k (by rw[v];exact T) (by lia) (.inr (by rw[v];exact U)) (λM g l L G=>?_) (λg l i j hi hj hn C hC=>?_) ⟨_,rfl,?_⟩) (args_list_sort _)))
 .rw[hvs]
  exact K (by lia) g tk ps (λb o e=>l b o (f b o e).2 (f b o e).1) u (c.on λb o m e=>l b o (λz=>p (z ▸ m)) e) L G
 .rw[hvs]
  exact I g tk ps (λb o e=>l b o (f b o e).2 (f b o e).1) u (c.on λb o m e=>l b o (λz=>p (z ▸ m)) e) i j (by lia) (by lia) hn C hC
 .obtain⟨m,H⟩:=sortedHeap_at (out:=List.toArray ((fM lt vs.length).map λi=>vs.getD i Value.none)) k
  refine wpAny_pure ⟨_,rfl,h a.objs.size _ tk m ps (λb o e=>?_) y p u (c.on λb o mm e=>?_) (by rw[<- hvs,<- v];exact H)⟩
  .rw[sortedHeap_old (f b o e).2 (Heap.lt_size (f b o e).1)]
   exact(f b o e).1
  .rw[sortedHeap_old (λz:b=a.objs.size=>p (z ▸ mm)) (Heap.lt_size e)]
   exact e
end
section
variable {X:Cx}
theorem gv(hc:X.calm=true)(hu:X.A.units+64<cLine):CallR X (.builtin "sorted") (λxs H Q=>∃(v d:Addr) (kvs:List (List Key×V)) (gs:List (List Int)),xs=[.ref v]/\H v=some (.ext (IV v d))/\Rd H d (.dT kvs)/\kvs.length<16000000/\kvs.map (·.1)=gs.map (λx=>x.map Sum.inl)/\gs.Nodup /\
  ∀(q:Addr) (o:List Nat) (f k:Nat->Addr) (H':Hp),Same H H'->H q=none->o.Perm (List.range gs.length)->(o.Pairwise λi j=>aH (gs.getD j []) (gs.getD i [])=false)->(∀(i:Nat) (kv:List Key×V),kvs[i]? = some kv->H' (f i)=some (.tup [.ref (k i),kv.2])/\Row H (k i) (gs.getD i [])/\H (f i)=none) ->
   H' q=some (.lst (o.map λi=>V.ref (f i)))->Q (.ref q) H'):=by
 intro K s σ H xs us Q I r h;obtain⟨v,d,kvs,gs,rfl,hv,hd,hz,F,gd,q⟩:=h;obtain⟨u,rfl,rx⟩:=fK r;cases rx;obtain⟨z,nm,xs,as,ob,es,ep,g1,g2,g3,g4,g5,g6⟩:=jZ I.hok hd;have iv:s.heap.IsItemsView v d:=(show ObjOk X.prog X.w H s.heap v (.ext (IV v d)) from I.hok v _ hv).1;have lx:kvs.length=xs.length:=Paired.length as;have lg:kvs.length=gs.length:=by have:=congrArg List.length F;rwa [length_map,length_map]at this
 have le:es.size=kvs.length:=by rw[lx,<- Array.length_toList,g4,length_map]
 have al:∀ i kv,kvs[i]? = some kv->∃ x,xs[i]? = some x/\Row H x.2.1 (gs.getD i [])/\RelV kv.2 x.2.2:=λi kv c=>by
  obtain⟨x,E,hH,rv⟩:=as.at2 c;refine⟨x,E,?_,rv⟩;have e:=congrArg (λl=>l[i]?) F;simp only[List.getElem?_map,c]at e;have ig:i<gs.length:=by rw[<- lg];exact(List.getElem?_eq_some_iff.mp c).1
  rw[List.getElem?_eq_getElem ig]at e;have e:kv.1=gs[i].map Sum.inl:=Option.some.inj e;show H x.2.1=_;rw[hH,e,eC,show gs.getD i []=gs[i] by simp[List.getD,ig]]
 have ab:∀ i e,es[i]? = some e->∃ kv x,kvs[i]? = some kv/\xs[i]? = some x/\e.key=.ref x.2.1/\e.val=x.2.2/\Row H x.2.1 (gs.getD i [])/\RelV kv.2 x.2.2:=λi e N=>by
  have L:i<kvs.length:=by rw[<- le];exact(Array.getElem?_eq_some_iff.mp N).1
  obtain⟨kv,c⟩:∃ kv,kvs[i]? = some kv:=⟨_,List.getElem?_eq_getElem L⟩
  obtain⟨x,E,R,rv⟩:=al i kv c;rw[<- Array.getElem?_toList,g4,List.getElem?_map,E]at N;cases N;exact⟨kv,x,c,E,rfl,rfl,R,rv⟩
 have kp:∀{D:Heap}{tk:Nat},(∀ b o,s.heap.get? b=some o->D.get? b=some o)->Inv X K σ H { s with heap:=D,toks:=tk }:=λk=>I.kept k
 have U:=mD gd (n:=es.size) (by lia);have T:=pv U
 have pr:∀{D:Heap}{p:List Addr},HOk X.prog X.w H D->DxG es s.heap.objs.size D p->∀ i a,p[i]? = some a->Pr D (gs.getD i []) a:=λ{D p} ok A i a g=>by
  obtain⟨e,N,ho⟩:=A.at_ i a g;obtain⟨kv,x,_,_,Y,e2,R,_⟩:=ab i e N;exact⟨_,_,_,x.2.1,e.val,ho,rfl,rfl,by rw[Y],lz ok R⟩
 refine qS (κ:=tuples' false) (lt:=λi j=>aH (gs.getD i []) (gs.getD j [])) (I.ok.hd hc) iv ⟨ob,g1,g2,g3⟩ (by lia) T U (λh2 D tk p k pl A Q' q'=>?_) (λD tk p k pl A i j g hj hn C hC=>?_) λq0 D tk m p k big pn pl A at'=>?_
 .exact oo (gs:=gs) (by lia) (λi a g=>pr (kp (tk:=tk) k).hok A i a g) (by lia) q'
 .have J:=kp (tk:=tk) k
  obtain⟨a,ea⟩:∃ a,p[i]? = some a:=⟨_,List.getElem?_eq_getElem (by lia)⟩
  obtain⟨b,eb⟩:∃ b,p[j]? = some b:=⟨_,List.getElem?_eq_getElem (by lia)⟩
  unfold kas_ask;rw[show(p.map Value.ref).getD i Value.none=.ref a by rw[List.getD,List.getElem?_map,ea];rfl,show(p.map Value.ref).getD j Value.none=.ref b by rw[List.getD,List.getElem?_map,eb];rfl];refine sT (by show X.A.units+1+1<cLine;lia) ?_ (pr J.hok A i a ea) (pr J.hok A j b eb) hC;intro e;have W:i<gs.length:=by lia
  have Z:j<gs.length:=by lia
  rw[show gs.getD i []=gs[i] by simp[List.getD,W],show gs.getD j []=gs[j] by simp[List.getD,Z]]at e
  rcases Nat.lt_or_gt_of_ne hn with y | y
  .exact(pairwise_iff_getElem.mp gd i j W Z y) e
  .exact(pairwise_iff_getElem.mp gd j i Z W y) e.symm
 .classical
  have pm:=iz T;have pa:=ml T (.inr U);generalize fM (λi j=>aH (gs.getD i []) (gs.getD j [])) es.size=o at pm pa at';have M:sizeLine=16777216:=sizeLine_eq
  have uq:∀ i j a,p[i]? = some a->p[j]? = some a->i=j:=λi j a g hj=>by
   obtain⟨W,Y⟩:=List.getElem?_eq_some_iff.mp g;obtain⟨Z,e2⟩:=List.getElem?_eq_some_iff.mp hj
   rcases Nat.lt_trichotomy i j with y | y | y
   .have:=pairwise_iff_getElem.mp A.up i j W Z y
    rw[Y,e2]at this;exact absurd this (Nat.lt_irrefl _)
   .exact y
   .have:=pairwise_iff_getElem.mp A.up j i Z W y
    rw[Y,e2]at this;exact absurd this (Nat.lt_irrefl _)
  obtain⟨f,hf⟩:∃ f:Nat->Addr,∀ i a,p[i]? = some a->f i=a:=⟨λi=>p.getD i 0,λi a g=>by simp[List.getD,g]⟩
  obtain⟨kk,hkk⟩:∃ kk:Nat->Addr,∀ i x,xs[i]? = some x->kk i=x.2.1:=⟨λi=>match xs[i]? with | some x=>x.2.1 | none=>0,λi x E=>by simp only[E]⟩
  let P:Addr->HO->Prop:=λb B=>∃ i kv,p[i]? = some b/\kvs[i]? = some kv/\B=.tup [.ref (kk i),kv.2]
  let H':Hp:=λb=>if b=q0 then some (.lst (o.map λi=>V.ref (f i))) else if w:∃ B,P b B then some (Classical.choose w) else H b
  have hq:H' q0=some (.lst (o.map λi=>V.ref (f i))):=if_pos rfl
  have hp:∀ i kv a,p[i]? = some a->kvs[i]? = some kv->H' a=some (.tup [.ref (kk i),kv.2]):=λi kv a g c=>by
   have na:a≠q0:=λz=>pn (z ▸ List.mem_of_getElem? g)
   have w:∃ B,P a B:=⟨_,i,kv,g,c,rfl⟩
   show(if a=q0 then _ else if w:∃ B,P a B then some (Classical.choose w) else H a)=_;rw[if_neg na,dif_pos w];obtain⟨j,az,hj,G,e⟩:=Classical.choose_spec w;rw[e];obtain rfl:=uq i j a g hj;rw[c]at G;cases G;rfl
  have lo:∀ b,b≠q0->b ∉ p->H' b=H b:=λb nb np=>by
   show(if b=q0 then _ else if w:∃ B,P b B then some (Classical.choose w) else H b)=_;rw[if_neg nb,dif_neg λ⟨B,i,kv,g,_⟩=>np (List.mem_of_getElem? g)]
  have an:∀ b,b<s.heap.objs.size->H' b=H b:=λb w=>lo b (Nat.ne_of_lt (Nat.lt_of_lt_of_le w big)) λm=>absurd (A.hi b m) (Nat.lt_asymm w)
  have ac:Same H H':=λb B e=>by
   rcases Nat.lt_or_ge b s.heap.objs.size with y | y
   .rw[an b y];exact e
   .rw[I.hok.fresh y]at e;cases e
  have J:Inv X K σ H' { s with heap:=D,toks:=tk }:=I.more (t':=tk) k an λb B w e=>by
   by_cases nb:b=q0
   .subst nb
    rw[hq]at e;cases e;refine⟨by rw[length_map,pm.length_eq,length_range];lia,_,m,?_,at'⟩;refine hV (vs:=p.map Value.ref) (λi=>V.ref (f i)) λi g=>?_
    have L:i<p.length:=by rw[pl];exact mem_range.mp (pm.mem_iff.mp g)
    rw[hf i p[i] (List.getElem?_eq_getElem L),List.getD,List.getElem?_map,List.getElem?_eq_getElem L];rfl
   .by_cases mb:b∈p
    .obtain⟨i,g⟩:=List.getElem?_of_mem mb
     obtain⟨en,N,ho⟩:=A.at_ i b g;obtain⟨kv,x,c,E,Y,e2,R,rv⟩:=ab i en N;rw[hp i kv b g c]at e;cases e;refine⟨by rw[M];show 2<=16777216;decide,[.ref x.2.1,x.2.2],.cons (by show Value.ref x.2.1=Value.ref (kk i);rw[hkk i x E]) (.cons rv .nil),_,ho,rfl,0,?_⟩;rw[Y,e2]
    .rw[lo b nb mb,I.hok.fresh w]at e
     cases e
  refine⟨.ref q0,H',J,rfl,q q0 o f kk H' ac (I.hok.fresh big) (by rw[<- lg,<- le];exact pm) pa (λi kv c=>?_) hq⟩;have L:i<p.length:=by rw[pl,le];exact(List.getElem?_eq_some_iff.mp c).1
  have g:=List.getElem?_eq_getElem L;obtain⟨x,E,R,_⟩:=al i kv c;rw[hf i _ g,hkk i x E];exact⟨by rw[hp i kv _ g c,hkk i x E],R,I.hok.fresh (Nat.le_of_lt (A.hi _ (getElem_mem L)))⟩
end
end L2
namespace L2
open PySem PySem.Spec PyProof.Rows PySem.W
section
variable {X:Cx}{o e:Expr}{to:TE}{apos cpos:Pos}
theorem pe_m.itemsR(p:PE X o to)(c:attributeBase o "items" X.env (eval o X.env)=eval o X.env:=by rfl)(f:(apos.endLine == cpos.line)=true:=by rfl) :
  PE X (.Call (.Attribute o "items" apos) [] [] cpos) (λσ H Q=>to σ H λx H1=>pB x [] H1 Q):=by
 intro b s σ H Q I h;refine wpAny_Call_method0_late c f (thn (p b s σ H _ I h) λv j ⟨x,H1,k,l,n⟩=>?_);obtain⟨d,i,rfl,w,r,q⟩:=id n
 obtain⟨ob,e1,g⟩:∃ ob,j.heap.get? d=some ob/\ob.ExactDict:=by
  obtain⟨_,_,_,_,o,_,_,e,g,_⟩:=(show ObjOk X.prog X.w H1 j.heap d (.dT i) from r.ok k.hok)
  exact⟨o,e,g⟩
 cases(show v=Value.ref d from l);exact⟨"dict","dict.items",F.plainAttrs_dict,F.slot_dict_items,F.type_dict_items,⟨ob,e1,g.1⟩,λa u=>by cases u;exact⟨ob,e1,g.2.1⟩,Calls.callWith_builtin rfl (PySem.evalArgs_none (ss b j σ H1 _ [] _ [] Q k l .nil n))⟩
end
end L2
namespace My
open PySem L2 FrM
def top(i:Nat):Stmt:=PySem.Challenge.pw_fewspeak_k15_one_behind_another.main.body.getD i (.Pass ⟨0,0,0,0⟩)
abbrev aF:Stmt:=cz (top 2) 0
abbrev aE:Stmt:=top 5
abbrev aN:Stmt:=top 6
abbrev dk:Stmt:=top 7
abbrev dl:Stmt:=top 8
abbrev bI:Stmt:=top 10
abbrev aQ:Stmt:=cz (top 14) 0
abbrev aV:Stmt:=cz (top 14) 1
abbrev bD:Stmt:=cz (top 14) 2
abbrev bh:Stmt:=cz (top 14) 3
abbrev bf:Stmt:=cz (top 14) 4
abbrev aT:Stmt:=cz (top 15) 0
abbrev aZ:Stmt:=cz (top 15) 1
abbrev bM:Stmt:=cz (top 15) 2
abbrev bE:Stmt:=cz (top 15) 3
abbrev bj:Stmt:=cz (top 15) 4
abbrev bC:Stmt:=cz (top 15) 5
abbrev aY:Stmt:=cz (top 15) 6
abbrev aP:Stmt:=top 16
abbrev aR:Stmt:=top 17
abbrev dj:Stmt:=top 18
abbrev bZ:Stmt:=top 19
abbrev dZ:Stmt:=top 20
abbrev ce:Stmt:=top 21
abbrev bR:Stmt:=top 22
abbrev dA:Stmt:=top 23
abbrev cL:Stmt:=top 25
abbrev dC:Stmt:=top 26
abbrev bK:Stmt:=top 27
abbrev cF:Stmt:=top 28
abbrev cJ:Stmt:=top 30
abbrev cG:Stmt:=top 31
abbrev cf:Stmt:=top 32
abbrev cK:Stmt:=top 33
abbrev bv:Stmt:=top 34
abbrev bJ:Stmt:=top 35
abbrev du:Stmt:=top 36
abbrev bx:Stmt:=top 37
abbrev cI:Stmt:=top 38
abbrev bu:Stmt:=top 39
abbrev dz:Stmt:=top 40
abbrev cE:Stmt:=top 41
abbrev bF:Stmt:=top 42
abbrev ee:Stmt:=top 43
abbrev gN:Stmt:=top 44
theorem fS{N P:List Str}{f:Scope}(a:f.kind=.function)(b:f.isCoroutine=false)(c:f.isGenerator=false)(d:N.take P.length=P)(h:N.Nodup/\(∀ x∈P,f.names.lookup x = some .local \/ f.names.lookup x = some .cell)/\∀ y∈f.names,y.2≠.free):FnScope N P f:=⟨a,b,c,h.1,d,h.2.1,h.2.2⟩
theorem gq:FnScope ["self","place"] ["self","place"] (ae aF):=fS rfl rfl rfl rfl (by decide +kernel)
theorem sc_h:FnScope ["one","other"] ["one","other"] (ae aE):=fS rfl rfl rfl rfl (by decide +kernel)
theorem sc_l:FnScope ["numbers","found","number"] ["numbers"] (ae aN):=fS rfl rfl rfl rfl (by decide +kernel)
theorem sc_R:FnScope ["top","bottom","divisor"] ["top","bottom"] (ae dk):=fS rfl rfl rfl rfl (by decide +kernel)
theorem sc_W:FnScope ["fractions","bottom"] ["fractions"] (ae dl):=fS rfl rfl rfl rfl (by decide +kernel)
theorem mZ:FnScope ["thing","low","high"] ["thing","low","high"] (ae bI):=fS rfl rfl rfl rfl (by decide +kernel)
theorem hX:FnScope ["self","kept"] ["self","kept"] (ae aQ):=fS rfl rfl rfl rfl (by decide +kernel)
theorem iR:FnScope ["self"] ["self"] (ae aV):=fS rfl rfl rfl rfl (by decide +kernel)
theorem kY:FnScope ["self"] ["self"] (ae bD):=fS rfl rfl rfl rfl (by decide +kernel)
theorem jQ:FnScope ["self"] ["self"] (ae bh):=fS rfl rfl rfl rfl (by decide +kernel)
theorem jP:FnScope ["self"] ["self"] (ae bf):=fS rfl rfl rfl rfl (by decide +kernel)
theorem iQ:FnScope ["self","parts"] ["self","parts"] (ae aT):=fS rfl rfl rfl rfl (by decide +kernel)
theorem jr:FnScope ["self"] ["self"] (ae aZ):=fS rfl rfl rfl rfl (by decide +kernel)
theorem m9:FnScope ["self"] ["self"] (ae bM):=fS rfl rfl rfl rfl (by decide +kernel)
theorem lW:FnScope ["self"] ["self"] (ae bE):=fS rfl rfl rfl rfl (by decide +kernel)
theorem lP:FnScope ["self"] ["self"] (ae bj):=fS rfl rfl rfl rfl (by decide +kernel)
theorem sc_u:FnScope ["self","throw","number","last","many","make"] ["self","throw"] (ae bC):=fS rfl rfl rfl rfl (by decide +kernel)
theorem jn:FnScope ["self","carry"] ["self","carry"] (ae aY):=fS rfl rfl rfl rfl (by decide +kernel)
abbrev eJ:Expr:=(rg (sh aP 0))
def aC:LamD:=kB ((("carried_make" : Str) ++ ".<locals>.") ++ "<lambda>") eJ
theorem iP:FnScope ["make","carry"] ["make","carry"] (ae aP):=fS rfl rfl rfl rfl (by decide +kernel)
theorem g9:FnScope ["node","throw"] ["node","throw"] (ae aR):=fS rfl rfl rfl rfl (by decide +kernel)
theorem sc_U:FnScope ["node","throws","here","place","throw"] ["node","throws"] (ae dj):=fS rfl rfl rfl rfl (by decide +kernel)
abbrev iD:Expr:=(zn (rg (sh bZ 1)) 0)
def ld_behind_1:LamD:=kB ((("behind" : Str) ++ ".<locals>.") ++ "<lambda>") iD
theorem rG:FnScope ["node","go"] ["node","go"] (ae bZ):=fS rfl rfl rfl rfl (by decide +kernel)
abbrev j0:Expr:=(zn (rg (sh dZ 0)) 1)
def eW:LamD:=kB ((("both" : Str) ++ ".<locals>.") ++ "<lambda>") j0
theorem sc_H:FnScope ["one","other"] ["one","other"] (ae dZ):=fS rfl rfl rfl rfl (by decide +kernel)
abbrev iN:Expr:=(zn (rg (sh ce 0)) 1)
def dI:LamD:=kB ((("joined" : Str) ++ ".<locals>.") ++ "<lambda>") iN
theorem sc_p:FnScope ["kept","node"] ["kept","node"] (ae ce):=fS rfl rfl rfl rfl (by decide +kernel)
theorem sc_K:FnScope ["node","ways","ahead","here","top","bottom","sides"] ["node"] (ae bR):=fS rfl rfl rfl rfl (by decide +kernel)
theorem sc_S:FnScope ["node","found","kept","chance"] ["node"] (ae dA):=fS rfl rfl rfl rfl (by decide +kernel)
theorem rT:FnScope ["_law_script","_law_k"] ["_law_script","_law_k"] (ae cL):=fS rfl rfl rfl rfl (by decide +kernel)
theorem sc_V:FnScope ["_law_cell_here","_law_k","_law_number"] ["_law_cell_here","_law_k"] (ae dC):=fS rfl rfl rfl rfl (by decide +kernel)
theorem sc_x:FnScope ["_law_cell_here","_law_number","_law_k"] ["_law_cell_here"] (ae bK):=fS rfl rfl rfl rfl (by decide +kernel)
theorem sc_q:FnScope ["_law_state","_law_many","_law_digit"] ["_law_state","_law_many"] (ae cF):=fS rfl rfl rfl rfl (by decide +kernel)
theorem sc_Q:FnScope ["_law_state","_law_first","_law_step","_law_places","_law_bits"] ["_law_state"] (ae cJ):=fS rfl rfl rfl rfl (by decide +kernel)
theorem sc_G:FnScope ["_law_state","_law_deep","_law_parts","_law_k","_law_many"] ["_law_state","_law_deep"] (ae cG):=fS rfl rfl rfl rfl (by decide +kernel)
abbrev iE:Expr:=(rg (sh cf 0))
def ld_L_make_1:LamD:=kB ((("_law_make" : Str) ++ ".<locals>.") ++ "<lambda>") iE
theorem sx:FnScope ["_law_tree_here"] ["_law_tree_here"] (ae cf):=fS rfl rfl rfl rfl (by decide +kernel)
theorem sc_D:FnScope ["_law_tree_here","_law_handed","_law_node_here"] ["_law_tree_here"] (ae cK):=fS rfl rfl rfl rfl (by decide +kernel)
theorem sc_I:FnScope ["_law_one","_law_other"] ["_law_one","_law_other"] (ae bv):=fS rfl rfl rfl rfl (by decide +kernel)
theorem sc_y:FnScope ["_law_top","_law_bottom","_law_many"] ["_law_top","_law_bottom"] (ae bJ):=fS rfl rfl rfl rfl (by decide +kernel)
theorem ur:FnScope ["_law_one","_law_other"] ["_law_one","_law_other"] (ae du):=fS rfl rfl rfl rfl (by decide +kernel)
theorem lh:FnScope ["_law_one","_law_other"] ["_law_one","_law_other"] (ae bx):=fS rfl rfl rfl rfl (by decide +kernel)
theorem sc_B:FnScope ["_law_tree_here","_law_much","_law_found","_law_kept_here","_law_sides","_law_many","_law_part"] ["_law_tree_here","_law_much","_law_found"] (ae cI):=fS rfl rfl rfl rfl (by decide +kernel)
theorem sc_n:FnScope ["_law_tree_here","_law_odd","_law_halves","_law_place"] ["_law_tree_here","_law_odd"] (ae bu):=fS rfl rfl rfl rfl (by decide +kernel)
theorem sc_P:FnScope ["_law_tree_here","_law_state","_law_throws","_law_throw","_law_many","_law_part"] ["_law_tree_here","_law_state"] (ae dz):=fS rfl rfl rfl rfl (by decide +kernel)
theorem sc_O:FnScope ["_law_one","_law_other","_law_found","_law_kept_here","_law_much","_law_more","_law_part"] ["_law_one","_law_other"] (ae cE):=fS rfl rfl rfl rfl (by decide +kernel)
theorem lH:FnScope ["_law_tree_here","_law_sides"] ["_law_tree_here","_law_sides"] (ae bF):=fS rfl rfl rfl rfl (by decide +kernel)
abbrev kC:Expr:=(rg (sh ee 0))
def dS:LamD:=kB ((("_law_go" : Str) ++ ".<locals>.") ++ "<lambda>") kC
theorem wn:FnScope ["_law_sides"] ["_law_sides"] (ae ee):=fS rfl rfl rfl rfl (by decide +kernel)
theorem sc_Y:FnScope ["_law_script","_law_one","_law_other","_law_node_here","_law_cell_here","_law_state","_law_first","_law_kept_here","_law_second","_law_more","_law_sides","_law_due"] ["_law_script"] (ae gN):=fS rfl rfl rfl rfl (by decide +kernel)
set_option genInjectivity false in
set_option genSizeOf false in
structure Ad where
 f_h:Addr
 d_h:FuncData
 f_l:Addr
 d_l:FuncData
 f_R:Addr
 d_R:FuncData
 f_W:Addr
 d_W:FuncData
 f_N:Addr
 d_N:FuncData
 f_b:Addr
 d_b:FuncData
 f_o:Addr
 d_o:FuncData
 f_U:Addr
 d_U:FuncData
 f_i:Addr
 d_i:FuncData
 f_H:Addr
 d_H:FuncData
 f_p:Addr
 d_p:FuncData
 f_K:Addr
 d_K:FuncData
 f_S:Addr
 d_S:FuncData
 f_M:Addr
 d_M:FuncData
 f_V:Addr
 d_V:FuncData
 f_x:Addr
 d_x:FuncData
 f_q:Addr
 d_q:FuncData
 f_Q:Addr
 d_Q:FuncData
 f_G:Addr
 d_G:FuncData
 f_s:Addr
 d_s:FuncData
 f_D:Addr
 d_D:FuncData
 f_I:Addr
 d_I:FuncData
 f_y:Addr
 d_y:FuncData
 f_X:Addr
 d_X:FuncData
 f_E:Addr
 d_E:FuncData
 f_B:Addr
 d_B:FuncData
 f_n:Addr
 d_n:FuncData
 f_P:Addr
 d_P:FuncData
 f_O:Addr
 d_O:FuncData
 f_t:Addr
 d_t:FuncData
 f_J:Addr
 d_J:FuncData
 f_Y:Addr
 d_Y:FuncData
 c_L:Addr
 c_a:Addr
 i_a:Addr
 e_a:FuncData
 c_z:Addr
 c_T:Addr
 c_f:Addr
 i_f:Addr
 e_f:FuncData
 c_g:Addr
 i_g:Addr
 e_g:FuncData
 x_j:Addr
 y_j:FuncData
 x_k:Addr
 y_k:FuncData
 x_m:Addr
 y_m:FuncData
 x_r:Addr
 y_r:FuncData
 x_v:Addr
 y_v:FuncData
 x_A:Addr
 y_A:FuncData
 x_C:Addr
 y_C:FuncData
 x_F:Addr
 y_F:FuncData
 x_u:Addr
 y_u:FuncData
 x_w:Addr
 y_w:FuncData
 lc_J:Addr
 lp_J:Addr
 lc_s:Addr
 lp_s:Addr
 lc_b:Addr
 lp_b:Addr
 lc_p:Addr
 lp_p:Addr
 lc_H:Addr
 lp_H:Addr
 lc_i:Addr
 lp_i:Addr
abbrev lK:List (Pos×Str):=[(sI kC,((("_law_go" : Str) ++ ".<locals>.") ++ "<lambda>"))]
theorem wD:(lK).Pairwise λx y=>¬(x.1.line=y.1.line/\x.1.col=y.1.col):=by decide +kernel
abbrev ip:List (Pos×Str):=[(sI iE,((("_law_make" : Str) ++ ".<locals>.") ++ "<lambda>"))]
theorem qX:(ip).Pairwise λx y=>¬(x.1.line=y.1.line/\x.1.col=y.1.col):=by decide +kernel
abbrev dJ:List (Pos×Str):=[(sI eJ,((("carried_make" : Str) ++ ".<locals>.") ++ "<lambda>"))]
theorem iT:(dJ).Pairwise λx y=>¬(x.1.line=y.1.line/\x.1.col=y.1.col):=by decide +kernel
abbrev hZ:List (Pos×Str):=[(sI iN,((("joined" : Str) ++ ".<locals>.") ++ "<lambda>"))]
theorem qV:(hZ).Pairwise λx y=>¬(x.1.line=y.1.line/\x.1.col=y.1.col):=by decide +kernel
abbrev lY:List (Pos×Str):=[(sI j0,((("both" : Str) ++ ".<locals>.") ++ "<lambda>"))]
theorem wJ:(lY).Pairwise λx y=>¬(x.1.line=y.1.line/\x.1.col=y.1.col):=by decide +kernel
abbrev iB:List (Pos×Str):=[(sI iD,((("behind" : Str) ++ ".<locals>.") ++ "<lambda>"))]
theorem qW:(iB).Pairwise λx y=>¬(x.1.line=y.1.line/\x.1.col=y.1.col):=by decide +kernel
def tabs(a:Ad):ni:=[(a.lp_J,lK),(a.lp_s,ip),(a.lp_b,dJ),(a.lp_p,hZ),(a.lp_H,lY),(a.lp_i,iB)]
theorem wz(a:Ad):(a.lp_J,lK)∈tabs a:=(.head _)
theorem rh(a:Ad):(a.lp_s,ip)∈tabs a:=(.tail _ (.head _))
theorem iS(a:Ad):(a.lp_b,dJ)∈tabs a:=(.tail _ (.tail _ (.head _)))
theorem rR(a:Ad):(a.lp_p,hZ)∈tabs a:=(.tail _ (.tail _ (.tail _ (.head _))))
theorem xB(a:Ad):(a.lp_H,lY)∈tabs a:=(.tail _ (.tail _ (.tail _ (.tail _ (.head _)))))
theorem rW(a:Ad):(a.lp_i,iB)∈tabs a:=(.tail _ (.tail _ (.tail _ (.tail _ (.tail _ (.head _))))))
structure Txt(K:Frag)(mg:Str->Option Value)(a:Ad):Prop where
 lcd_J:a.d_J.code=.ref a.lc_J
 lch_J:codeHdIn K a.lc_J a.lp_J=true
 lcd_s:a.d_s.code=.ref a.lc_s
 lch_s:codeHdIn K a.lc_s a.lp_s=true
 lcd_b:a.d_b.code=.ref a.lc_b
 lch_b:codeHdIn K a.lc_b a.lp_b=true
 lcd_p:a.d_p.code=.ref a.lc_p
 lch_p:codeHdIn K a.lc_p a.lp_p=true
 lcd_H:a.d_H.code=.ref a.lc_H
 lch_H:codeHdIn K a.lc_H a.lp_H=true
 lcd_i:a.d_i.code=.ref a.lc_i
 lch_i:codeHdIn K a.lc_i a.lp_i=true
 tnd:((tabs a).map (·.1)).Nodup
 F_h:Fun K "greatest_divisor" "greatest_divisor" aE a.f_h a.d_h
 B_h:Binds K a.d_h ["one","other"] []
 m_h:mg "greatest_divisor" = some (.ref a.f_h)
 F_l:Fun K "least_multiple" "least_multiple" aN a.f_l a.d_l
 B_l:Binds K a.d_l ["numbers"] []
 m_l:mg "least_multiple" = some (.ref a.f_l)
 F_R:Fun K "share" "share" dk a.f_R a.d_R
 B_R:Binds K a.d_R ["top","bottom"] []
 m_R:mg "share" = some (.ref a.f_R)
 F_W:Fun K "total" "total" dl a.f_W a.d_W
 B_W:Binds K a.d_W ["fractions"] []
 m_W:mg "total" = some (.ref a.f_W)
 F_N:Fun K "is_whole" "is_whole" bI a.f_N a.d_N
 B_N:Binds K a.d_N ["thing","low","high"] []
 m_N:mg "is_whole" = some (.ref a.f_N)
 F_b:Fun K "carried_make" "carried_make" aP a.f_b a.d_b
 B_b:Binds K a.d_b ["make","carry"] []
 m_b:mg "carried_make" = some (.ref a.f_b)
 F_o:Fun K "can_be_thrown" "can_be_thrown" aR a.f_o a.d_o
 B_o:Binds K a.d_o ["node","throw"] []
 m_o:mg "can_be_thrown" = some (.ref a.f_o)
 F_U:Fun K "drawn" "drawn" dj a.f_U a.d_U
 B_U:Binds K a.d_U ["node","throws"] []
 m_U:mg "drawn" = some (.ref a.f_U)
 F_i:Fun K "behind" "behind" bZ a.f_i a.d_i
 B_i:Binds K a.d_i ["node","go"] []
 m_i:mg "behind" = some (.ref a.f_i)
 F_H:Fun K "both" "both" dZ a.f_H a.d_H
 B_H:Binds K a.d_H ["one","other"] []
 m_H:mg "both" = some (.ref a.f_H)
 F_p:Fun K "joined" "joined" ce a.f_p a.d_p
 B_p:Binds K a.d_p ["kept","node"] []
 m_p:mg "joined" = some (.ref a.f_p)
 F_K:Fun K "ways_of" "ways_of" bR a.f_K a.d_K
 B_K:Binds K a.d_K ["node"] []
 m_K:mg "ways_of" = some (.ref a.f_K)
 F_S:Fun K "table" "table" dA a.f_S a.d_S
 B_S:Binds K a.d_S ["node"] []
 m_S:mg "table" = some (.ref a.f_S)
 F_M:Fun K "_law_cell" "_law_cell" cL a.f_M a.d_M
 B_M:Binds K a.d_M ["_law_script","_law_k"] []
 m_M:mg "_law_cell" = some (.ref a.f_M)
 F_V:Fun K "_law_mix" "_law_mix" dC a.f_V a.d_V
 B_V:Binds K a.d_V ["_law_cell_here","_law_k"] []
 m_V:mg "_law_mix" = some (.ref a.f_V)
 F_x:Fun K "_law_digits" "_law_digits" bK a.f_x a.d_x
 B_x:Binds K a.d_x ["_law_cell_here"] []
 m_x:mg "_law_digits" = some (.ref a.f_x)
 F_q:Fun K "_law_take" "_law_take" cF a.f_q a.d_q
 B_q:Binds K a.d_q ["_law_state","_law_many"] []
 m_q:mg "_law_take" = some (.ref a.f_q)
 F_Q:Fun K "_law_kept" "_law_kept" cJ a.f_Q a.d_Q
 B_Q:Binds K a.d_Q ["_law_state"] []
 m_Q:mg "_law_kept" = some (.ref a.f_Q)
 F_G:Fun K "_law_tree" "_law_tree" cG a.f_G a.d_G
 B_G:Binds K a.d_G ["_law_state","_law_deep"] []
 m_G:mg "_law_tree" = some (.ref a.f_G)
 F_s:Fun K "_law_make" "_law_make" cf a.f_s a.d_s
 B_s:Binds K a.d_s ["_law_tree_here"] []
 m_s:mg "_law_make" = some (.ref a.f_s)
 F_D:Fun K "_law_node" "_law_node" cK a.f_D a.d_D
 B_D:Binds K a.d_D ["_law_tree_here"] []
 m_D:mg "_law_node" = some (.ref a.f_D)
 F_I:Fun K "_law_divisor" "_law_divisor" bv a.f_I a.d_I
 B_I:Binds K a.d_I ["_law_one","_law_other"] []
 m_I:mg "_law_divisor" = some (.ref a.f_I)
 F_y:Fun K "_law_lowest" "_law_lowest" bJ a.f_y a.d_y
 B_y:Binds K a.d_y ["_law_top","_law_bottom"] []
 m_y:mg "_law_lowest" = some (.ref a.f_y)
 F_X:Fun K "_law_sum" "_law_sum" du a.f_X a.d_X
 B_X:Binds K a.d_X ["_law_one","_law_other"] []
 m_X:mg "_law_sum" = some (.ref a.f_X)
 F_E:Fun K "_law_product" "_law_product" bx a.f_E a.d_E
 B_E:Binds K a.d_E ["_law_one","_law_other"] []
 m_E:mg "_law_product" = some (.ref a.f_E)
 F_B:Fun K "_law_walk" "_law_walk" cI a.f_B a.d_B
 B_B:Binds K a.d_B ["_law_tree_here","_law_much","_law_found"] []
 m_B:mg "_law_walk" = some (.ref a.f_B)
 F_n:Fun K "_law_doubled" "_law_doubled" bu a.f_n a.d_n
 B_n:Binds K a.d_n ["_law_tree_here","_law_odd"] []
 m_n:mg "_law_doubled" = some (.ref a.f_n)
 F_P:Fun K "_law_way" "_law_way" dz a.f_P a.d_P
 B_P:Binds K a.d_P ["_law_tree_here","_law_state"] []
 m_P:mg "_law_way" = some (.ref a.f_P)
 F_O:Fun K "_law_both" "_law_both" cE a.f_O a.d_O
 B_O:Binds K a.d_O ["_law_one","_law_other"] []
 m_O:mg "_law_both" = some (.ref a.f_O)
 F_t:Fun K "_law_gone_on" "_law_gone_on" bF a.f_t a.d_t
 B_t:Binds K a.d_t ["_law_tree_here","_law_sides"] []
 m_t:mg "_law_gone_on" = some (.ref a.f_t)
 F_J:Fun K "_law_go" "_law_go" ee a.f_J a.d_J
 B_J:Binds K a.d_J ["_law_sides"] []
 m_J:mg "_law_go" = some (.ref a.f_J)
 F_Y:Fun K "law" "law" gN a.f_Y a.d_Y
 m_Y:mg "law" = some (.ref a.f_Y)
 g_MOST_WAYS:∃ u,mg "MOST_WAYS" = some u/\RelV (.int 4096) u
 mc_a:mg "NoThrow" = some (.ref a.c_a)
 kc_NoThrow:keepIn K (.ref a.c_a)=true
 xc_a:XCls K a.c_a
 xh_a:XHd K a.c_a
 xi_NoThrow:xIn K a.c_a (some (.ref a.i_a))=true
 fn_NoThrow:isFn K (.ref a.i_a)=true
 Fi_a:Fun K "__init__" "NoThrow.__init__" aF a.i_a a.e_a
 Bi_a:Binds K a.e_a ["self","place"] []
 sx_NoThrow_place:∃ cd,XSet K a.c_a "place" cd
 mc_z:mg "TooMany" = some (.ref a.c_z)
 kc_TooMany:keepIn K (.ref a.c_z)=true
 xc_z:XCls K a.c_z
 xh_z:XHd K a.c_z
 xi_TooMany:xIn K a.c_z none=true
 mc_f:mg "Told" = some (.ref a.c_f)
 cl_f:Cls K a.c_f
 mk_f:Mk K a.c_f a.i_f
 Fi_f:Fun K "__init__" "Told.__init__" aQ a.i_f a.e_f
 Bi_f:Binds K a.e_f ["self","kept"] []
 na_Told_rising:NoAttr K a.c_f "rising"
 mt_j:Meth K a.c_f "is_told" a.x_j
 mt_m:Meth K a.c_f "kept" a.x_m
 mt_v:Meth K a.c_f "sides" a.x_v
 mt_C:Meth K a.c_f "parts" a.x_C
 mc_g:mg "Die" = some (.ref a.c_g)
 cl_g:Cls K a.c_g
 mk_g:Mk K a.c_g a.i_g
 Fi_g:Fun K "__init__" "Die.__init__" aT a.i_g a.e_g
 Bi_g:Binds K a.e_g ["self","parts"] []
 na_Die_makes:NoAttr K a.c_g "makes"
 mt_k:Meth K a.c_g "is_told" a.x_k
 mt_r:Meth K a.c_g "kept" a.x_r
 mt_A:Meth K a.c_g "sides" a.x_A
 mt_F:Meth K a.c_g "parts" a.x_F
 mt_u:Meth K a.c_g "after" a.x_u
 mt_w:Meth K a.c_g "carried" a.x_w
 F_j:Fun K "is_told" "Told.is_told" aV a.x_j a.y_j
 B_j:Binds K a.y_j ["self"] []
 F_k:Fun K "is_told" "Die.is_told" aZ a.x_k a.y_k
 B_k:Binds K a.y_k ["self"] []
 F_m:Fun K "kept" "Told.kept" bD a.x_m a.y_m
 B_m:Binds K a.y_m ["self"] []
 F_r:Fun K "kept" "Die.kept" bM a.x_r a.y_r
 B_r:Binds K a.y_r ["self"] []
 F_v:Fun K "sides" "Told.sides" bh a.x_v a.y_v
 B_v:Binds K a.y_v ["self"] []
 F_A:Fun K "sides" "Die.sides" bE a.x_A a.y_A
 B_A:Binds K a.y_A ["self"] []
 F_C:Fun K "parts" "Told.parts" bf a.x_C a.y_C
 B_C:Binds K a.y_C ["self"] []
 F_F:Fun K "parts" "Die.parts" bj a.x_F a.y_F
 B_F:Binds K a.y_F ["self"] []
 F_u:Fun K "after" "Die.after" bC a.x_u a.y_u
 B_u:Binds K a.y_u ["self","throw"] []
 F_w:Fun K "carried" "Die.carried" aY a.x_w a.y_w
 B_w:Binds K a.y_w ["self","carry"] []
 z_abs:mg "abs" = none
 z_bool:mg "bool" = none
 z_enumerate:mg "enumerate" = none
 z_int:mg "int" = none
 z_isinstance:mg "isinstance" = none
 z_len:mg "len" = none
 z_list:mg "list" = none
 z_range:mg "range" = none
 z_sorted:mg "sorted" = none
 z_sum:mg "sum" = none
 z_tuple:mg "tuple" = none
 bl:∀(s:Shared) (u:Value),BindsTo s a.d_Y ⟨[u],[]⟩ [("_law_script",u)]
inductive spLaw(K:Frag)(ts:List Addr)(vs:List V)(H:Hp)(Q:VK)(_E:XK):Prop
 | mk(p:Addr)(ns:List Int)(h0:vs=[.ref p])(h1:SqL K H p (ns.map V.int))(h2:ns.length<=63)(h3:(∀ P∈ts,H P=some (.tbl #[])))(h4:∀ H',Q (.bl true) H'):spLaw K ts vs H Q _E
theorem law_start{K:Frag}{c:List Addr}{H:Hp}{a:Addr}{b:List Int}(d:b.length<=63)(f:∀ P∈c,H P=some (.tbl #[]))(g:SqL K H a (b.map V.int)):spLaw K c [.ref a] H (λv _=>v=.bl true) λ_ _ _=>False:=⟨a,b,rfl,g,d,f,λ_=>rfl⟩
def vy(ns:List Int)(k:Int):Int:=if k<(ns.length:Int) then ns.getD k.toNat 0 else 7919*k+13
inductive spCell(K:Frag)(vs:List V)(H:Hp)(Q:VK)(_E:XK):Prop
 | mk(p:Addr)(ns:List Int)(k:Int)(h0:vs=[.ref p,.int k])(h1:SqL K H p (ns.map V.int))(h2:ns.length<=63)(h3:0<=k)(h4:k<=1000)(h5:Q (.int (vy ns k)) H):spCell K vs H Q _E
inductive spMix(vs:List V)(H:Hp)(Q:VK)(_E:XK):Prop
 | mk(c k:Int)(h0:vs=[.int c,.int k])(h1:0<=k)(h2:k<=1000)(h3:∀ r:Int,0<=r->Q (.int r) H):spMix vs H Q _E
def AJ:Sp:=λ_ _ _ _=>False
inductive spDigits(vs:List V)(H:Hp)(Q:VK)(_E:XK):Prop
 | mk(c:Int)(h0:vs=[.int c])(h1:∀ p (n:Int),H p=none->Q (.ref p) (upd H p (.lst [.int n]))):spDigits vs H Q _E
inductive spTake(vs:List V)(H:Hp)(Q:VK)(_E:XK):Prop
 | mk(p:Addr)(n m:Int)(h0:vs=[.ref p,.int m])(h1:H p=some (.lst [.int n]))(h2:0<m)(h3:m<=1000000000000)(h4:∀(r n':Int),0<=r->r<m->Q (.int r) (upd H p (.lst [.int n']))):spTake vs H Q _E
def SameP(p:Addr)(H H':Hp):Prop:=∀ b o,b≠p->H b=some o->H' b=some o
theorem SameP.trans{p:Addr}{H H' H2:Hp}(s:SameP p H H')(t:SameP p H' H2):SameP p H H2:=λb o n e=>t b o n (s b o n e)
theorem SameP.of{p:Addr}{H H':Hp}(s:Same H H'):SameP p H H':=λb o _ e=>s b o e
theorem SameP.put{p:Addr}{H:Hp}{o:HO}:SameP p H (upd H p o):=λb a n e=>by rw[ag n];exact e
inductive spKept(vs:List V)(H:Hp)(Q:VK)(_E:XK):Prop
 | mk(p:Addr)(n:Int)(h0:vs=[.ref p])(h1:H p=some (.lst [.int n]))(h2:∀ H' q (n':Int) (ns:List Int),SameP p H H'->H' p=some (.lst [.int n'])->H q=none->H' q=some (.lst (ns.map V.int))->ns.length<=6/\ns.Nodup->Q (.ref q) H'):spKept vs H Q _E
section
variable {P:Program}{w:World}{K:Frag}{mg:Str->Option Value}{base:Heap}{a:Ad}
theorem AI{k:Nat}{f:Addr}{a:FuncData}{ps:List Str}:FnOk P w K mg base CX0 k f a ps AJ:=⟨λ_ _ _ _ h=>h.elim,λ_ _ _ _ _ _ _ _ _ _ _ _ _ h=>h.elim⟩
theorem xw(T:Txt K mg a):FnOk P w K mg base CX0 1 a.f_M a.d_M ["_law_script","_law_k"] (spCell K):=by
 refine T.F_M.ok rT (λi H Q E h=>?_) (λcdv A outer s H i Q E hr h=>?_)
 .obtain⟨p,b,k,rfl,_⟩:=h;rfl
 .obtain⟨p,b,k,rfl,f,n,o,l,q⟩:=h
  refine⟨_,(aj (cX (eG wp (vr 1) (aD eU rfl T.z_len jq (aa (vr 0) af)) (cP _)) (am (aB (cD bN (vr 0) (vr 1) (λ_ _=>rfl)))) bO) (am (aB (aA fm (aA bW ak (vr 1)) ak)))),iC ?_⟩;intro g;refine⟨b.map V.int,.inl f,?_⟩;rw[length_map];unfold vy at q;refine BW (λc=>?_) (λc=>?_)
  .have d:k<(b.length:Int):=of_decide_eq_true c
   rw[if_pos d]at q;refine .inl ⟨p,_,k,.int (b.getD k.toNat 0),rfl,rfl,f,?_,q⟩;have e:((k.toNat:Nat):Int)=k:=by omega
   rw[<- e];refine gj ?_;have j:k.toNat<b.length:=by omega
   rw[e];simp[List.getElem?_map,List.getD,j]
  .have d:¬k<(b.length:Int):=λz=>c (decide_eq_true z)
   rw[if_neg d]at q;exact⟨clB,q⟩
theorem yK(T:Txt K mg a):FnOk P w K mg base CX0 1 a.f_V a.d_V ["_law_cell_here","_law_k"] spMix:=by
 refine T.F_V.ok sc_V (λd H Q E h=>?_) (λcdv A outer s H d Q E hr h=>?_)
 .obtain⟨c,k,rfl,_⟩:=h;rfl
 .obtain⟨c,k,rfl,j,g,q⟩:=h
  refine⟨_,(aj (aL (i:=2) sc_V.nd rfl (Or.inl rfl) (aA gu (aA bW (aA fm (vr 0) (aA bW ak (vr 1))) ak) ak)) (aj (aL (i:=2) sc_V.nd rfl (Or.inl rfl) (aA gu (aA bW (vr 2) (vr 2)) ak)) (am (aB (aA gu (aA fm (aA fm (aA bW (vr 2) (vr 2)) (aA bW ak (vr 2))) (vr 1)) ak))))),iH ?_⟩;intro f b;exact⟨clB,crB,cp,clB (by omega) (by omega),cp,clB (by omega) (by omega),clB,cp,q _ (by omega)⟩
theorem rM(T:Txt K mg a):FnOk P w K mg base CX0 2 a.f_x a.d_x ["_law_cell_here"] spDigits:=by
 have j:FnOk P w K mg base CX0 1 _ _ _ spMix:=yK T;refine T.F_x.ok sc_x (λv H Q E h=>?_) (λcdv A outer s H v Q E hr h=>?_)
 .obtain⟨c,rfl,_⟩:=h;rfl
 .obtain⟨c,rfl,q⟩:=h
  refine⟨_,(aj (cX (PW.pt (y3 (eG ut (aA gu (vr 0) ak) ak (cP _)) (wv (eG Ao (aD jJ rfl T.z_abs oX (aa (vr 0) af)) (aA xO ak ak) (cP _))))) (am (aB (cV (aa (aA dM (vr 0) ak) af)))) bO) (aj (aL (i:=1) sc_x.nd rfl (Or.inl rfl) ak) (aj (d9 PassesOwn.never rfl (fX rfl T.z_range (aa ak af)) (au (i:=2) sc_x.nd rfl (Or.inl rfl)) (am (aL (i:=1) sc_x.nd rfl (Or.inl rfl) (aA fm (aA bW (vr 1) ak) (ap j hr rfl T.m_V T.F_V.kp T.B_V .nil ar (aa (vr 0) (aa (vr 2) af))))))) (am (aB (cV (aa (vr 1) af))))))),mU ?_⟩;intro o y l;have k:sizeLine=16777216:=sizeLine_eq
  have b:∀ n:Int,([V.int n]:List V).length<=sizeLine:=λn=>(by decide:1<=sizeLine)
  refine⟨cp,ifC (λ_=>?_) λ_=>?_⟩
  .refine⟨c,rfl,cw,ifC (λ_=>?_) λ_=>?_⟩
   .exact⟨cdB (by decide) (show Bt 40 2 by unfold Bt;decide),b _,λp g=>q p _ g⟩
   .refine⟨24,rfl,by omega,by omega,?_⟩
    let Pw1:PvS:=λi d f=>f=H/\∃(n:Int) (x:Option V),d=[some (.int c),some (.int n),x]
    refine ik Pw1 ⟨rfl,0,none,rfl⟩ ?_ ?_
    .rintro i d f u ⟨rfl,n,x,rfl⟩
     exact⟨crB,c,_,rfl,by omega,by omega,λr z=>⟨rfl,_,_,rfl⟩⟩
    .rintro d f ⟨rfl,n,x,rfl⟩
     exact⟨b _,λp g=>q p _ g⟩
  .refine⟨24,rfl,by omega,by omega,?_⟩
   let Pw2:PvS:=λi d f=>f=H/\∃(n:Int) (x:Option V),d=[some (.int c),some (.int n),x]
   refine ik Pw2 ⟨rfl,0,none,rfl⟩ ?_ ?_
   .rintro i d f u ⟨rfl,n,x,rfl⟩
    exact⟨crB,c,_,rfl,by omega,by omega,λr z=>⟨rfl,_,_,rfl⟩⟩
   .rintro d f ⟨rfl,n,x,rfl⟩
    exact⟨b _,λp g=>q p _ g⟩
theorem kS(T:Txt K mg a):FnOk P w K mg base CX0 1 a.f_q a.d_q ["_law_state","_law_many"] spTake:=by
 refine T.F_q.ok sc_q (λf H Q E h=>?_) (λcdv A outer s H f Q E hr h=>?_)
 .obtain⟨p,n,m,rfl,_⟩:=h;rfl
 .obtain⟨p,n,m,rfl,b,d,j,q⟩:=h
  refine⟨_,(aj (aL (i:=2) sc_q.nd rfl (Or.inl rfl) (aA gu (cD bN (vr 0) ak (λ_ _=>rfl)) (vr 1))) (aj (jD (aA dM (cD bN (vr 0) ak (λ_ _=>rfl)) (vr 1)) (zy (vr 0) ak vf)) (am (aB (vr 2))))),iH ?_⟩;intro g c;refine .inl ⟨p,_,_,_,rfl,rfl,SqL.of b,dX 0 rfl rfl,cp (by omega),?_⟩;refine .inl ⟨p,_,_,_,rfl,rfl,SqL.of b,dX 0 rfl rfl,cdB (by omega) (show Bt 40 m by unfold Bt;omega),?_⟩;refine⟨p,_,_,0,rfl,rfl,b,rfl,?_⟩;exact q _ _ (Int.emod_nonneg _ (by omega)) (Int.emod_lt_of_pos _ d)
theorem xE{r st:Int}(b:st∈([1,3,7,9,11,13,17,19,33,77]:List Int)){i j:Nat}(f:i<j)(g:j<6):(r+st*(i:Int)) % 100≠(r+st*(j:Int)) % 100:=by
 have a:∀ st∈([1,3,7,9,11,13,17,19,33,77]:List Int),∀ k<6,0<k->(st*((k:Nat):Int)) % 100≠0:=by decide
 intro e;have d:=a st b (j - i) (by omega) (by omega);have c:st*((j - i:Nat):Int)=st*(j:Int) - st*(i:Int):=by rw[show((j - i:Nat):Int)=(j:Int) - (i:Int) by omega,Int.mul_sub]
 rw[c]at d;generalize st*(j:Int)=y at *;generalize st*(i:Int)=x at *;omega
theorem wQ(T:Txt K mg a):FnOk P w K mg base CX0 2 a.f_Q a.d_Q ["_law_state"] spKept:=by
 have L:FnOk P w K mg base CX0 1 _ _ _ spTake:=kS T;refine T.F_Q.ok sc_Q (λvs H Q E h=>?_) (λcdv A outer s H vs Q E hr h=>?_)
 .obtain⟨p,n,rfl,_⟩:=h;rfl
 .obtain⟨p,n,rfl,hp,q⟩:=h
  refine⟨_,(wY (gC (ji (aL (i:=1) sc_Q.nd rfl (Or.inr rfl) (ap L hr rfl T.m_q T.F_q.kp T.B_q .nil ar (aa (vr 0) (aa ak af))))) (gC (v7 (i:=2) sc_Q.nd rfl (Or.inr rfl) (yL bN (xG (cH ak (cH ak (cH ak (cH ak (cH ak (cH ak (cH ak (cH ak (cH ak (cH ak v9))))))))))) (ap L hr rfl T.m_q T.F_q.kp T.B_q .nil ar (aa (vr 0) (aa ak af))) (λ_ _=>rfl))) (gC (ji (aL (i:=3) sc_Q.nd rfl (Or.inr rfl) (bY rfl (N:=["_law_k","_law_first","_law_step"]) (ix:=[none,some 1,some 2]) ⟨rfl,rfl,rfl,rfl,⟨rfl,rfl,rfl,⟨rfl,rfl,rfl,trivial⟩⟩⟩ (fX rfl T.z_range (aa ak af)) ⟨λC s H fp=>au (i:=0) (show List.Nodup (["_law_k","_law_first","_law_step"]:List Str) by decide +kernel) rfl (Or.inl rfl),λC s H fp=>bX,λC s H fp=>(aA gu (aA fm (vr 1) (aA bW (vr 2) (vr 0))) ak)⟩))) (gC (ji (aL (i:=4) sc_Q.nd rfl (Or.inr rfl) (ap L hr rfl T.m_q T.F_q.kp T.B_q .nil ar (aa (vr 0) (aa ak af))))) (xj (ji (aB (bY rfl (N:=["_law_k","_law_places","_law_bits"]) (ix:=[none,some 3,some 4]) ⟨rfl,rfl,rfl,rfl,⟨rfl,rfl,rfl,⟨rfl,rfl,rfl,trivial⟩⟩⟩ (fX rfl T.z_range (aa ak af)) ⟨λC s H fp=>au (i:=0) (show List.Nodup (["_law_k","_law_places","_law_bits"]:List Str) by decide +kernel) rfl (Or.inl rfl),λC s H fp=>xo (eG ut (aA Au (aA Bw (vr 2) (vr 0)) ak) ak (cP _)),λC s H fp=>(cD (qI (K:=K) rfl) (vr 1) (vr 0) (λ_ _=>rfl))⟩))))))))),xL ?_⟩;intro a7 az a2 a3;have al:sizeLine=16777216:=sizeLine_eq;refine⟨p,n,100,rfl,hp,by omega,by omega,λr1 I a1 a6=>?_⟩;refine⟨by show 10<=sizeLine;decide,λk f1=>?_⟩;have Y:k≠p:=λz=>by rw[z,ad]at f1;cases f1
  have z1:SameP p H (upd (upd H p (.lst [.int I])) k (.lst [.int 1,.int 3,.int 7,.int 9,.int 11,.int 13,.int 17,.int 19,.int 33,.int 77])):=SameP.put.trans (SameP.of (Same.new f1));have e1:(upd (upd H p (.lst [.int I])) k (.lst [.int 1,.int 3,.int 7,.int 9,.int 11,.int 13,.int 17,.int 19,.int 33,.int 77])) p=some (.lst [.int I]):=by rw[ag (Ne.symm Y)];exact ad
  have g1:(upd (upd H p (.lst [.int I])) k (.lst [.int 1,.int 3,.int 7,.int 9,.int 11,.int 13,.int 17,.int 19,.int 33,.int 77])) k=some (.lst [.int 1,.int 3,.int 7,.int 9,.int 11,.int 13,.int 17,.int 19,.int 33,.int 77]):=ad;refine⟨p,I,10,rfl,e1,by omega,by omega,λr2 M ab an=>?_⟩;obtain⟨v,hv,ev⟩:=uo (xs:=([1,3,7,9,11,13,17,19,33,77]:List Int).map V.int) ab an;obtain⟨st,W,rfl⟩:=mem_map.mp hv
  have as:0<=st/\st<=77:=by
   simp only[mem_cons,not_mem_nil,or_false]at W;omega
  have z2:=z1.trans (SameP.put (o:=.lst [.int M]));have e2:(upd (upd (upd H p (.lst [.int I])) k (.lst [.int 1,.int 3,.int 7,.int 9,.int 11,.int 13,.int 17,.int 19,.int 33,.int 77])) p (.lst [.int M])) p=some (.lst [.int M]):=ad;have g2:(upd (upd (upd H p (.lst [.int I])) k (.lst [.int 1,.int 3,.int 7,.int 9,.int 11,.int 13,.int 17,.int 19,.int 33,.int 77])) p (.lst [.int M])) k=some (.lst [.int 1,.int 3,.int 7,.int 9,.int 11,.int 13,.int 17,.int 19,.int 33,.int 77]):=by rw[ag Y];exact ad
  refine .inl ⟨k,([1,3,7,9,11,13,17,19,33,77]:List Int).map V.int,r2,.int st,rfl,rfl,SqL.of g2,ev,?_⟩;generalize upd (upd (upd H p (.lst [.int I])) k (.lst [.int 1,.int 3,.int 7,.int 9,.int 11,.int 13,.int 17,.int 19,.int 33,.int 77])) p (.lst [.int M])=H2 at z2 e2;refine⟨6,rfl,by omega,by omega,λD hD=>?_⟩
  let Pw3:PvL:=λj g r=>Same H2 r/\r D=some (.lst g)/\∃ c:List Int,g=c.map V.int/\c.length=j/\∀(i:Nat) (x:Int),c[i]? = some x->x=(r1+st*(i:Int)) % 100
  refine mX (lo:=0) (n:=6) Pw3 ⟨Same.new hD,ad,[],rfl,rfl,(λi x h=>by simp at h)⟩ (λj g r h=>h.2.1) ?_ ?_
  .rintro j g r P' hj ⟨J,d,c,rfl,hl,u⟩ hP
   refine⟨⟨rfl,rfl,trivial⟩,clB (by omega) (by omega),cp,d,by rw[length_map];omega,hP _ _ ⟨J.put hD,ad,c++[_],by rw[map_append];rfl,by rw[length_append,hl];rfl,λi x hx=>?_⟩⟩;rw[List.getElem?_append]at hx
   split at hx
   .exact u i x hx
   .rename_i ge
    have i0:i=j:=by
     have:=(List.getElem?_eq_some_iff.mp hx).1;simp at this;omega
    subst i0;rw[hl,Nat.sub_self]at hx;rw[<- Option.some.inj hx,Int.zero_add]
  rintro g H3 ⟨s3,ac,c,rfl,hl,u⟩;have e3:=s3 _ _ e2;have nD:D≠p:=λz=>by rw[z,e2]at hD;cases hD
  refine⟨p,M,64,rfl,e3,by omega,by omega,λr4 R a0 a5=>?_⟩;have z4:=(z2.trans (SameP.of s3)).trans (SameP.put (o:=.lst [.int R]));have e4:(upd H3 p (.lst [.int R])) p=some (.lst [.int R]):=ad;have g4:(upd H3 p (.lst [.int R])) D=some (.lst (c.map V.int)):=by rw[ag nD];exact ac
  generalize upd H3 p (.lst [.int R])=H4 at z4 e4 g4;refine⟨6,rfl,by omega,by omega,λZ b=>?_⟩;have a4:Z≠D:=λz=>by rw[z,g4]at b;cases b
  let Pw4:PvL:=λj g r=>Same H4 r/\r Z=some (.lst g)/\∃ l:List Int,g=l.map V.int/\l.length<=j/\l.Nodup/\∀ x∈l,∃ i,i<j/\c[i]? = some x
  refine mX (lo:=0) (n:=6) Pw4 ⟨Same.new b,ad,[],rfl,Nat.le_refl _,nodup_nil,(λx hx=>by cases hx)⟩ (λj g r h=>h.2.1) ?_ ?_
  .rintro j g r P' hj ⟨J,d,l,rfl,X,G,F⟩ hP
   refine⟨⟨rfl,rfl,trivial⟩,cn (by omega),ifC (λ_=>?_) λ_=>?_⟩
   .have f:j<(c.map V.int).length:=by rw[length_map];omega
    refine .inl ⟨D,_,_,.int (c.getD j 0),rfl,rfl,SqL.of (J _ _ g4),?_,d,by rw[length_map];omega,hP _ _ ⟨J.put b,ad,l++[_],by rw[map_append];rfl,by rw[length_append];show l.length+1<=j+1;omega,?_,λx hx=>?_⟩⟩
    .rw[Int.zero_add]
     exact gj (by rw[List.getElem?_map,List.getD];rw[length_map]at f;simp[f])
    .have ej:c[j]? = some (c.getD j 0):=by rw[length_map]at f;simp[List.getD,f]
     refine nodup_append.mpr ⟨G,by simp,λx hx y hy e=>?_⟩;obtain⟨i,hi,B⟩:=F x hx;rw[mem_singleton]at hy;rw[e,hy]at B;exact xE W hi (by omega) ((u i _ B).symm.trans (u j _ ej))
    .have ej:c[j]? = some (c.getD j 0):=by rw[length_map]at f;simp[List.getD,f]
     rcases mem_append.mp hx with hx | hx
     .obtain⟨i,hi,B⟩:=F x hx
      exact⟨i,by omega,B⟩
     .rw[mem_singleton.mp hx];exact⟨j,by omega,ej⟩
   .exact hP _ _ ⟨J,d,l,rfl,by omega,G,λx hx=>let ⟨i,hi,e⟩:=F x hx;⟨i,by omega,e⟩⟩
  .rintro g r ⟨J,d,l,rfl,X,G,F⟩
   have nP:Z≠p:=λz=>by rw[z,e4]at b;cases b
   refine q _ Z R l (z4.trans (SameP.of J)) (J _ _ e4) ?_ d ⟨X,G⟩;cases hh:H Z with
   | none=>rfl
   | some o=>rw[z4 _ _ nP hh]at b;cases b
end
open Tb (Tr)
def zG(H:Hp)(v:V)(ns:List Int):Prop:=∃ p,v=.ref p/\H p=some (.lst (ns.map V.int))/\ns.length<=12/\ns.Nodup
def PairR(H:Hp)(r:V->Tr->Prop)(pt:Int×Tr)(x:V):Prop:=∃ q w,x=.ref q/\H q=some (.tup [.int pt.1,w])/\1<=pt.1/\pt.1<=1000000000/\r w pt.2
def Bj(H:Hp)(r:V->Tr->Prop)(v:V)(ps:List (Int×Tr)):Prop:=∃ p vs,v=.ref p/\H p=some (.tup vs)/\Paired (PairR H r) ps vs/\1<=ps.length/\ps.length<=4
def IsTree(H:Hp):Nat->V->Tr->Prop
 | 0=>λv t=>match t with | .leaf ns=>zG H v ns | .die _=>False
 | d+1=>λv t=>match t with | .leaf ns=>zG H v ns | .die ps=>Bj H (IsTree H d) v ps
theorem ax{H:Hp}{v:V}{a:List Int}:∀ d,IsTree H d v (.leaf a)↔zG H v a
 | 0=>Iff.rfl
 | _+1=>Iff.rfl
theorem cO{H:Hp}{v:V}{ps:List (Int×Tr)}:∀{d},IsTree H d v (.die ps)->∃ d',d=d'+1/\Bj H (IsTree H d') v ps
 | 0,h=>False.elim h
 | d+1,h=>⟨d,rfl,h⟩
theorem aq{d c:Type}{r f:d->c->Prop}(h:∀ a b,r a b->f a b):∀{as:List d}{bs:List c},Paired r as bs->Paired f as bs
 | _,_,.nil=>.nil
 | _,_,.cons x t=>.cons (h _ _ x) (aq h t)
theorem cS{c d:Type}{r:c->d->Prop}{a:c}{b:d}(h:r a b):∀{as:List c}{bs:List d},Paired r as bs->Paired r (as++[a]) (bs++[b])
 | _,_,.nil=>.cons h .nil
 | _,_,.cons x t=>.cons x (cS h t)
theorem aJ{b a:Type}{r:b->a->Prop}:∀{as:List b}{bs:List a}{i:Nat}{y:a},Paired r as bs->bs[i]? = some y->∃ x,as[i]? = some x/\r x y
 | _,_,_,_,.nil,h=>by cases h
 | _,_,0,_,.cons r _,h=>⟨_,rfl,by cases h;exact r⟩
 | _,_,i+1,_,.cons _ t,h=>aJ (i:=i) t h
theorem PairR.t{H H':Hp}{r b:V->Tr->Prop}(s:SameT H H')(g:∀ v t,r v t->b v t)(a:Int×Tr)(x:V)(h:PairR H r a x):PairR H' b a x:=by
 obtain⟨q,w,d,c,f,i,j⟩:=h;exact⟨q,w,d,s.at c,f,i,g _ _ j⟩
theorem IsTree.t{H H':Hp}(s:SameT H H'):∀ d v t,IsTree H d v t->IsTree H' d v t
 | d,v,.leaf ns,h=>by
  obtain⟨p,b,a,c⟩:=(ax d).mp h;exact(ax d).mpr ⟨p,b,s.at a,c⟩
 | 0,v,.die ps,h=>False.elim h
 | d+1,v,.die ps,h=>by
  obtain⟨p,g,b,a,c,f,i⟩:=h;exact⟨p,g,b,s.at a,aq (PairR.t s (IsTree.t s d)) c,f,i⟩
def nw(H:Hp)(P:Option Addr)(H':Hp):Hp:=λb=>if (H b).isNone && (some b != P) then H' b else none
theorem cZ{H H':Hp}{P:Option Addr}{b:Addr}(h:H b=none)(n:some b≠P):nw H P H' b=H' b:=by
 unfold nw;rw[h];simp[n]
theorem cC{H H':Hp}{P:Option Addr}{b:Addr}{o:HO}(h:nw H P H' b=some o):H b=none/\some b≠P/\H' b=some o:=by
 unfold nw at h
 split at h
 .rename_i c
  simp at c;exact⟨c.1,c.2,h⟩
 .cases h
def lV(D:Nat):Sp:=λvs H Q _=>∃(p:Addr) (n:Int) (d:Nat),vs=[.ref p,.int (d:Nat)]/\d<D/\d<=4/\H p=some (.lst [.int n])/\∀ H' v (n':Int) t,SameP p H H'->H' p=some (.lst [.int n'])->IsTree (nw H none H') d v t->Tb.Lq t->Q v H'
section
variable {P:Program}{w:World}{K:Frag}{mg:Str->Option Value}{base:Heap}{a:Ad}
theorem SameP.free{p:Addr}{H H':Hp}{n:Int}{b:Addr}(s:SameP p H H')(e:H' p=some (.lst [.int n]))(h:H' b=none):H b=none:=by
 cases hh:H b with
 | none=>rfl
 | some o=>rw[s b o (λz=>by rw[z,e]at h;cases h) hh]at h;cases h
theorem rE(T:Txt K mg a)(D:Nat)(a0:FnOk P w K mg base CX0 (D+2) a.f_G a.d_G ["_law_state","_law_deep"] (lV D)):FnOk P w K mg base CX0 (D+1+2) a.f_G a.d_G ["_law_state","_law_deep"] (lV (D+1)):=by
 have B:FnOk P w K mg base CX0 (D+2) _ _ _ spTake:=(kS T).mono (by lia);have an:FnOk P w K mg base CX0 (D+2) _ _ _ spKept:=(wQ T).mono (by lia);refine T.F_G.ok sc_G (λk H Q E h=>?_) (λcdv A outer s H k Q E hr h=>?_)
 .obtain⟨p,n,d,rfl,_⟩:=h;rfl
 .obtain⟨p,n,d,rfl,hd,a8,hp,q⟩:=h
  refine⟨_,(aj (cX (PW.pt (Bs (eG ut (vr 1) ak (cP _)) (yX (eG ut (ap B hr rfl T.m_q T.F_q.kp T.B_q .nil ar (aa (vr 0) (aa ak af))) ak (cP _))))) (am (aB (ap an hr rfl T.m_Q T.F_Q.kp T.B_Q .nil ar (aa (vr 0) af)))) bO) (aj (aL (i:=2) sc_G.nd rfl (Or.inl rfl) (cV af)) (aj (d9 PassesOwn.never rfl (fX rfl T.z_range (aa (aA fm ak (ap B hr rfl T.m_q T.F_q.kp T.B_q .nil ar (aa (vr 0) (aa ak af)))) af)) (au (i:=3) sc_G.nd rfl (Or.inl rfl)) (aj (aL (i:=4) sc_G.nd rfl (Or.inl rfl) (aA fm ak (ap B hr rfl T.m_q T.F_q.kp T.B_q .nil ar (aa (vr 0) (aa (cD bN (cV (aa ak (aa ak (aa ak (aa (aA xO ak ak) af))))) (ap B hr rfl T.m_q T.F_q.kp T.B_q .nil ar (aa (vr 0) (aa ak af))) (λ_ _=>rfl)) af))))) (am (fg (pe_m.append (vr 2) (aa (bH (aa (vr 4) (aa (ap a0 hr rfl T.m_G T.F_G.kp T.B_G .nil ar (aa (vr 0) (aa (aA qg (vr 1) ak) af))) af))) af)))))) (am (aB (bP bz rfl T.z_tuple dH (aa (vr 2) af))))))),mU ?_⟩;intro a6 bg bc;have a2:sizeLine=16777216:=sizeLine_eq;refine ifC (λc=>?_) λc=>?_
  .refine⟨p,n,rfl,hp,λg q' n' ns M F f1 N r=>?_⟩
   exact q _ _ _ (.leaf ns) M F ((ax d).mpr ⟨q',rfl,by rw[cZ f1 (by simp)];exact N,by have:=r.1;lia,r.2⟩) (by rw[Tb.Lq];exact r.1)
  have d0:d≠0:=λz=>c (by rw[z];rfl)
  refine⟨p,n,4,rfl,hp,by lia,by lia,λr1 I a9 a7=>?_⟩;have M:SameP p H (upd H p (.lst [.int I])):=SameP.put;have F:(upd H p (.lst [.int I])) p=some (.lst [.int I]):=ad;generalize upd H p (.lst [.int I])=H1 at M F;refine ifC (λc=>?_) λc=>?_
  .refine⟨p,I,rfl,F,λg q' n' ns s2 N f2 e3 r=>?_⟩
   exact q _ _ _ (.leaf ns) (M.trans s2) N ((ax d).mpr ⟨q',rfl,by rw[cZ (M.free F f2) (by simp)];exact e3,by have:=r.1;lia,r.2⟩) (by rw[Tb.Lq];exact r.1)
  refine⟨Nat.zero_le _,λf y=>?_⟩;have nP:f≠p:=λz=>by rw[z,F]at y;cases y
  have fP:H f=none:=M.free F y;have s2:=M.trans (SameP.of (Same.new (o:=.lst []) y));have N:(upd H1 f (.lst [])) p=some (.lst [.int I]):=by rw[ag (Ne.symm nP)];exact F
  have g2:(upd H1 f (.lst [])) f=some (.lst []):=ad;generalize upd H1 f (.lst [])=H2 at s2 N g2;refine⟨p,I,4,rfl,N,by lia,by lia,λr3 W a' bl=>?_⟩;refine⟨1+r3,rfl,by lia,by lia,?_⟩;have s3:=s2.trans (SameP.put (o:=.lst [.int W]));have e3:(upd H2 p (.lst [.int W])) p=some (.lst [.int W]):=ad;have g3:(upd H2 p (.lst [.int W])) f=some (.lst []):=by rw[ag nP];exact g2
  generalize upd H2 p (.lst [.int W])=H3 at s3 e3 g3
  obtain⟨d',rfl⟩:∃ d',d=d'+1:=⟨d - 1,by lia⟩
  let Pw1:PvS:=λi σ g=>∃(m:Int) (G:List (Int×Tr)) (k:List V) (x3 x4:Option V),SameP p H g/\g p=some (.lst [.int m])/\g f=some (.lst k)/\Paired (PairR (nw H (some f) g) (IsTree (nw H (some f) g) d')) G k/\Tb.Lqs G/\G.length=i/\σ=[some (.ref p),some (.int ((d'+1:Nat):Int)),some (.ref f),x3,x4]
  refine ik (lo:=0) (n:=(1+r3).toNat) Pw1 ⟨W,[],[],none,none,s3,e3,g3,.nil,(by rw[Tb.Lqs];trivial),rfl,rfl⟩ ?_ ?_
  .rintro i σ g hi ⟨m,G,k,x3,x4,X,Z,g4,hP,L,r,rfl⟩
   refine⟨cw,by show 4<=sizeLine;decide,λR f4=>?_⟩;have a4:R≠p:=λz=>by rw[z,Z]at f4;cases f4
   have s5:Same g (upd g R (.lst [.int 3,.int 3,.int 12,.int ((10:Int) ^ (9:Int).toNat)])):=Same.new f4;refine⟨p,m,4,rfl,s5 _ _ Z,by lia,by lia,λr5 n5 as az=>?_⟩;obtain⟨v,hv,ev⟩:=uo (xs:=([3,3,12,(10:Int) ^ (9:Int).toNat]:List Int).map V.int) as az;obtain⟨st,al,rfl⟩:=mem_map.mp hv
   have a5:1<=st/\st<=1000000000:=by
    have e9:(10:Int) ^ (9:Int).toNat=1000000000:=by decide
    rw[e9]at al;simp only[mem_cons,not_mem_nil,or_false]at al;lia
   refine .inl ⟨R,([3,3,12,(10:Int) ^ (9:Int).toNat]:List Int).map V.int,r5,.int st,rfl,rfl,SqL.of ((ag a4).trans ad),ev,?_⟩;refine⟨p,n5,st,rfl,ad,by lia,by lia,λr6 n6 bb ba=>?_⟩;have s6:SameP p g (upd (upd (upd g R (.lst [.int 3,.int 3,.int 12,.int ((10:Int) ^ (9:Int).toNat)])) p (.lst [.int n5])) p (.lst [.int n6])):=((SameP.of s5).trans SameP.put).trans SameP.put;have g6:=s6 _ _ nP g4;have e6:(upd (upd (upd g R (.lst [.int 3,.int 3,.int 12,.int ((10:Int) ^ (9:Int).toNat)])) p (.lst [.int n5])) p (.lst [.int n6])) p=some (.lst [.int n6]):=ad;refine⟨.inl ⟨rfl,_,SqL.of g6⟩,⟨p,n6,d',?_,by lia,by lia,e6,λH7 v n7 t s7 e7 it a3=>?_⟩⟩
   .show [V.ref p,V.int (((d'+1:Nat):Int) - 1)]=[V.ref p,V.int (d':Int)]
    rw[show(((d'+1:Nat):Int) - 1)=(d':Int) by lia]
   have g7:=s7 _ _ nP g6;have J:=s6.trans s7;refine⟨by show 2<=sizeLine;decide,λC j=>?_⟩;have nt:C≠p:=λz=>by rw[z,e7]at j;cases j
   have ab:C≠f:=λz=>by rw[z,g7]at j;cases j
   have ft:H C=none:=(X.trans J).free e7 j;have s8:=Same.new (o:=.tup [.int (1+r6),v]) j;have vl:k.length=i:=by rw[<- r];exact hP.length.symm
   refine⟨f,k,_,rfl,rfl,s8 _ _ g7,by lia,?_⟩
   have ac:SameT (nw H (some f) g) (nw H (some f) (upd (upd H7 C (.tup [.int (1+r6),v])) f (.lst (k++[.ref C])))):=Same.t λb o h=>by
    obtain⟨x,h2,h3⟩:=cC h;have Y:b≠f:=λz=>h2 (by rw[z])
    have b2:b≠p:=λz=>by rw[z,hp]at x;cases x
    rw[cZ x h2,ag Y];exact s8 _ _ (J _ _ b2 h3)
   have a1:SameT (nw (upd (upd (upd g R (.lst [.int 3,.int 3,.int 12,.int ((10:Int) ^ (9:Int).toNat)])) p (.lst [.int n5])) p (.lst [.int n6])) none H7) (nw H (some f) (upd (upd H7 C (.tup [.int (1+r6),v])) f (.lst (k++[.ref C])))):=Same.t λb o h=>by
    obtain⟨x,h2,h3⟩:=cC h;have Y:b≠f:=λz=>by rw[z,g6]at x;cases x
    rw[cZ ((X.trans s6).free e6 x) (λz=>Y (by cases z;rfl)),ag Y];exact s8 _ _ h3
   refine⟨n7,G++[(1+r6,t)],_,_,_,?_,?_,ad,cS ⟨C,v,rfl,?_,by lia,by show 1+r6<=_;lia,IsTree.t a1 _ _ _ it⟩ (aq (PairR.t ac (IsTree.t ac _)) hP),Tb.lqs_snoc a3 L,by rw[length_append,r];rfl,rfl⟩
   .intro b o n h
    have Y:b≠f:=λz=>by rw[z,fP]at h;cases h
    rw[ag Y];exact s8 _ _ (J _ _ n (X _ _ n h))
   .rw[ag (Ne.symm nP)]
    exact s8 _ _ e7
   .rw[cZ ft (λz=>ab (by cases z;rfl)),ag ab]
    exact ad
  .rintro σ g ⟨m,G,k,x3,x4,X,Z,g4,hP,L,r,rfl⟩
   refine⟨f,k,rfl,.inl ⟨SqL.of g4,λl u=>?_⟩⟩;have nl:l≠p:=λz=>by rw[z,Z]at u;cases u
   have fl:H l=none:=X.free Z u;refine q _ _ m (.die G) (X.trans (SameP.of (Same.new u))) (by rw[ag (Ne.symm nl)];exact Z) ⟨l,k,rfl,by rw[cZ fl (by simp)];exact ad,aq (PairR.t ?_ (IsTree.t ?_ _)) hP,by lia,by lia⟩ (by rw[Tb.Lq];exact L)
   all_goals
    refine Same.t λb o h=>?_
    obtain⟨x,h2,h3⟩:=cC h;rw[cZ x (by simp),ag (aw h3 u)];exact h3
theorem qt(T:Txt K mg a):∀ D,FnOk P w K mg base CX0 (D+2) a.f_G a.d_G ["_law_state","_law_deep"] (lV D)
 | 0=>⟨λ_ _ _ _ ⟨_,_,_,_,h,_⟩=>absurd h (Nat.not_lt_zero _),λ_ _ _ _ _ _ _ _ _ _ _ _ _ ⟨_,_,_,_,h,_⟩=>absurd h (Nat.not_lt_zero _)⟩
 | D+1=>rE T D (qt T D)
end
open Tb (Tr)
def Srt(ns kept:List Int):Prop:=ns.Perm kept/\ns.Pairwise (·<=·)
def IsTold(a:Ad)(H:Hp)(v:V)(kept:List Int):Prop:=∃ x dx t ns,v=.ref x/\H x=some (.ins a.c_f dx [("rising",.ref t)])/\H t=some (.tup (ns.map V.int))/\Srt ns kept
def IsLam(H:Hp)(d:LamD)(fv:List Str)(v:V)(vals:List V):Prop:=∃ f c clos,v=.ref f/\H f=some (.ext (dW f d clos c))/\H c=some (.ext (fR c d.qual))/\clos.map (·.1)=fv/\(clos.map (·.2)).Nodup/\CellsAt H clos vals
theorem dN{H H':Hp}(s:SameT H H'):∀{clos:List (Str×Addr)}{vals:List V},CellsAt H clos vals->CellsAt H' clos vals
 | _,_,.nil=>.nil
 | _,_,.cons r t=>.cons (s.at r) (dN s t)
theorem IsLam.t{H H':Hp}{d:LamD}{g:List Str}{v:V}{a:List V}(s:SameT H H')(h:IsLam H d g v a):IsLam H' d g v a:=by
 obtain⟨f,c,b,j,i,k,n,o,l⟩:=h;exact⟨f,c,b,j,s.at i,s.at k,n,o,dN s l⟩
theorem IsTold.t{a:Ad}{H H':Hp}{v:V}{b:List Int}(s:SameT H H')(h:IsTold a H v b):IsTold a H' v b:=by
 obtain⟨x,j,t,g,d,c,f,i⟩:=h;exact⟨x,j,t,g,d,s.at c,s.at f,i⟩
abbrev fvT:List Str:=["_law_tree_here"]
def NodeR(H0 H:Hp)(d:Nat)(pt:Int×Tr)(y:V):Prop:=∃ q f w,y=.ref q/\H q=some (.tup [.int pt.1,f])/\IsLam H ld_L_make_1 fvT f [w]/\1<=pt.1/\pt.1<=1000000000/\IsTree H0 d w pt.2
theorem NodeR.t{b H H':Hp}{d:Nat}(s:SameT H H')(a:Int×Tr)(y:V)(h:NodeR b H d a y):NodeR b H' d a y:=by
 obtain⟨q,f,w,g,c,i,k,l,j⟩:=h;exact⟨q,f,w,g,s.at c,i.t s,k,l,j⟩
def IsDie(a:Ad)(H0 H:Hp)(d:Nat)(v:V)(ps:List (Int×Tr)):Prop:=∃ x dx l ys,v=.ref x/\H x=some (.ins a.c_g dx [("makes",.ref l)])/\H l=some (.lst ys)/\Paired (NodeR H0 H d) ps ys/\1<=ps.length/\ps.length<=5000
theorem IsDie.t{a:Ad}{b H H':Hp}{d:Nat}{v:V}{ps:List (Int×Tr)}(s:SameT H H')(h:IsDie a b H d v ps):IsDie a b H' d v ps:=by
 obtain⟨x,n,l,j,f,c,g,k,o,i⟩:=h;exact⟨x,n,l,j,f,s.at c,s.at g,aq (NodeR.t s) k,o,i⟩
def IsNode(a:Ad)(H0 H:Hp)(d:Nat)(v:V):Tr->Prop
 | .leaf ns=>IsTold a H v ns
 | .die ps=>∃ d',d=d'+1/\IsDie a H0 H d' v ps
theorem IsNode.t{a:Ad}{b H H':Hp}{d:Nat}{v:V}(s:SameT H H'):∀{t:Tr},IsNode a b H d v t->IsNode a b H' d v t
 | .leaf _,h=>IsTold.t s h
 | .die _,⟨d',e,h⟩=>⟨d',e,h.t s⟩
inductive spToldI(a:Ad)(vs:List V)(H:Hp)(Q:VK)(_E:XK):Prop
 | mk(x dx l:Addr)(ns:List Int)(h0:vs=[.ref x,.ref l])(h1:H x=some (.ins a.c_f dx []))(h2:(H l=some (.lst (ns.map V.int))\/H l=some (.tup (ns.map V.int))))(h3:ns.length<64)(h4:∀ H' t ns',(∀ b o,b≠x->H b=some o->H' b=some o)->H' x=some (.ins a.c_f dx [("rising",.ref t)])->H' t=some (.tup (ns'.map V.int))->Srt ns' ns->Q .non H'):spToldI a vs H Q _E
inductive spDieI(a:Ad)(vs:List V)(H:Hp)(Q:VK)(_E:XK):Prop
 | mk(x dx l:Addr)(xs:List V)(h0:vs=[.ref x,.ref l])(h1:H x=some (.ins a.c_g dx []))(h2:H l=some (.lst xs))(h3:∀ H' t,H t=none->(∀ b o,b≠x->H b=some o->H' b=some o)->H' x=some (.ins a.c_g dx [("makes",.ref t)])->H' t=some (.lst xs)->Q .non H'):spDieI a vs H Q _E
def vH(a:Ad):Sp:=λvs H Q _=>∃ v,vs=[v]/\TabsOk (tabs a) H/\∀ H' f,SameT H H'->TabsOk (tabs a) H'->IsLam H' ld_L_make_1 fvT f [v]->Q f H'
def jM(a:Ad)(H H':Hp)(u:V):Prop:=∀ x dx l,u=.ref x->H' x=some (.ins a.c_g dx [("makes",.ref l)])->H l=none
def kN(a:Ad):Sp:=λvs H Q _=>∃ v d t H0,vs=[v]/\IsTree H0 d v t/\SameT H0 H/\TabsOk (tabs a) H/\∀ H' u,SameT H H'->TabsOk (tabs a) H'->IsNode a H0 H' d u t->jM a H H' u->Q u H'
section
variable {P:Program}{w:World}{K:Frag}{mg:Str->Option Value}{base:Heap}{a:Ad}
theorem pL(T:Txt K mg a):FnOk P w K mg base CX0 1 a.i_f a.e_f ["self","kept"] (spToldI a):=by
 refine T.Fi_f.ok hX (λB H Q E h=>?_) (λcdv A outer s H B Q E hr h=>?_)
 .obtain⟨x,i,l,g,rfl,_⟩:=h;rfl
 .obtain⟨x,i,l,g,rfl,j,r,y,q⟩:=h
  refine⟨_,(am (vK (vr 0) (bP bz rfl T.z_tuple dH (aa (aD eO rfl T.z_sorted bU (aa (vr 1) af)) af)) rfl)),?_⟩;refine⟨l,g,rfl,r.imp SqL.of SqT.of,y,λp c D F C=>?_⟩;have k:=Same.new (o:=.lst (c.map V.int)) C;refine⟨p,_,rfl,.inl ⟨SqL.of ad,λt f=>?_⟩⟩;have v:=Same.new (o:=.tup (c.map V.int)) f;have d:=k.trans v;have u:t≠x:=λz=>by rw[z,k _ _ j]at f;cases f
  refine⟨x,a.c_f,i,[],rfl,d _ _ j,T.cl_f,T.na_Told_rising,(by decide),?_⟩;exact q _ t c (λb o n e=>by rw[ag n];exact d _ _ e) ad (by rw[ag u];exact ad) ⟨D,F⟩
theorem uO(T:Txt K mg a):FnOk P w K mg base CX0 1 a.i_g a.e_g ["self","parts"] (spDieI a):=by
 refine T.Fi_g.ok iQ (λp H Q E h=>?_) (λcdv A outer s H p Q E hr h=>?_)
 .obtain⟨x,f,l,d,rfl,_⟩:=h;rfl
 .obtain⟨x,f,l,d,rfl,g,j,q⟩:=h
  refine⟨_,(am (vK (vr 0) (bP fh rfl T.z_list eD (aa (vr 1) af)) rfl)),?_⟩;refine⟨l,d,rfl,.inl (SqL.of j),λt c=>?_⟩;have i:=Same.new (o:=.lst d) c;have k:t≠x:=λz=>by rw[z,g]at c;cases c
  refine⟨x,a.c_g,f,[],rfl,i _ _ g,T.cl_g,T.na_Die_makes,(by decide),?_⟩;exact q _ t c (λb o n e=>by rw[ag n];exact i _ _ e) ad (by rw[ag k];exact ad)
theorem made{H1 H':Hp}{x dx:Addr}{d f:HO}(a:H1 x=none)(c:H1 dx=none)(k:∀ b o,b≠x->(upd (upd H1 dx d) x f) b=some o->H' b=some o):Same H1 H':=λb o e=>by
 refine k b o (aw e a) ?_;rw[ag (aw e a),ag (aw e c)];exact e
theorem xD(T:Txt K mg a)(i:Bm mg base):FnOk P w K mg base CX0 1 a.f_s a.d_s ["_law_tree_here"] (vH a):=by
 refine T.F_s.okL T.lcd_s sx (by decide +kernel) (λo H Q E h=>?_) (λA outer s H o Q E hr h=>?_)
 .obtain⟨v,rfl,_⟩:=h;rfl
 .obtain⟨v,rfl,k,q⟩:=h
  refine⟨_,(lm (iy (d:=ld_L_make_1) rfl T.lch_s i rfl (by with_unfolding_all rfl) rfl (rh a) (.head _) T.tnd qX)),?_⟩;refine⟨k,λj n r l g x c f=>?_⟩;exact λu b p=>q _ _ (l.trans b.t) (g.same b) ⟨j,n,_,rfl,b _ _ c,b _ _ f,rfl,by simp,.cons (p 0 _ _ _ rfl rfl (by with_unfolding_all rfl)) .nil⟩
theorem tE{H H':Hp}{D:Addr}(s:SameT H H')(h:H D=none):SameT H (untr H' D):=λb o e=>by
 rw[aO (aw e h)];exact s b o e
theorem iu{H H':Hp}{D:Addr}(s:SameT H H'):SameT (untr H D) (untr H' D):=λb o e=>by
 by_cases hb:b=D
 .rw[hb,bT]at e;cases e
 .rw[aO hb]at e ⊢
  exact s b o e
theorem ja{H:Hp}{D:Addr}{o:HO}:SameT (untr H D) (untr (upd H D o) D):=λb a e=>by
 by_cases hb:b=D
 .rw[hb,bT]at e;cases e
 .rw[aO hb]at e
  rw[aO hb,ag hb];exact SameT.refl b a e
theorem zQ{H:Hp}{D:Addr}{o:HO}:SameT (untr H D) (upd H D o):=λb a e=>by
 by_cases hb:b=D
 .rw[hb,bT]at e;cases e
 .rw[aO hb]at e
  rw[ag hb];exact SameT.refl b a e
theorem cR{a c:Type}{r:a->c->Prop}{b:List a}{x:a}{i:Nat}{ys:List c}{y:c}(h:Paired r (b.take i) ys)(e:b[i]? = some x)(q:r x y):Paired r (b.take (i+1)) (ys++[y]):=by
 rw[take_add_one,e];exact cS q h
theorem lE(T:Txt K mg a)(hB:Bm mg base):FnOk P w K mg base CX0 3 a.f_D a.d_D ["_law_tree_here"] (kN a):=by
 have a2:FnOk P w K mg base CX0 1 _ _ _ (spToldI a):=pL T;have a':FnOk P w K mg base CX0 1 _ _ _ (spDieI a):=uO T;have az:FnOk P w K mg base CX0 2 _ _ _ _:=(xD T hB).mono (by decide);refine T.F_D.ok sc_D (λY H Q E h=>?_) (λcdv A outer s H Y Q E hr h=>?_)
 .obtain⟨v,d,t,H0,rfl,_⟩:=h;rfl
 .obtain⟨v,d,t,H0,rfl,ht,s0,hT,q⟩:=h
  refine⟨_,(aj (cX (gw (aD dY rfl T.z_isinstance bL (aa (vr 0) (aa (fj (v:=.ty "list") rfl T.z_list eD rfl) af)))) (am (aB (i8 T.mk_f a2 hr rfl T.mc_f T.Bi_f .nil ar (aa (bP fh rfl T.z_list eD (aa (vr 0) af)) af)))) bO) (aj (vP rfl (i:=1) sc_D.nd rfl rfl (by with_unfolding_all rfl) (N:=["_law_many","_law_part"]) (ix:=[none,none]) ⟨rfl,rfl,rfl,rfl,trivial⟩ (bV (vr 0)) ⟨λC s H fp=>(di (K:=K) (n:=2) rfl rfl (av (au (i:=0) (show List.Nodup (["_law_many","_law_part"]:List Str) by decide +kernel) rfl (Or.inl rfl)) (av (au (i:=1) (show List.Nodup (["_law_many","_law_part"]:List Str) by decide +kernel) rfl (Or.inl rfl)) bi))),λC s H fp=>bX,λC s H fp=>(bH (aa (vr 0) (aa (ap az hr rfl T.m_s T.F_s.kp T.B_s .nil ar (aa (vr 1) af)) af)))⟩) (aj (aL (i:=2) sc_D.nd rfl (Or.inl rfl) (i8 T.mk_g a' hr rfl T.mc_g T.Bi_g .nil ar (aa (vr 1) af))) (aj (fg (pe_m.clear (vr 1))) (am (aB (vr 2))))))),xL ?_⟩;intro bn bl bp bm;have a4:sizeLine=16777216:=sizeLine_eq;cases t with
  | leaf ns =>
   obtain⟨p,rfl,G,hl⟩:=(ax d).mp ht;have G:=s0.at G;refine⟨_,_,_,true,rfl,rfl,.lst G,rfl,?_⟩;refine⟨p,_,rfl,.inl (SqL.of G),λl fl=>?_⟩;have s1:=Same.new (o:=.lst (ns.map V.int)) fl;have Z:(upd H l (.lst (ns.map V.int))) l=some (.lst (ns.map V.int)):=ad;generalize upd H l (.lst (ns.map V.int))=H1 at s1 Z;intro x I X F a0;have s9:Same H1 (upd (upd H1 I (.own x)) x (.ins a.c_f I [])):=λb o e=>by rw[ag (aw e X),ag (aw e F)];exact e
   refine⟨x,I,l,ns,rfl,ad,s9 _ _ Z |> .inl,by have:=hl.1;lia,λj t a8 k R M g3=>⟨rfl,?_⟩⟩;have sm:=s1.trans (made X F k);refine q _ _ sm.t (hT.same sm) ⟨x,I,t,a8,rfl,R,M,g3⟩ λx2 a6 l2 e2 L=>?_
   cases e2;rw[R]at L;injection L with L
   injection L with _ _ e4
   injection e4 with e4 _
   injection e4 with e5 _
   exact absurd e5 (by decide)
  | die ps =>
   obtain⟨d',rfl,p,Y,rfl,G,hP,ba,bo⟩:=cO ht;have G:=s0.at G;refine⟨_,_,_,false,rfl,rfl,.tup G,rfl,?_⟩;refine .inr ⟨⟨_,SqT.of G⟩,λD hD=>?_⟩;have bb:TabsOk (tabs a) (upd H D (.lst [])):=hT.same (Same.new hD);have ext:∀{j:Hp},TabsOk (tabs a) j->∀{B:List V}{ac:List V},j D=some (.lst B)->TabsOk (tabs a) (upd j D (.lst ac)):=λbc B ac e=>bc.put (λps z=>by rw[e]at z;cases z) λφ z=>by rw[e]at z;cases z
   let Pw1:PvL:=λi B j=>SameT H j/\TabsOk (tabs a) j/\j D=some (.lst B)/\i<=Y.length/\Paired (NodeR H0 (untr j D) d') (ps.take i) B
   refine fy (K:=K) (a:=p) (xs:=Y) Pw1
    ⟨(Same.new hD).t,bb,ad,Nat.zero_le _,.nil⟩ (λi B j h=>SqT.of (h.1.at G)) (λi B j h=>h.2.2.1) ?_ ?_
   .rintro i y B j P' hy ⟨t1,J,u,hi,hc⟩ as
    obtain⟨⟨ab,t⟩,a7,q1,w',rfl,a3,m0,m1,hw⟩:=aJ hP hy;refine⟨q1,_,rfl,SqT.of (t1.at (s0.at a3)),rfl,_,_,rfl,_,_,rfl,rfl,trivial,?_⟩;refine⟨w',rfl,J,λH2 f t2 a9 hf=>?_⟩;have g:=t2.at u;refine⟨by show 2<=sizeLine;decide,λq2 W=>?_⟩;have nq:q2≠D:=λz=>by rw[z,g]at W;cases W
    have s3:=Same.new (o:=.tup [.int ab,f]) W;have al:=s3 _ _ g;have a5:i<Y.length:=(List.getElem?_eq_some_iff.mp hy).1;have yl:B.length<=4:=by rw[<- hc.length,length_take];lia
    have bg:=(t1.trans t2).trans s3.t;refine⟨al,by lia,as _ _ ⟨bg.put hD,ext (a9.same s3) al,ad,a5,cR (aq (NodeR.t ?_) hc) a7 ⟨q2,f,w',rfl,?_,?_,m0,m1,?_⟩⟩⟩
    .exact(iu (t2.trans s3.t)).trans ja
    .rw[aO nq,ag nq];exact ad
    .have a1:IsLam (untr H2 D) ld_L_make_1 fvT f [w']:=by
      obtain⟨f',c,an,R,M,g3,g4,g5,g6⟩:=hf;have ne:∀ b φ,H2 b=some (.ext φ)->b≠D:=λb φ e z=>by rw[z,g]at e;cases e
      refine⟨f',c,an,R,by rw[aO (ne _ _ M)];exact M,by rw[aO (ne _ _ g3)];exact g3,g4,g5,?_⟩
      revert g6
      clear M g3 g4 g5;generalize [w']=ws;intro g6
      induction g6 with
      | nil=>exact .nil
      | cons r _ ih=>exact .cons (by rw[aO (ne _ _ r)];exact r) ih
     exact a1.t ((iu s3.t).trans ja)
    .exact hw
   .rintro B j ⟨t1,J,u,hi,hc⟩
    rw[show Y.length=ps.length from hP.length.symm,take_length]at hc;intro x I X F a0;have s9:Same j (upd (upd j I (.own x)) x (.ins a.c_g I [])):=λb o e=>by rw[ag (aw e X),ag (aw e F)];exact e
    refine⟨x,I,D,B,rfl,ad,s9 _ _ u,λH2 l fl k R M=>⟨rfl,?_⟩⟩;have s2:=made X F k;have g:=s2 _ _ u;have nl:l≠D:=λz=>by rw[z,s9 _ _ u]at fl;cases fl
    have nx:x≠D:=λz=>by rw[z,u]at X;cases X
    refine⟨.inl ⟨rfl,_,SqL.of g⟩,D,_,rfl,rfl,g,?_⟩;refine q _ _ ((t1.trans s2.t).put hD) (ext (J.same s2) g) ⟨d',rfl,x,I,l,B,rfl,by rw[ag nx];exact R,by rw[ag nl];exact M,aq (NodeR.t ((iu s2.t).trans zQ)) hc,ba,by lia⟩ λx2 a6 l2 e2 L=>?_
    cases e2;rw[ag nx,R]at L;cases L;exact(t1.trans s9.t).free fl
end
open Tb (Tr)
theorem ul{b p:Addr}{v:V}(e:HO.ext (cq b (.ref p))=HO.ext (cq b v)):v=.ref p:=by
 injection e with e
 obtain⟨h,a⟩:=i3 b { cls:=.type "cell",data:=.cell (some (.ref p)) } (by intro z;cases z);have y:cq b v h:=by rw[<- e];exact⟨_,_,a,rfl,rfl⟩
 obtain⟨o,u,c,d,r⟩:=y;rw[a]at c;cases c;cases d
 cases v <;> first | (obtain⟨_,z⟩:=r;cases z;done) | (cases r;rfl) | (cases r;done)
theorem LamOk.mono{P:Program}{w:World}{K:Frag}{mg:Str->Option Value}{a:Heap}{j k:Nat}{d:LamD}{l ps:List Str}{sp:List V->Sp}(L:LamOk P w K mg a j d l ps sp)(h:j<=k):LamOk P w K mg a k d l ps sp:=λA b s H f c g p o i Q E n=>L A b s H f c g p o i Q E (n.mono h)
theorem TabsOk.untrs{b:ni}{H:Hp}{a:List (Str×Addr)}{d:List V}(g:TabsOk b H)(f:CellsAt H a d):TabsOk b (untrs H (a.map (·.2))):=λq k=>by
 obtain⟨i,n,j,h⟩:=g q k;exact⟨i,aI f n (λv z=>nomatch z),j,λl hl=>(h l hl).imp id λ⟨c,x,y⟩=>⟨c,x,aI f y λv=>cT⟩⟩
theorem back{H H' c:Hp}{a:List (Str×Addr)}(s:SameT (untrs H (a.map (·.2))) H')(d:Same H' c)(f:∀ p∈a,c p.2=H p.2):SameT H c:=λb o e=>by
 by_cases hb:b∈a.map (·.2)
 .obtain⟨p,g,rfl⟩:=mem_map.mp hb
  rw[f p g,e];exact⟨λ_=>rfl,o,rfl⟩
 .exact(s.trans d.t) b o (by rw[aG hb];exact e)
theorem jj{H:Hp}{b:Addr}:∀{clos:List (Str×Addr)}{vals:List V},CellsAt H clos vals->b∈clos.map (·.2)->∃ v∈vals,H b=some (.ext (cq b v))
 | _,_,.nil,h=>by cases h
 | _,_,.cons r t,h=>by
  rcases mem_cons.mp h with rfl | h
  .exact⟨_,mem_cons_self ..,r⟩
  .obtain⟨v,a,e⟩:=jj t h
   exact⟨v,mem_cons_of_mem _ a,e⟩
theorem fQ{H:Hp}{b:List (Str×Addr)}{a:List V}(d:CellsAt H b a)(f:∀ v∈a,∃ p,v=.ref p):∀{clos:List (Str×Addr)}{vals:List V},(∀ v∈vals,v ∉ a)->CellsAt H clos vals->CellsAt (untrs H (b.map (·.2))) clos vals
 | _,_,_,.nil=>.nil
 | _,_,hd,.cons r t=>by
  refine .cons ?_ (fQ d f (λv h=>hd v (mem_cons_of_mem _ h)) t);rw[aG λz=>?_]
  .exact r
  .obtain⟨i,c,e⟩:=jj d z
   obtain⟨p,rfl⟩:=f i c;rw[r]at e;have g:=ul (Option.some.inj e).symm;exact hd _ (mem_cons_self ..) (by rw[g];exact c)
abbrev fvC:List Str:=["make","carry"]
abbrev fvB:List Str:=["go"]
def sqO:HO->Bool
 | .lst _=>true
 | .tup _=>true
 | _=>false
def SqH(H:Hp):Prop:=∀ b o,H b=some o->sqO o=true
def sqH(H:Hp):Hp:=λb=>match H b with
 | some o=>if sqO o=true then some o else none
 | none=>none
theorem eQ{H:Hp}{b:Addr}{o:HO}(e:sqH H b=some o):H b=some o/\sqO o=true:=by
 unfold sqH at e;cases h:H b with
 | none=>rw[h]at e;cases e
 | some o' =>
  rw[h]at e;dsimp only at e
  by_cases c:sqO o'=true
  .rw[if_pos c]at e;cases e;exact⟨rfl,c⟩
  .rw[if_neg c]at e;cases e
theorem pk{H:Hp}{b:Addr}{o:HO}(c:sqO o=true)(e:H b=some o):sqH H b=some o:=by
 unfold sqH;rw[e];exact if_pos c
theorem oZ{H:Hp}:SqH (sqH H):=λb o e=>(eQ e).2
theorem IsTree.m{H H':Hp}(s:∀ b o,sqO o=true->H b=some o->H' b=some o):∀ d v t,IsTree H d v t->IsTree H' d v t
 | d,v,.leaf ns,h=>by
  obtain⟨p,c,a,f⟩:=(ax d).mp h;exact(ax d).mpr ⟨p,c,s _ _ rfl a,f⟩
 | 0,v,.die ps,h=>False.elim h
 | d+1,v,.die ps,h=>by
  obtain⟨p,l,c,a,f,j,n⟩:=h;exact⟨p,l,c,s _ _ rfl a,aq (λy x ⟨q,w,r,u,g,i,k⟩=>⟨q,w,r,s _ _ rfl u,g,i,IsTree.m s d _ _ k⟩) f,j,n⟩
def spL(a:Ad):List V->Sp:=λvals vs H Q _=>∃ w d t H0,vals=[w]/\vs=[]/\IsTree H0 d w t/\SameT H0 H/\TabsOk (tabs a) H/\SqH H0/\∀ H' u,SameT H H'->TabsOk (tabs a) H'->IsNode a H0 H' d u t->jM a H H' u->Q u H'
theorem lsT:LamScope ld_L_make_1 fvT []:=⟨rfl,rfl,rfl,by decide +kernel,by decide +kernel,by decide +kernel,by decide +kernel,by decide +kernel⟩
theorem lsC:LamScope aC fvC []:=⟨rfl,rfl,rfl,by decide +kernel,by decide +kernel,by decide +kernel,by decide +kernel,by decide +kernel⟩
theorem lsB:LamScope ld_behind_1 fvB ["after"]:=⟨rfl,rfl,rfl,by decide +kernel,by decide +kernel,by decide +kernel,by decide +kernel,by decide +kernel⟩
def spV(u:V):Sp:=λvs H Q _=>∃ v,vs=[v]/\Q u H
def wd(a:Ad):Sp:=λvs H Q _=>∃ x dx t,vs=[.ref x]/\H x=some (.ins a.c_f dx [("rising",.ref t)])/\Q (.ref t) H
def RawR(H:Hp)(pt:Int×V)(y:V):Prop:=∃ q,y=.ref q/\H q=some (.tup [.int pt.1,pt.2])/\1<=pt.1
theorem RawR.t{H H':Hp}(s:SameT H H')(a:Int×V)(y:V)(h:RawR H a y):RawR H' a y:=by
 obtain⟨q,c,b,d⟩:=h;exact⟨q,c,s.at b,d⟩
def IsRaw(a:Ad)(H:Hp)(v:V)(rs:List (Int×V)):Prop:=∃ x dx l ys,v=.ref x/\H x=some (.ins a.c_g dx [("makes",.ref l)])/\H l=some (.lst ys)/\Paired (RawR H) rs ys/\1<=rs.length/\rs.length<=5000
theorem IsRaw.t{a:Ad}{H H':Hp}{v:V}{b:List (Int×V)}(s:SameT H H')(h:IsRaw a H v b):IsRaw a H' v b:=by
 obtain⟨x,k,l,i,d,c,f,j,n,g⟩:=h;exact⟨x,k,l,i,d,s.at c,s.at f,aq (RawR.t s) j,n,g⟩
def AO:Sp:=λvs H Q _=>∃ v,vs=[v]/\∀ l,H l=none->Q (.ref l) (upd H l (.lst []))
def yU(rs:List (Int×V)):Int:=(rs.map (·.1)).sum
def zh(a:Ad):Sp:=λvs H Q _=>∃ v rs,vs=[v]/\IsRaw a H v rs/\∀ H',Same H H'->Q (.int (yU rs)) H'
abbrev fvO:List Str:=["other"]
abbrev fvK:List Str:=["kept"]
abbrev fvS:List Str:=["_law_sides"]
theorem lsO:LamScope eW fvO ["kept"]:=⟨rfl,rfl,rfl,by decide +kernel,by decide +kernel,by decide +kernel,by decide +kernel,by decide +kernel⟩
theorem lsK:LamScope dI fvK ["more"]:=⟨rfl,rfl,rfl,by decide +kernel,by decide +kernel,by decide +kernel,by decide +kernel,by decide +kernel⟩
theorem lsS:LamScope dS fvS ["_law_kept_here"]:=⟨rfl,rfl,rfl,by decide +kernel,by decide +kernel,by decide +kernel,by decide +kernel,by decide +kernel⟩
section
variable {P:Program}{w:World}{K:Frag}{mg:Str->Option Value}{base:Heap}{a:Ad}
theorem vp(T:Txt K mg a):FnOk P w K mg base CX0 1 a.x_j a.y_j ["self"] (spV (.bl true)):=by
 refine T.F_j.ok iR (λb H Q E h=>?_) (λcdv A outer s H b Q E hr h=>?_)
 .obtain⟨v,rfl,_⟩:=h;rfl
 .obtain⟨v,rfl,q⟩:=h
  exact⟨_,(am (aB mR)),q⟩
theorem yf(T:Txt K mg a):FnOk P w K mg base CX0 1 a.x_v a.y_v ["self"] (spV (.int 0)):=by
 refine T.F_v.ok jQ (λb H Q E h=>?_) (λcdv A outer s H b Q E hr h=>?_)
 .obtain⟨v,rfl,_⟩:=h;rfl
 .obtain⟨v,rfl,q⟩:=h
  exact⟨_,(am (aB ak)),q⟩
theorem uX(T:Txt K mg a):FnOk P w K mg base CX0 1 a.x_m a.y_m ["self"] (wd a):=by
 refine T.F_m.ok kY (λd H Q E h=>?_) (λcdv A outer s H d Q E hr h=>?_)
 .obtain⟨x,b,t,rfl,_⟩:=h;rfl
 .obtain⟨x,b,t,rfl,c,q⟩:=h
  exact⟨_,(am (aB (gA (vr 0) rfl))),x,_,b,_,_,rfl,c,T.cl_f,T.na_Told_rising,rfl,q⟩
theorem vo(T:Txt K mg a):FnOk P w K mg base CX0 1 a.x_k a.y_k ["self"] (spV (.bl false)):=by
 refine T.F_k.ok jr (λb H Q E h=>?_) (λcdv A outer s H b Q E hr h=>?_)
 .obtain⟨v,rfl,_⟩:=h;rfl
 .obtain⟨v,rfl,q⟩:=h
  exact⟨_,(am (aB mR)),q⟩
theorem tF(T:Txt K mg a):FnOk P w K mg base CX0 1 a.x_r a.y_r ["self"] (spV .non):=by
 refine T.F_r.ok m9 (λb H Q E h=>?_) (λcdv A outer s H b Q E hr h=>?_)
 .obtain⟨v,rfl,_⟩:=h;rfl
 .obtain⟨v,rfl,q⟩:=h
  exact⟨_,(am (aB zo)),q⟩
theorem yv(T:Txt K mg a)(hB:Bm mg base):LamOk P w K mg base 4 ld_L_make_1 fvT [] (spL a):=by
 have u:FnOk P w K mg base CX0 3 _ _ _ (kN a):=lE T hB;refine io lsT (λpm ab g c M X=>match M,X with | [],_=>rfl) (λvals vs H Q E h=>?_) (λA outer s H f c g vals vs Q E hr hfv ca h=>?_)
 .obtain⟨I,d,t,r,rfl,rfl,_⟩:=h;rfl
 .obtain⟨I,d,t,r,rfl,rfl,ht,J,hT,y,q⟩:=h
  refine⟨_,(ap u hr rfl T.m_D T.F_D.kp T.B_D .nil ar (aa (vr 0) af)),?_⟩
  have G:SameT r (untrs H (g.map (·.2))):=λb o e=>by
   have nb:b ∉ g.map (·.2):=λz=>by
    obtain⟨v,Y⟩:=ca.at z;have c:=y b o e;have i:=J.at e (by cases o <;> first | rfl | cases c);rw[Y]at i;cases i;cases c
   rw[aG nb];exact J b o e
  refine⟨I,d,t,r,rfl,ht,G,TabsOk.untrs hT ca,λH' v t' B j L=>λH3 s3 hc=>?_⟩;refine q _ _ (back t' s3 hc) (B.same s3) (j.t s3.t) λx dx l e1 i=>?_
  cases hh:H l with
  | none=>rfl
  | some o =>
   exfalso;subst e1;cases t with
   | leaf ns =>
    obtain⟨R,D,t2,W,F,n,_⟩:=j;cases F;rw[s3 _ _ n]at i;injection i with i
    injection i with _ _ e4
    injection e4 with e4 _
    injection e4 with e5 _
    exact absurd e5 (by decide)
   | die ps =>
    obtain⟨d',_,R,D,l',ys,F,n,g2,_⟩:=j;cases F;rw[s3 _ _ n]at i;cases i;have k:=L x dx l rfl n
    by_cases hb:l∈g.map (·.2)
    .obtain⟨p,N,e7⟩:=mem_map.mp hb
     obtain⟨v',Z⟩:=ca.at hb;have C:=hc p N;rw[e7]at C;rw[s3 _ _ g2,Z]at C;cases C
    .rw[aG hb,hh]at k
     cases k
theorem AW(T:Txt K mg a):FnOk P w K mg base CX0 1 a.x_C a.y_C ["self"] AO:=by
 refine T.F_C.ok jP (λc H Q E h=>?_) (λcdv A outer s H c Q E hr h=>?_)
 .obtain⟨v,rfl,_⟩:=h;rfl
 .obtain⟨v,rfl,q⟩:=h
  exact⟨_,(am (aB (cV af))),Nat.zero_le _,λl b=>q l b⟩
theorem xU(T:Txt K mg a):FnOk P w K mg base CX0 1 a.x_A a.y_A ["self"] (zh a):=by
 refine T.F_A.ok lW (λW H Q E h=>?_) (λcdv A outer s H W Q E hr h=>?_)
 .obtain⟨v,d,rfl,_⟩:=h;rfl
 .obtain⟨v,d,rfl,⟨x,R,l,j,rfl,Y,F,B,L,M⟩,q⟩:=h
  have u:sizeLine=16777216:=sizeLine_eq;refine⟨_,(am (aB (aD (fZ rfl) rfl T.z_sum lu (aa (bY rfl (N:=["many","make"]) (ix:=[none,none]) ⟨rfl,rfl,rfl,rfl,trivial⟩ (bV (gA (vr 0) rfl)) ⟨λC s H G=>(di (K:=K) (n:=2) rfl rfl (av (au (i:=0) (show List.Nodup (["many","make"]:List Str) by decide +kernel) rfl (Or.inl rfl)) (av (au (i:=1) (show List.Nodup (["many","make"]:List Str) by decide +kernel) rfl (Or.inl rfl)) bi))),λC s H G=>bX,λC s H G=>(vr 0)⟩) af)))),?_⟩;refine⟨x,_,R,_,_,rfl,Y,T.cl_g,T.na_Die_makes,rfl,.inl ⟨⟨_,SqL.of F⟩,λD z=>?_⟩⟩
  let Pw1:PvL:=λi g c=>Same H c/\c D=some (.lst g)/\i<=d.length/\g=((d.take i).map (·.1)).map V.int
  refine da (K:=K) (a:=l) (xs:=j) Pw1 ⟨Same.new z,ad,Nat.zero_le _,rfl⟩ (λi j c h=>SqL.of (h.1 _ _ F)) (λi j c h=>h.2.1) ?_ ?_
  .rintro i y g c P' X ⟨k,b,Z,rfl⟩ o
   obtain⟨⟨I,t⟩,f,J,rfl,p,_⟩:=aJ B X;have r:i<d.length:=(List.getElem?_eq_some_iff.mp f).1;refine⟨J,_,rfl,SqT.of (k _ _ p),rfl,_,_,rfl,_,_,rfl,rfl,trivial,b,by rw[length_map,length_map,length_take];lia,o _ _ ⟨k.put z,ad,r,?_⟩⟩;rw[take_add_one,f];simp
  .rintro g c ⟨k,b,_,rfl⟩
   rw[show j.length=d.length from B.length.symm,take_length]at b;exact⟨D,_,rfl,SqL.of b,q _ k⟩
end
open Tb (Tr bnd cQ)
def IsPl(a:Ad)(H:Hp)(v:V)(t:Tr):Prop:=∃ H0 d,SqH H0/\SameT H0 H/\IsNode a H0 H d v t/\Tb.Lb t
theorem IsPl.t{a:Ad}{H H':Hp}{v:V}{t:Tr}(s:SameT H H')(h:IsPl a H v t):IsPl a H' v t:=by
 obtain⟨g,d,c,b,f,i⟩:=h;exact⟨g,d,c,b.trans s,f.t s,i⟩
def IsMkP(H:Hp)(m:V)(t:Tr):Prop:=∃ w H0 d,IsLam H ld_L_make_1 fvT m [w]/\SqH H0/\SameT H0 H/\IsTree H0 d w t
theorem IsMkP.t{H H':Hp}{m:V}{t:Tr}(s:SameT H H')(h:IsMkP H m t):IsMkP H' m t:=by
 obtain⟨w,f,d,b,a,c,g⟩:=h;exact⟨w,f,d,b.t s,a,c.trans s,g⟩
def IsGo(b:Bool)(a:Ad)(H:Hp)(go:V)(g:List Int->Tr)(ev:Bool):Prop :=
 (b=true/\∃ u t,IsLam H eW fvO go [u]/\IsPl a H u t/\g=(λns=>bnd t λms=>.leaf (ns++ms))/\ev=false) \/
 (∃ kt ns,IsLam H dI fvK go [.ref kt]/\H kt=some (.tup (ns.map V.int))/\ns.length<=12/\g=(λms=>.leaf (ns++ms))/\ev=false) \/
 ∃ s,IsLam H dS fvS go [.int s]/\1<=s/\s<=5/\g=Tb.gone s/\ev=true
theorem IsGo.t{b:Bool}{a:Ad}{H H':Hp}{i:V}{g:List Int->Tr}{j:Bool}(s:SameT H H')(h:IsGo b a H i g j):IsGo b a H' i g j:=by
 rcases h with⟨k,u,t,d,c,f⟩ | ⟨l,o,d,c,f⟩ | ⟨n,d,c⟩
 .exact .inl ⟨k,u,t,d.t s,c.t s,f⟩
 .exact .inr (.inl ⟨l,o,d.t s,s.at c,f⟩)
 .exact .inr (.inr ⟨n,d.t s,c⟩)
def CdR(H:Hp)(cr:V)(g:List Int->Tr)(ev:Bool)(pt:Int×Tr)(y:V):Prop:=∃ q f m t,y=.ref q/\H q=some (.tup [.int pt.1,f])/\1<=pt.1/\pt.1<=1000000000/\IsLam H aC fvC f [m,cr]/\IsMkP H m t/\pt.2=bnd t g/\(ev=true->Tb.Par 0 t)
theorem CdR.t{H H':Hp}{c:V}{g:List Int->Tr}{b:Bool}(s:SameT H H')(a:Int×Tr)(y:V)(h:CdR H c g b a y):CdR H' c g b a y:=by
 obtain⟨q,f,m,t,i,d,j,l,n,k,o⟩:=h;exact⟨q,f,m,t,i,s.at d,j,l,n.t s,k.t s,o⟩
def IsCd(a:Ad)(H:Hp)(v:V)(ps:List (Int×Tr)):Prop:=∃ x dx l ys cr go g ev,v=.ref x/\H x=some (.ins a.c_g dx [("makes",.ref l)])/\H l=some (.lst ys)/\IsLam H ld_behind_1 fvB cr [go]/\IsGo true a H go g ev/\Paired (CdR H cr g ev) ps ys/\1<=ps.length/\ps.length<=5000
theorem IsCd.t{a:Ad}{H H':Hp}{v:V}{ps:List (Int×Tr)}(s:SameT H H')(h:IsCd a H v ps):IsCd a H' v ps:=by
 obtain⟨x,n,l,j,r,b,g,o,c,f,d,k,p,i,q⟩:=h;exact⟨x,n,l,j,r,b,g,o,c,s.at f,s.at d,k.t s,p.t s,aq (CdR.t s) i,q⟩
def IsNd(a:Ad)(H:Hp)(v:V)(t:Tr):Prop:=IsPl a H v t\/(∃ ps,t=.die ps/\IsCd a H v ps)\/∃ ns,t=.leaf ns/\IsTold a H v ns
theorem IsNd.t{a:Ad}{H H':Hp}{v:V}{t:Tr}(s:SameT H H')(h:IsNd a H v t):IsNd a H' v t:=by
 rcases h with h | ⟨c,e,h⟩ | ⟨b,e,h⟩
 .exact .inl (h.t s)
 .exact .inr (.inl ⟨c,e,h.t s⟩)
 .exact .inr (.inr ⟨b,e,h.t s⟩)
theorem zJ{H:Hp}{g:List (Str×Addr)}{a:List V}(i:CellsAt H g a)(A:∀ v∈a,∃ p,v=.ref p)(u:∀ v∈a,∀ p xs,v=.ref p->H p≠some (.lst xs)/\H p≠some (.tup xs)){m:V}{t:Tr}(h:IsMkP H m t):IsMkP (untrs H (g.map (·.2))) m t:=by
 obtain⟨w,q,d,I,s,j,l⟩:=h
 have k:∀ b o,q b=some o->b ∉ g.map (·.2):=λb o e z=>by
  obtain⟨v,B⟩:=i.at z;have c:=s b o e;have r:=j.at e (by cases o <;> first | rfl | cases c);rw[B]at r;cases r;cases c
 refine⟨w,q,d,?_,s,λb o e=>by rw[aG (k b o e)];exact j b o e,l⟩;obtain⟨f,c,G,K,D,J,C,E,y⟩:=I
 have x:w ∉ a:=λz=>by
  cases t with
  | leaf ns =>
   obtain⟨p,rfl,n,_⟩:=(ax d).mp l;exact(u _ z p (ns.map V.int) rfl).1 (j.at n)
  | die ps =>
   obtain⟨L,rfl,p,F,rfl,n,_⟩:=cO l;exact(u _ z p F rfl).2 (j.at n)
 refine⟨f,c,G,K,aI i D λv=>eI,aI i J λv=>cT,C,E,fQ i A (λv hv z=>?_) y⟩;rw[mem_singleton.mp hv]at z;exact x z
theorem vM{a:Ad}{H:Hp}{g:List (Str×Addr)}{i:List V}(j:CellsAt H g i)(Q:∀ v∈i,∃ p,v=.ref p)(M:∀ v∈i,∀ p xs,v=.ref p->H p≠some (.lst xs)/\H p≠some (.tup xs)){u:V}{t:Tr}(h:IsPl a H u t):IsPl a (untrs H (g.map (·.2))) u t:=by
 obtain⟨s,d,L,n,N,h5⟩:=h
 have E:∀ b o,s b=some o->b ∉ g.map (·.2):=λb o e z=>by
  obtain⟨v,Y⟩:=j.at z;have c:=L b o e;have J:=n.at e (by cases o <;> first | rfl | cases c);rw[Y]at J;cases J;cases c
 have s0:SameT s (untrs H (g.map (·.2))):=λb o e=>by rw[aG (E b o e)];exact n b o e
 refine⟨s,d,L,s0,?_,h5⟩;cases t with
 | leaf ns =>
  obtain⟨x,C,t2,A,G,D,F,B⟩:=N;exact⟨x,C,t2,A,G,aI j D (λv z=>nomatch z),aI j F (λv z=>nomatch z),B⟩
 | die ps =>
  obtain⟨K,e,x,C,l,Z,G,D,F,B,g5,P⟩:=N;refine⟨K,e,x,C,l,Z,G,aI j D (λv z=>nomatch z),aI j F (λv z=>nomatch z),aq (λpt y r=>?_) B,g5,P⟩;obtain⟨q,f,w,r1,T,r3,r4,r5,k⟩:=r;refine⟨q,f,w,r1,aI j T (λv z=>nomatch z),?_,r4,r5,k⟩;obtain⟨f',c,cl,k1,k2,k3,W,R,X⟩:=r3;refine⟨f',c,cl,k1,aI j k2 λv=>eI,aI j k3 λv=>cT,W,R,fQ j Q (λv hv z=>?_) X⟩;rw[mem_singleton.mp hv]at z;cases hp2:pt.2 with
  | leaf ns =>
   rw[hp2]at k;obtain⟨p,rfl,I,_⟩:=(ax K).mp k;exact(M _ z p (ns.map V.int) rfl).1 (n.at I)
  | die ps2 =>
   rw[hp2]at k;obtain⟨d2,rfl,p,vs,rfl,I,_⟩:=cO k;exact(M _ z p vs rfl).2 (n.at I)
open Tb (Tr bnd cQ)
def pG(a:Ad):Sp:=λvs H Q _=>∃ mk cr,vs=[mk,cr]/\TabsOk (tabs a) H/\∀ H' f,SameT H H'->TabsOk (tabs a) H'->IsLam H' aC fvC f [mk,cr]->Q f H'
def CarR(cr:V)(H:Hp)(r:Int×V)(y:V):Prop:=∃ q f,y=.ref q/\H q=some (.tup [.int r.1,f])/\1<=r.1/\IsLam H aC fvC f [r.2,cr]
theorem CarR.t{a:V}{H H':Hp}(s:SameT H H')(r:Int×V)(y:V)(h:CarR a H r y):CarR a H' r y:=by
 obtain⟨q,f,c,b,d,g⟩:=h;exact⟨q,f,c,s.at b,d,g.t s⟩
def IsCar(a:Ad)(H:Hp)(cr v:V)(rs:List (Int×V)):Prop:=∃ x dx l ys,v=.ref x/\H x=some (.ins a.c_g dx [("makes",.ref l)])/\H l=some (.lst ys)/\Paired (CarR cr H) rs ys/\1<=rs.length/\rs.length<=5000
theorem IsCar.t{a:Ad}{H H':Hp}{c v:V}{b:List (Int×V)}(s:SameT H H')(h:IsCar a H c v b):IsCar a H' c v b:=by
 obtain⟨x,n,l,j,f,d,g,k,o,i⟩:=h;exact⟨x,n,l,j,f,s.at d,s.at g,aq (CarR.t s) k,o,i⟩
def jU(a:Ad):Sp:=λvs H Q _=>∃ v cr rs,vs=[v,cr]/\IsRaw a H v rs/\TabsOk (tabs a) H/\∀ H' u,SameT H H'->TabsOk (tabs a) H'->IsCar a H' cr u rs->jM a H H' u->Q u H'
theorem xH{H:Hp}{D:Addr}{s:List V}(u:H D=some (.lst s)){d:LamD}{k:List Str}{f:V}{p:List V}(h:IsLam H d k f p):IsLam (untr H D) d k f p:=by
 have g:∀ b n,H b=some (.ext n)->b≠D:=λb n e z=>by rw[z,u]at e;cases e
 obtain⟨w,c,a,v,i,j,o,l,q⟩:=h;refine⟨w,c,a,v,by rw[aO (g _ _ i)];exact i,by rw[aO (g _ _ j)];exact j,o,l,?_⟩;clear i j o l
 induction q with
 | nil=>exact .nil
 | cons r _ ih=>exact .cons (by rw[aO (g _ _ r)];exact r) ih
theorem zL{K:Frag}{H:Hp}{x y:Addr}{xs ys:List V}{Q:VK}(c:H x=some (.tup xs))(b:H y=some (.tup ys))(d:xs.length+ys.length<=sizeLine)(q:∀ H' p,Same H H'->H' p=some (.tup (xs++ys))->Q (.ref p) H'):oq K (.ref x) (.ref y) H Q\/ue K (.ref x) (.ref y) H Q:=by
 cases xs with
 | nil=>exact .inl ⟨x,y,ys,rfl,rfl,SqT.of c,SqT.of b,q H y (Same.refl H) b⟩
 | cons a xs =>
  refine .inr ⟨x,y,_,ys,rfl,rfl,SqT.of c,SqT.of b,by simp,d,λe=>?_,λ_ p hp=>q _ p (Same.new hp) ad⟩;subst e;exact q H x (Same.refl H) (by rw[c,append_nil])
def AY(a:Ad):List V->Sp:=λvals vs H Q _=>∃ kt mt ns ms,vals=[.ref kt]/\vs=[.ref mt]/\H kt=some (.tup (ns.map V.int))/\H mt=some (.tup (ms.map V.int))/\ns.length+ms.length<64/\∀ H' u,Same H H'->IsTold a H' u (ns++ms)->Q u H'
def jE(N:Nat):Sp:=λvs H Q _=>∃ v s H0 d t,vs=[v,.int s]/\1<=s/\s<=5/\d<N/\IsTree H0 d v t/\SameT H0 H/\Tb.Par 0 t/\∀ H' w,Same H H'->IsTree (nw H none H') (d+1) w (bnd t (Tb.gone s))->Q w H'
def qH(N:Nat):Sp:=λvs H Q _=>∃ v o H0 d t,vs=[v,.int o]/\0<=o/\o<=1/\d<N/\IsTree H0 d v t/\SameT H0 H/\Tb.Lq t/\∀ H' w t',Same H H'->IsTree (nw H none H') d w t'->Tb.Par o t'->Q w H'
theorem By{H H' c:Hp}{a:List (Str×Addr)}(s:Same (untrs H (a.map (·.2))) H')(d:Same H' c)(f:∀ p∈a,c p.2=H p.2):Same H c:=λb o e=>by
 by_cases hb:b∈a.map (·.2)
 .obtain⟨p,g,rfl⟩:=mem_map.mp hb
  rw[f p g];exact e
 .exact d _ _ (s _ _ (by rw[aG hb];exact e))
theorem uQ{H H' H2:Hp}{D:Addr}(s:∀ b o,b≠D->H' b=some o->H2 b=some o):SameT (nw H (some D) H') (nw H (some D) H2):=Same.t λb o h=>by
 obtain⟨c,a,d⟩:=cC h;rw[cZ c a];exact s _ _ (λz=>a (by rw[z])) d
theorem uU{H H1 H' H2:Hp}{D:Addr}(f:∀ b,H1 b=none->H b=none/\b≠D)(s:∀ b o,b≠D->H' b=some o->H2 b=some o):SameT (nw H1 none H') (nw H (some D) H2):=Same.t λb o h=>by
 obtain⟨c,i,d⟩:=cC h;obtain⟨g,a⟩:=f b c;rw[cZ g (λz=>a (by cases z;rfl))];exact s _ _ a d
theorem uL{H H' H2:Hp}{D:Addr}(s:Same H' H2):SameT (nw H (some D) H') (nw H none H2):=Same.t λb o h=>by
 obtain⟨a,d,c⟩:=cC h;rw[cZ a (by simp)];exact s _ _ c
section
variable {P:Program}{w:World}{K:Frag}{mg:Str->Option Value}{base:Heap}{a:Ad}
theorem vG(T:Txt K mg a)(j:Bm mg base):FnOk P w K mg base CX0 1 a.f_b a.d_b ["make","carry"] (pG a):=by
 refine T.F_b.okL T.lcd_b iP (by decide +kernel) (λr H Q E h=>?_) (λA outer s H r Q E hr h=>?_)
 .obtain⟨k,u,rfl,_⟩:=h;rfl
 .obtain⟨k,u,rfl,n,q⟩:=h
  refine⟨_,(lm (iy (d:=aC) rfl T.lch_b j rfl (by with_unfolding_all rfl) rfl (iS a) (.head _) T.tnd iT)),?_⟩;refine⟨n,λl p v o g y c f=>?_⟩;exact λx b i=>q _ _ (o.trans b.t) (g.same b) ⟨l,p,_,rfl,b _ _ c,b _ _ f,rfl,by simp,.cons (i 0 _ _ _ rfl rfl (by with_unfolding_all rfl)) (.cons (i 1 _ _ _ rfl rfl (by with_unfolding_all rfl)) .nil)⟩
theorem o6(T:Txt K mg a)(hB:Bm mg base):FnOk P w K mg base CX0 3 a.x_w a.y_w ["self","carry"] (jU a):=by
 have as:FnOk P w K mg base CX0 1 _ _ _ (spDieI a):=uO T;have a1:FnOk P w K mg base CX0 2 _ _ _ _:=(vG T hB).mono (by decide);refine T.F_w.ok jn (λvs H Q E h=>?_) (λcdv A outer s H vs Q E hr h=>?_)
 .obtain⟨v,cr,W,rfl,_⟩:=h;rfl
 .obtain⟨v,cr,W,rfl,⟨x,dx,l,u,rfl,hx,hl,hP,al,an⟩,hT,q⟩:=h
  have a3:sizeLine=16777216:=sizeLine_eq;refine⟨_,(am (aB (i8 T.mk_g as hr rfl T.mc_g T.Bi_g .nil ar (aa (bY rfl (N:=["many","make","carry"]) (ix:=[none,none,some 1]) ⟨rfl,rfl,rfl,rfl,⟨rfl,rfl,rfl,trivial⟩⟩ (bV (gA (vr 0) rfl)) ⟨λC s H fp=>(di (K:=K) (n:=2) rfl rfl (av (au (i:=0) (show List.Nodup (["many","make","carry"]:List Str) by decide +kernel) rfl (Or.inl rfl)) (av (au (i:=1) (show List.Nodup (["many","make","carry"]:List Str) by decide +kernel) rfl (Or.inl rfl)) bi))),λC s H fp=>bX,λC s H fp=>(bH (aa (vr 0) (aa (ap a1 hr rfl T.m_b T.F_b.kp T.B_b .nil ar (aa (vr 1) (aa (vr 2) af))) af)))⟩) af)))),?_⟩;refine⟨x,_,dx,_,_,rfl,hx,T.cl_g,T.na_Die_makes,rfl,.inl ⟨⟨_,SqL.of hl⟩,λD hD=>?_⟩⟩;have ext:∀{c:Hp},TabsOk (tabs a) c->∀{u:List V}{I:List V},c D=some (.lst u)->TabsOk (tabs a) (upd c D (.lst I)):=λa0 u I e=>a0.put (λps z=>by rw[e]at z;cases z) λφ z=>by rw[e]at z;cases z
  let Pw1:PvL:=λi r c=>SameT H c/\TabsOk (tabs a) c/\c D=some (.lst r)/\i<=W.length/\Paired (CarR cr (untr c D)) (W.take i) r
  refine da (K:=K) (a:=l) (xs:=u) Pw1
   ⟨(Same.new hD).t,hT.same (Same.new hD),ad,Nat.zero_le _,.nil⟩ (λi u c h=>SqL.of (h.1.at hl)) (λi u c h=>h.2.2.1) ?_ ?_
  .rintro i y r c P' hy ⟨G,p,j,hi,M⟩ ab
   obtain⟨⟨Y,f⟩,R,q1,rfl,ac,m0⟩:=aJ hP hy;have az:i<W.length:=(List.getElem?_eq_some_iff.mp R).1;refine⟨q1,_,rfl,SqT.of (G.at ac),rfl,_,_,rfl,_,_,rfl,rfl,⟨rfl,trivial⟩,?_⟩;refine⟨f,cr,rfl,p,λH2 f2 t2 a4 hf=>?_⟩;have F:=t2.at j;refine⟨by show 2<=sizeLine;decide,λq2 B=>?_⟩;have nq:q2≠D:=λz=>by rw[z,F]at B;cases B
   have L:=Same.new (o:=.tup [.int Y,f2]) B;have X:=L _ _ F;have yl:r.length<=5000:=by rw[<- M.length,length_take];lia
   have a2:=(G.trans t2).trans L.t;refine⟨X,by lia,ab _ _ ⟨a2.put hD,ext (a4.same L) X,ad,az,cR (aq (CarR.t ?_) M) R ⟨q2,f2,rfl,?_,m0,?_⟩⟩⟩
   .exact(iu (t2.trans L.t)).trans ja
   .rw[aO nq,ag nq];exact ad
   .exact(xH F hf).t ((iu L.t).trans ja)
  .rintro r c ⟨G,p,j,hi,M⟩
   rw[show u.length=W.length from hP.length.symm,take_length]at M;intro Z d J g a5;have s9:Same c (upd (upd c d (.own Z)) Z (.ins a.c_g d [])):=λb o e=>by rw[ag (aw e J),ag (aw e g)];exact e
   refine⟨Z,d,D,r,rfl,ad,s9 _ _ j,λH2 l2 fl k g1 g2=>⟨rfl,?_⟩⟩;have s2:=made J g k;refine q _ _ (G.trans s2.t) (p.same s2) ⟨Z,d,l2,r,rfl,g1,g2,aq (CarR.t λb o e=>?_) M,al,an⟩ λx3 dx3 l3 e3 e4=>?_
   .by_cases hb:b=D
    .rw[hb,bT]at e;cases e
    .rw[aO hb]at e;exact s2.t b o e
   .cases e3
    rw[g1]at e4;cases e4;exact(G.trans s9.t).free fl
theorem xt(T:Txt K mg a):LamOk P w K mg base 3 dI fvK ["more"] (AY a):=by
 have l:FnOk P w K mg base CX0 1 _ _ _ (spToldI a):=pL T;refine io lsK (λpm ab d c L n=>match L,n with | [_],_=>rfl) (λvals vs H Q E h=>?_) (λA outer s H f c d vals vs Q E hr hfv ca h=>?_)
 .obtain⟨F,D,B,r,rfl,rfl,_⟩:=h;rfl
 .obtain⟨F,D,B,r,rfl,rfl,hk,W,n,q⟩:=h
  have y:sizeLine=16777216:=sizeLine_eq;refine⟨_,(i8 T.mk_f l hr rfl T.mc_f T.Bi_f .nil ar (aa (aA jl (vr 1) (vr 0)) af)),?_⟩;have i:untrs H (d.map (·.2)) F=some (.tup (B.map V.int)):=aI ca hk λv z=>nomatch z
  have j:untrs H (d.map (·.2)) D=some (.tup (r.map V.int)):=aI ca W λv z=>nomatch z
  generalize hU:untrs H (d.map (·.2))=U at i j;refine zL i j (by rw[length_map,length_map];lia) λG p X J=>?_
  rw[<- map_append]at J;intro x k I g M;have s9:Same G (upd (upd G k (.own x)) x (.ins a.c_f k [])):=λb o e=>by rw[ag (aw e I),ag (aw e g)];exact e
  refine⟨x,k,p,B++r,rfl,ad,.inr (s9 _ _ J),by rw[length_append];exact n,λH' Z u N g1 R Y=>⟨rfl,λH3 s3 hc=>?_⟩⟩;have C:=X.trans (made I g N);rw[<- hU]at C;exact q H3 (.ref x) (By C s3 hc) ⟨x,k,Z,u,rfl,s3 _ _ g1,s3 _ _ R,Y⟩
theorem sG(T:Txt K mg a)(N:Nat)(bA:FnOk P w K mg base CX0 (N+1) a.f_t a.d_t ["_law_tree_here","_law_sides"] (jE N)):FnOk P w K mg base CX0 (N+1+1) a.f_t a.d_t ["_law_tree_here","_law_sides"] (jE (N+1)):=by
 refine T.F_t.ok lH (λvs H Q E h=>?_) (λcdv A outer s H vs Q E hr h=>?_)
 .obtain⟨v,s,H0,d,t,rfl,_⟩:=h;rfl
 .obtain⟨v,sd,H0,d,t,rfl,a',b6,ch,ht,s0,j,q⟩:=h
  have b0:sizeLine=16777216:=sizeLine_eq;refine⟨_,(aj (cX (gw (aD dY rfl T.z_isinstance bL (aa (vr 0) (aa (fj (v:=.ty "list") rfl T.z_list eD rfl) af)))) (aj (cX (eG ut (aA gu (aD eU rfl T.z_len jq (aa (vr 0) af)) ak) ak (cP _)) (am (aB (aA pe (aD cW rfl T.z_sorted bU (aa (vr 0) af)) (cV (aa ak af))))) bO) (am (aB (bH (aa (bH (aa ak (aa (cV af) af))) (aa (bH (aa (vr 1) (aa (cV (aa ak af)) af))) (aa (bH (aa ak (aa (aD cW rfl T.z_sorted bU (aa (vr 0) af)) af))) af))))))) bO) (am (aB (bP bz rfl T.z_tuple dH (aa (bY rfl (N:=["_law_many","_law_part","_law_sides"]) (ix:=[none,none,some 1]) ⟨rfl,rfl,rfl,rfl,⟨rfl,rfl,rfl,trivial⟩⟩ (bV (vr 0)) ⟨λC s H fp=>(di (K:=K) (n:=2) rfl rfl (av (au (i:=0) (show List.Nodup (["_law_many","_law_part","_law_sides"]:List Str) by decide +kernel) rfl (Or.inl rfl)) (av (au (i:=1) (show List.Nodup (["_law_many","_law_part","_law_sides"]:List Str) by decide +kernel) rfl (Or.inl rfl)) bi))),λC s H fp=>bX,λC s H fp=>(bH (aa (vr 0) (aa (ap bA hr rfl T.m_t T.F_t.kp T.B_t .nil ar (aa (vr 1) (aa (vr 2) af))) af)))⟩) af))))),iC ?_⟩;intro ci;cases t with
  | leaf ns =>
   obtain⟨p,rfl,B,cg,bc⟩:=(ax d).mp ht;have B:=s0.at B;rw[Tb.Par]at j;obtain⟨b2,h6,_⟩:=j;rw[Tb.bnd,Tb.gone_so]at q;refine⟨_,_,_,true,rfl,rfl,.lst B,rfl,?_⟩;refine⟨_,.inl (SqL.of B),cp,ifC (λc=>?_) (λc=>?_)⟩
   .rw[length_map]at c
    have c:ns.length % 2=1:=by have z:((ns.length:Nat):Int) % 2=1:=c;lia
    unfold Tb.gone at q;rw[if_pos c]at q;refine⟨p,ns,rfl,SqL.of B,by lia,λR an ab az X=>?_⟩;have en:an=Tb.so ns:=Tb.so_uniq ab az;subst en;have L:=Same.new (o:=.lst ((Tb.so ns).map V.int)) X;refine⟨by show 1<=sizeLine;decide,λM ca=>?_⟩;have I:=Same.new (o:=.lst [.int 99]) ca;have sl:(Tb.so ns).length=ns.length:=(Tb.so_perm ns).length_eq;refine⟨R,M,_,_,rfl,rfl,I _ _ ad,ad,by rw[length_map];show _+1<=sizeLine;lia,λr fr=>?_⟩;have s3:=Same.new (o:=.lst ((Tb.so ns).map V.int++[.int 99])) fr;have br:=(L.trans I).trans s3;refine q _ _ br ((ax _).mpr ⟨r,rfl,?_,by rw[length_append,sl];show _+1<=12;lia,Tb.so_odd bc b2 (by decide)⟩);rw[cZ ((L.trans I).free fr) (by simp),ad,map_append];rfl
   .rw[length_map]at c
    have c:¬ns.length % 2=1:=λy=>c (by show((ns.length:Nat):Int) % 2=1;lia)
    unfold Tb.gone at q;rw[if_neg c]at q;refine⟨Nat.zero_le _,λl0 f0=>⟨by show 2<=sizeLine;decide,λq0 fq0=>?_⟩⟩;have a1:=Same.new (o:=.lst []) f0;have a2:=Same.new (o:=.tup [.int 1,.ref l0]) fq0;have e0:=a2 _ _ (ad (H:=H) (a:=l0) (o:=.lst []));have a0:=ad (H:=upd H l0 (.lst [])) (a:=q0) (o:=.tup [.int 1,.ref l0]);have bb:=a1.free fq0;generalize upd (upd H l0 (.lst [])) q0 (.tup [.int 1,.ref l0])=Ha at a2 e0 a0;have ac:=a1.trans a2;refine⟨by show 1<=sizeLine;decide,λZ f1=>⟨by show 2<=sizeLine;decide,λR X=>?_⟩⟩;have a3:=Same.new (o:=.lst [.int 97]) f1;have a4:=Same.new (o:=.tup [.int sd,.ref Z]) X;have e1:=a4 _ _ (ad (H:=Ha) (a:=Z) (o:=.lst [.int 97]));have a8:=ad (H:=upd Ha Z (.lst [.int 97])) (a:=R) (o:=.tup [.int sd,.ref Z]);have b3:=ac.free f1;have bo:=(ac.trans a3).free X;generalize upd (upd Ha Z (.lst [.int 97])) R (.tup [.int sd,.ref Z])=Hb at a4 e1 a8;have as:=a3.trans a4;have W:=ac.trans as;refine⟨p,ns,rfl,SqL.of (W _ _ B),by lia,λM an ab az f2=>?_⟩;have en:an=Tb.so ns:=Tb.so_uniq ab az;subst en;have sl:(Tb.so ns).length=ns.length:=(Tb.so_perm ns).length_eq;refine⟨by show 2<=sizeLine;decide,λf g=>?_⟩;have a5:=Same.new (o:=.lst ((Tb.so ns).map V.int)) f2;have a6:=Same.new (o:=.tup [.int 2,.ref M]) g;have e2:=a6 _ _ (ad (H:=Hb) (a:=M) (o:=.lst ((Tb.so ns).map V.int)));have bg:=ad (H:=upd Hb M (.lst ((Tb.so ns).map V.int))) (a:=f) (o:=.tup [.int 2,.ref M]);have cc:=W.free f2;have F:=(W.trans a5).free g;generalize upd (upd Hb M (.lst ((Tb.so ns).map V.int))) f (.tup [.int 2,.ref M])=Hc at a6 e2 bg;have J:=a5.trans a6;have bm:=W.trans J;refine⟨by show 3<=sizeLine;decide,λr fr=>?_⟩;have a7:=Same.new (o:=.tup [.ref q0,.ref R,.ref f]) fr;have b1:=bm.free fr;have er:=ad (H:=Hc) (a:=r) (o:=.tup [.ref q0,.ref R,.ref f]);generalize upd Hc r (.tup [.ref q0,.ref R,.ref f])=Hd at a7 er;have k:∀{b o},H b=none->Hc b=some o->nw H none Hd b=some o:=λ{b o} h1 h2=>by rw[cZ h1 (by simp)];exact a7 _ _ h2
    refine q _ _ (bm.trans a7) ⟨r,_,rfl,by rw[cZ b1 (by simp)];exact er,.cons ⟨q0,.ref l0,rfl,k bb ((as.trans J) _ _ a0),by decide,by decide,?_⟩ (.cons ⟨R,.ref Z,rfl,k bo (J _ _ a8),a',by show sd<=_;lia,?_⟩ (.cons ⟨f,.ref M,rfl,k F bg,(by decide:(1:Int)<=2),(by decide:(2:Int)<=1000000000),?_⟩ .nil)),(by decide:1<=3),(by decide:3<=4)⟩
    .exact(ax _).mpr ⟨l0,rfl,k f0 ((as.trans J) _ _ e0),by simp,by simp⟩
    .exact(ax _).mpr ⟨Z,rfl,k b3 (J _ _ e1),by simp,by simp⟩
    .exact(ax _).mpr ⟨M,rfl,k cc e2,by lia,Tb.so_nd bc⟩
  | die ps =>
   obtain⟨d',rfl,p,vs,rfl,B,hP,b9,b'⟩:=cO ht;have B:=s0.at B;rw[Tb.Par]at j;rw[Tb.bnd,Tb.bnds_map]at q;have pl:ps.length=vs.length:=hP.length;refine⟨_,_,_,false,rfl,rfl,.tup B,rfl,?_⟩;refine .inr ⟨⟨_,SqT.of B⟩,λD hD=>?_⟩
   let Pw2:PvL:=λi G H'=>Same H H'/\H' D=some (.lst G)/\i<=ps.length/\Paired (PairR (nw H (some D) H') (IsTree (nw H (some D) H') (d'+1))) ((ps.map λp=>(p.1,bnd p.2 (Tb.gone sd))).take i) G
   refine fy (K:=K) (a:=p) (xs:=vs) Pw2 ⟨Same.new hD,ad,Nat.zero_le _,.nil⟩ (λi ys H' h=>SqT.of (h.1 _ _ B)) (λi ys H' h=>h.2.1) ?_ ?_
   .rintro i y G H' P' hy ⟨L,Y,hi,hc⟩ bp
    obtain⟨⟨m,u⟩,al,R,w1,rfl,bt,m1,m2,hu⟩:=aJ hP hy;have b4:i<ps.length:=(List.getElem?_eq_some_iff.mp al).1;have bq:=Tb.par_part j _ (List.mem_of_getElem? al);have zl:G.length<=4:=by rw[<- hc.length,length_take];lia
    refine⟨R,_,rfl,SqT.of (L _ _ (s0.at bt)),rfl,_,_,rfl,_,_,rfl,rfl,⟨rfl,trivial⟩,?_⟩;refine⟨w1,sd,H0,d',u,rfl,a',b6,by lia,hu,s0.trans L.t,bq,λH2 w2 I bS=>?_⟩;have ba:=I _ _ Y;refine⟨by show 2<=sizeLine;decide,λf g=>?_⟩;have nq:f≠D:=λz=>by rw[z,ba]at g;cases g
    have s3:=Same.new (o:=.tup [.int m,w2]) g;have b5:=s3 _ _ ba;have bl:=(L.trans I).trans s3;have F:H f=none:=(L.trans I).free g;have kp:∀ b o,b≠D->H2 b=some o->(upd (upd H2 f (.tup [.int m,w2])) D (.lst (G++[.ref f]))) b=some o:=λb o n e=>by rw[ag n];exact s3 _ _ e
    have a9:=uQ (H:=H) (D:=D) (H':=H') (H2:=upd (upd H2 f (.tup [.int m,w2])) D (.lst (G++[.ref f]))) λb o n e=>kp b o n (I _ _ e)
    have bB:=uU (H:=H) (D:=D) (H1:=H') (H':=H2) (H2:=upd (upd H2 f (.tup [.int m,w2])) D (.lst (G++[.ref f]))) (λb e=>⟨L.free e,λz=>by rw[z,Y]at e;cases e⟩) kp;refine⟨b5,by lia,bp _ _ ⟨bl.put hD,ad,b4,?_⟩⟩;refine cR (x:=(m,bnd u (Tb.gone sd))) (aq (PairR.t a9 (IsTree.t a9 _)) hc) (by rw[List.getElem?_map,al];rfl) ⟨f,w2,rfl,?_,m1,m2,IsTree.t bB _ _ _ bS⟩;rw[cZ F (λz=>nq (by cases z;rfl)),ag nq];exact ad
   .rintro G H' ⟨L,Y,_,hc⟩
    rw[<- pl,take_of_length_le (by rw[length_map];exact Nat.le_refl _)]at hc;refine⟨D,G,rfl,.inl ⟨SqL.of Y,λl bn=>?_⟩⟩;have I:=Same.new (o:=.tup G) bn;have e2:=uL (H:=H) (D:=D) (H':=H') I;refine q _ _ (L.trans I) ⟨l,G,rfl,by rw[cZ (L.free bn) (by simp)];exact ad,aq (PairR.t e2 (IsTree.t e2 _)) hc,by rw[length_map];exact b9,by rw[length_map];exact b'⟩
theorem ln(T:Txt K mg a):∀ N,FnOk P w K mg base CX0 (N+1) a.f_t a.d_t ["_law_tree_here","_law_sides"] (jE N)
 | 0=>⟨λb H Q E h=>by obtain⟨v,s,H0,d,t,rfl,_,_,h0,_⟩:=h;exact absurd h0 (Nat.not_lt_zero _),λ_ _ _ _ _ _ _ _ _ _ _ _ _ h=>by obtain⟨v,s,H0,d,t,rfl,_,_,h0,_⟩:=h;exact absurd h0 (Nat.not_lt_zero _)⟩
 | N+1=>sG T N (ln T N)
end
open Tb (Tr bnd cQ)
theorem sr{a:Ad}{H s H' n:Hp}{b:List (Str×Addr)}{g:List V}{d:Nat}{u:V}{t:Tr}(w:CellsAt H b g)(h:IsNode a s H' d u t)(v:jM a (untrs H (b.map (·.2))) H' u)(j:Same H' n)(F:∀ p∈b,n p.2=H p.2):jM a H n u:=λx C l D c=>by
 cases hh:H l with
 | none=>rfl
 | some o =>
  exfalso;subst D;cases t with
  | leaf ns =>
   obtain⟨z,q,M,A,r,i,_⟩:=h;cases r;rw[j _ _ i]at c;injection c with c
   injection c with _ _ e4
   injection e4 with e4 _
   injection e4 with e5 _
   exact absurd e5 (by decide)
  | die ps =>
   obtain⟨K,_,z,q,I,L,r,i,E,_⟩:=h;cases r;rw[j _ _ i]at c;cases c;have f:=v x C l rfl i
   by_cases hb:l∈b.map (·.2)
   .obtain⟨p,y,G⟩:=mem_map.mp hb
    obtain⟨J,B⟩:=w.at hb;have k:=F p y;rw[G]at k;rw[j _ _ E,B]at k;cases k
   .rw[aG hb,hh]at f
    cases f
def Bg(a:Ad):List V->Sp:=λvals vs H Q _=>∃ kt s ns,vals=[.int s]/\vs=[.ref kt]/\1<=s/\s<=5/\H kt=some (.tup (ns.map V.int))/\Tb.Par 0 (.leaf ns)/\TabsOk (tabs a) H/\∀ H' u H0 d,SameT H H'->TabsOk (tabs a) H'->SqH H0->SameT H0 H'->(∀ b o,H0 b=some o->H b=none)->IsNode a H0 H' d u (Tb.gone s ns)->jM a H H' u->Q u H'
section
variable {P:Program}{w:World}{K:Frag}{mg:Str->Option Value}{base:Heap}{a:Ad}
theorem tN(T:Txt K mg a)(N:Nat)(a':FnOk P w K mg base CX0 (N+1) a.f_n a.d_n ["_law_tree_here","_law_odd"] (qH N)):FnOk P w K mg base CX0 (N+1+1) a.f_n a.d_n ["_law_tree_here","_law_odd"] (qH (N+1)):=by
 refine T.F_n.ok sc_n (λvs H Q E h=>?_) (λcdv A outer s H vs Q E hr h=>?_)
 .obtain⟨v,s,H0,d,t,rfl,_⟩:=h;rfl
 .obtain⟨v,od,H0,d,t,rfl,bg,bq,bA,ht,s0,an,q⟩:=h
  have bn:sizeLine=16777216:=sizeLine_eq;refine⟨_,(aj (cX (gw (aD dY rfl T.z_isinstance bL (aa (vr 0) (aa (fj (v:=.ty "list") rfl T.z_list eD rfl) af)))) (aj (aL (i:=2) sc_n.nd rfl (Or.inl rfl) vx) (aj (d9 PassesOwn.never rfl (bV (vr 0)) (au (i:=3) sc_n.nd rfl (Or.inl rfl)) (am (lF (jX hr) (vr 2) (aA dM (vr 3) ak) mR rfl))) (am (aB (bY rfl (N:=["_law_half","_law_odd"]) (ix:=[none,some 1]) ⟨rfl,rfl,rfl,rfl,⟨rfl,rfl,rfl,trivial⟩⟩ (AN (vr 2)) ⟨λC s H fp=>au (i:=0) (show List.Nodup (["_law_half","_law_odd"]:List Str) by decide +kernel) rfl (Or.inl rfl),λC s H fp=>bX,λC s H fp=>(aA fm (aA bW ak (vr 0)) (vr 1))⟩))))) bO) (am (aB (bP bz rfl T.z_tuple dH (aa (bY rfl (N:=["_law_many","_law_part","_law_odd"]) (ix:=[none,none,some 1]) ⟨rfl,rfl,rfl,rfl,⟨rfl,rfl,rfl,trivial⟩⟩ (bV (vr 0)) ⟨λC s H fp=>(di (K:=K) (n:=2) rfl rfl (av (au (i:=0) (show List.Nodup (["_law_many","_law_part","_law_odd"]:List Str) by decide +kernel) rfl (Or.inl rfl)) (av (au (i:=1) (show List.Nodup (["_law_many","_law_part","_law_odd"]:List Str) by decide +kernel) rfl (Or.inl rfl)) bi))),λC s H fp=>bX,λC s H fp=>(bH (aa (vr 0) (aa (ap a' hr rfl T.m_n T.F_n.kp T.B_n .nil ar (aa (vr 1) (aa (vr 2) af))) af)))⟩) af))))),iC ?_⟩;intro bB;cases t with
  | leaf ns =>
   obtain⟨p,rfl,F,br,bt⟩:=(ax d).mp ht;have F:=s0.at F;rw[Tb.Lq]at an;refine⟨_,_,_,true,rfl,rfl,.lst F,rfl,?_⟩;intro I a7;have r:=Same.new (o:=.dK []) a7;have ac:=ad (H:=H) (a:=I) (o:=.dK []);generalize upd H I (.dK [])=H1 at r ac
   let Pw1:PvS:=λi σ H'=>∃(kvs:List (Key×V)) (c:List Int) (x3:Option V),(∀ b o,b≠I->H1 b=some o->H' b=some o)/\H' I=some (.dK kvs)/\kvs.map (·.1)=c.map Sum.inl/\c.Nodup/\c.length<=i/\i<=ns.length/\σ=[some (.ref p),some (.int od),some (.ref I),x3]
   refine .inl ⟨⟨_,SqL.of (r _ _ F)⟩,gQ (K:=K) (a:=p) (xs:=ns.map V.int) Pw1 ⟨[],[],none,(λb o _ e=>e),ac,rfl,nodup_nil,Nat.le_refl _,Nat.zero_le _,rfl⟩ (λi σ H' _ h=>by
    obtain⟨kvs,c,x3,k,_⟩:=h
    exact SqL.of (k _ _ (cY (r _ _ F) ac (λz=>nomatch z)) (r _ _ F))) ?_ ?_⟩
   .rintro i y σ H' G ⟨kvs,c,x3,Z,al,hk,L,a6,hi,rfl⟩
    rw[List.getElem?_map]at G
    obtain⟨x,hx,rfl⟩:∃ n,ns[i]? = some n/\V.int n=y:=by
     cases e:ns[i]? with
     | none=>rw[e]at G;cases G
     | some n=>rw[e]at G;cases G;exact⟨n,rfl,rfl⟩
    have B:i<ns.length:=(List.getElem?_eq_some_iff.mp hx).1;have kl:kvs.length=c.length:=by have:=congrArg List.length hk;rwa [length_map,length_map]at this
    refine⟨cdB (n:=4) (by decide) (by unfold Bt;decide),I,_,rfl,.inl ⟨kvs,.inl (x/2),al,rfl,by lia,rfl⟩,?_⟩
    by_cases hm:x/2∈c
    .have ek:(d8 kvs (.inl (x/2)) (.bl true)).map (·.1)=c.map Sum.inl:=by
      unfold d8;rw[if_pos,map_map,<- hk]
      .exact map_congr_left λJ _=>by show(if J.1=_ then (J.1,V.bl true) else J).1=J.1;split <;> rfl
      .rw[List.any_eq_true]
       have:(Sum.inl (x/2):Key)∈kvs.map (·.1):=by rw[hk];exact mem_map.mpr ⟨_,hm,rfl⟩
       obtain⟨J,R,e⟩:=mem_map.mp this;exact⟨J,R,decide_eq_true e⟩
     exact⟨_,c,_,λb o n e=>by rw[ag n];exact Z _ _ n e,ad,ek,L,by lia,B,rfl⟩
    .have ek:(d8 kvs (.inl (x/2)) (.bl true)).map (·.1)=(c++[x/2]).map Sum.inl:=by
      unfold d8;rw[if_neg,map_append,hk,map_append]
      .rfl
      .intro z
       rw[List.any_eq_true]at z;obtain⟨J,R,e⟩:=z;have:J.1∈c.map (Sum.inl:Int->Key):=by rw[<- hk];exact mem_map.mpr ⟨J,R,rfl⟩
       rw[of_decide_eq_true e]at this;obtain⟨y,G,e2⟩:=mem_map.mp this;cases e2;exact hm G
     refine⟨_,c++[x/2],_,λb o n e=>by rw[ag n];exact Z _ _ n e,ad,ek,nodup_append.mpr ⟨L,by simp,λy G z hz e=>?_⟩,by rw[length_append,length_singleton];lia,B,rfl⟩;rw[mem_singleton]at hz;rw[e,hz]at G;exact hm G
   .rintro σ H' ⟨kvs,c,x3,Z,al,hk,L,a6,hi,rfl⟩
    rw[length_map]at a6;have kl:kvs.length=c.length:=by have:=congrArg List.length hk;rwa [length_map,length_map]at this
    refine⟨I,kvs,rfl,al,λob D hD=>?_⟩;have nD:D≠I:=λz=>by rw[z,ad]at hD;cases hD
    have fD:H' D=none:=by rw[ag nD]at hD;exact hD
    refine wU (d:=I) (o:=ob) (kvs:=kvs) (λi ys H2=>(∀ b o,b≠I->H' b=some o->H2 b=some o)/\H2 I=some (.frz ob (.dK kvs))/\H2 D=some (.lst ys)/\ys=((c.take i).map λh=>2*h+od).map V.int/\i<=c.length) ⟨λb o n e=>?_,by rw[ag (Ne.symm nD)];exact ad,ad,rfl,Nat.zero_le _⟩ (λi ys H2 h=>h.2.1) (λi ys H2 h=>h.2.2.1) ?_ ?_
    .have nb:b≠D:=λz=>by rw[z,fD]at e;cases e
     rw[ag nb,ag n];exact e
    .rintro i J ys H2 P' R ⟨as,a2,g,rfl,bo⟩ ab
     obtain⟨h9,hh9,e9⟩:∃ h9,c[i]? = some h9/\J.1=Sum.inl h9:=by
      have e:=congrArg (λl=>l[i]?) hk;simp only[List.getElem?_map,R]at e;cases z:c[i]? with
      | none=>rw[z]at e;cases e
      | some h9=>rw[z]at e;exact⟨h9,rfl,Option.some.inj e⟩
     have B:i<c.length:=(List.getElem?_eq_some_iff.mp hh9).1;rw[e9];refine⟨⟨rfl,trivial⟩,clB,g,by rw[length_map,length_map,length_take];lia,ab _ _ ⟨λb o n e=>?_,by rw[ag (Ne.symm nD)];exact a2,ad,?_,B⟩⟩
     .have nb:b≠D:=λz=>by rw[z,fD]at e;cases e
      rw[ag nb];exact as _ _ n e
     .rw[take_add_one,hh9];simp
    .rintro ys H2 ⟨as,a2,g,rfl,bo⟩
     rw[kl,take_length]at g
     have a9:Same H H2:=λb o e=>by
      have nb:b≠I:=λz=>by rw[z,a7]at e;cases e
      exact as _ _ nb (Z _ _ nb (r _ _ e))
     have bc:H D=none:=by
      cases z:H D with
      | none=>rfl
      | some o =>
       have:=Z _ _ nD (r _ _ z);rw[fD]at this;cases this
     refine q _ _ (.leaf (c.map λh=>2*h+od)) a9 ((ax _).mpr ⟨D,rfl,by rw[cZ bc (by simp)];exact g,by rw[length_map];lia,?_⟩) ?_
     .refine pairwise_map.mpr (L.imp λ{x y} n e=>n (by lia))
     .rw[Tb.Par]
      refine⟨λx hx=>?_,by rw[length_map];lia,pairwise_map.mpr (L.imp λ{x y} n e=>n (by lia))⟩;obtain⟨h9,_,rfl⟩:=mem_map.mp hx;lia
  | die ps =>
   obtain⟨d',rfl,p,vs,rfl,F,hP,bS,b0⟩:=cO ht;have F:=s0.at F;rw[Tb.Lq]at an;have pl:ps.length=vs.length:=hP.length;refine⟨_,_,_,false,rfl,rfl,.tup F,rfl,?_⟩;refine .inr ⟨⟨_,SqT.of F⟩,λD hD=>?_⟩
   let Pw2:PvL:=λi M H'=>Same H H'/\H' D=some (.lst M)/\i<=ps.length/\∃ f:List (Int×Tr),f.length=i/\Tb.Pars od f/\Paired (PairR (nw H (some D) H') (IsTree (nw H (some D) H') d')) f M
   refine fy (K:=K) (a:=p) (xs:=vs) Pw2 ⟨Same.new hD,ad,Nat.zero_le _,[],rfl,by rw[Tb.Pars];trivial,.nil⟩ (λi ys H' h=>SqT.of (h.1 _ _ F)) (λi ys H' h=>h.2.1) ?_ ?_
   .rintro i y M H' P' G ⟨r,Y,hi,f,a8,j,hc⟩ ab
    obtain⟨⟨m,u⟩,a4,q1,w1,rfl,bb,m1,m2,hu⟩:=aJ hP G;have B:i<ps.length:=(List.getElem?_eq_some_iff.mp a4).1;have ba:=Tb.lq_part an _ (List.mem_of_getElem? a4);have zl:M.length<=4:=by rw[<- hc.length];lia
    refine⟨q1,_,rfl,SqT.of (r _ _ (s0.at bb)),rfl,_,_,rfl,_,_,rfl,rfl,⟨rfl,trivial⟩,?_⟩;refine⟨w1,od,H0,d',u,rfl,bg,bq,by lia,hu,s0.trans r.t,ba,λH2 w2 t2 s2 bm a1=>?_⟩;have g:=s2 _ _ Y;refine⟨by show 2<=sizeLine;decide,λW X=>?_⟩;have nq:W≠D:=λz=>by rw[z,g]at X;cases X
    have s3:=Same.new (o:=.tup [.int m,w2]) X;have bp:=s3 _ _ g;have a5:=(r.trans s2).trans s3;have az:H W=none:=(r.trans s2).free X;have Z:∀ b o,b≠D->H2 b=some o->(upd (upd H2 W (.tup [.int m,w2])) D (.lst (M++[.ref W]))) b=some o:=λb o n e=>by rw[ag n];exact s3 _ _ e
    have a3:=uQ (H:=H) (D:=D) (H':=H') (H2:=upd (upd H2 W (.tup [.int m,w2])) D (.lst (M++[.ref W]))) λb o n e=>Z b o n (s2 _ _ e)
    have bl:=uU (H:=H) (D:=D) (H1:=H') (H':=H2) (H2:=upd (upd H2 W (.tup [.int m,w2])) D (.lst (M++[.ref W]))) (λb e=>⟨r.free e,λz=>by rw[z,Y]at e;cases e⟩) Z;refine⟨bp,by lia,ab _ _ ⟨a5.put hD,ad,B,f++[(m,t2)],by rw[length_append,a8];rfl,Tb.pars_snoc a1 j,?_⟩⟩;refine cS ⟨W,w2,rfl,?_,m1,m2,IsTree.t bl _ _ _ bm⟩ (aq (PairR.t a3 (IsTree.t a3 _)) hc);rw[cZ az (λz=>nq (by cases z;rfl)),ag nq];exact ad
   .rintro M H' ⟨r,Y,_,f,a8,j,hc⟩
    refine⟨D,M,rfl,.inl ⟨SqL.of Y,λl a0=>?_⟩⟩;have s2:=Same.new (o:=.tup M) a0;have e2:=uL (H:=H) (D:=D) (H':=H') s2;refine q _ _ (.die f) (r.trans s2) ⟨l,M,rfl,by rw[cZ (r.free a0) (by simp)];exact ad,aq (PairR.t e2 (IsTree.t e2 _)) hc,by lia,by lia⟩ (by rw[Tb.Par];exact j)
theorem tU(T:Txt K mg a):∀ N,FnOk P w K mg base CX0 (N+1) a.f_n a.d_n ["_law_tree_here","_law_odd"] (qH N)
 | 0=>⟨λb H Q E h=>by obtain⟨v,s,H0,d,t,rfl,_,_,h0,_⟩:=h;exact absurd h0 (Nat.not_lt_zero _),λ_ _ _ _ _ _ _ _ _ _ _ _ _ h=>by obtain⟨v,s,H0,d,t,rfl,_,_,h0,_⟩:=h;exact absurd h0 (Nat.not_lt_zero _)⟩
 | N+1=>tN T N (tU T N)
theorem Ac(T:Txt K mg a)(hB:Bm mg base):LamOk P w K mg base 4 dS fvS ["_law_kept_here"] (Bg a):=by
 have r:FnOk P w K mg base CX0 3 _ _ _ (kN a):=lE T hB;have N:FnOk P w K mg base CX0 3 _ _ _ _:=(ln T 1).mono (by decide);refine io lsS (λpm ab d c us hl=>match us,hl with | [_],_=>rfl) (λvals vs H Q E h=>?_) (λA outer s H f c d vals vs Q E hr hfv ca h=>?_)
 .obtain⟨I,s,j,rfl,rfl,_⟩:=h;rfl
 .obtain⟨I,sd,j,rfl,rfl,R,W,hk,i,hT,q⟩:=h
  refine⟨_,(ap r hr rfl T.m_D T.F_D.kp T.B_D .nil ar (aa (ap N hr rfl T.m_t T.F_t.kp T.B_t .nil ar (aa (bP fh rfl T.z_list eD (aa (vr 0) af)) (aa (vr 1) af))) af)),?_⟩;have M:untrs H (d.map (·.2)) I=some (.tup (j.map V.int)):=aI ca hk λv z=>nomatch z
  have y:=TabsOk.untrs hT ca;refine⟨I,_,rfl,.inr (SqT.of M),λl fl=>?_⟩;have k:=Same.new (o:=.lst (j.map V.int)) fl;have Y:=ad (H:=untrs H (d.map (·.2))) (a:=l) (o:=.lst (j.map V.int));generalize upd (untrs H (d.map (·.2))) l (.lst (j.map V.int))=U1 at k Y;have g:=i;rw[Tb.Par]at g;refine⟨.ref l,sd,U1,0,.leaf j,rfl,R,W,by decide,(ax 0).mpr ⟨l,rfl,Y,by have:=g.2.1;lia,g.2.2⟩,SameT.refl,i,λF w2 B Z=>?_⟩;rw[Tb.bnd,Tb.gone_so]at Z;have X:=(y.same k).same B;have C:Same (sqH (nw U1 none F)) F:=λb o e=>(cC (eQ e).1).2.2
  refine⟨w2,0+1,_,sqH (nw U1 none F),rfl,IsTree.m (λb o c e=>pk c e) _ _ _ Z,C.t,X,λU3 u t3 hT3 few nl=>λH3 s3 hc=>?_⟩;have G:jM a (untrs H (d.map (·.2))) U3 u:=λx dx l J n=>(k.trans B).free (nl x dx l J n)
  refine q _ _ _ _ (back ((k.trans B).t.trans t3) s3 hc) (hT3.same s3) oZ ((C.t.trans t3).trans s3.t) (λb o e=>?_) (few.t s3.t) (sr ca few G s3 hc);have J:=(cC (eQ e).1).1;have c1:=(eQ e).2;have n:=k.free J
  by_cases hb:b∈d.map (·.2)
  .obtain⟨p,hp,e7⟩:=mem_map.mp hb
   obtain⟨v',e8⟩:=ca.at hb;have D:=hc p hp;rw[e7]at D;have L:=s3 _ _ (t3.at (C _ _ e) (by cases o <;> first | rfl | cases c1));rw[L,e8]at D;cases D;cases c1
  .rw[aG hb]at n;exact n
end
open Tb (Tr bnd cQ)
theorem IsGo.up{b:Bool}{a:Ad}{H:Hp}{d:V}{g:List Int->Tr}{c:Bool}(h:IsGo b a H d g c):IsGo true a H d g c:=by
 rcases h with⟨f,h⟩ | h | h
 .exact .inl ⟨rfl,h⟩
 .exact .inr (.inl h)
 .exact .inr (.inr h)
def Bad(H:Hp)(Bd:List Addr):Prop:=∀ b∈Bd,∃ ys,H b=some (.lst ys)
theorem Bad.t{H H':Hp}{a:List Addr}(s:SameT H H')(h:Bad H a):Bad H' a:=λb c=>let ⟨ys,e⟩:=h b c;⟨ys,s.at e⟩
theorem cU{H H':Hp}{es:List Addr}(s:SameT H H'):SameT (untrs H es) (untrs H' es):=λb o e=>by
 by_cases hb:b∈es
 .rw[dF hb]at e;cases e
 .rw[aG hb]at e ⊢;exact s b o e
theorem aK{H:Hp}{es:List Addr}{b:Addr}{o:HO}(e:untrs H es b=some o):b ∉ es/\H b=some o:=by
 by_cases hb:b∈es
 .rw[dF hb]at e;cases e
 .rw[aG hb]at e;exact⟨hb,e⟩
theorem b7{H:Hp}{es:List Addr}:SameT (untrs H es) H:=λb o e=>⟨λ_=>(aK e).2,o,(aK e).2⟩
theorem cN{H:Hp}{c:List Addr}{b:Addr}{o:HO}(a:Bad H c)(e:H b=some o)(n:∀ ys,o≠.lst ys):untrs H c b=some o:=by
 rw[aG λz=>?_]
 .exact e
 .obtain⟨ys,d⟩:=a b z
  rw[e]at d;exact n ys (Option.some.inj d)
theorem gy(H:Hp)(es a:List Addr):untrs (untrs H es) a=untrs (untrs H a) es:=by
 funext b
 unfold untrs
 split <;> split <;> rfl
theorem gW{H:Hp}{i:List Addr}(a:Bad H i){d:LamD}{g:List Str}{f:V}{o:List V}(h:IsLam H d g f o):IsLam (untrs H i) d g f o:=by
 obtain⟨s,c,b,q,k,n,l,j,p⟩:=h;refine⟨s,c,b,q,cN a k (λ_ z=>nomatch z),cN a n (λ_ z=>nomatch z),l,j,?_⟩;clear k n l j
 induction p with
 | nil=>exact .nil
 | cons r _ ih=>exact .cons (cN a r (λ_ z=>nomatch z)) ih
theorem gB{H:Hp}{d:List Addr}(c:Bad H d){a:List (Str×Addr)}{b:List V}(h:CellsAt H a b):CellsAt (untrs H d) a b:=by
 induction h with
 | nil=>exact .nil
 | cons r _ ih=>exact .cons (cN c r (λ_ z=>nomatch z)) ih
theorem jW{a:Ad}{H:Hp}{d:List Addr}(b:Bad H d){u:V}{f:List Int}(h:IsTold a H u f):IsTold a (untrs H d) u f:=by
 obtain⟨x,l,t,c,i,g,j,k⟩:=h;exact⟨x,l,t,c,i,cN b g (λ_ z=>nomatch z),cN b j (λ_ z=>nomatch z),k⟩
theorem sJ{a:Ad}{H j H':Hp}{g:List Addr}{d:Nat}{u:V}{t:Tr}(c:Bad H g)(s:SameT H H')(h:IsNode a j H' d u t)(C:jM a H H' u):IsNode a j (untrs H' g) d u t:=by
 have b:=c.t s;cases t with
 | leaf ns=>exact jW b h
 | die ps =>
  obtain⟨A,e,x,n,l,E,p,o,I,D,G,v⟩:=h
  have i:l ∉ g:=λz=>by
   obtain⟨L,k⟩:=c l z;rw[C x n l p o]at k;cases k
  refine⟨A,e,x,n,l,E,p,cN b o (λ_ z=>nomatch z),by rw[aG i];exact I,aq (λpt y r=>?_) D,G,v⟩;obtain⟨q,f,w,F,B,J,K⟩:=r;exact⟨q,f,w,F,cN b B (λ_ z=>nomatch z),gW b J,K⟩
theorem kU{a:Ad}{H c H':Hp}{f:List Addr}{d:Nat}{u:V}{t:Tr}(i:Bad H f)(s:SameT H H')(g:SqH c)(l:SameT c H')(k:∀ b∈f,c b=none)(h:IsNode a c H' d u t)(j:jM a H H' u)(n:Tb.Lb t):IsPl a (untrs H' f) u t :=
 ⟨c,d,g,λb o e=>by rw[aG (λz=>by rw[k b z]at e;cases e)];exact l b o e,sJ i s h j,n⟩
theorem oR{H:Hp}{a:List V}(h:∀ v∈a,∃ p d cl c,v=.ref p/\H p=some (.ext (dW p d cl c))):(∀ v∈a,∃ p,v=.ref p)/\∀ v∈a,∀ p xs,v=.ref p->H p≠some (.lst xs)/\H p≠some (.tup xs):=by
 refine⟨λv b=>let ⟨p,_,_,_,e,_⟩:=h v b;⟨p,e⟩,λv b p xs e=>?_⟩;obtain⟨i,d,cl,c,f,g⟩:=h v b;rw[e]at f;cases f;rw[g];exact⟨(λz=>by cases z),(λz=>by cases z)⟩
theorem yg{b:Bool}{a:Ad}{H:Hp}{i:List (Str×Addr)}{j:List V}(r:CellsAt H i j)(B:∀ v∈j,∃ p d cl c,v=.ref p/\H p=some (.ext (dW p d cl c))){C:V}{g:List Int->Tr}{L:Bool}(h:IsGo b a H C g L):IsGo b a (untrs H (i.map (·.2))) C g L:=by
 obtain⟨D,J⟩:=oR B
 have o:∀{d:LamD}{E:List Str}{w:V},w ∉ j->IsLam H d E C [w]->IsLam (untrs H (i.map (·.2))) d E C [w]:=λ{d E w} F T=>by
  obtain⟨f,c,cl,g1,Y,g3,W,Z,P⟩:=T;refine⟨f,c,cl,g1,aI r Y λv=>eI,aI r g3 λv=>cT,W,Z,fQ r D (λv B z=>?_) P⟩;rw[mem_singleton.mp B]at z;exact F z
 rcases h with⟨Q,u,t,y,q,G⟩ | ⟨K,M,y,q,G⟩ | ⟨n,y,q⟩
 .refine .inl ⟨Q,u,t,o (λz=>?_) y,vM r D J q,G⟩
  obtain⟨p,d,cl,c,N,I⟩:=B u z;obtain⟨H0,d0,_,_,k,_⟩:=q;cases t with
  | leaf M=>obtain⟨x,X,t2,R,A,s,_⟩:=k;rw[N]at A;cases A;rw[I]at s;cases s
  | die ps=>obtain⟨_,_,x,X,l,ys,A,s,_⟩:=k;rw[N]at A;cases A;rw[I]at s;cases s
 .refine .inr (.inl ⟨K,M,o (λz=>?_) y,aI r q (λv z=>nomatch z),G⟩)
  exact(J _ z K _ rfl).2 q
 .refine .inr (.inr ⟨n,o (λz=>?_) y,q⟩)
  obtain⟨p,e⟩:=D _ z;cases e
def Res(a:Ad)(H:Hp)(Bd:List Addr)(t:Tr)(Q:VK):Prop:=∀ H' u,SameT H H'->TabsOk (tabs a) H'->IsNd a (untrs H' Bd) u t->Q u H'
def zu(b:Bool)(a:Ad):List V->Sp:=λvals vs H Q _=>b=true/\∃ u kt ns t Bd,vals=[u]/\vs=[.ref kt]/\Bad H Bd/\H kt=some (.tup (ns.map V.int))/\ns.length<=12/\IsPl a (untrs H Bd) u t/\TabsOk (tabs a) H/\Res a H Bd (bnd t λms=>.leaf (ns++ms)) Q
def oy(b:Bool)(a:Ad):Sp:=λvs H Q _=>∃ v go g ev t Bd,vs=[v,go]/\Bad H Bd/\IsPl a (untrs H Bd) v t/\IsGo b a (untrs H Bd) go g ev/\(ev=true->Tb.Par 0 t)/\TabsOk (tabs a) H/\Res a H Bd (bnd t g) Q
def Ap(a:Ad):Sp:=λvs H Q _=>∃ u kt ns t Bd,vs=[.ref kt,u]/\Bad H Bd/\H kt=some (.tup (ns.map V.int))/\ns.length<=12/\IsPl a (untrs H Bd) u t/\TabsOk (tabs a) H/\Res a H Bd (bnd t λms=>.leaf (ns++ms)) Q
section
variable {P:Program}{w:World}{K:Frag}{mg:Str->Option Value}{base:Heap}{a:Ad}
theorem zk{k:Nat}{d:LamD}{j ps:List Str}:LamOk P w K mg base k d j ps (zu false a):=λA b s H f c h y v i Q E p u q o l n x r g=>absurd g.1 (by decide)
theorem mQ(T:Txt K mg a)(hB:Bm mg base)(b:Bool){k:Nat}(hk:5<=k)(N:LamOk P w K mg base k eW fvO ["kept"] (zu b a)):FnOk P w K mg base CX0 (k+1) a.f_i a.d_i ["node","go"] (oy b a):=by
 have X:LamOk P w K mg base k dI fvK ["more"] (AY a):=LamOk.mono (xt T) (by lia);have ac:LamOk P w K mg base k dS fvS ["_law_kept_here"] (Bg a):=LamOk.mono (Ac T hB) (by lia);have br:FnOk P w K mg base CX0 k _ _ _ (spV (.bl true)):=(vp T).mono (by lia);have bn:FnOk P w K mg base CX0 k _ _ _ (spV (.bl false)):=(vo T).mono (by lia);have al:FnOk P w K mg base CX0 k _ _ _ (wd a):=(uX T).mono (by lia);have a0:FnOk P w K mg base CX0 k _ _ _ (spV .non):=(tF T).mono (by lia);have bb:FnOk P w K mg base CX0 k _ _ _ (jU a):=(o6 T hB).mono (by lia);refine T.F_i.okL T.lcd_i rG (by decide +kernel) (λvs H Q E h=>?_) (λA outer s H vs Q E hr h=>?_)
 .obtain⟨v,go,g,ev,t,Bd,rfl,_⟩:=h;rfl
 .obtain⟨v,go,g,ev,t,Bd,rfl,C,bS,a7,an,hT,q⟩:=h
  refine⟨_,(wq (cX (gw (PE.or (aS (vr 0) T.cl_f T.mt_j br hr T.B_j .nil ar) (aS (vr 0) T.cl_g T.mt_k bn hr T.B_k .nil ar))) (am (aB (PE.or (gY (vr 1) N hr (aa (PE.or (aS (vr 0) T.cl_f T.mt_m al hr T.B_m .nil ar) (aS (vr 0) T.cl_g T.mt_r a0 hr T.B_r .nil ar)) af)) (PE.or (gY (vr 1) X hr (aa (PE.or (aS (vr 0) T.cl_f T.mt_m al hr T.B_m .nil ar) (aS (vr 0) T.cl_g T.mt_r a0 hr T.B_r .nil ar)) af)) (gY (vr 1) ac hr (aa (PE.or (aS (vr 0) T.cl_f T.mt_m al hr T.B_m .nil ar) (aS (vr 0) T.cl_g T.mt_r a0 hr T.B_r .nil ar)) af)))))) bO) (lm (pZ (vr 0) T.cl_g T.mt_w bb hr T.B_w .nil ar (aa (iy (d:=ld_behind_1) rfl T.lch_i hB rfl (by with_unfolding_all rfl) rfl (rW a) (.head _) T.tnd qW) af)))),?_⟩;obtain⟨H0,d,bo,s0,hn,a8⟩:=bS;cases t with
  | leaf ns =>
   obtain⟨x,I,kt,bq,rfl,F,J,hs⟩:=hn;have F:=(aK F).2;have J:=(aK J).2;have en:bq=Tb.so ns:=Tb.so_uniq hs.1 hs.2;subst en;rw[Tb.Lb]at a8;have sl:(Tb.so ns).length=ns.length:=(Tb.so_perm ns).length_eq;rw[Tb.bnd]at q;refine .inl ⟨x,I,_,rfl,F,rfl,_,rfl,?_⟩
   rcases a7 with⟨hb,u,t,⟨f,c,Z,rfl,j,G,k4,k5,L⟩,W,rfl,rfl⟩ | ⟨a4,bp,⟨f,c,Z,rfl,j,G,k4,k5,L⟩,W,h3,rfl,rfl⟩ | ⟨n,⟨f,c,Z,rfl,j,G,k4,k5,L⟩,n1,n2,rfl,rfl⟩
   .have j:=(aK j).2
    have G:=(aK G).2;have L:CellsAt H Z [u]:=dN b7 L;refine .inl ⟨⟨f,_,_,c,rfl,j⟩,.inl ⟨x,I,_,rfl,F,rfl,x,I,kt,rfl,F,λ_ _ _ _ _ e=>e,f,c,Z,_,rfl,j,G,k4,k5,L,hb,u,kt,Tb.so ns,t,Bd,rfl,rfl,C,J,by lia,W,hT,q⟩⟩
   .have j:=(aK j).2
    have G:=(aK G).2;have W:=(aK W).2;have L:CellsAt H Z [.ref a4]:=dN b7 L;refine .inr (.inl ⟨⟨f,_,_,c,rfl,j⟩,.inl ⟨x,I,_,rfl,F,rfl,x,I,kt,rfl,F,λ_ _ _ _ _ e=>e,f,c,Z,_,rfl,j,G,k4,k5,L,a4,kt,bp,Tb.so ns,rfl,rfl,W,J,by lia,λH' u s1 hu=>?_⟩⟩);exact q _ _ s1.t (hT.same s1) (.inr (.inr ⟨_,rfl,jW (C.t s1.t) hu⟩))
   .have j:=(aK j).2
    have G:=(aK G).2;have L:CellsAt H Z [.int n]:=dN b7 L;have i:=an rfl;rw[Tb.Par]at i
    have as:Tb.Par 0 (.leaf (Tb.so ns)):=by
     rw[Tb.Par];exact⟨λx F=>i.1 x ((Tb.so_perm ns).mem_iff.mp F),by rw[sl];exact i.2.1,Tb.so_nd i.2.2⟩
    refine .inr (.inr ⟨⟨f,_,_,c,rfl,j⟩,.inl ⟨x,I,_,rfl,F,rfl,x,I,kt,rfl,F,λ_ _ _ _ _ e=>e,f,c,Z,_,rfl,j,G,k4,k5,L,kt,n,Tb.so ns,rfl,rfl,n1,n2,J,as,hT,λH' u H0' d' t1 hT1 hsq1 s01 fr1 few nl=>?_⟩⟩);refine q _ _ t1 hT1 (.inl (kU C t1 hsq1 s01 (λb hb=>?_) few nl ?_))
    .cases e:H0' b with
     | none=>rfl
     | some o =>
      obtain⟨R,Y⟩:=C b hb;rw[fr1 b o e]at Y;cases Y
    .unfold Tb.gone
     split
     .rw[Tb.Lb,length_append,Tb.so_so,sl];have:=i.2.1;show _+1<=12;lia
     .rw[Tb.Lb,Tb.Lbs,Tb.Lbs,Tb.Lbs,Tb.Lbs,Tb.Lb,Tb.Lb,Tb.Lb,Tb.so_so,sl];have:=i.2.1;exact⟨by decide,by decide,by lia,trivial⟩
  | die M =>
   obtain⟨d',rfl,x,I,l,R,rfl,F,hl,hP,a6,bA⟩:=hn;have az:=(aK F).2;have a1:=(aK hl).2;rw[Tb.bnd,Tb.bnds_map]at q
   obtain⟨D,hraw,hrs⟩:∃ D:List (Int×V),Paired (RawR H) D R/\Paired (λ(p:Int×Tr) (r:Int×V)=>p.1=r.1/\1<=p.1/\p.1<=1000000000/\IsMkP (untrs H Bd) r.2 p.2) M D:=by
    clear hl a1 a6 bA q a8 an
    induction hP with
    | nil=>exact⟨[],.nil,.nil⟩
    | @cons pt y M R r _ ih =>
     obtain⟨D,i1,i2⟩:=ih;obtain⟨q9,f,w9,r1,r2,r3,r4,r5,r6⟩:=r;exact⟨(pt.1,f)::D,.cons ⟨q9,r1,(aK r2).2,r4⟩ i1,.cons ⟨rfl,r4,r5,w9,H0,d',r3,bo,s0,r6⟩ i2⟩
   have rl:D.length=M.length:=hrs.length.symm
   have a2:IsRaw a H (.ref x) D:=⟨x,I,l,R,rfl,az,a1,hraw,by lia,by lia⟩
   refine .inr ⟨x,I,_,rfl,az,rfl,_,rfl,?_⟩;refine⟨x,I,_,rfl,az,rfl,hT,λf1 c1 H2 t2 bt n1 bm bg=>?_⟩;refine⟨_,_,D,rfl,a2.t t2,bt,λH3 u t3 a' hu nl=>λH4 s4 hc=>?_⟩;have t4:=t2.trans (t3.trans s4.t);have B:=C.t t4
   have bB:IsLam H4 ld_behind_1 fvB (.ref f1) [go]:=⟨f1,c1,_,rfl,s4 _ _ (t3.at bm),s4 _ _ (t3.at bg),rfl,by simp,.cons (hc 1 _ _ _ rfl rfl (by with_unfolding_all rfl)) .nil⟩
   have bl:jM a H2 H4 u:=λx9 a9 l9 e1 Y=>by
    obtain⟨x',b1,l',b0,e3,g1,_⟩:=hu;rw[e1]at e3;cases e3;rw[s4 _ _ g1]at Y;cases Y;exact nl x9 a9 l9 e1 g1
   obtain⟨x2,a5,l2,bc,rfl,g1,g2,g3,g4,g5⟩:=hu.t s4.t;refine q _ _ t4 (a'.same s4) (.inr (.inl ⟨_,rfl,x2,a5,l2,bc,.ref f1,go,g,ev,rfl,cN B g1 (λ_ z=>nomatch z),?_,gW B bB,(a7.t (cU t4)).up,?_,by rw[length_map];exact a6,by rw[length_map];lia⟩))
   .rw[aG λz=>?_]
    .exact g2
    .obtain⟨zs,Y⟩:=(C.t t2) l2 z
     rw[bl x2 a5 l2 rfl g1]at Y;cases Y
   .clear g4 g5 rl a2 hraw
    have ba:∀{M:List (Int×Tr)}{D:List (Int×V)}{R:List V},(ev=true->Tb.Pars 0 M)->Paired (λ(p:Int×Tr) (r:Int×V)=>p.1=r.1/\1<=p.1/\p.1<=1000000000/\IsMkP (untrs H Bd) r.2 p.2) M D->Paired (CarR (.ref f1) H4) D R->Paired (CdR (untrs H4 Bd) (.ref f1) g ev) (M.map λp=>(p.1,bnd p.2 g)) R:=by
     intro M D R a3 h1
     induction h1 generalizing R with
     | nil=>intro W;cases W;exact .nil
     | @cons p r M D x1 _ ih =>
      intro W;cases W with
      | cons y1 t1 =>
       obtain⟨e1,m1,m2,hm⟩:=x1;obtain⟨q9,f9,k1,j,G,k4⟩:=y1
       have ab:ev=true->Tb.Par 0 p.2/\Tb.Pars 0 M:=λz=>by
        have:=a3 z;obtain⟨p1,p2⟩:=p;rw[Tb.Pars]at this;exact this
       refine .cons ⟨q9,f9,r.2,p.2,k1,?_,m1,m2,gW B k4,hm.t (cU t4),rfl,λz=>(ab z).1⟩ (ih (λz=>(ab z).2) t1);show untrs H4 Bd q9=some (.tup [.int p.1,f9]);rw[e1];exact cN B j (λ_ z=>nomatch z)
    refine ba (λz=>?_) hrs g3;have:=an z;rw[Tb.Par]at this;exact this
end
open Tb (Tr bnd cQ)
theorem pI{f:Addr}{d d':LamD}{b a:List (Str×Addr)}{c j:Addr}(e:HO.ext (dW f d b c)=HO.ext (dW f d' a j)):d.qual=d'.qual:=by
 injection e with e
 obtain⟨h,i⟩:=i3 f (kla_obj "<lambda>" d.qual d.params d.body d.scope b .none c .none) (by intro z;cases z);have y:dW f d' a j h:=by rw[<- e];exact⟨_,_,i⟩
 obtain⟨o,u,g⟩:=y;rw[i]at g;injection g with g
 injection g with _ _ g
 injection g with g
 injection g
theorem cu(H:Hp):untrs H []=H:=by funext b;exact aG (by simp)
theorem oE{H:Hp}{f:List Addr}{a:List (Str×Addr)}{c:List V}(h:CellsAt H a c)(d:Bad H f):Bad (untrs H (a.map (·.2))) f:=λb g=>let ⟨ys,e⟩:=d b g;⟨ys,aI h e λv z=>nomatch z⟩
theorem zt{a:Ad}{H:Hp}{v:V}{t:Tr}(h:IsPl a H v t):∃ x C dx fs,v=.ref x/\H x=some (.ins C dx fs):=by
 obtain⟨i,d,_,_,f,_⟩:=h;cases t with
 | leaf ns=>obtain⟨x,dx,k,g,b,c,_⟩:=f;exact⟨x,_,dx,_,b,c⟩
 | die ps=>obtain⟨_,_,x,dx,l,j,b,c,_⟩:=f;exact⟨x,_,dx,_,b,c⟩
def Bx(a:Ad):List V->Sp:=λvals vs H Q _=>∃ v go g ev t Bd,vals=[go]/\vs=[v]/\Bad H Bd/\IsPl a (untrs H Bd) v t/\IsGo true a (untrs H Bd) go g ev/\(ev=true->Tb.Par 0 t)/\TabsOk (tabs a) H/\Res a H Bd (bnd t g) Q
def u6(a:Ad):List V->Sp:=λvals vs H Q _=>∃ m cr go g ev t Bd,vals=[m,cr]/\vs=[]/\Bad H Bd/\IsMkP (untrs H Bd) m t/\IsLam (untrs H Bd) ld_behind_1 fvB cr [go]/\IsGo true a (untrs H Bd) go g ev/\(ev=true->Tb.Par 0 t)/\TabsOk (tabs a) H/\Res a H Bd (bnd t g) Q
def tR(a:Ad):Sp:=λvs H Q _=>∃ v1 v2 t1 t2,vs=[v1,v2]/\IsPl a H v1 t1/\IsPl a H v2 t2/\TabsOk (tabs a) H/\∀ H' u,SameT H H'->TabsOk (tabs a) H'->IsNd a H' u (bnd t1 λns=>bnd t2 λms=>.leaf (ns++ms))->Q u H'
inductive spLGo(a:Ad)(vs:List V)(H:Hp)(Q:VK)(_E:XK):Prop
 | mk(s:Int)(h0:vs=[.int s])(h1:TabsOk (tabs a) H)(h2:∀ H' f,SameT H H'->TabsOk (tabs a) H'->IsLam H' dS fvS f [.int s]->Q f H'):spLGo a vs H Q _E
theorem yY{b:Bool}{a:Ad}{H:Hp}{i:V}{g:List Int->Tr}{j:Bool}(h:IsGo b a H i g j):∃ p d cl c,i=.ref p/\H p=some (.ext (dW p d cl c)):=by
 rcases h with⟨_,u,t,⟨f,c,cl,e,k,_⟩,_⟩ | ⟨l,o,⟨f,c,cl,e,k,_⟩,_⟩ | ⟨n,⟨f,c,cl,e,k,_⟩,_⟩ <;> exact⟨f,_,cl,c,e,k⟩
theorem fY{H:Hp}:∀{d:Nat}{v:V}{t:Tr},IsTree H d v t->Tb.Lb t
 | d,v,.leaf ns,h=>by
  obtain⟨p,_,_,b,_⟩:=(ax d).mp h;rw[Tb.Lb];exact b
 | 0,v,.die ps,h=>False.elim h
 | d+1,v,.die ps,h=>by
  obtain⟨p,f,-,-,a,-,-⟩:=h;rw[Tb.Lb];refine Tb.lbs_of ?_
  induction a with
  | nil=>intro p hp;cases hp
  | cons r _ ih =>
   intro p hp
   rcases mem_cons.mp hp with rfl | hp
   .obtain⟨_,_,_,_,_,_,c⟩:=r
    exact fY c
   .exact ih p hp
section
variable {P:Program}{w:World}{K:Frag}{mg:Str->Option Value}{base:Heap}{a:Ad}
theorem wW(T:Txt K mg a)(b:Bm mg base):FnOk P w K mg base CX0 6 a.f_i a.d_i ["node","go"] (oy false a):=mQ T b false (Nat.le_refl 5) zk
theorem rZ(T:Txt K mg a)(r:Bm mg base):FnOk P w K mg base CX0 7 a.f_p a.d_p ["kept","node"] (Ap a):=by
 have i:FnOk P w K mg base CX0 6 _ _ _ (oy false a):=wW T r;refine T.F_p.okL T.lcd_p sc_p (by decide +kernel) (λC H Q E h=>?_) (λA outer s H C Q E hr h=>?_)
 .obtain⟨u,p,x,t,o,rfl,_⟩:=h;rfl
 .obtain⟨u,p,x,t,o,rfl,k,j,y,l,D,q⟩:=h
  refine⟨_,(pN sc_p.nd (by decide +kernel) i hr rfl T.m_i T.F_i.kp T.B_i .nil (aa (vr 1) (aa (iy (d:=dI) rfl T.lch_p r rfl (by with_unfolding_all rfl) rfl (rR a) (.head _) T.tnd qV) af))),?_⟩;refine⟨D,λv B I F n G g f=>λH3 s3 hc=>?_⟩;have c:=F.trans s3.t;have b:=k.t c;refine⟨u,.ref v,_,false,t,o,rfl,b,l.t (cU c),.inr (.inl ⟨p,x,gW b ⟨v,B,_,rfl,s3 _ _ g,s3 _ _ f,rfl,by simp,.cons (hc 0 _ _ _ rfl rfl (by with_unfolding_all rfl)) .nil⟩,cN b (c.at j) (λ_ z=>nomatch z),y,rfl,rfl⟩),(λz=>nomatch z),n.same s3,λH' u' t' hT' hN=>q _ _ (c.trans t') hT' hN⟩
theorem zV(T:Txt K mg a)(I:Bm mg base):LamOk P w K mg base 8 eW fvO ["kept"] (zu true a):=by
 have k:FnOk P w K mg base CX0 7 _ _ _ (Ap a):=rZ T I;refine io lsO (λW L d c D F=>match D,F with | [_],_=>rfl) (λvals vs H Q E h=>?_) (λA outer s H f c d vals vs Q E hr hfv ca h=>?_)
 .obtain⟨_,u,y,B,t,o,rfl,rfl,_⟩:=h;rfl
 .obtain⟨_,u,y,B,t,o,rfl,rfl,g,n,G,i,J,q⟩:=h
  refine⟨_,(ap k hr rfl T.m_p T.F_p.kp T.B_p .nil ar (aa (vr 0) (aa (vr 1) af))),?_⟩;have l:=gB g ca;obtain⟨x,C,R,N,r,M⟩:=zt i
  have b:=vM l (λv j=>by rw[mem_singleton.mp j];exact⟨x,r⟩) (λv j p xs e=>by
   rw[mem_singleton.mp j,r]at e;cases e;rw[M]
   exact⟨(λz=>by cases z),(λz=>by cases z)⟩) i
  rw[gy]at b;refine⟨u,y,B,t,o,rfl,oE ca g,aI ca n (λv z=>nomatch z),G,b,TabsOk.untrs J ca,λH' u' t' hT' hN=>λH3 s3 hc=>?_⟩;exact q _ _ (back t' s3 hc) (hT'.same s3) (hN.t (cU s3.t))
theorem oh(T:Txt K mg a)(b:Bm mg base):FnOk P w K mg base CX0 9 a.f_i a.d_i ["node","go"] (oy true a):=mQ T b true (by decide) (zV T b)
theorem Bf(T:Txt K mg a)(M:Bm mg base):LamOk P w K mg base 10 ld_behind_1 fvB ["after"] (Bx a):=by
 have z:FnOk P w K mg base CX0 9 _ _ _ (oy true a):=oh T M;refine io lsB (λY W k c I J=>match I,J with | [_],_=>rfl) (λvals vs H Q E h=>?_) (λA outer s H f c k vals vs Q E hr hfv ca h=>?_)
 .obtain⟨v,B,g,F,t,r,rfl,rfl,_⟩:=h;rfl
 .obtain⟨v,B,g,F,t,r,rfl,rfl,n,D,o,x,N,q⟩:=h
  refine⟨_,(ap z hr rfl T.m_i T.F_i.kp T.B_i .nil ar (aa (vr 0) (aa (vr 1) af))),?_⟩;have l:=gB n ca;have i:∀ v∈[B],∃ p d cl c,v=.ref p/\untrs H r p=some (.ext (dW p d cl c)):=λv G=>by rw[mem_singleton.mp G];exact yY o
  obtain⟨u,y⟩:=oR i;have j:=vM l u y D;have b:=yg l i o;rw[gy]at j b;refine⟨v,B,g,F,t,r,rfl,oE ca n,j,b,x,TabsOk.untrs N ca,λZ X R C L=>λH3 s3 hc=>?_⟩;exact q _ _ (back R s3 hc) (C.same s3) (L.t (cU s3.t))
theorem xK(T:Txt K mg a)(hB:Bm mg base):LamOk P w K mg base 11 aC fvC [] (u6 a):=by
 have B:LamOk P w K mg base 10 ld_L_make_1 fvT [] (spL a):=LamOk.mono (yv T hB) (by decide);have F:LamOk P w K mg base 10 ld_behind_1 fvB ["after"] (Bx a):=Bf T hB;refine io lsC (λpm ba x c us hl=>match us,hl with | [],_=>rfl) (λvals vs H Q E h=>?_) (λA outer s H f c x vals vs Q E hr hfv ca h=>?_)
 .obtain⟨m,cr,go,g,ev,t,I,rfl,rfl,_⟩:=h;rfl
 .obtain⟨m,cr,go,g,ev,t,I,rfl,rfl,R,hm,al,an,a7,hT,q⟩:=h
  refine⟨_,(gY (vr 1) F hr (aa (eP (vr 0) B hr) af)),?_⟩;have r:=gB R ca
  have C:∀ v∈[m,cr],∃ p d j c,v=.ref p/\untrs H I p=some (.ext (dW p d j c)):=λv hv=>by
   rcases mem_cons.mp hv with rfl | hv
   .obtain⟨_,_,_,⟨f',c',j,e,k,_⟩,_⟩:=hm
    exact⟨f',_,j,c',e,k⟩
   .rw[mem_singleton.mp hv]
    obtain⟨f',c',j,e,k,_⟩:=al;exact⟨f',_,j,c',e,k⟩
  obtain⟨M,a0⟩:=oR C;have G:=zJ r M a0 hm;have l:=yg r C an
  have i:IsLam (untrs (untrs H I) (x.map (·.2))) ld_behind_1 fvB cr [go]:=by
   obtain⟨fB,cB,W,rfl,X,b3,b4,b5,b6⟩:=al;refine⟨fB,cB,W,rfl,aI r X λv=>eI,aI r b3 λv=>cT,b4,b5,fQ r M (λv hv z=>?_) b6⟩;rw[mem_singleton.mp hv]at z
   obtain⟨pg,dg,clg,cg,eg,kg⟩:∃ p d j c,go=.ref p/\untrs H I p=some (.ext (dW p d j c))/\d.qual≠ld_L_make_1.qual/\d.qual≠ld_behind_1.qual:=by
    rcases an with⟨_,u,t,⟨f,c,j,e,k,_⟩,_⟩ | ⟨kt,ns,⟨f,c,j,e,k,_⟩,_⟩ | ⟨n,⟨f,c,j,e,k,_⟩,_⟩ <;> exact⟨f,_,j,c,e,k,by decide +kernel,by decide +kernel⟩
   rcases mem_cons.mp z with e | z
   .obtain⟨_,_,_,⟨f',c',j,e1,k1,_⟩,_⟩:=hm
    rw[<- e,eg]at e1;cases e1;rw[kg.1]at k1;exact kg.2.1 (pI (Option.some.inj k1))
   .have e:=mem_singleton.mp z
    rw[eg]at e;cases e;rw[kg.1]at X;exact kg.2.2 (pI (Option.some.inj X))
  rw[gy]at G l i;have y:=oE ca R;have ac:=TabsOk.untrs hT ca;generalize hU:untrs H (x.map (·.2))=U at G l i y ac;obtain⟨wt,H0,d0,⟨fA,cA,a1,rfl,a2,a3,a4,a5,a6⟩,Z,s0,Y⟩:=G;obtain⟨fB,cB,W,rfl,X,b3,b4,b5,b6⟩:=id i;have N:SameT H0 U:=s0.trans b7;refine⟨⟨fB,_,_,cB,rfl,(aK X).2⟩,fA,cA,a1,_,rfl,(aK a2).2,(aK a3).2,a4,a5,dN b7 a6,wt,d0,t,H0,rfl,rfl,Y,N,ac,Z,λH1 u D az a8 nl=>?_⟩;have L:=y.t D;have as:=i.t (cU D);obtain⟨a',a9,ab,e9,d2,d3,d4,d5,d6⟩:=id as;cases e9
  have f0:∀ b∈I,H0 b=none:=λb hb=>by
   cases e:H0 b with
   | none=>rfl
   | some o =>
    obtain⟨_,o',e'⟩:=s0 b o e;rw[dF hb]at e';cases e'
  have J:=kU y D Z (N.trans D) f0 a8 nl (fY Y);refine⟨λ_ _ _ _ _ e=>D.at e,fB,a9,ab,_,rfl,(aK d2).2,(aK d3).2,d4,d5,dN b7 d6,u,go,g,ev,t,I,rfl,rfl,L,J,l.t (cU D),a7,az,λH2 u' t2 hT2 hN=>λH3 s3 hc=>?_⟩;rw[<- hU]at D;exact q _ _ (back (D.trans t2) s3 hc) (hT2.same s3) (hN.t (cU s3.t))
theorem xf(T:Txt K mg a)(o:Bm mg base):FnOk P w K mg base CX0 10 a.f_H a.d_H ["one","other"] (tR a):=by
 have g:FnOk P w K mg base CX0 9 _ _ _ (oy true a):=oh T o;refine T.F_H.okL T.lcd_H sc_H (by decide +kernel) (λB H Q E h=>?_) (λA outer s H B Q E hr h=>?_)
 .obtain⟨r,n,l,u,rfl,_⟩:=h;rfl
 .obtain⟨r,n,l,u,rfl,C,x,D,q⟩:=h
  refine⟨_,(pN sc_H.nd (by decide +kernel) g hr rfl T.m_i T.F_i.kp T.B_i .nil (aa (vr 0) (aa (iy (d:=eW) rfl T.lch_H o rfl (by with_unfolding_all rfl) rfl (xB a) (.head _) T.tnd wJ) af))),?_⟩;refine⟨D,λp y G i k F f c=>λH3 s3 hc=>?_⟩;have j:=i.trans s3.t;refine⟨r,.ref p,_,false,l,[],rfl,(λb v=>by cases v),by rw[cu];exact C.t j,.inl ⟨rfl,n,u,by rw[cu];exact⟨p,y,_,rfl,s3 _ _ f,s3 _ _ c,rfl,by simp,.cons (hc 1 _ _ _ rfl rfl (by with_unfolding_all rfl)) .nil⟩,by rw[cu];exact x.t j,rfl,rfl⟩,(λz=>nomatch z),k.same s3,λH' u' t' hT' hN=>?_⟩;rw[cu]at hN;exact q _ _ (j.trans t') hT' hN
theorem yS(T:Txt K mg a)(i:Bm mg base):FnOk P w K mg base CX0 1 a.f_J a.d_J ["_law_sides"] (spLGo a):=by
 refine T.F_J.okL T.lcd_J wn (by decide +kernel) (λo H Q E h=>?_) (λA outer s H o Q E hr h=>?_)
 .obtain⟨s,rfl,_⟩:=h;rfl
 .obtain⟨v,rfl,k,q⟩:=h
  refine⟨_,(lm (iy (d:=dS) rfl T.lch_J i rfl (by with_unfolding_all rfl) rfl (wz a) (.head _) T.tnd wD)),?_⟩;refine⟨k,λj n r l g x c f=>?_⟩;exact λu b p=>q _ _ (l.trans b.t) (g.same b) ⟨j,n,_,rfl,b _ _ c,b _ _ f,rfl,by simp,.cons (p 0 _ _ _ rfl rfl (by with_unfolding_all rfl)) .nil⟩
end
open Tb (Tr Ent Way bnd cQ Dq Dqs)
def IsMkN(a:Ad)(H:Hp)(f:V)(t:Tr):Prop:=IsMkP H f t\/∃ m cr go g ev t1,IsLam H aC fvC f [m,cr]/\IsMkP H m t1/\IsLam H ld_behind_1 fvB cr [go]/\IsGo true a H go g ev/\(ev=true->Tb.Par 0 t1)/\t=bnd t1 g
theorem IsMkN.t{a:Ad}{H H':Hp}{f:V}{t:Tr}(s:SameT H H')(h:IsMkN a H f t):IsMkN a H' f t:=by
 rcases h with h | ⟨m,o,b,g,l,j,c,i,d,k,n⟩
 .exact .inl (h.t s)
 .exact .inr ⟨m,o,b,g,l,j,c.t s,i.t s,d.t s,k.t s,n⟩
def NdR(a:Ad)(H:Hp)(p:Int×Tr)(r:Int×V):Prop:=p.1=r.1/\1<=p.1/\p.1<=1000000000/\IsMkN a H r.2 p.2
theorem qO{a:Ad}{H:Hp}{v:V}{b:List Int}(h:IsNd a H v (.leaf b)):IsTold a H v b:=by
 rcases h with⟨_,_,_,_,h,_⟩ | ⟨_,e,_⟩ | ⟨_,e,h⟩
 .exact h
 .cases e
 .cases e;exact h
theorem nJ{a:Ad}{H:Hp}{v:V}{ps:List (Int×Tr)}(h:IsNd a H v (.die ps)):∃ rs,IsRaw a H v rs/\Paired (NdR a H) ps rs:=by
 rcases h with⟨J,d,C,R,⟨K,_,x,z,l,b,rfl,I,p,n,o,u⟩,_⟩ | ⟨P,e,x,z,l,b,L,W,g,M,rfl,I,p,A,E,n,o,u⟩ | ⟨_,e,_⟩
 .have c:∀{ps:List (Int×Tr)}{b:List V},Paired (NodeR J H K) ps b->∃ rs:List (Int×V),Paired (RawR H) rs b/\Paired (NdR a H) ps rs:=by
   intro ps b h
   induction h with
   | nil=>exact⟨[],.nil,.nil⟩
   | @cons pt y ps b r _ ih =>
    obtain⟨rs,s,B⟩:=ih;obtain⟨q,f,Z,w,k,Y,j,F,D⟩:=r;exact⟨(pt.1,f)::rs,.cons ⟨q,w,k,j⟩ s,.cons ⟨rfl,j,F,.inl ⟨Z,J,K,Y,C,R,D⟩⟩ B⟩
  obtain⟨rs,G,i⟩:=c n;have:rs.length=ps.length:=i.length.symm;exact⟨rs,⟨x,z,l,b,rfl,I,p,G,by lia,by lia⟩,i⟩
 .cases e
  have c:∀{ps:List (Int×Tr)}{b:List V},Paired (CdR H L g M) ps b->∃ rs:List (Int×V),Paired (RawR H) rs b/\Paired (NdR a H) ps rs:=by
   intro ps b h
   induction h with
   | nil=>exact⟨[],.nil,.nil⟩
   | @cons pt y ps b r _ ih =>
    obtain⟨rs,s,B⟩:=ih;obtain⟨q,f,m,N,w,k,j,F,D,X,Q,T⟩:=r;exact⟨(pt.1,f)::rs,.cons ⟨q,w,k,j⟩ s,.cons ⟨rfl,j,F,.inr ⟨m,L,W,g,M,N,D,X,A,E,T,Q⟩⟩ B⟩
  obtain⟨rs,G,i⟩:=c n;have:rs.length=ps.length:=i.length.symm;exact⟨rs,⟨x,z,l,b,rfl,I,p,G,by lia,by lia⟩,i⟩
 .cases e
theorem qP{a:Ad}{H:Hp}{ps:List (Int×Tr)}{b:List (Int×V)}(h:Paired (NdR a H) ps b):yU b=Tb.tot ps:=by
 induction h with
 | nil=>rfl
 | cons r _ ih =>
  unfold yU Tb.tot at *;rw[map_cons,map_cons,sum_cons,sum_cons,ih,r.1]
theorem qh{a:Ad}{H:Hp}{i:List Addr}{f:V}{t:Tr}{Q:VK}(h:IsMkN a (untrs H i) f t)(l:Bad H i)(F:TabsOk (tabs a) H)(q:Res a H i t Q):o8 ld_L_make_1 fvT (spL a) f [] H Q\/o8 aC fvC (u6 a) f [] H Q:=by
 rcases h with⟨w,n,d,⟨A,c,B,rfl,D,x,r,p,s⟩,k,v,j⟩ | ⟨m,K,P,g,T,I,⟨A,c,B,rfl,D,x,r,p,s⟩,M,W,R,N,rfl⟩
 .have G:∀ b∈i,n b=none:=λb L=>by
   cases e:n b with
   | none=>rfl
   | some o =>
    obtain⟨_,X,E⟩:=v b o e;rw[dF L]at E;cases E
  exact .inl ⟨A,c,B,_,rfl,(aK D).2,(aK x).2,r,p,dN b7 s,w,d,t,n,rfl,rfl,j,v.trans b7,F,k,λY u C z y J=>q _ _ C z (.inl (kU l C k ((v.trans b7).trans C) G y J (fY j)))⟩
 .exact .inr ⟨A,c,B,_,rfl,(aK D).2,(aK x).2,r,p,dN b7 s,m,K,P,g,T,I,i,rfl,rfl,l,M,W,R,N,F,q⟩
theorem gJ{H:Hp}{es:List Addr}{b:Addr}{o:HO}(a:b∈es):SameT (untrs H es) (untrs (upd H b o) es):=λc u e=>by
 obtain⟨n,d⟩:=aK e;have:untrs (upd H b o) es c=some u:=by rw[aG n,ag (λz=>n (by rw[z];exact a))];exact d
 exact⟨λ_=>this,u,this⟩
theorem sw{H H':Hp}{es:List Addr}{D:Addr}(s:SameT H H')(h:H D=none):SameT (untrs H es) (untrs H' (D::es)):=λc u e=>by
 obtain⟨n,a⟩:=aK e
 have b:c ∉ D::es:=λz=>by
  rcases mem_cons.mp z with z | z
  .rw[z,h]at a;cases a
  .exact n z
 rw[aG b];exact s c u a
theorem sB{H:Hp}{es:List Addr}{D:Addr}:SameT (untrs H (D::es)) (untrs H es):=λc u e=>by
 obtain⟨n,a⟩:=aK e;have:untrs H es c=some u:=by rw[aG (λz=>n (mem_cons_of_mem _ z))];exact a
 exact⟨λ_=>this,u,this⟩
def PartN(a:Ad)(H:Hp)(pt:Int×Tr)(z:V):Prop:=∃ q u,z=.ref q/\H q=some (.tup [.int pt.1,u])/\IsNd a H u pt.2
theorem PartN.t{a:Ad}{H H':Hp}(s:SameT H H')(b:Int×Tr)(z:V)(h:PartN a H b z):PartN a H' b z:=by
 obtain⟨q,u,d,c,f⟩:=h;exact⟨q,u,d,s.at c,f.t s⟩
def AR(a:Ad):Sp:=λvs H Q _=>∃ v ps Bd,vs=[v]/\Bad H Bd/\IsNd a (untrs H Bd) v (.die ps)/\TabsOk (tabs a) H/\∀ H' D zs,SameT H H'->TabsOk (tabs a) H'->H D=none->H' D=some (.lst zs)->Paired (PartN a (untrs H' Bd)) ps zs->Q (.ref D) H'
section
variable {P:Program}{w:World}{K:Frag}{mg:Str->Option Value}{base:Heap}{a:Ad}
theorem Az(T:Txt K mg a)(hB:Bm mg base):FnOk P w K mg base CX0 12 a.x_F a.y_F ["self"] (AR a):=by
 have j:LamOk P w K mg base 11 ld_L_make_1 fvT [] (spL a):=LamOk.mono (yv T hB) (by decide);have I:LamOk P w K mg base 11 aC fvC [] (u6 a):=xK T hB;refine T.F_F.ok lP (λvs H Q E h=>?_) (λcdv A outer s H vs Q E hr h=>?_)
 .obtain⟨v,L,M,rfl,_⟩:=h;rfl
 .obtain⟨v,L,M,rfl,a4,a0,hT,q⟩:=h
  have a9:sizeLine=16777216:=sizeLine_eq;obtain⟨rs,⟨x,dx,l,G,rfl,hx,hl,k,ba,bb⟩,al⟩:=nJ a0;have rl:rs.length=L.length:=al.length.symm;have a5:G.length=rs.length:=k.length.symm;have hx:=(aK hx).2;have hl:=(aK hl).2;refine⟨_,(am (aB (bY rfl (N:=["many","make"]) (ix:=[none,none]) ⟨rfl,rfl,rfl,rfl,trivial⟩ (bV (gA (vr 0) rfl)) ⟨λC s H fp=>(di (K:=K) (n:=2) rfl rfl (av (au (i:=0) (show List.Nodup (["many","make"]:List Str) by decide +kernel) rfl (Or.inl rfl)) (av (au (i:=1) (show List.Nodup (["many","make"]:List Str) by decide +kernel) rfl (Or.inl rfl)) bi))),λC s H fp=>bX,λC s H fp=>(bH (aa (vr 0) (aa (PE.or (eP (vr 1) j hr) (eP (vr 1) I hr)) af)))⟩))),?_⟩;refine⟨x,_,dx,_,_,rfl,hx,T.cl_g,T.na_Die_makes,rfl,.inl ⟨⟨_,SqL.of hl⟩,λD R=>?_⟩⟩;have ext:∀{d:Hp},TabsOk (tabs a) d->∀{G:List V}{W:List V},d D=some (.lst G)->TabsOk (tabs a) (upd d D (.lst W)):=λa2 G W e=>a2.put (λL z=>by rw[e]at z;cases z) λφ z=>by rw[e]at z;cases z
  let Pw1:PvL:=λi p d=>SameT H d/\TabsOk (tabs a) d/\d D=some (.lst p)/\i<=L.length/\Paired (PartN a (untrs d (D::M))) (L.take i) p
  refine da (K:=K) (a:=l) (xs:=G) Pw1
   ⟨(Same.new R).t,hT.same (Same.new R),ad,Nat.zero_le _,.nil⟩ (λi G d h=>SqL.of (h.1.at hl)) (λi G d h=>h.2.2.1) ?_ ?_
  .rintro i y p d P' hy ⟨J,F,g,hi,Z⟩ as
   obtain⟨⟨an,f⟩,az,q1,rfl,B,m0⟩:=aJ k hy;obtain⟨⟨c,t⟩,ab,e9,_,_,a8⟩:=aJ al az;have e9:c=an:=e9;subst e9;have B:=(aK B).2;have a1:i<L.length:=(List.getElem?_eq_some_iff.mp ab).1
   have r:Bad d (D::M):=λb hb=>by
    rcases mem_cons.mp hb with rfl | hb
    .exact⟨_,g⟩
    .exact a4.t J b hb
   refine⟨q1,_,rfl,SqT.of (J.at B),rfl,_,_,rfl,_,_,rfl,rfl,trivial,?_⟩;refine qh (a8.t (sw J R)) r F λH2 u t2 a' hu=>?_
   have a7:=t2.at g;refine⟨by show 2<=sizeLine;decide,λq2 a6=>?_⟩;have X:=Same.new (o:=.tup [.int c,u]) a6;have ac:=X _ _ a7;have yl:p.length<=5000:=by rw[<- Z.length,length_take];lia
   have a3:=(J.trans t2).trans X.t;have Y:=(r.t t2).t X.t;have c3:SameT (untrs H2 (D::M)) (untrs (upd (upd H2 q2 (.tup [.int c,u])) D (.lst (p++[.ref q2]))) (D::M)):=(cU X.t).trans (gJ mem_cons_self);refine⟨ac,by lia,as _ _ ⟨a3.put R,ext (a'.same X) ac,ad,a1,cR (aq (PartN.t ((cU t2).trans c3)) Z) ab ⟨q2,u,rfl,?_,hu.t c3⟩⟩⟩;exact(gJ (o:=.lst (p++[.ref q2])) mem_cons_self).at (cN Y ad (λ_ z=>nomatch z))
  .rintro p d ⟨J,F,g,hi,Z⟩
   rw[a5,rl,take_length]at Z;exact q d D p J F R g (aq (PartN.t sB) Z)
end
end My
namespace L2
open PySem PySem.Spec PyProof.Rows
section
variable {X:Cx}{a b c d:Expr}{ta tb tc td:TE}{pos:Pos}
end
section
variable {X:Cx}{o e:Expr}{es:List Expr}{to:TE}{t:TA}{apos cpos:Pos}
theorem pe_m.extend(f:PE X o to)(g:PA X (e::es) t)(b:attributeBase o "extend" X.env (eval o X.env)=eval o X.env:=by rfl)
  (d:((backTo cpos (starEach (e::es) X.env)).all (λx=>!x.1) && (backToKw cpos (keywordEach [] X.env)).all (λx=>x.1.isSome) && decide ((e::es).length+([]:List Keyword).length+(if ([]:List Keyword).isEmpty then 0 else 1)<30))=true:=by rfl)
  (c:(apos.endLine == cpos.line)=true:=by rfl) (h:starEach (e::es) X.env=(false,eval e X.env)::starEach es X.env:=by rfl) (a:(backTo cpos (starEach es X.env)).any (·.1)=false:=by rfl) :
  PE X (.Call (.Attribute o "extend" apos) (e::es) [] cpos) (tBM X.K "list" qr to t):=yc F.plainAttrs_list F.slot_list_extend F.type_list_extend qT f g b d c h a
end
end L2
namespace My
open PySem L2 FrM
open Tb (Tr Ent Way bnd cQ Dq Dqs)
def bd(d:Nat):Nat:=60*(5 - d)+2
def EntR(a:Ad)(H:Hp)(e:Ent)(y:V):Prop:=∃ q v d,y=.ref q/\H q=some (.tup [v,.int e.2.1,.int e.2.2])/\IsNd a H v e.1/\Dq d e.1/\d<=5/\Bt (bd d) e.2.1/\Bt (bd d) e.2.2/\0<e.2.2
theorem EntR.t{a:Ad}{H H':Hp}(s:SameT H H')(e:Ent)(y:V)(h:EntR a H e y):EntR a H' e y:=by
 obtain⟨q,v,d,c,b,f,g⟩:=h;exact⟨q,v,d,c,s.at b,f.t s,g⟩
def WayR(H:Hp)(w:Way)(y:V):Prop:=∃ q kt ct ns,y=.ref q/\H q=some (.tup [.ref kt,.ref ct])/\H kt=some (.tup (ns.map V.int))/\Srt ns w.1/\H ct=some (.tup [.int w.2.1,.int w.2.2])/\Bt 400 w.2.1/\Bt 400 w.2.2/\0<w.2.2
theorem WayR.t{H H':Hp}(s:SameT H H')(w:Way)(y:V)(h:WayR H w y):WayR H' w y:=by
 obtain⟨q,g,f,i,b,a,c,j,k,d⟩:=h;exact⟨q,g,f,i,b,s.at a,s.at c,j,s.at k,d⟩
def RefM(a:Ad)(H:Hp)(E:XK):Prop:=∀ H',SameT H H'->TabsOk (tabs a) H'->E (.ref a.c_z) none H'
def uH(a:Ad):Sp:=λvs H Q E=>∃ v d t,vs=[v]/\IsNd a H v t/\Dq d t/\d<=5/\Tb.Ok t/\TabsOk (tabs a) H/\(Tb.lv t<=4096->∀ H' l zs,SameT H H'->TabsOk (tabs a) H'->H l=none->H' l=some (.lst zs)->Paired (WayR H') (Tb.wl t 1 1) zs->Q (.ref l) H')/\(4096<Tb.lv t->RefM a H E)
theorem yR{a:Ad}{H H1:Hp}{E:XK}{c:Addr}(t:SameT H H1)(i:TabsOk (tabs a) H1)(q:∀ H',SameT H H'->TabsOk (tabs a) H'->E (.ref c) none H'):∀ z,H1 z=none->∃ x dct φ,V.ref z=.ref x/\(upd H1 z (.ext (XD0 z c))) x=some (.ext φ)/\(∀ h,φ h->XU x c dct h)/\H x=none/\E (.ref c) dct (untr (upd H1 z (.ext (XD0 z c))) x):=λz d=>by
 have g:Same H1 (untr (upd H1 z (.ext (XD0 z c))) z):=λb o e=>by
  have f:b≠z:=λy=>by rw[y,d]at e;cases e
  rw[aO f,ag f];exact e
 exact⟨z,none,_,rfl,ad,λh y=>y,t.free d,q _ (t.trans g.t) (i.same g)⟩
def cut2(H:Hp)(l m:Addr):Hp:=untrs H [l,m]
theorem gX{H:Hp}{l m b:Addr}{o:HO}(h:cut2 H l m b=some o):b≠l/\b≠m/\H b=some o:=by
 obtain⟨n,e⟩:=aK h;exact⟨λz=>n (by rw[z];simp),λz=>n (by rw[z];simp),e⟩
theorem gR{H:Hp}{l m b:Addr}{o:HO}(a:b≠l)(c:b≠m)(h:H b=some o):cut2 H l m b=some o:=by
 unfold cut2;rw[aG (by simp[a,c])];exact h
theorem SameT.cut2{H H':Hp}{l m:Addr}(s:SameT H H'):SameT (cut2 H l m) (My.cut2 H' l m):=cU s
theorem nV{H:Hp}{l m:Addr}{o:HO}:SameT (cut2 H l m) (cut2 (upd H l o) l m):=gJ (by simp)
theorem zN{H:Hp}{l m:Addr}{o:HO}:SameT (cut2 H l m) (cut2 (upd H m o) l m):=gJ (by simp)
theorem mM{H:Hp}{l m:Addr}:SameT (cut2 H l m) H:=b7
theorem zY{H H':Hp}{l m:Addr}(s:SameT H H')(c:H l=none)(a:H m=none):SameT H (cut2 H' l m):=λb o e=>by
 have d:b ∉ [l,m]:=λz=>by
  rcases mem_cons.mp z with z | z
  .rw[z,c]at e;cases e
  .rw[mem_singleton.mp z,a]at e;cases e
 unfold cut2;rw[aG d];exact s b o e
theorem iJ{c d:Type}{r:c->d->Prop}:∀{as:List c}{bs:List d},Paired r as bs->bs≠[]->∃ as' a bs' b,as=as'++[a]/\bs=bs'++[b]/\Paired r as' bs'/\r a b
 | _,_,.nil,h=>absurd rfl h
 | _,_,.cons (a:=a) (b:=b) x (.nil),_=>⟨[],_,[],_,rfl,rfl,.nil,x⟩
 | _,_,.cons x (.cons y t),_=>by
  obtain⟨as',a,bs',b,j,i,g,f⟩:=iJ (.cons y t) (by simp);exact⟨_::as',a,_::bs',b,by rw[j];rfl,by rw[i];rfl,.cons x g,f⟩
theorem cut_sub{H:Hp}{D:Addr}:SameT (untr H D) H:=λb a e=>by
 by_cases hb:b=D
 .rw[hb,bT]at e;cases e
 .rw[aO hb]at e
  exact SameT.refl b a e
theorem si{H:Hp}{l m b:Addr}(h:H b=none):cut2 H l m b=none:=by
 cases e:cut2 H l m b with
 | none=>rfl
 | some o=>rw[(gX e).2.2]at h;cases h
theorem uN{H:Hp}{l m D:Addr}{o:HO}:SameT (untr (cut2 H l m) D) (untr (cut2 (upd H D o) l m) D):=λb a e=>by
 by_cases hb:b=D
 .rw[hb,bT]at e;cases e
 .rw[aO hb]at e
  obtain⟨c,d,h⟩:=gX e;have:untr (cut2 (upd H D o) l m) D b=some a:=by rw[aO hb];exact gR c d (by rw[ag hb];exact h)
  exact⟨λ_=>this,a,this⟩
theorem kx{a b:Type}{r:a->b->Prop}{f:List a}{d:List b}(c:Paired r f d):∀{as:List a}{bs:List b},Paired r as bs->Paired r (as++f) (bs++d)
 | _,_,.nil=>c
 | _,_,.cons x t=>.cons x (kx c t)
theorem sQ:∀{d:Nat}{ps:List (Int×Tr)},Dqs d ps->(ps.length:Int)<=Tb.tot ps/\Tb.tot ps<=(ps.length:Int)*1000000000
 | _,[],_=>by simp[Tb.tot]
 | d,(m,u)::r,h=>by
  rw[Tb.Dqs]at h;have b:=sQ h.2.2.2;have f:=h.1;have c:=h.2.1;have a:Tb.tot ((m,u)::r)=m+Tb.tot r:=by unfold Tb.tot;rw[map_cons,sum_cons]
  rw[a,length_cons];have e:((r.length+1:Nat):Int)*1000000000=(r.length:Int)*1000000000+1000000000:=by rw[Int.natCast_add,Int.add_mul];simp
  rw[e];show((r.length+1:Nat):Int)<=m+_/\m+_<=_;lia
section
variable {P:Program}{w:World}{K:Frag}{mg:Str->Option Value}{base:Heap}{a:Ad}
theorem wa(T:Txt K mg a)(hB:Bm mg base):FnOk P w K mg base (CXG P w) 14 a.f_K a.d_K ["node"] (uH a):=by
 have d2:FnOk P w K mg base CX0 13 _ _ _ _:=(vp T).mono (by decide);have dK:FnOk P w K mg base CX0 13 _ _ _ _:=(vo T).mono (by decide);have dq:FnOk P w K mg base CX0 13 _ _ _ _:=(uX T).mono (by decide);have d4:FnOk P w K mg base CX0 13 _ _ _ _:=(tF T).mono (by decide);have eb:FnOk P w K mg base CX0 13 _ _ _ _:=(yf T).mono (by decide);have dg:FnOk P w K mg base CX0 13 _ _ _ _:=(xU T).mono (by decide);have d3:FnOk P w K mg base CX0 13 _ _ _ _:=(AW T).mono (by decide);have dt:FnOk P w K mg base CX0 13 _ _ _ _:=(Az T hB).mono (by decide);refine T.F_K.okG sc_K (λvs H Q E h=>?_) (λcdv A outer s H vs Q E hr h=>?_)
 .obtain⟨v,d,t,rfl,_⟩:=h;rfl
 .obtain⟨v,d,t,rfl,hn,d5,hd,dh,hT,q1,q2⟩:=h
  have dr:sizeLine=16777216:=sizeLine_eq;refine⟨_,(aj (aL (i:=1) sc_K.nd rfl (Or.inl rfl) (cV af)) (aj (aL (i:=2) sc_K.nd rfl (Or.inl rfl) (cV (aa (bH (aa (vr 0) (aa ak (aa ak af)))) af))) (aj (fH vS (mV (vr 2) (λ_=>rfl)) (aj (jD (pe_m.pop (vr 2)) (eh rfl (av (au (i:=3) sc_K.nd rfl (Or.inl rfl)) (av (au (i:=4) sc_K.nd rfl (Or.inr rfl)) (av (au (i:=5) sc_K.nd rfl (Or.inr rfl)) bi))))) (aj (cX (gw (PE.or (aS (vr 3) T.cl_f T.mt_j d2 hr T.B_j .nil ar) (aS (vr 3) T.cl_g T.mt_k dK hr T.B_k .nil ar))) (am (fg (pe_m.append (vr 1) (aa (bH (aa (PE.or (aS (vr 3) T.cl_f T.mt_m dq hr T.B_m .nil ar) (aS (vr 3) T.cl_g T.mt_r d4 hr T.B_r .nil ar)) (aa (bH (aa (vr 4) (aa (vr 5) af))) af))) af)))) (aj (aL (i:=6) sc_K.nd rfl (Or.inr rfl) (PE.or (aS (vr 3) T.cl_f T.mt_v eb hr T.B_v .nil ar) (aS (vr 3) T.cl_g T.mt_A dg hr T.B_A .nil ar))) (am (fg (pe_m.extend (vr 2) (aa (bY rfl (N:=["many","after","top","bottom","sides"]) (ix:=[none,none,some 4,some 5,some 6]) ⟨rfl,rfl,rfl,rfl,⟨rfl,rfl,rfl,⟨rfl,rfl,rfl,⟨rfl,rfl,rfl,trivial⟩⟩⟩⟩ (bV (PE.or (aS (vr 3) T.cl_f T.mt_C d3 hr T.B_C .nil ar) (aS (vr 3) T.cl_g T.mt_F dt hr T.B_F .nil ar))) ⟨λC s H fp=>(di (K:=K) (n:=2) rfl rfl (av (au (i:=0) (show List.Nodup (["many","after","top","bottom","sides"]:List Str) by decide +kernel) rfl (Or.inl rfl)) (av (au (i:=1) (show List.Nodup (["many","after","top","bottom","sides"]:List Str) by decide +kernel) rfl (Or.inl rfl)) bi))),λC s H fp=>bX,λC s H fp=>(bH (aa (vr 1) (aa (aA bW (vr 2) (vr 0)) (aa (aA bW (vr 3) (vr 4)) af))))⟩) af)))))) (am (cX (eG Ao (aA fm (aD eU rfl T.z_len jq (aa (vr 1) af)) (aD eU rfl T.z_len jq (aa (vr 2) af))) (Bv rfl T.g_MOST_WAYS) (cP _)) (am (fW T.xc_z T.xh_z (wo T.xi_TooMany T.kc_TooMany rfl T.mc_z))) bO))))) (am (aB (vr 1)))))),mU ?_⟩;intro ek es ep;refine⟨Nat.zero_le _,λj a5=>?_⟩;have u1:=Same.new (o:=.lst []) a5;refine⟨by show 3<=sizeLine;decide,λq0 b4=>?_⟩;have u2:=Same.new (o:=.tup [v,.int 1,.int 1]) b4;refine⟨by show 1<=sizeLine;decide,λg an=>?_⟩
  have u3:=Same.new (o:=.lst [.ref q0]) an;have b5:=(u1.trans u2).trans u3;have Z:=(u2.trans u3) _ _ (ad (H:=H) (a:=j) (o:=.lst []));have c5:=u3 _ _ (ad (H:=upd H j (.lst [])) (a:=q0) (o:=.tup [v,.int 1,.int 1]));have J:=ad (H:=upd (upd H j (.lst [])) q0 (.tup [v,.int 1,.int 1])) (a:=g) (o:=.lst [.ref q0]);have a4:H g=none:=(u1.trans u2).free an;have ec:q0≠g:=λz=>by rw[<- z,ad]at an;cases an
  have c':q0≠j:=λz=>by rw[z,ad]at b4;cases b4
  have b6:j≠g:=λz=>by rw[<- z,u2 _ _ (ad (H:=H) (a:=j) (o:=.lst []))]at an;cases an
  have co:Bt (bd d) 1:=(show Bt 2 1 by unfold Bt;decide).mono (by unfold bd;lia)
  let Pw2:PvS:=λc σ X=>∃(s:List Ent) (k:List Way) (ys B:List V) (x3 x4 x5 x6:Option V),c=Tb.stS s/\SameT H X/\TabsOk (tabs a) X/\X g=some (.lst ys)/\X j=some (.lst B)/\Paired (EntR a (cut2 X g j)) s ys/\Paired (WayR (cut2 X g j)) k B/\Tb.Wk t k s/\k.length+s.length<=4096/\σ=[some v,some (.ref j),some (.ref g),x3,x4,x5,x6]
  refine⟨Pw2,
   ⟨_,[(t,(1,1))],[],[.ref q0],[],none,none,none,none,rfl,b5.t,hT.same b5,J,Z,.cons ⟨q0,v,d,rfl,gR ec c' c5,hn.t (zY b5.t a4 a5),d5,hd,co,co,Int.zero_lt_one⟩ .nil,.nil,Tb.Wk.start dh,(show 0+1<=4096 by decide),rfl⟩,?_⟩
  clear Z c5 J;rintro c σ X ⟨s,k,ys,B,x3,x4,x5,x6,rfl,t1,b',a2,cB,hE,a7,hW,W,rfl⟩;refine⟨_,.inl ⟨_,SqL.of a2,rfl⟩,?_⟩;refine ifB (λhc=>?_) (λhc=>?_)
  .refine⟨_,λ_ _ h=>h,iH ?_⟩
   intro em eu;have ne:ys≠[]:=λz=>by rw[z]at hc;cases hc
   obtain⟨s',e,f,y,rfl,rfl,bo,q,v1,d1,rfl,hq,de,F,en,b1,b2,b0⟩:=iJ hE ne;obtain⟨u,tp,bt⟩:=e;obtain⟨dv,ej,dp⟩:=gX hq;refine⟨.inl ⟨rfl,_,SqL.of a2⟩,⟨g,_,_,rfl,rfl,a2,by simp;rfl,?_⟩⟩;have ed:(f++[V.ref q]).dropLast=f:=List.dropLast_concat;have t2:SameT H (upd X g (.lst (f++[V.ref q]).dropLast)):=t1.put a4;have bB:TabsOk (tabs a) (upd X g (.lst (f++[V.ref q]).dropLast)):=b'.put (λr z=>by rw[a2]at z;cases z) λφ z=>by rw[a2]at z;cases z
   have ab:(upd X g (.lst (f++[V.ref q]).dropLast)) g=some (.lst f):=by rw[ad,ed]
   have I:(upd X g (.lst (f++[V.ref q]).dropLast)) j=some (.lst B):=by rw[ag b6];exact cB
   have c9:(upd X g (.lst (f++[V.ref q]).dropLast)) q=some (.tup [v1,.int tp,.int bt]):=by rw[ag dv];exact dp
   have c2:SameT (cut2 X g j) (cut2 (upd X g (.lst (f++[V.ref q]).dropLast)) g j):=nV;refine⟨q,_,rfl,SqT.of c9,rfl,_,_,rfl,_,_,rfl,_,_,rfl,rfl,?_⟩;generalize upd X g (.lst (f++[V.ref q]).dropLast)=H2 at t2 bB ab I c9 c2;have ch:=aq (EntR.t c2) bo;have bn:=aq (WayR.t c2) a7;have bp:=de.t c2;cases u with
   | leaf ns =>
    obtain⟨x,dx,kt,d0,rfl,hx,cj,hs⟩:=qO bp;have ac:=(gX hx).2.2;have ei:=(gX cj).2.2;refine .inl ⟨x,dx,_,rfl,ac,rfl,_,rfl,?_⟩;refine⟨.inl ⟨rfl,_,SqL.of I⟩,.inl ⟨x,dx,_,rfl,ac,rfl,x,dx,kt,rfl,ac,?_⟩⟩;have bg:bd d1<=400:=by unfold bd;lia
    have zl:B.length=k.length:=a7.length.symm;have yl:f.length=s'.length:=bo.length.symm;have c8:k.length+(s'.length+1)<=4096:=by rw[length_append]at W;exact W
    refine⟨by show 2<=sizeLine;decide,λct az=>?_⟩;have n1:=Same.new (o:=.tup [.int tp,.int bt]) az;refine⟨by show 2<=sizeLine;decide,λp fp=>?_⟩;have n2:=Same.new (o:=.tup [.ref kt,.ref ct]) fp;have as:=n1.trans n2;have a':=n2 _ _ (ad (H:=H2) (a:=ct) (o:=.tup [.int tp,.int bt]));have c0:=ad (H:=upd H2 ct (.tup [.int tp,.int bt])) (a:=p) (o:=.tup [.ref kt,.ref ct]);have dw:ct≠g:=λz=>by rw[z,ab]at az;cases az
    have cm:ct≠j:=λz=>by rw[z,I]at az;cases az
    have df:p≠g:=λz=>by rw[z,n1 _ _ ab]at fp;cases fp
    have c7:p≠j:=λz=>by rw[z,n1 _ _ I]at fp;cases fp
    generalize upd (upd H2 ct (.tup [.int tp,.int bt])) p (.tup [.ref kt,.ref ct])=H4 at as a' c0;have L:=as _ _ I;have G:(upd H4 j (.lst (B++[.ref p]))) g=some (.lst f):=by rw[ag (Ne.symm b6)];exact as _ _ ab
    have c4:SameT (cut2 H2 g j) (cut2 (upd H4 j (.lst (B++[.ref p]))) g j):=(SameT.cut2 as.t).trans zN;have ck:TabsOk (tabs a) (upd H4 j (.lst (B++[.ref p]))):=(bB.same as).put (λr z=>by rw[L]at z;cases z) λφ z=>by rw[L]at z;cases z
    have t5:SameT H (upd H4 j (.lst (B++[.ref p]))):=(t2.trans as.t).put a5;have ba:=c4.at cj;have bb:cut2 (upd H4 j (.lst (B++[.ref p]))) g j ct=some (.tup [.int tp,.int bt]):=gR dw cm (by rw[ag cm];exact a');have cg:cut2 (upd H4 j (.lst (B++[.ref p]))) g j p=some (.tup [.ref kt,.ref ct]):=gR df c7 (by rw[ag c7];exact c0);refine⟨j,B,_,rfl,rfl,L,by lia,?_⟩;have Y:=ad (H:=H4) (a:=j) (o:=.lst (B++[.ref p]));generalize upd H4 j (.lst (B++[.ref p]))=R at G c4 ck t5 ba bb cg Y;refine⟨_,.inl (SqL.of Y),⟨_,.inl (SqL.of G),?_⟩⟩;have ll:((B++[V.ref p]).length:Int)+(f.length:Int)<=4096:=by rw[length_append,length_singleton];lia
    refine ifC (λz=>absurd (show(4096:Int)<((B++[V.ref p]).length:Int)+(f.length:Int) from z) (by lia)) λ_=>?_
    refine⟨Tb.stS s',?_,s',k++[(ns,(tp,bt))],f,B++[.ref p],_,_,_,_,rfl,t5,ck,G,Y,aq (EntR.t c4) ch,cS ⟨p,kt,ct,d0,rfl,cg,ba,hs,bb,b1.mono bg,b2.mono bg,b0⟩ (aq (WayR.t c4) bn),hW.leaf,?_,rfl⟩
    .rw[Tb.stS_app,Tb.stS,Tb.stS,Tb.sz];lia
    .rw[length_append,length_singleton];lia
   | die r =>
    obtain⟨rs,br,ef⟩:=nJ bp;have a1:=br.t mM;obtain⟨x,dx,l,mk,rfl,ac,er,_⟩:=id a1
    obtain⟨d',rfl⟩:∃ d',d1=d'+1:=by
     cases d1 with
     | zero=>rw[Tb.Dq]at F;exact F.elim
     | succ d'=>exact⟨d',rfl⟩
    rw[Tb.Dq]at F;refine .inr ⟨x,dx,_,rfl,ac,rfl,_,rfl,?_⟩;have c1:Tb.Ok (.die r):=hW.ok _ (mem_append_right _ mem_cons_self);rw[Tb.Ok]at c1;refine .inr ⟨x,dx,_,rfl,ac,rfl,.ref x,rs,rfl,a1,λH3 n3=>?_⟩;rw[qP ef];have J:=n3 _ _ ab;have Z:=n3 _ _ I;refine⟨.inl ⟨rfl,_,SqL.of J⟩,?_⟩;have ds:=n3 _ _ ac;have eg:r.length<=4:=F.2.1;have d6:∀ p∈r,1<=p.1/\p.1<=1000000000:=λp hp=>let z:=Tb.dq_part F.2.2 hp;⟨z.1,z.2.1⟩
    obtain⟨eq,et⟩:=sQ F.2.2;have t3:=t2.trans n3.t
    have ci:Bad H3 [g,j]:=λb hb=>by
     rcases mem_cons.mp hb with z | z
     .rw[z];exact⟨_,J⟩
     .rw[mem_singleton.mp z];exact⟨_,Z⟩
    refine .inr ⟨x,dx,_,rfl,ds,rfl,.ref x,r,[g,j],rfl,ci,bp.t (SameT.cut2 n3.t),bB.same n3,λH4 D zz t4 dV fD hD hP=>?_⟩;have bc:=t4.at J;have L:=t4.at Z;have bq:zz.length=r.length:=hP.length.symm;have bS:Bt 43 (Tb.tot r):=by unfold Bt;lia
    have b9:bd (d'+1)+43<=bd d':=by unfold bd;lia
    refine .inl ⟨⟨_,SqL.of hD⟩,λD2 a8=>?_⟩
    let Pw1:PvL:=λi M R=>i<=r.length/\Same H4 R/\R D2=some (.lst M)/\Paired (EntR a (untr (cut2 R g j) D2)) ((Tb.kids r tp bt (Tb.tot r)).take i) M
    refine da (K:=K) (a:=D) (xs:=zz) Pw1 ⟨Nat.zero_le _,Same.new a8,ad,.nil⟩ (λi ys X h=>SqL.of (h.2.1 _ _ hD)) (λi ys X h=>h.2.2.1) ?_ ?_
    .rintro i y M R P' hy ⟨hi,n5,a6,al⟩ dd
     obtain⟨⟨m,u⟩,a9,qq,un,rfl,b3,ea⟩:=aJ hP hy;have b3:=(aK b3).2;have cs:=(Tb.dq_part F.2.2 (List.mem_of_getElem? a9)).2.2;have dT:i<r.length:=(List.getElem?_eq_some_iff.mp a9).1;have mp:=d6 _ (List.mem_of_getElem? a9);have bm:Bt 43 m:=by have h1:1<=m:=mp.1;have h2:m<=1000000000:=mp.2;unfold Bt;lia
     have c3:M.length<=5000:=by rw[<- al.length,length_take];unfold Tb.kids;rw[length_map];lia
     refine⟨qq,_,rfl,SqT.of (n5 _ _ b3),rfl,_,_,rfl,_,_,rfl,rfl,⟨rfl,rfl,rfl,trivial⟩,?_⟩;have bl:bd (d'+1)<=400:=by unfold bd;lia
     refine⟨cmB (b1.mono bl) bm,cmB (b2.mono bl) bS,by show 3<=sizeLine;decide,λq3 f3=>?_⟩;have n6:=Same.new (o:=.tup [un,.int (tp*m),.int (bt*Tb.tot r)]) f3;have dm:=n6 _ _ a6;have cA:q3≠D2:=λz=>by rw[z,a6]at f3;cases f3
     have cy:q3≠g:=λz=>by rw[z,n5 _ _ bc]at f3;cases f3
     have ca:q3≠j:=λz=>by rw[z,n5 _ _ L]at f3;cases f3
     refine⟨dm,by lia,dd _ _ ⟨dT,(n5.trans n6).put a8,ad,?_⟩⟩;have cc:SameT (untr (cut2 R g j) D2) (untr (cut2 (upd (upd R q3 (.tup [un,.int (tp*m),.int (bt*Tb.tot r)])) D2 (.lst (M++[.ref q3]))) g j) D2):=(iu (SameT.cut2 n6.t)).trans uN;have cn:SameT (cut2 H4 g j) (untr (cut2 (upd (upd R q3 (.tup [un,.int (tp*m),.int (bt*Tb.tot r)])) D2 (.lst (M++[.ref q3]))) g j) D2):=tE (SameT.cut2 ((n5.trans n6).put a8).t) (si a8);have hk:(Tb.kids r tp bt (Tb.tot r))[i]? = some (u,(tp*m,bt*Tb.tot r)):=by unfold Tb.kids;rw[List.getElem?_map,a9];rfl
     refine cR (aq (EntR.t cc) al) hk ⟨q3,un,d',rfl,?_,ea.t cn,cs,by lia,(b1.mul bm).mono b9,(b2.mul bS).mono b9,Int.mul_pos b0 (by lia)⟩;rw[aO cA];exact gR cy ca (by rw[ag cA];exact ad)
    .rintro M R ⟨_,n5,a6,al⟩
     have kl:(Tb.kids r tp bt (Tb.tot r)).length=zz.length:=by unfold Tb.kids;rw[length_map,bq]
     rw[<- kl,take_length]at al;have c3:M.length=r.length:=by rw[<- al.length,kl,bq]
     have yl:f.length=s'.length:=bo.length.symm;have zl:B.length=k.length:=a7.length.symm;have c8:k.length+(s'.length+1)<=4096:=by rw[length_append]at W;exact W
     have G:=n5 _ _ bc;have Y:=n5 _ _ L;refine⟨g,D2,f,M,rfl,rfl,G,a6,by lia,?_⟩;have t6:SameT H (upd R g (.lst (f++M))):=((t3.trans t4).trans n5.t).put a4;have bA:TabsOk (tabs a) (upd R g (.lst (f++M))):=(dV.same n5).put (λr z=>by rw[G]at z;cases z) λφ z=>by rw[G]at z;cases z
     have a0:=ad (H:=R) (a:=g) (o:=.lst (f++M));have a3:(upd R g (.lst (f++M))) j=some (.lst B):=by rw[ag b6];exact Y
     have c6:SameT (cut2 H2 g j) (cut2 (upd R g (.lst (f++M))) g j):=(SameT.cut2 ((n3.t.trans t4).trans n5.t)).trans nV;have k6:SameT (untr (cut2 R g j) D2) (cut2 (upd R g (.lst (f++M))) g j):=cut_sub.trans nV;generalize upd R g (.lst (f++M))=H6 at t6 bA a0 a3 c6 k6;have cx:=hW.die;refine⟨_,.inl (SqL.of a3),⟨_,.inl (SqL.of a0),?_⟩⟩;have eo:(Tb.kids r tp bt (Tb.tot r)).length=M.length:=by rw[kl,bq,c3]
     refine ifC (λz=>?_) λz=>?_
     .have z:(4096:Int)<(B.length:Int)+((f++M).length:Int):=z
      have:=cx.few;rw[length_append]at this z;exact yR t6 bA (q2 (by lia))
     .have z:¬(4096:Int)<(B.length:Int)+((f++M).length:Int):=z
      rw[length_append]at z;refine⟨_,?_,s'++Tb.kids r tp bt (Tb.tot r),k,f++M,B,_,_,_,_,rfl,t6,bA,a0,a3,kx (aq (EntR.t k6) al) (aq (EntR.t c6) ch),aq (WayR.t c6) bn,cx,?_,rfl⟩
      .rw[Tb.stS_app,Tb.stS_app,Tb.stS_kids,Tb.stS,Tb.stS,Tb.sz];lia
      .rw[length_append];lia
  .have e0:ys=[]:=List.isEmpty_iff.mp (by simpa using hc)
   subst e0;cases hE;have ew:=hW.done;have el:Tb.lv t<=4096:=by rw[<- Tb.wl_len t 1 1,<- ew];simpa using W
   refine q1 el _ j B t1 b' a5 cB ?_;rw[<- ew];exact aq (WayR.t mM) a7
end
end My
namespace My
open PySem L2 FrM Du
open Tb (Tr Ent Way Rws Ch Lm2)
inductive spGcd(vs:List V)(H:Hp)(Q:VK)(_E:XK):Prop
 | mk(x y:Int)(h0:vs=[.int x,.int y])(h1:0<=x)(h2:0<=y)(h3:Q (.int (Int.gcd x y)) H):spGcd vs H Q _E
def Bu(H:Hp)(Q:VK)(T B:Int):Prop:=∀ H' p,Same H H'->H' p=some (.tup [.int (hI T B).1,.int (hI T B).2])->Q (.ref p) H'
inductive spLow(vs:List V)(H:Hp)(Q:VK)(_E:XK):Prop
 | mk(T B:Int)(h0:vs=[.int T,.int B])(h1:0<B)(h2:Bt 6000 T)(h3:Bt 6000 B)(h4:Bu H Q T B):spLow vs H Q _E
def PT(K:Frag)(H:Hp)(p:Addr)(f:Int×Int):Prop:=H p=some (.tup [.int f.1,.int f.2])\/tX K p [.int f.1,.int f.2]=true
theorem PT.sq{K:Frag}{H:Hp}{p:Addr}{f:Int×Int}(h:PT K H p f):SqT K H p [.int f.1,.int f.2]:=h.elim SqT.of zI
def IsF(K:Frag)(H:Hp)(f:Int×Int)(x:V):Prop:=∃ p,x=.ref p/\PT K H p f
theorem IsF.tk{K:Frag}{H H':Hp}{f:Int×Int}{x:V}(k:TK H H')(h:IsF K H f x):IsF K H' f x:=let ⟨p,e,q⟩:=h;⟨p,e,q.imp (λz=>k _ _ z) id⟩
abbrev AllF(K:Frag)(H:Hp):List (Int×Int)->List V->Prop:=PySem.Paired (IsF K H)
theorem IsF.same{K:Frag}{H H':Hp}{f:Int×Int}{x:V}(s:Same H H')(h:IsF K H f x):IsF K H' f x:=h.tk s.tk
theorem AllF.tk{K:Frag}{H H':Hp}(k:TK H H'):∀{fs:List (Int×Int)}{xs:List V},AllF K H fs xs->AllF K H' fs xs
 | _,_,.nil=>.nil
 | _,_,.cons r t=>.cons (r.tk k) (AllF.tk k t)
theorem AllF.get{K:Frag}{H:Hp}:∀{fs:List (Int×Int)}{xs:List V}{i:Nat}{x:V},AllF K H fs xs->xs[i]? = some x->∃ f,fs[i]? = some f/\IsF K H f x
 | _,_,_,_,.nil,h=>by cases h
 | _,_,0,_,.cons r _,h=>⟨_,rfl,by cases h;exact r⟩
 | _,_,i+1,_,.cons _ t,h=>AllF.get (i:=i) t h
theorem AllF.snoc{K:Frag}{H:Hp}{f:Int×Int}{x:V}(r:IsF K H f x):∀{fs:List (Int×Int)}{xs:List V},AllF K H fs xs->AllF K H (fs++[f]) (xs++[x])
 | _,_,.nil=>.cons r .nil
 | _,_,.cons q t=>.cons q (AllF.snoc r t)
theorem AllF.len{K:Frag}{H:Hp}{a:List (Int×Int)}{xs:List V}(h:AllF K H a xs):a.length=xs.length:=Paired.length h
theorem vX(T B:Int):Int.gcd (if T<0 then -T else T) B=Int.gcd T B:=by
 split
 .exact Int.neg_gcd
 .rfl
theorem px0{K:Frag}{H:Hp}{p:Addr}{x y:V}{Q:VK}(h:SqT K H p [x,y])(q:Q x H):rIx K (.ref p) (.int 0) H Q:=.inr (.inl ⟨p,_,_,x,rfl,rfl,h,gj (j:=0) rfl,q⟩)
theorem px1{K:Frag}{H:Hp}{p:Addr}{x y:V}{Q:VK}(h:SqT K H p [x,y])(q:Q y H):rIx K (.ref p) (.int 1) H Q:=.inr (.inl ⟨p,_,_,y,rfl,rfl,h,gj (j:=1) rfl,q⟩)
theorem iq(x y:V):[x,y].length<=sizeLine:=by show 2<=sizeLine;decide
abbrev IsQ(K:Frag)(H:Hp)(q:Rat)(x:V):Prop:=IsF K H (fr q) x
structure Bc(q:Rat):Prop where
 t0:0<=q.num
 bn:Bt 2800 q.num
 bd:Bt 2800 (q.den:Int)
theorem ku{D:Nat}{q:Rat}(a:0<D)(d:D<=Lm2)(h:Bq D q):Bc q:=by
 obtain⟨b,c⟩:=Tb.bq_bb a d h;exact⟨(Tb.bq_bt a h).1,b.mono (by decide),c.mono (by decide)⟩
inductive spLowN(vs:List V)(H:Hp)(Q:VK)(_E:XK):Prop
 | mk(T B:Int)(h0:vs=[.int T,.int B])(h1:0<=T)(h2:0<B)(h3:Bt 6000 T)(h4:Bt 6000 B)(h5:Bu H Q T B):spLowN vs H Q _E
inductive spAr(op:Rat->Rat->Rat)(K:Frag)(vs:List V)(H:Hp)(Q:VK)(_E:XK):Prop
 | mk(x y:V)(p q:Rat)(h0:vs=[x,y])(h1:IsQ K H p x)(h2:IsQ K H q y)(h3:Bc p)(h4:Bc q)(h5:∀ H' z,Same H H'->IsQ K H' (op p q) z->Q z H'):spAr op K vs H Q _E
inductive spLcm(K:Frag)(vs:List V)(H:Hp)(Q:VK)(_E:XK):Prop
 | mk(l:Addr)(ns:List Int)(D:Nat)(h0:vs=[.ref l])(h1:SqL K H l (ns.map V.int))(h2:0<D)(h3:D<=Lm2)(h4:(∀ n∈ns,0<n/\n ∣ (D:Int)))(h5:∀ r,0<r->r ∣ (D:Int)->(∀ n∈ns,n ∣ r)->Q (.int r) H):spLcm K vs H Q _E
inductive spTotal(K:Frag)(vs:List V)(H:Hp)(Q:VK)(_E:XK):Prop
 | mk(l:Addr)(fs:List (Int×Int))(xs:List V)(D:Nat)(h0:vs=[.ref l])(h1:H l=some (.lst xs))(h2:AllF K H fs xs)(h3:xs.length<=5000)(h4:0<D)(h5:D<=Lm2)(h6:(∀ f∈fs,Ch (D:Int) f))(h7:∀ H' z,Same H H'->IsQ K H' (Tb.sumQ fs) z->Q z H'):spTotal K vs H Q _E
theorem sV{L:Int}:∀{xs:List Int},(∀ x∈xs,0<=x/\x<=L)->0<=xs.sum/\xs.sum<=(xs.length:Int)*L
 | [],_=>by simp
 | x::xs,h=>by
  have b:=sV λy a=>h y (mem_cons_of_mem _ a)
  have c:=h x mem_cons_self;rw[sum_cons,length_cons];have e:((xs.length+1:Nat):Int)*L=(xs.length:Int)*L+L:=by rw[Int.natCast_add,Int.add_mul];simp
  rw[e];lia
theorem yp{L t b:Int}(i:0<L)(g:0<=t)(h:t<=b)(f:0<b)(d:b ∣ L):0<=t*(L/b)/\t*(L/b)<=L:=by
 obtain⟨c,rfl⟩:=d;rw[Int.mul_ediv_cancel_left c (by lia)]
 have a:0<=c:=by
  rcases Int.lt_or_le c 0 with z | z
  .have:=Int.mul_neg_of_pos_of_neg f z;lia
  .exact z
 exact⟨Int.mul_nonneg g a,Int.mul_le_mul_of_nonneg_right h a⟩
theorem Ce{D n:Nat}{i:Int}(f:D<=Lm2)(g:n<=5000)(h0:0<=i)(h:i<=(n:Int)*(D:Int)):Bt 2800 i:=by
 unfold Bt;have d:(n:Int)*(D:Int)<=5000*(Lm2:Nat):=Int.mul_le_mul (by lia) (by lia) (by lia) (by lia);have a:i.natAbs<=5000*Lm2:=by lia
 have b:5000*Lm2<2 ^ 13*Lm2:=Nat.mul_lt_mul_of_pos_right (by decide) (by unfold Lm2;exact Nat.pow_pos (by decide));have c:2 ^ 13*Lm2<=2 ^ 2800:=by unfold Lm2;rw[<- Nat.pow_add];exact Nat.pow_le_pow_right (by decide) (by decide)
 exact Nat.lt_of_le_of_lt a (Nat.lt_of_lt_of_le b c)
section
variable {P:Program}{w:World}{K:Frag}{mg:Str->Option Value}{base:Heap}{a:Ad}
theorem vF(T:Txt K mg a):FnOk P w K mg base CX0 1 a.f_h a.d_h ["one","other"] spGcd:=by
 refine T.F_h.ok sc_h (λv H Q E h=>?_) (λcdv A outer s H v Q E hr h=>?_)
 .obtain⟨x,y,rfl,_⟩:=h;rfl
 .obtain⟨g,l,rfl,u,r,q⟩:=h
  refine⟨_,(aj (fH PassesOwn.never (mV (vr 1) (λ_=>rfl)) (am (vn rfl sc_h.nd (i:=0) (j:=1) rfl rfl (by decide) rfl rfl (aa (vr 1) (aa (aA gu (vr 0) (vr 1)) af)) rfl))) (am (aB (vr 0)))),iC ?_⟩;intro p;refine⟨λm n k=>k=H/\∃ x y:Int,0<=x/\0<=y/\m=y.toNat/\Int.gcd x y=Int.gcd g l/\n=[some (.int x),some (.int y)],⟨_,rfl,g,l,u,r,rfl,rfl,rfl⟩,?_⟩;rintro m n k ⟨rfl,x,y,B,z,rfl,o,rfl⟩;refine⟨_,rfl,?_⟩;refine ifB (λc=>?_) (λc=>?_)
  .have f:y≠0:=by simpa using c
   let Pw4:St->Hp->Prop:=λd b=>b=k/\d=[some (.int y),some (.int (x % y))]
   refine⟨Pw4,?_,?_⟩
   .rintro d b ⟨rfl,rfl⟩
    exact⟨(x % y).toNat,by have:=Int.emod_lt_of_pos x (show 0<y by lia);have:=Int.emod_nonneg x f;lia,rfl,y,x % y,z,Int.emod_nonneg x f,rfl,by rw[mi,o],rfl⟩
   .exact⟨cp (by lia),_,_,rfl,rfl,rfl⟩
  .have f:y=0:=by simpa using c
   subst f;rw[Int.gcd_zero_right]at o;have:x=(Int.gcd g l:Int):=by lia
   rw[<- this]at q;exact q
theorem uw(T:Txt K mg a):FnOk P w K mg base CX0 2 a.f_R a.d_R ["top","bottom"] spLow:=by
 have d:FnOk P w K mg base CX0 1 a.f_R a.d_R ["top","bottom"] AJ:=AI;have f:FnOk P w K mg base CX0 1 _ _ _ spGcd:=vF T;refine T.F_R.ok sc_R (λo H Q E h=>?_) (λcdv A outer s H o Q E hr h=>?_)
 .obtain⟨x,y,rfl,_⟩:=h;rfl
 .obtain⟨t,b,rfl,k,v,n,q⟩:=h
  refine⟨_,(aj (cX (eG wp (vr 1) ak (cP _)) (am (aB (ap d hr rfl T.m_R T.F_R.kp T.B_R .nil ar (aa (ya yb (vr 0)) (aa (ya yb (vr 1)) af))))) bO) (aj (aL (i:=2) sc_R.nd rfl (Or.inl rfl) (ap f hr rfl T.m_h T.F_h.kp T.B_h .nil ar (aa (aD jJ rfl T.z_abs oX (aa (vr 0) af)) (aa (vr 1) af)))) (am (aB (bH (aa (aA dM (vr 0) (vr 2)) (aa (aA dM (vr 1) (vr 2)) af))))))),iH ?_⟩;intro r l;obtain⟨g,D,B,C,z⟩:=low t b k;refine ifC (λc=>absurd c (by lia)) (λ_=>?_);refine⟨t,rfl,⟨_,_,rfl,by split <;> lia,by lia,?_⟩⟩;rw[vX];have j:Bt 6000 (Int.gcd t b:Int):=n.le (by lia);refine⟨cdB g j,cdB g j,iq _ _,λp u=>?_⟩;exact q _ p (Same.new u) ad
theorem ph(T:Txt K mg a):FnOk P w K mg base CX0 1 a.f_I a.d_I ["_law_one","_law_other"] spGcd:=by
 refine T.F_I.ok sc_I (λv H Q E h=>?_) (λcdv A outer s H v Q E hr h=>?_)
 .obtain⟨x,y,rfl,_⟩:=h;rfl
 .obtain⟨g,l,rfl,u,r,q⟩:=h
  refine⟨_,(aj (fH PassesOwn.never (eG BU (vr 1) ak (cP _)) (am (vn rfl sc_I.nd (i:=0) (j:=1) rfl rfl (by decide) rfl rfl (aa (vr 1) (aa (aA gu (vr 0) (vr 1)) af)) rfl))) (am (aB (aD jJ rfl T.z_abs oX (aa (vr 0) af))))),iC ?_⟩;intro p;refine⟨λm n k=>k=H/\∃ x y:Int,0<=x/\0<=y/\m=y.toNat/\Int.gcd x y=Int.gcd g l/\n=[some (.int x),some (.int y)],⟨_,rfl,g,l,u,r,rfl,rfl,rfl⟩,?_⟩;rintro m n k ⟨rfl,x,y,B,z,rfl,o,rfl⟩;refine ifB (λc=>?_) (λc=>?_)
  .have f:y≠0:=by simpa using c
   let Pw5:St->Hp->Prop:=λd b=>b=k/\d=[some (.int y),some (.int (x % y))]
   refine⟨Pw5,?_,?_⟩
   .rintro d b ⟨rfl,rfl⟩
    exact⟨(x % y).toNat,by have:=Int.emod_lt_of_pos x (show 0<y by lia);have:=Int.emod_nonneg x f;lia,rfl,y,x % y,z,Int.emod_nonneg x f,rfl,by rw[mi,o],rfl⟩
   .exact⟨cp (by lia),_,_,rfl,rfl,rfl⟩
  .have f:y=0:=by simpa using c
   subst f;rw[Int.gcd_zero_right]at o;have e:x=(Int.gcd g l:Int):=by lia
   refine⟨x,rfl,?_⟩;rw[if_neg (by lia),e];exact q
theorem iA(T:Txt K mg a):FnOk P w K mg base CX0 2 a.f_y a.d_y ["_law_top","_law_bottom"] spLowN:=by
 have c:FnOk P w K mg base CX0 1 _ _ _ spGcd:=ph T;refine T.F_y.ok sc_y (λl H Q E h=>?_) (λcdv A outer s H l Q E hr h=>?_)
 .obtain⟨x,y,rfl,_⟩:=h;rfl
 .obtain⟨t,b,rfl,n,g,r,k,q⟩:=h
  refine⟨_,(aj (aL (i:=2) sc_y.nd rfl (Or.inl rfl) (ap c hr rfl T.m_I T.F_I.kp T.B_I .nil ar (aa (vr 0) (aa (vr 1) af)))) (am (aB (bH (aa (aA dM (vr 0) (vr 2)) (aa (aA dM (vr 1) (vr 2)) af)))))),iC ?_⟩;intro j;obtain⟨d,B,v,z,u⟩:=low t b g;refine⟨_,_,rfl,n,by lia,?_⟩;have f:Bt 6000 (Int.gcd t b:Int):=k.le (by lia);refine⟨cdB d f,cdB d f,iq _ _,λp o=>?_⟩;exact q _ p (Same.new o) ad
theorem zR(T:Txt K mg a):FnOk P w K mg base CX0 3 a.f_X a.d_X ["_law_one","_law_other"] (spAr (· + ·) K):=by
 have f:FnOk P w K mg base CX0 2 _ _ _ spLowN:=iA T;refine T.F_X.ok ur (λv H Q E h=>?_) (λcdv A outer s H v Q E hr h=>?_)
 .obtain⟨x,y,p,q,rfl,_⟩:=h;rfl
 .obtain⟨x,y,p,q,rfl,⟨x,rfl,g⟩,⟨y,rfl,i⟩,c,b,k⟩:=h
  refine⟨_,(am (aB (ap f hr rfl T.m_y T.F_y.kp T.B_y .nil ar (aa (aA fm (aA bW (cD bN (vr 0) ak (λ_ _=>rfl)) (cD bN (vr 1) ak (λ_ _=>rfl))) (aA bW (cD bN (vr 1) ak (λ_ _=>rfl)) (cD bN (vr 0) ak (λ_ _=>rfl)))) (aa (aA bW (cD bN (vr 0) ak (λ_ _=>rfl)) (cD bN (vr 1) ak (λ_ _=>rfl))) af))))),?_⟩;have j:(0:Int)<p.den:=by have:=p.den_pos;lia
  have l:(0:Int)<q.den:=by have:=q.den_pos;lia
  have u:Bt 5600 (p.num*(q.den:Int)):=c.bn.mul b.bd;have n:Bt 5600 (q.num*(p.den:Int)):=b.bn.mul c.bd;have o:Bt 5600 ((p.den:Int)*(q.den:Int)):=c.bd.mul b.bd;refine px0 g.sq (px1 i.sq ⟨cmB c.bn b.bd,px0 i.sq (px1 g.sq ⟨cmB b.bn c.bd,px1 g.sq (px1 i.sq ⟨cmB c.bd b.bd,?_⟩)⟩)⟩);refine⟨_,_,rfl,Int.add_nonneg (Int.mul_nonneg c.t0 (Int.le_of_lt l)) (Int.mul_nonneg b.t0 (Int.le_of_lt j)),Int.mul_pos j l,(u.add n).mono (by decide),o.mono (by decide),λz r s d=>k _ _ s ⟨r,rfl,.inl ?_⟩⟩;rw[d];show some (HO.tup [.int (hI (p.num*(q.den:Int)+q.num*(p.den:Int)) ((p.den:Int)*(q.den:Int))).1,.int (hI (p.num*(q.den:Int)+q.num*(p.den:Int)) ((p.den:Int)*(q.den:Int))).2])=_;rw[we]
theorem jG(T:Txt K mg a):FnOk P w K mg base CX0 3 a.f_E a.d_E ["_law_one","_law_other"] (spAr (· * ·) K):=by
 have f:FnOk P w K mg base CX0 2 _ _ _ spLowN:=iA T;refine T.F_E.ok lh (λo H Q E h=>?_) (λcdv A outer s H o Q E hr h=>?_)
 .obtain⟨x,y,p,q,rfl,_⟩:=h;rfl
 .obtain⟨x,y,p,q,rfl,⟨x,rfl,g⟩,⟨y,rfl,i⟩,c,b,k⟩:=h
  refine⟨_,(am (aB (ap f hr rfl T.m_y T.F_y.kp T.B_y .nil ar (aa (aA bW (cD bN (vr 0) ak (λ_ _=>rfl)) (cD bN (vr 1) ak (λ_ _=>rfl))) (aa (aA bW (cD bN (vr 0) ak (λ_ _=>rfl)) (cD bN (vr 1) ak (λ_ _=>rfl))) af))))),?_⟩;have n:(0:Int)<p.den:=by have:=p.den_pos;lia
  have u:(0:Int)<q.den:=by have:=q.den_pos;lia
  have l:Bt 5600 (p.num*q.num):=c.bn.mul b.bn;have j:Bt 5600 ((p.den:Int)*(q.den:Int)):=c.bd.mul b.bd;refine px0 g.sq (px0 i.sq ⟨cmB c.bn b.bn,px1 g.sq (px1 i.sq ⟨cmB c.bd b.bd,?_⟩)⟩);refine⟨_,_,rfl,Int.mul_nonneg c.t0 b.t0,Int.mul_pos n u,l.mono (by decide),j.mono (by decide),λv r s d=>k _ _ s ⟨r,rfl,.inl ?_⟩⟩;rw[d];show some (HO.tup [.int (hI (p.num*q.num) ((p.den:Int)*(q.den:Int))).1,.int (hI (p.num*q.num) ((p.den:Int)*(q.den:Int))).2])=_;rw[wX]
theorem yZ(T:Txt K mg a):FnOk P w K mg base CX0 2 a.f_l a.d_l ["numbers"] (spLcm K):=by
 have z:FnOk P w K mg base CX0 1 _ _ _ spGcd:=vF T;refine T.F_l.ok sc_l (λW H Q E h=>?_) (λcdv A outer s H W Q E hr h=>?_)
 .obtain⟨l,f,D,rfl,_⟩:=h;rfl
 .obtain⟨l,f,D,rfl,C,u,d,y,q⟩:=h
  refine⟨_,(aj (aL (i:=1) sc_l.nd rfl (Or.inl rfl) ak) (aj (d9 PassesOwn.never rfl (bV (vr 0)) (au (i:=2) sc_l.nd rfl (Or.inl rfl)) (am (aL (i:=1) sc_l.nd rfl (Or.inl rfl) (aA bW (aA dM (vr 1) (ap z hr rfl T.m_h T.F_h.kp T.B_h .nil ar (aa (vr 1) (aa (vr 2) af)))) (vr 2))))) (am (aB (vr 1))))),iH ?_⟩;intro J N
  let Pw1:PvS:=λi o p=>p=H/\∃(r:Int) (x:Option V),o=[some (.ref l),some (.int r),x]/\0<r/\r ∣ (D:Int)/\∀ n∈f.take i,n ∣ r
  refine .inl ⟨⟨_,C⟩,gQ (K:=K) (a:=l) (xs:=f.map V.int) Pw1 ⟨rfl,1,none,rfl,by lia,Int.one_dvd _,(λn k=>by cases k)⟩ (λi o p _ h=>by rw[h.1];exact C) ?_ ?_⟩
  .rintro i x o p g ⟨rfl,r,Z,rfl,v,c,j⟩
   rw[List.getElem?_map]at g
   obtain⟨n,k,rfl⟩:∃ n,f[i]? = some n/\V.int n=x:=by
    cases e:f[i]? with
    | none=>rw[e]at g;cases g
    | some n=>rw[e]at g;cases g;exact⟨n,rfl,rfl⟩
   obtain⟨F,B⟩:=y n (List.mem_of_getElem? k);obtain⟨Y,G,I,s4⟩:=Tb.lcm_step v F c B;have g0:0<Int.gcd r n:=Int.gcd_pos_of_ne_zero_right _ (by lia);have M:(Int.gcd r n:Int)<=n:=Int.le_of_dvd F (Int.gcd_dvd_right (a:=r) (b:=n));have X:=Int.le_of_dvd (by lia) B;have R:=Int.le_of_dvd (by lia) c;have bg:=Tb.bt_of (i:=(Int.gcd r n:Int)) u d (by lia) (by lia);have bn:=Tb.bt_of (i:=n) u d (by lia) X;have L:=Tb.bt_of (i:=r/(Int.gcd r n:Int)) u d (Int.ediv_nonneg (by lia) (by lia)) (Int.le_trans (Int.ediv_le_self _ (by lia)) R);refine⟨r,n,rfl,by lia,by lia,?_⟩;refine⟨cdB (by lia) bg,?_⟩;refine⟨cmB L bn,rfl,_,_,rfl,Y,s4,λm hm=>?_⟩;rw[take_add_one,k]at hm
   rcases mem_append.mp hm with hm | hm
   .exact Int.dvd_trans (j m hm) G
   .have:m=n:=by simpa using hm
    rw[this];exact I
  .rintro o p ⟨rfl,r,Z,rfl,v,c,j⟩
   refine q r v c ?_;rw[length_map,take_length]at j;exact j
theorem uY(T:Txt K mg a):FnOk P w K mg base CX0 3 a.f_W a.d_W ["fractions"] (spTotal K):=by
 have Z:FnOk P w K mg base CX0 2 _ _ _ (spLcm K):=yZ T;have X:FnOk P w K mg base CX0 2 _ _ _ spLow:=uw T;refine T.F_W.ok sc_W (λvs H Q E h=>?_) (λcdv A outer s H vs Q E hr h=>?_)
 .obtain⟨l,d,xs,D,rfl,_⟩:=h;rfl
 .obtain⟨l,d,xs,D,rfl,R,hF,an,M,k,g,q⟩:=h
  have al:sizeLine=16777216:=sizeLine_eq;have fl:d.length=xs.length:=hF.len;refine⟨_,(aj (aL (i:=1) sc_W.nd rfl (Or.inr rfl) (ap Z hr rfl T.m_l T.F_l.kp T.B_l .nil ar (aa (bY rfl (N:=["fraction"]) (ix:=[none]) ⟨rfl,rfl,rfl,rfl,trivial⟩ (bV (vr 0)) ⟨λC s H J=>au (i:=0) (show List.Nodup (["fraction"]:List Str) by decide +kernel) rfl (Or.inl rfl),λC s H J=>bX,λC s H J=>(cD (qI (K:=K) rfl) (vr 0) ak (λ_ _=>rfl))⟩) af))) (am (aB (ap X hr rfl T.m_R T.F_R.kp T.B_R .nil ar (aa (aD (fZ rfl) rfl T.z_sum lu (aa (bY rfl (N:=["top","own","bottom"]) (ix:=[none,none,some 1]) ⟨rfl,rfl,rfl,rfl,⟨rfl,rfl,rfl,trivial⟩⟩ (bV (vr 0)) ⟨λC s H J=>(di (K:=K) (n:=2) rfl rfl (av (au (i:=0) (show List.Nodup (["top","own","bottom"]:List Str) by decide +kernel) rfl (Or.inl rfl)) (av (au (i:=1) (show List.Nodup (["top","own","bottom"]:List Str) by decide +kernel) rfl (Or.inl rfl)) bi))),λC s H J=>bX,λC s H J=>(aA bW (vr 0) (aA dM (vr 2) (vr 1)))⟩) af)) (aa (vr 1) af)))))),iC ?_⟩;intro as;refine .inl ⟨⟨_,SqL.of R⟩,λD1 I=>?_⟩
  let Pw2:PvL:=λi o j=>Same H j/\j D1=some (.lst o)/\i<=d.length/\o=((d.take i).map (·.2)).map V.int
  refine da (K:=K) (a:=l) (xs:=xs) Pw2 ⟨Same.new I,ad,Nat.zero_le _,rfl⟩ (λi Y j h=>SqL.of (h.1 _ _ R)) (λi Y j h=>h.2.1) ?_ ?_
  .rintro i y o j P' hy ⟨G,v,hi,rfl⟩ B
   obtain⟨⟨t,b⟩,c,p,rfl,hp⟩:=hF.get hy;have F:i<d.length:=(List.getElem?_eq_some_iff.mp c).1;refine⟨trivial,px1 (IsF.same G ⟨p,rfl,hp⟩ |> λ⟨_,e,z⟩=>by cases e;exact z.sq) ⟨v,by rw[length_map,length_map,length_take];lia,B _ _ ⟨G.put I,ad,F,?_⟩⟩⟩;rw[take_add_one,c];simp
  rintro o H1 ⟨G,v,_,rfl⟩;rw[<- fl,take_length]at v;refine⟨D1,d.map (·.2),D,rfl,SqL.of v,M,k,λn hn=>?_,λr r1 hr9 hrn=>?_⟩
  .obtain⟨f,c,rfl⟩:=mem_map.mp hn
   exact⟨(g f c).b0,(g f c).dv⟩
  have rD:=Int.le_of_dvd (show(0:Int)<(D:Int) by lia) hr9;have dr:∀ f∈d,f.2 ∣ r:=λf c=>hrn _ (mem_map.mpr ⟨f,c,rfl⟩)
  refine .inl ⟨⟨_,SqL.of (G _ _ R)⟩,λD3 L=>?_⟩
  let Pw3:PvL:=λi o j=>Same H1 j/\j D3=some (.lst o)/\i<=d.length/\o=((d.take i).map λf=>f.1*(r/f.2)).map V.int
  refine da (K:=K) (a:=l) (xs:=xs) Pw3 ⟨Same.new L,ad,Nat.zero_le _,rfl⟩ (λi Y j h=>SqL.of (h.1 _ _ (G _ _ R))) (λi Y j h=>h.2.1) ?_ ?_
  .rintro i y o j P' hy ⟨W,u,hi,rfl⟩ B
   obtain⟨⟨t,b⟩,c,p,rfl,hp⟩:=hF.get hy;have F:i<d.length:=(List.getElem?_eq_some_iff.mp c).1;have hc:=g _ (List.mem_of_getElem? c);obtain⟨b1,b2⟩:=Tb.ch_bt M k hc;have b0:0<b:=hc.b0
   have ab:SqT K j p [.int t,.int b]:=by
    obtain⟨_,e,z⟩:=IsF.same (G.trans W) (x:=.ref p) ⟨p,rfl,hp⟩;cases e;exact z.sq
   have br:=Tb.bt_of (i:=r/b) M k (Int.ediv_nonneg (by lia) (by lia)) (Int.le_trans (Int.ediv_le_self _ (by lia)) rD);refine⟨p,_,rfl,ab,rfl,_,_,rfl,_,_,rfl,rfl,⟨rfl,trivial⟩,cdB b0 b2,cmB b1 br,u,by rw[length_map,length_map,length_take];lia,B _ _ ⟨W.put L,ad,F,?_⟩⟩;rw[take_add_one,c];simp
  rintro o H2 ⟨W,u,_,rfl⟩;rw[<- fl,take_length]at u;refine⟨D3,_,rfl,SqL.of u,?_⟩
  have sb:0<=(d.map λf=>f.1*(r/f.2)).sum/\(d.map λf=>f.1*(r/f.2)).sum<=((d.map λf=>f.1*(r/f.2)).length:Int)*r:=sV λx hx=>by
   obtain⟨f,c,rfl⟩:=mem_map.mp hx;exact yp r1 (g f c).t0 (g f c).le (g f c).b0 (dr f c)
  rw[length_map]at sb;have sD:(d.map λf=>f.1*(r/f.2)).sum<=(d.length:Int)*(D:Int):=Int.le_trans sb.2 (Int.mul_le_mul_of_nonneg_left rD (by lia));refine⟨_,_,rfl,r1,(Ce k (by lia) sb.1 sD).mono (by decide),(Tb.bt_of M k (by lia) rD).mono (by decide),λH3 p s3 ac=>q _ _ ((G.trans W).trans s3) ⟨p,rfl,.inl ?_⟩⟩;rw[ac,Tb.low_tops r1 (Tb.top_sum r1 λf c=>⟨(g f c).b0,dr f c⟩)]
end
end My
namespace My
open PySem L2 FrM Du LexM
open Tb (Tr Ent Way Rws Ch Lm2 Grp bnd cQ Dq Dqs)
theorem dB{x y:List Int}(h:x.map (Sum.inl:Int->Key)=y.map Sum.inl):x=y:=by
 have:=congrArg (List.map λk:Key=>match k with | .inl i=>i | .inr _=>0) h;rw[map_map,map_map]at this
 have e:∀ l:List Int,l.map ((λk:Key=>match k with | .inl i=>i | .inr _=>0) ∘ Sum.inl)=l:=λl=>by
  induction l with
  | nil=>rfl
  | cons a l ih=>rw[map_cons,ih];rfl
 rw[e,e]at this;exact this
def GrR(K:Frag)(H1 H:Hp)(x:List Int×List (Int×Int))(kv:List Key×V):Prop:=kv.1=x.1.map Sum.inl/\∃ l ys,kv.2=.ref l/\H1 l=none/\H l=some (.lst ys)/\AllF K H1 x.2 ys
theorem GrR.m{K:Frag}{H1 H H':Hp}(h:∀ l ys,H l=some (.lst ys)->H' l=some (.lst ys))(x:List Int×List (Int×Int))(a:List Key×V)(g:GrR K H1 H x a):GrR K H1 H' x a:=by
 obtain⟨e,l,ys,c,b,d,f⟩:=g;exact⟨e,l,ys,c,b,h _ _ d,f⟩
theorem A0{K:Frag}{H1 H:Hp}{l:Addr}{ys:List V}{g:Grp}{kvs:List (List Key×V)}(h:Paired (GrR K H1 H) g kvs)(n:V.ref l ∉ kvs.map (·.2)):Paired (GrR K H1 (upd H l (.lst ys))) g kvs:=by
 induction h with
 | nil=>exact .nil
 | @cons x kv g kvs r t ih =>
  rw[map_cons,mem_cons,not_or]at n;obtain⟨e,i,a,b,c,d,f⟩:=r;refine .cons ⟨e,i,a,b,c,?_,f⟩ (ih n.2);rw[ag (λz=>n.1 (by rw[b,z]))];exact d
theorem y8{K:Frag}{H1 H:Hp}{k:List Int}{c:Int×Int}{v:V}{g:Grp}{kvs:List (List Key×V)}(h:Paired (GrR K H1 H) g kvs)(f:(kvs.map (·.2)).Nodup)(a:dO kvs (k.map Sum.inl)=some v) :
  ∃ x l ys,x∈g/\v=.ref l/\H1 l=none/\H l=some (.lst ys)/\ys.length=x.2.length/\∀ ct,IsF K H1 c ct->Paired (GrR K H1 (upd H l (.lst (ys++[ct])))) (Tb.pushG k c g) kvs:=by
 induction h with
 | nil=>cases a
 | @cons x i g kvs r t ih =>
  obtain⟨e,l,ys,d,j,p,n⟩:=r;rw[map_cons,nodup_cons]at f
  by_cases z:x.1=k
  .rw[d7 (by rw[e,z])]at a
   have a:i.2=v:=Option.some.inj a;refine⟨x,l,ys,mem_cons_self,by rw[<- a,d],j,p,n.len.symm,λct b=>?_⟩;rw[Tb.pushG,if_pos z];rw[d]at f;exact .cons ⟨by show i.1=k.map Sum.inl;rw[e,z],l,ys++[ct],d,j,ad,n.snoc b⟩ (A0 t f.1)
  .rw[dG (λy=>z (dB (e.symm.trans y)))]at a
   obtain⟨s,E,o,A,q,w,C,D,B⟩:=ih f.2 a;refine⟨s,E,o,mem_cons_of_mem _ A,q,w,C,D,λct b=>?_⟩;rw[Tb.pushG,if_neg z];refine .cons ⟨e,l,ys,d,j,?_,n⟩ (B ct b)
   have u:v∈kvs.map (·.2):=by
    unfold dO at a;cases hf:kvs.find? (λi=>decide (i.1=k.map Sum.inl)) with
    | none=>rw[hf]at a;cases a
    | some y =>
     rw[hf]at a;have:y.2=v:=Option.some.inj a;exact mem_map.mpr ⟨y,List.mem_of_find?_eq_some hf,this⟩
   rw[ag (λy=>f.1 (by rw[d,y,<- q];exact u))];exact p
theorem yu{K:Frag}{H1 H:Hp}{k:List Int}{c:Int×Int}{D:Addr}{d:V}{g:Grp}{kvs:List (List Key×V)}(h:Paired (GrR K H1 H) g kvs)(a:dO kvs (k.map Sum.inl)=none)(f:H1 D=none)(i:H D=some (.lst [d]))(b:IsF K H1 c d):Paired (GrR K H1 H) (Tb.pushG k c g) (kvs++[(k.map Sum.inl,.ref D)]):=by
 induction h with
 | nil=>exact .cons ⟨rfl,D,[d],rfl,f,i,.cons b .nil⟩ .nil
 | @cons x kv g kvs r t ih =>
  have z:¬x.1=k:=λz=>by rw[d7 (by rw[r.1,z])]at a;cases a
  rw[dG (λy=>z (dB (r.1.symm.trans y)))]at a;rw[Tb.pushG,if_neg z];exact .cons r (ih a)
theorem wx{K:Frag}{H1 H:Hp}{g:Grp}{kvs:List (List Key×V)}(h:Paired (GrR K H1 H) g kvs):kvs.map (·.1)=(g.map (·.1)).map λx=>x.map Sum.inl:=by
 induction h with
 | nil=>rfl
 | cons r _ ih=>rw[map_cons,map_cons,map_cons,ih,r.1]
theorem AD{K:Frag}{H1 H:Hp}{g:Grp}{kvs:List (List Key×V)}(h:Paired (GrR K H1 H) g kvs)(b:(g.map (·.1)).Nodup){i:Nat}{x:List Int×List (Int×Int)}(a:g[i]? = some x):∃ l ys,dO kvs (x.1.map Sum.inl)=some (.ref l)/\H l=some (.lst ys)/\AllF K H1 x.2 ys:=by
 induction h generalizing i with
 | nil=>cases a
 | @cons x' kv g kvs r t ih =>
  rw[map_cons,nodup_cons]at b;obtain⟨e,l,ys,d,q,f,k⟩:=r;cases i with
  | zero =>
   cases a;exact⟨l,ys,by rw[d7 e,d],f,k⟩
  | succ i =>
   obtain⟨n,c,o,p,j⟩:=ih b.2 (i:=i) a;refine⟨n,c,?_,p,j⟩;rw[dG,o];intro y;have:=dB (e.symm.trans y);exact b.1 (by rw[this];exact mem_map.mpr ⟨x,List.mem_of_getElem? a,rfl⟩)
def RowR(K:Frag)(H:Hp)(x:List Int×Rat)(y:V):Prop:=∃ p kt z,y=.ref p/\H p=some (.tup [.ref kt,z])/\H kt=some (.tup (x.1.map V.int))/\IsQ K H x.2 z
theorem RowR.tk{K:Frag}{H H':Hp}(s:TK H H')(x:List Int×Rat)(y:V)(h:RowR K H x y):RowR K H' x y:=by
 obtain⟨p,d,z,b,a,c,f⟩:=h;exact⟨p,d,z,b,s _ _ a,s _ _ c,f.tk s⟩
def qd(a:Ad)(K:Frag):Sp:=λvs H Q E=>∃ v d t,∃ D:Nat,vs=[v]/\IsNd a H v t/\Dq d t/\d<=5/\Tb.Ok t/\0<D/\D<=Lm2/\(∀ w∈Tb.wl t 1 1,Ch (D:Int) w.2)/\TabsOk (tabs a) H/\(Tb.lv t<=4096->∀ H' l R ys,SameT H H'->TabsOk (tabs a) H'->H l=none->H' l=some (.lst ys)->Paired (RowR K H') R ys->Tb.IsTab (Tb.toR (Tb.kW (Tb.wl t 1 1))) R->ys.length<=4096->Q (.ref l) H')/\(4096<Tb.lv t->RefM a H E)
theorem RefM.t{a:Ad}{H H':Hp}{E:XK}(s:SameT H H')(h:RefM a H E):RefM a H' E:=λb t=>h b (s.trans t)
section
variable {P:Program}{w:World}{K:Frag}{mg:Str->Option Value}{base:Heap}{a:Ad}
theorem uB(T:Txt K mg a)(hB:Bm mg base):FnOk P w K mg base (CXG P w) 15 a.f_S a.d_S ["node"] (qd a K):=by
 have b1:FnOk P w K mg base (CXG P w) 14 _ _ _ (uH a):=wa T hB;have b9:FnOk P w K mg base CX0 14 _ _ _ _:=(uY T).mono (by decide);refine T.F_S.okG sc_S (λvs H Q E h=>?_) (λcdv A outer s H vs Q E hr h=>?_)
 .obtain⟨v,d,t,D9,rfl,_⟩:=h;rfl
 .obtain⟨v,d,t,D9,rfl,hn,cs,hd,b3,Dp,cg,az,hT,q1,q2⟩:=h
  have cc:sizeLine=16777216:=sizeLine_eq;refine⟨_,(aj (aL (i:=1) sc_S.nd rfl (Or.inr rfl) fN) (aj (d9 vS rfl (bV (ap b1 hr rfl T.m_K T.F_K.kp T.B_K .nil xZ (aa (vr 0) af))) (eh rfl (av (au (i:=2) sc_S.nd rfl (Or.inl rfl)) (av (au (i:=3) sc_S.nd rfl (Or.inl rfl)) bi))) (am (fg (pe_m.append (ze (jX hr) (vr 1) (vr 2) (cV af) ⟨rfl,rfl,rfl,rfl⟩) (aa (vr 3) af))))) (am (aB (bY rfl (N:=["kept","found"]) (ix:=[none,some 1]) ⟨rfl,rfl,rfl,rfl,⟨rfl,rfl,rfl,trivial⟩⟩ (bV (aD (jR rfl hr.units) rfl T.z_sorted bU (aa (vr 1) af))) ⟨λC s H fp=>au (i:=0) (show List.Nodup (["kept","found"]:List Str) by decide +kernel) rfl (Or.inl rfl),λC s H fp=>bX,λC s H fp=>(bH (aa (vr 0) (aa (ap b9 hr rfl T.m_W T.F_W.kp T.B_W .nil ar (aa (wN (jX hr) (vr 1) (vr 0) (λ_ _=>rfl)) af)) af)))⟩))))),iH ?_⟩;intro c8 c5;intro J ba;have u1:=Same.new (o:=.dT []) ba;have al:=ad (H:=H) (a:=J) (o:=.dT []);generalize upd H J (.dT [])=Ha at u1 al;refine⟨v,d,t,rfl,hn.t u1.t,cs,hd,b3,hT.same u1,λca H1 lw zs t1 bS c1 a3 hW=>?_,λh=>(q2 h).t u1.t⟩;have I:=t1.at al;have zl:zs.length=Tb.lv t:=by rw[<- hW.length,Tb.wl_len]
  have a9:∀ w∈Tb.kW (Tb.wl t 1 1),Ch (D9:Int) w.2:=λw hw=>by
   obtain⟨y,hy,rfl⟩:=mem_map.mp hw;exact az y hy
  clear az;have bq:=Tb.kW_len t;have cj:SameT H H1:=u1.t.trans t1;generalize hWW:Tb.wl t 1 1=W at hW a9 bq q1;have c4:W.length=zs.length:=hW.length;have c0:∀ b,H1 b=none->b≠J:=λb hb z=>by rw[z,I]at hb;cases hb
  let Pw1:PvS:=λi σ G=>∃(B:List (List Key×V)) (x2 x3:Option V),(∀ b o,b≠J->H1 b=some o->G b=some o)/\TabsOk (tabs a) G/\G J=some (.dT B)/\Paired (GrR K H1 G) (Tb.grp ((Tb.kW W).take i)) B/\(B.map (·.2)).Nodup/\i<=zs.length/\σ=[some v,some (.ref J),x2,x3]
  refine .inl ⟨⟨_,SqL.of a3⟩,gQ (K:=K) (a:=lw) (xs:=zs) Pw1 ⟨[],none,none,(λb o _ e=>e),bS,I,.nil,nodup_nil,Nat.zero_le _,rfl⟩ (λi σ G _ h=>by
   obtain⟨B,x2,x3,k,_⟩:=h
   exact SqL.of (k _ _ (cY a3 I (λz=>nomatch z)) a3)) ?_ ?_⟩
  .rintro i y σ G hy ⟨B,x2,x3,kp,a5,X,hG,nd,hi,rfl⟩
   obtain⟨⟨F,tp,bt⟩,hw,q,kt,ct,ns,rfl,hq,a2,as,b4,c3,c2,b0⟩:=aJ hW hy;have ab:i<zs.length:=(List.getElem?_eq_some_iff.mp hy).1;have ek:ns=Tb.so F:=Tb.so_uniq as.1 as.2;have cy:=Tb.kW_get hw;have gk:=Tb.grp_gk (Tb.kW W) i (by lia);have gl:B.length<=i:=by rw[<- hG.length];exact gk.1
   have nq:q≠J:=cY hq I (λz=>nomatch z);have bA:kt≠J:=cY a2 I (λz=>nomatch z);have eg:=Tb.grp_snoc cy
   have hF:IsF K H1 (tp,bt) (.ref ct):=⟨ct,rfl,.inl b4⟩
   rw[ek]at a2;refine⟨q,_,rfl,SqT.of (kp _ _ nq hq),rfl,_,_,rfl,_,_,rfl,rfl,?_⟩;refine⟨J,rfl,.inr ⟨B,.inl X⟩,Nat.zero_le _,λD fD=>?_⟩;have n2:=Same.new (o:=.lst []) fD;have nD:D≠J:=λz=>by rw[z,X]at fD;cases fD
   have bl:H1 D=none:=by
    cases hh:H1 D with
    | none=>rfl
    | some o=>rw[kp _ _ nD hh]at fD;cases fD
   have bn:(upd G D (.lst [])) kt=some (.tup (((Tb.so F).map Sum.inl).map kV)):=by rw[eC];exact n2 _ _ (kp _ _ bA a2)
   have Z:TabsOk (tabs a) (upd G D (.lst [])):=a5.same n2;have L:=n2 _ _ X;have b':=ad (H:=G) (a:=D) (o:=.lst []);have bm:∀ b o,b≠J->H1 b=some o->(upd G D (.lst [])) b=some o:=λb o n e=>n2 _ _ (kp _ _ n e)
   have ci:=aq (GrR.m λl ys e=>n2 _ _ e) hG;have bg:∀ l ys,G l=some (.lst ys)->l≠D:=λl ys e z=>by rw[z,fD]at e;cases e
   refine⟨B,_,kt,rfl,bn,L,by lia,λv' b5=>?_,λhn'=>?_⟩
   .obtain⟨x,l,ys,a6,rfl,fl,hl,cB,a8⟩:=y8 (c:=(tp,bt)) ci nd b5
    generalize upd G D (.lst [])=H2 at *;have yl:=(gk.2 x a6).1;refine⟨.inl ⟨rfl,_,SqL.of hl⟩,⟨l,ys,_,rfl,rfl,hl,by lia,?_⟩⟩;have nl:l≠J:=cY hl L (λz=>nomatch z);refine⟨B,_,_,λb o n e=>?_,Z.put (λps z=>by rw[hl]at z;cases z) (λφ z=>by rw[hl]at z;cases z),by rw[ag (Ne.symm nl)];exact L,by rw[eg];exact a8 _ hF,nd,ab,rfl⟩;rw[ag (λz=>by rw[z,fl]at e;cases e)];exact bm _ _ n e
   .generalize eH2:upd G D (.lst [])=H2 at *
    have M:(upd H2 J (.dT (B++[((Tb.so F).map Sum.inl,.ref D)]))) D=some (.lst []):=by rw[ag nD];exact b'
    refine⟨.inl ⟨rfl,_,SqL.of M⟩,⟨D,[],_,rfl,rfl,M,by show 0<_;lia,?_⟩⟩;have ch:TabsOk (tabs a) (upd H2 J (.dT (B++[((Tb.so F).map Sum.inl,.ref D)]))):=Z.put (λps z=>by rw[L]at z;cases z) λφ z=>by rw[L]at z;cases z
    have GN:Paired (GrR K H1 (upd (upd H2 J (.dT (B++[((Tb.so F).map Sum.inl,.ref D)]))) D (.lst ([]++[.ref ct])))) (Tb.pushG (Tb.so F) (tp,bt) (Tb.grp ((Tb.kW W).take i))) (B++[((Tb.so F).map Sum.inl,.ref D)]):=yu (aq (GrR.m λl ys e=>by rw[ag (bg _ _ e),ag (cY e X (λz=>nomatch z))];exact n2 _ _ e) hG) hn' bl ad hF;refine⟨B++[((Tb.so F).map Sum.inl,.ref D)],_,_,λb o n e=>?_,ch.put (λps z=>by rw[M]at z;cases z) (λφ z=>by rw[M]at z;cases z),by rw[ag (Ne.symm nD)];exact ad,by rw[eg];exact GN,?_,ab,rfl⟩
    .rw[ag (λz=>by rw[z,bl]at e;cases e),ag n]
     exact bm _ _ n e
    .rw[map_append]
     refine nodup_append.mpr ⟨nd,by simp,λu hu u' b2 e=>?_⟩;have e':u'=V.ref D:=by simpa using b2
     rw[e,e']at hu;obtain⟨kv,ck,e9⟩:=mem_map.mp hu;obtain⟨j,hj⟩:=List.getElem?_of_mem ck;obtain⟨x,_,r⟩:=aJ hG hj;obtain⟨_,l,ys,h1,_,h3,_⟩:=r;rw[e9]at h1;cases h1;exact bg _ _ h3 rfl
  rintro σ H2 ⟨B,x2,x3,kp,a5,X,hG,nd,hi,rfl⟩;have gk:=Tb.grp_gk (Tb.kW W) zs.length (by lia);have et:(Tb.kW W).take zs.length=Tb.kW W:=take_of_length_le (by rw[bq];lia);rw[et]at hG gk;have a0:=Tb.grp_nd (Tb.kW W);have an:=Tb.rat_grp (Tb.kW W);generalize hg:Tb.grp (Tb.kW W)=g at hG gk a0 an;have bp:(g.map (·.1)).Nodup:=by have:=a0;unfold Tb.NdR at this;rwa [Tb.rat_keys]at this
  have t2:SameT H H2:=λb o e=>by
   have nb:b≠J:=λz=>by rw[z,ba]at e;cases e
   obtain⟨e1,o1,e2⟩:=cj b o e;have:=kp _ _ nb e2;exact⟨λnp=>kp _ _ nb (e1 np),o1,this⟩
  have kl:B.length=g.length:=hG.length.symm;have gl:g.length<=4096:=by have:=gk.1;lia
  refine⟨J,B,g.map (·.1),rfl,X,by lia,wx hG,bp,λq o f fq op b6 bo=>?_⟩;rw[length_map]at op bo;have u3:=Same.new (o:=.lst (o.map f)) fq;have a4:=ad (H:=H2) (a:=q) (o:=.lst (o.map f));have Z:=a5.same u3;generalize upd H2 q (.lst (o.map f))=H3 at u3 a4 Z;have t3:=t2.trans u3.t;have c9:H q=none:=t2.free fq;have cm:(Tb.rat g).length=g.length:=by unfold Tb.rat;rw[length_map]
  obtain⟨rp,rs⟩:=Tb.tab_of a0 (o:=o) (by rw[cm];exact op) (by rw[Tb.rat_keys];exact b6);have ol:o.length=g.length:=by rw[op.length_eq,length_range]
  generalize hR:(o.map λi=>(Tb.rat g).getD i ([],0))=R at rp rs;have Rl:R.length=o.length:=by rw[<- hR,length_map]
  refine .inl ⟨⟨_,SqL.of a4⟩,λD3 M=>?_⟩
  let Pw2:PvL:=λi ws G=>i<=o.length/\Same H3 G/\G D3=some (.lst ws)/\Paired (RowR K G) (R.take i) ws
  refine da (K:=K) (a:=q) (xs:=o.map f) Pw2 ⟨Nat.zero_le _,Same.new M,ad,.nil⟩ (λi ys G h=>SqL.of (h.2.1 _ _ a4)) (λi ys G h=>h.2.2.1) ?_ ?_
  .rintro i y ws G P' hy ⟨c7,n5,a1,Y⟩ br
   rw[List.getElem?_map]at hy
   obtain⟨j,hj,rfl⟩:∃ j,o[i]? = some j/\f j=y:=by
    cases e:o[i]? with
    | none=>rw[e]at hy;cases hy
    | some j=>rw[e]at hy;cases hy;exact⟨j,rfl,rfl⟩
   have ab:i<o.length:=(List.getElem?_eq_some_iff.mp hj).1;have bb:j<g.length:=mem_range.mp (op.mem_iff.mp (List.mem_of_getElem? hj));obtain⟨b,eb,hb⟩:=bo j bb
   obtain⟨x,hx⟩:∃ x,g[j]? = some x:=⟨_,List.getElem?_eq_getElem bb⟩
   have bc:(g.map (·.1)).getD j []=x.1:=by rw[List.getD,List.getElem?_map,hx];rfl
   rw[bc]at hb;have hb:H2 b=some (.tup (x.1.map V.int)):=hb;have a7:=(u3.trans n5) _ _ hb;obtain⟨l,ys,hv,hl,hF⟩:=AD hG bp hx;have a6:=List.mem_of_getElem? hx;obtain⟨xl,xc⟩:=gk.2 x a6;have cA:TK H1 G:=λb us e=>(u3.trans n5) _ _ (kp _ _ (cY e I (λz=>nomatch z)) e)
   have c6:ws.length<=4096:=by rw[<- Y.length,length_take];lia
   rw[eb];refine⟨⟨rfl,trivial⟩,?_⟩;refine⟨J,_,rfl,.inr ⟨B,x.1.map Sum.inl,b,.inl ((u3.trans n5) _ _ X),rfl,by rw[eC];exact a7,hv.symm⟩,?_⟩;refine⟨l,x.2,ys,D9,rfl,(u3.trans n5) _ _ hl,hF.tk cA,by rw[<- hF.len];lia,Dp,cg,λc hc=>?_,λH6 z s6 hz=>?_⟩
   .obtain⟨w9,bB,e9⟩:=xc c hc
    rw[<- e9];exact a9 w9 bB
   refine⟨by show 2<=sizeLine;decide,λp fp=>?_⟩;have s7:=Same.new (o:=.tup [.ref b,z]) fp;have a':=(s6.trans s7) _ _ a1;have co:=(n5.trans s6).trans s7;refine⟨a',by lia,br _ _ ⟨ab,co.put M,ad,?_⟩⟩
   have eR:R[i]? = some (x.1,Tb.sumQ x.2):=by
    rw[<- hR,List.getElem?_map,hj];show some ((Tb.rat g).getD j ([],0))=_;unfold Tb.rat;rw[List.getD,List.getElem?_map,hx];rfl
   have ac:TK (upd H6 p (.tup [.ref b,z])) (upd (upd H6 p (.tup [.ref b,z])) D3 (.lst (ws++[.ref p]))):=λb us e=>by rw[ag (cY e a' (λz=>nomatch z))];exact e
   refine cR (aq (RowR.tk ((s6.trans s7).tk.trans ac)) Y) eR ⟨p,b,z,rfl,ac _ _ ad,ac _ _ ((s6.trans s7) _ _ a7),(hz.same s7).tk ac⟩
  .rintro ws H5 ⟨_,n5,a1,Y⟩
   have cx:H D3=none:=t3.free M;rw[length_map,<- Rl,take_length]at Y;refine q1 ca _ D3 R ws (t3.trans n5.t) (Z.same n5) cx a1 Y ⟨?_,rs⟩ (by rw[<- Y.length];lia);rw[<- an];exact rp
end
end My
namespace Tb
open FrM Du LexM
mutual
theorem dq_ok:∀(d:Nat) (t:Tr),Dq d t->Ok t
 | _,.leaf ns,h=>by rw[Dq]at h;rw[Ok];exact h
 | 0,.die ps,h=>by rw[Dq]at h;exact h.elim
 | d+1,.die ps,h=>by
  rw[Dq]at h;rw[Ok];exact⟨λe=>by rw[e]at h;exact absurd h.1 (by decide),uZ d ps h.2.2⟩
theorem uZ:∀(d:Nat) (ps:List (Int×Tr)),Dqs d ps->Oks ps
 | _,[],_=>by rw[Oks];trivial
 | d,(m,u)::r,h=>by rw[Dqs]at h;rw[Oks];exact⟨h.1,dq_ok d u h.2.2.1,uZ d r h.2.2.2⟩
end
theorem dqs_tot:∀(d:Nat) (ps:List (Int×Tr)),Dqs d ps->tot ps<=(ps.length:Int)*1000000000
 | _,[],_=>by simp[tot]
 | d,(m,u)::r,h=>by
  rw[Dqs]at h;have b:=dqs_tot d r h.2.2.2;have a:tot ((m,u)::r)=m+tot r:=by unfold tot;rw[map_cons,sum_cons]
  rw[a,length_cons];have:=h.2.1
  push_cast
  lia
mutual
theorem dnq_le:∀(d:Nat) (t:Tr),Dq d t->dn t<=2 ^ fb d
 | d,.leaf ns,_=>by rw[dn];exact Nat.one_le_two_pow
 | 0,.die ps,h=>by rw[Dq]at h;exact h.elim
 | d+1,.die ps,h=>by
  rw[Dq]at h;rw[dn,fb,Nat.pow_add];have c:=dqs_tot d ps h.2.2;have a:=qK d ps h.2.2;have b:2 ^ (ps.length*fb d)<=2 ^ (4*fb d):=Nat.pow_le_pow_right (by decide) (Nat.mul_le_mul_right _ h.2.1);have e:(2:Nat) ^ 32=4294967296:=by decide
  exact Nat.mul_le_mul (by rw[e];have:=h.2.1;lia) (Nat.le_trans a b)
theorem qK:∀(d:Nat) (ps:List (Int×Tr)),Dqs d ps->dns ps<=2 ^ (ps.length*fb d)
 | d,[],_=>by rw[dns];exact Nat.one_le_two_pow
 | d,(m,u)::r,h=>by
  rw[Dqs]at h;rw[dns,length_cons,Nat.add_mul,Nat.one_mul,Nat.pow_add,Nat.mul_comm];exact Nat.mul_le_mul (qK d r h.2.2.2) (dnq_le d u h.2.2.1)
end
mutual
theorem lvq_le:∀(d:Nat) (t:Tr),Dq d t->lv t<=4 ^ d
 | d,.leaf ns,_=>by rw[lv];exact Nat.one_le_pow _ _ (by decide)
 | 0,.die ps,h=>by rw[Dq]at h;exact h.elim
 | d+1,.die ps,h=>by
  rw[Dq]at h;rw[lv];have:=qB d ps h.2.2;have a:ps.length*4 ^ d<=4*4 ^ d:=Nat.mul_le_mul_right _ h.2.1;rw[Nat.pow_succ,Nat.mul_comm];lia
theorem qB:∀(d:Nat) (ps:List (Int×Tr)),Dqs d ps->lvs ps<=ps.length*4 ^ d
 | d,[],_=>by rw[lvs];exact Nat.zero_le _
 | d,(m,u)::r,h=>by
  rw[Dqs]at h;rw[lvs,length_cons,Nat.add_mul,Nat.one_mul];have:=lvq_le d u h.2.2.1;have:=qB d r h.2.2.2;lia
end
mutual
theorem lG{o:Int}{g:List Int->Tr}{e:Nat}(b:∀ ns,Par o (.leaf ns)->Dq e (g (so ns)))(a:∀{d t},Dq e t->Dq (d+e) t):∀(d:Nat) (t:Tr),Dq d t->Par o t->Dq (d+e) (bnd t g)
 | d,.leaf ns,_,hp=>by rw[bnd];exact a (b ns hp)
 | 0,.die ps,h,_=>by rw[Dq]at h;exact h.elim
 | d+1,.die ps,h,hp=>by
  rw[Dq]at h;rw[Par]at hp;rw[bnd,show d+1+e=(d+e)+1 by lia,Dq,sP];exact⟨h.1,h.2.1,pM b a d ps h.2.2 hp⟩
theorem pM{o:Int}{g:List Int->Tr}{e:Nat}(b:∀ ns,Par o (.leaf ns)->Dq e (g (so ns)))(a:∀{d t},Dq e t->Dq (d+e) t):∀(d:Nat) (ps:List (Int×Tr)),Dqs d ps->Pars o ps->Dqs (d+e) (cQ ps g)
 | d,[],_,_=>by rw[cQ,Dqs];trivial
 | d,(m,u)::r,h,hp=>by
  rw[Dqs]at h;rw[Pars]at hp;rw[cQ,Dqs];exact⟨h.1,h.2.1,lG b a d u h.2.2.1 hp.1,pM b a d r h.2.2.2 hp.2⟩
end
mutual
theorem yj:∀(e:Nat) (t:Tr),Dq e t->Dq (e+1) t
 | e,.leaf ns,h=>by rw[Dq]at h ⊢;exact h
 | 0,.die ps,h=>by rw[Dq]at h;exact h.elim
 | e+1,.die ps,h=>by rw[Dq]at h ⊢;exact⟨h.1,h.2.1,tO e ps h.2.2⟩
theorem tO:∀(e:Nat) (ps:List (Int×Tr)),Dqs e ps->Dqs (e+1) ps
 | e,[],_=>by rw[Dqs];trivial
 | e,(m,u)::r,h=>by rw[Dqs]at h ⊢;exact⟨h.1,h.2.1,yj e u h.2.2.1,tO e r h.2.2.2⟩
end
theorem pY{e:Nat}{t:Tr}(h:Dq e t):∀ d:Nat,Dq (d+e) t
 | 0=>by rw[Nat.zero_add];exact h
 | d+1=>by rw[show d+1+e=(d+e)+1 by lia];exact yj _ _ (pY h d)
mutual
theorem n8(g:List Int->Tr):∀(t:Tr) (q:Rat),wf (bnd t g) q=(wf t q).flatMap λw=>wf (g (so w.1)) w.2
 | .leaf ns,q=>by rw[bnd,wf];simp
 | .die ps,q=>by rw[bnd,wf,wf,bnds_tot];exact pD g ps q _
theorem pD(g:List Int->Tr):∀(ps:List (Int×Tr)) (q:Rat) (S:Int),wfs (cQ ps g) q S=(wfs ps q S).flatMap λw=>wf (g (so w.1)) w.2
 | [],q,S=>by rw[cQ,wfs];rfl
 | (m,u)::r,q,S=>by
  rw[cQ]
  conv=>lhs;rw[wfs]
  conv=>rhs;rw[wfs]
  rw[n8 g u,pD g r,List.flatMap_append]
end
mutual
theorem vg(g:List Int->Tr):∀(t:Tr) (a b:Int),wl (bnd t g) a b=(wl t a b).flatMap λw=>wl (g (so w.1)) w.2.1 w.2.2
 | .leaf ns,a,b=>by rw[bnd,wl];simp
 | .die ps,a,b=>by rw[bnd,wl,wl,bnds_tot];exact qc g ps a b _
theorem qc(g:List Int->Tr):∀(ps:List (Int×Tr)) (a b S:Int),wls (cQ ps g) a b S=(wls ps a b S).flatMap λw=>wl (g (so w.1)) w.2.1 w.2.2
 | [],a,b,S=>by rw[cQ,wls];rfl
 | (m,u)::r,a,b,S=>by
  rw[cQ]
  conv=>lhs;rw[wls]
  conv=>rhs;rw[wls]
  rw[vg g u,qc g r,List.flatMap_append]
end
mutual
theorem mC:∀(t:Tr) (c q:Rat),wf t (c*q)=(wf t q).map λx=>(x.1,c*x.2)
 | .leaf ns,c,q=>by rw[wf,wf];rfl
 | .die ps,c,q=>by rw[wf,wf];exact kf ps c q _
theorem kf:∀(ps:List (Int×Tr)) (c q:Rat) (S:Int),wfs ps (c*q) S=(wfs ps q S).map λx=>(x.1,c*x.2)
 | [],c,q,S=>by rw[wfs,wfs];rfl
 | (m,u)::r,c,q,S=>by
  rw[wfs,wfs,map_append,<- mC u,<- kf r];have e:c*q*((m:Rat)/(S:Rat))=c*(q*((m:Rat)/(S:Rat))):=by grind
  rw[e]
end
def prod(A B:Rws):Rws:=A.flatMap λw=>B.map λx=>(so (w.1++x.1),w.2*x.2)
def bth(t1 t2:Tr):Tr:=bnd t1 λns=>bnd t2 λms=>.leaf (ns++ms)
theorem u7(b a:Tr):kt (bth b a)=prod (kt b) (kt a):=by
 unfold kt bth prod kR;rw[n8,List.map_flatMap,List.flatMap_map]
 congr 1
 funext w
 have e:=mC a w.2 1;have c:w.2*1=w.2:=by grind
 rw[c]at e;rw[n8,e,List.flatMap_map,List.map_flatMap,map_map]
 induction wf a 1 with
 | nil=>rfl
 | cons x r ih =>
  rw[flatMap_cons,map_cons,ih];rfl
theorem zX{W R c:Rws}(h:IsTab W R)(d:(c.map (·.1)).Pairwise λa b=>aH a b=true)(i:∀ k,k∈c.map (·.1)↔k∈W.map (·.1))(f:∀ x∈c,x.2=bQ W x.1):c=R:=by
 have e:c.map (·.1)=R.map (·.1):=kX d h.up λk=>by rw[i,h.keys]
 have g:c=(c.map (·.1)).map λk=>(k,bQ W k):=by
  rw[map_map]
  have:∀ x∈c,x=((λk=>(k,bQ W k)) ∘ λx=>x.1) x:=λx hx=>by
   show x=(x.1,bQ W x.1);rw[<- f x hx]
  conv=>lhs;rw[<- map_id c]
  exact map_congr_left this
 rw[g,h.eqv,e]
def Evn(k:List Int):Prop:=(∀ x∈k,x % 2=0)/\k.Pairwise (·<=·)
def Odn(k:List Int):Prop:=(∀ x∈k,x % 2=1)/\k.Pairwise (·<=·)
theorem gK{k f m g:List Int}(i:Evn k)(h:Evn f)(j:Odn m)(l:Odn g)(e:so (k++m)=so (f++g)):k=f/\m=g:=by
 have p:(k++m).Perm (f++g):=((so_perm _).symm.trans (by rw[e])).trans (so_perm _)
 have d:∀{k m:List Int},Evn k->Odn m->(k++m).filter (λx=>decide (x % 2=0))=k/\(k++m).filter (λx=>decide (x % 2=1))=m:=λ{k m} a b=>by
  rw[List.filter_append,List.filter_append]
  constructor
  .rw[List.filter_eq_self.mpr (λx c=>decide_eq_true (a.1 x c)),List.filter_eq_nil_iff.mpr (λx c=>by have:=b.1 x c;simp;lia),append_nil]
  .rw[List.filter_eq_nil_iff.mpr (λx c=>by have:=a.1 x c;simp;lia),List.filter_eq_self.mpr (λx c=>decide_eq_true (b.1 x c)),nil_append]
 have o:=p.filter λx=>decide (x % 2=0)
 have n:=p.filter λx=>decide (x % 2=1)
 rw[(d i j).1,(d h l).1]at o;rw[(d i j).2,(d h l).2]at n;exact⟨i9 o i.2 h.2,i9 n j.2 l.2⟩
theorem vD{B:Rws}{k m:List Int}{c:Rat}{f:List Int->List Int}(a:∀ x∈B,f x.1=k↔x.1=m):bQ (B.map λx=>(f x.1,c*x.2)) k=c*bQ B m:=by
 induction B with
 | nil=>show(0:Rat)=c*0;grind
 | cons x r ih =>
  have b:=a x mem_cons_self;rw[map_cons,aM,aM,ih λy d=>a y (mem_cons_of_mem _ d)];show(if f x.1=k then c*x.2 else 0)+c*bQ r m=c*((if x.1=m then x.2 else 0)+bQ r m)
  by_cases z:x.1=m
  .rw[if_pos z,if_pos (b.mpr z)];grind
  .rw[if_neg z,if_neg (λy=>z (b.mp y))];grind
theorem rH{B:Rws}{k:List Int}(h:∀ x∈B,x.1≠k):bQ B k=0:=jh (λz=>by obtain⟨x,hx,e⟩:=mem_map.mp z;exact h x hx e)
theorem sy{A B:Rws}(g:∀ x∈A,Evn x.1)(b:∀ x∈B,Odn x.1){k m:List Int}(h:Evn k)(d:Odn m):bQ (prod A B) (so (k++m))=bQ A k*bQ B m:=by
 unfold prod
 induction A with
 | nil=>show(0:Rat)=0*_;grind
 | cons w r ih =>
  have c:=g w mem_cons_self;rw[flatMap_cons,uJ,ih λx a=>g x (mem_cons_of_mem _ a),aM]
  by_cases z:w.1=k
  .rw[if_pos z,vD (f:=λy=>so (w.1++y)) (m:=m) (λx a=>⟨λe=>(gK c h (b x a) d e).2,λe=>by rw[e,z]⟩)]
   grind
  .rw[if_neg z,rH (λx a e=>?_)]
   .grind
   .obtain⟨y,i,rfl⟩:=mem_map.mp a
    exact z (gK c h (b y i) d e).1
theorem prod_keys{A B:Rws}{k:List Int}:k∈(prod A B).map (·.1)↔∃ w∈A,∃ x∈B,k=so (w.1++x.1):=by
 unfold prod;rw[mem_map]
 constructor
 .rintro⟨y,c,rfl⟩
  obtain⟨w,a,c⟩:=mem_flatMap.mp c;obtain⟨x,b,rfl⟩:=mem_map.mp c;exact⟨w,a,x,b,rfl⟩
 .rintro⟨w,a,x,b,rfl⟩
  exact⟨_,mem_flatMap.mpr ⟨w,a,mem_map.mpr ⟨x,b,rfl⟩⟩,rfl⟩
end Tb
namespace My
open PySem L2 FrM Du LexM
open Tb (Tr Ent Way Rws Ch Lm2 Grp)
theorem vZ{p:List Key×V}{r:List (List Key×V)}{k:List Key}{v:V}(h:¬p.1=k):d8 (p::r) k v=p::d8 r k v:=by
 unfold d8;rw[any_cons,decide_eq_false h,Bool.false_or]
 split
 .rw[map_cons,if_neg h]
 .rfl
theorem wA{p:List Key×V}{r:List (List Key×V)}{k:List Key}{v:V}(h:p.1=k)(n:∀ q∈r,¬q.1=k):d8 (p::r) k v=(p.1,v)::r:=by
 unfold d8;rw[any_cons,decide_eq_true h,Bool.true_or,if_pos rfl,map_cons,if_pos h]
 congr 1
 have:∀ q∈r,(if q.1=k then (q.1,v) else q)=q:=λq a=>if_neg (n q a)
 rw[map_congr_left this,List.map_id']
def WrR(K:Frag)(H:Hp)(x:List Int×Rat)(kv:List Key×V):Prop:=kv.1=x.1.map Sum.inl/\IsQ K H x.2 kv.2
abbrev WR(K:Frag)(H:Hp):Rws->List (List Key×V)->Prop:=Paired (WrR K H)
theorem WR.tk{K:Frag}{H H':Hp}(k:TK H H'){st:Rws}{kvs:List (List Key×V)}(h:WR K H st kvs):WR K H' st kvs:=aq (λx kv (r:WrR K H x kv)=>⟨r.1,r.2.tk k⟩) h
theorem WR.get{K:Frag}{H:Hp}{k:List Int}{st:Rws}{kvs:List (List Key×V)}(h:WR K H st kvs):(dO kvs (k.map Sum.inl)=none/\Tb.getR st k=0)\/∃ z,dO kvs (k.map Sum.inl)=some z/\IsQ K H (Tb.getR st k) z:=by
 induction h with
 | nil=>exact .inl ⟨rfl,rfl⟩
 | @cons x kv st kvs r t ih =>
  rw[Tb.getR]
  by_cases c:x.1=k
  .rw[if_pos c,d7 (by rw[r.1,c])]
   exact .inr ⟨_,rfl,r.2⟩
  .rw[if_neg c,dG (λz=>c (dB (r.1.symm.trans z)))]
   exact ih
theorem WR.keys{K:Frag}{H:Hp}{st:Rws}{kvs:List (List Key×V)}(h:WR K H st kvs):kvs.map (·.1)=(st.map (·.1)).map λx=>x.map Sum.inl:=by
 induction h with
 | nil=>rfl
 | cons r _ ih=>rw[map_cons,map_cons,map_cons,ih,r.1]
theorem WR.put{K:Frag}{H:Hp}{k:List Int}{m:Rat}{z:V}{st:Rws}{kvs:List (List Key×V)}(h:WR K H st kvs)(a:Tb.NdR st)(hz:IsQ K H (Tb.getR st k+m) z):WR K H (Tb.addR k m st) (d8 kvs (k.map Sum.inl) z):=by
 induction h with
 | nil =>
  rw[Tb.getR]at hz;have:(0:Rat)+m=m:=by grind
  rw[this]at hz;exact .cons ⟨rfl,hz⟩ .nil
 | @cons x kv st kvs r t ih =>
  rw[Tb.addR];rw[Tb.getR]at hz;unfold Tb.NdR at a;rw[map_cons,nodup_cons]at a
  by_cases c:x.1=k
  .rw[if_pos c]at hz ⊢
   rw[wA (by rw[r.1,c]) (λq g e=>by
    have b:q.1∈kvs.map (·.1):=mem_map.mpr ⟨q,g,rfl⟩;rw[WR.keys t]at b;obtain⟨y,f,d⟩:=mem_map.mp b;have:=dB (d.trans e)
    exact a.1 (by rw[c,<- this];exact f))]
   exact .cons ⟨by show kv.1=k.map Sum.inl;rw[r.1,c],hz⟩ t
  .rw[if_neg c]at hz ⊢
   rw[vZ (λe=>c (dB (r.1.symm.trans e)))];exact .cons r (ih a.2 hz)
inductive spWalk(K:Frag)(N:Nat)(vs:List V)(H:Hp)(Q:VK)(_E:XK):Prop
 | mk(v z:V)(df:Addr)(d:Nat)(t:Tr)(q:Rat)(W:Rws)(kvs:List (List Key×V))(D:Nat)(h0:vs=[v,z,.ref df])(h1:d<N)(h2:IsTree H d v t)(h3:Tb.Dq d t)(h4:IsQ K H q z)(h5:H df=some (.dT kvs))(h6:WR K H (Tb.adds W) kvs)(h7:0<D)(h8:D<=Lm2)(h9:Tb.Gd D (W++Tb.kR (Tb.wf t q)))(h10:W.length+Tb.lv t<=1000)(h11:∀ H' kvs',(∀ b o,b≠df->H b=some o->H' b=some o)->H' df=some (.dT kvs')->WR K H' (Tb.adds (W++Tb.kR (Tb.wf t q))) kvs'->Q (.ref df) H'):spWalk K N vs H Q _E
theorem y7:4000000000<=Lm2:=by
 unfold Lm2;exact Nat.le_trans (show 4000000000<=2 ^ 32 by decide) (Nat.pow_le_pow_right (by decide) (by decide))
section
variable {P:Program}{w:World}{K:Frag}{mg:Str->Option Value}{base:Heap}{a:Ad}
theorem rC(T:Txt K mg a)(N:Nat)(bl:FnOk P w K mg base CX0 (N+4) a.f_B a.d_B ["_law_tree_here","_law_much","_law_found"] (spWalk K N)):FnOk P w K mg base CX0 (N+1+4) a.f_B a.d_B ["_law_tree_here","_law_much","_law_found"] (spWalk K (N+1)):=by
 have bq:FnOk P w K mg base CX0 (N+4) _ _ _ (spAr (· + ·) K):=(zR T).mono (by lia);have bg:FnOk P w K mg base CX0 (N+4) _ _ _ (spAr (· * ·) K):=(jG T).mono (by lia);have bc:FnOk P w K mg base CX0 (N+4) _ _ _ spLowN:=(iA T).mono (by lia);refine T.F_B.ok sc_B (λvs H Q E h=>?_) (λcdv A outer s H vs Q E hr h=>?_)
 .obtain⟨v,z,L,d,t,q,W,g,D,rfl,_⟩:=h;rfl
 .obtain⟨v,z,L,d,t,q,W,g,D,rfl,b2,ht,G,hq,f,hW,hD,ac,hG,a6,k⟩:=h
  have bn:sizeLine=16777216:=sizeLine_eq;refine⟨_,(aj (cX (gw (aD dY rfl T.z_isinstance bL (aa (vr 0) (aa (fj (v:=.ty "list") rfl T.z_list eD rfl) af)))) (aj (aL (i:=3) sc_B.nd rfl (Or.inl rfl) (bP bz rfl T.z_tuple dH (aa (aD cW rfl T.z_sorted bU (aa (vr 0) af)) af))) (am (lF (jX hr) (vr 2) (vr 3) (ap bq hr rfl T.m_X T.F_X.kp T.B_X .nil ar (aa (uE (jX hr) (vr 2) (vr 3) (bH (aa ak (aa ak af))) ⟨rfl,rfl,rfl,rfl⟩) (aa (vr 1) af))) rfl))) (aj (aL (i:=4) sc_B.nd rfl (Or.inl rfl) (aD (fZ rfl) rfl T.z_sum lu (aa (bY rfl (N:=["_law_many","_law_part"]) (ix:=[none,none]) ⟨rfl,rfl,rfl,rfl,trivial⟩ (bV (vr 0)) ⟨λC s H fp=>(di (K:=K) (n:=2) rfl rfl (av (au (i:=0) (show List.Nodup (["_law_many","_law_part"]:List Str) by decide +kernel) rfl (Or.inl rfl)) (av (au (i:=1) (show List.Nodup (["_law_many","_law_part"]:List Str) by decide +kernel) rfl (Or.inl rfl)) bi))),λC s H fp=>bX,λC s H fp=>(vr 0)⟩) af))) (am (d9 PassesOwn.never rfl (bV (vr 0)) (eh rfl (av (au (i:=5) sc_B.nd rfl (Or.inl rfl)) (av (au (i:=6) sc_B.nd rfl (Or.inl rfl)) bi))) (am (fg (ap bl hr rfl T.m_B T.F_B.kp T.B_B .nil ar (aa (vr 6) (aa (ap bg hr rfl T.m_E T.F_E.kp T.B_E .nil ar (aa (vr 1) (aa (ap bc hr rfl T.m_y T.F_y.kp T.B_y .nil ar (aa (vr 5) (aa (vr 4) af))) af))) (aa (vr 2) af)))))))))) (am (aB (vr 2)))),iC ?_⟩;intro b3;have kl:g.length<=W.length:=by rw[<- hW.length];exact Tb.adds_len W
  cases t with
  | leaf ns =>
   obtain⟨l,rfl,hl,b6,b1⟩:=(ax d).mp ht;rw[Tb.wf]at hG k;have ek:Tb.kR [(ns,q)]=[(Tb.so ns,q)]:=rfl;rw[ek]at hG k;refine⟨_,_,_,true,rfl,rfl,.lst hl,rfl,?_⟩;refine⟨l,ns,rfl,SqL.of hl,by lia,λp B hp hs fp=>?_⟩;have F:=Same.new (o:=.lst (B.map V.int)) fp;refine⟨p,_,rfl,.inl ⟨SqL.of ad,λkt ft=>?_⟩⟩;have s2:=Same.new (o:=.tup (B.map V.int)) ft;have a0:=F.trans s2;have az:=ad (H:=upd H p (.lst (B.map V.int))) (a:=kt) (o:=.tup (B.map V.int));have en:B=Tb.so ns:=Tb.so_uniq hp hs;generalize upd (upd H p (.lst (B.map V.int))) kt (.tup (B.map V.int))=H2 at a0 az;rw[en]at az;refine⟨L,rfl,.inr ⟨g,.inl (a0 _ _ f)⟩,iq _ _,λt0 br=>?_⟩;have s3:=Same.new (o:=.tup [.int 0,.int 1]) br;have a3:=ad (H:=H2) (a:=t0) (o:=.tup [.int 0,.int 1]);generalize upd H2 t0 (.tup [.int 0,.int 1])=H3 at s3 a3;have M:=a0.trans s3;have an:H3 kt=some (.tup (((Tb.so ns).map Sum.inl).map kV)):=by rw[eC];exact s3 _ _ az
   refine⟨_,.inr ⟨g,(Tb.so ns).map Sum.inl,kt,.inl (M _ _ f),rfl,an,rfl⟩,?_⟩
   have bm:IsQ K H3 (Tb.getR (Tb.adds W) (Tb.so ns)) ((dO g ((Tb.so ns).map Sum.inl)).getD (.ref t0)):=by
    rcases hW.get (k:=Tb.so ns) with⟨e1,e2⟩ | ⟨z,e1,e2⟩
    .rw[e1,e2];exact⟨t0,rfl,.inl a3⟩
    .rw[e1];exact e2.same M
   refine⟨_,_,_,_,rfl,bm,hq.same M,ku hD ac (Tb.getR_bq hG.left _),ku hD ac (hG.right.one mem_cons_self),λH4 z4 s4 q4=>?_⟩;have as:=M.trans s4;have al:=as _ _ f;refine⟨L,_,rfl,.inr ⟨g,(Tb.so ns).map Sum.inl,kt,al,rfl,s4 _ _ an,by lia,rfl⟩,?_⟩;refine k _ _ (λb o n e=>by rw[ag n];exact as _ _ e) ad ?_;rw[Tb.adds_app];exact((hW.tk as.tk).put (Tb.adds_nd W) q4).tk (λb us e=>by rw[ag (cY e al (λz=>nomatch z))];exact e)
  | die ps =>
   obtain⟨d',rfl,p,vs,rfl,hp,hP,b4,b5⟩:=cO ht;have X:=Tb.dq_ok _ _ G;rw[Tb.Dq]at G;rw[Tb.Ok]at X;rw[Tb.wf]at hG k;rw[Tb.lv]at a6;have g1:=Tb.oks_tot X.2;have g2:=Tb.dqs_tot _ _ G.2.2;have pl:ps.length=vs.length:=hP.length;refine⟨_,_,_,false,rfl,rfl,.tup hp,rfl,?_⟩;refine .inr ⟨⟨_,SqT.of hp⟩,λD1 a7=>?_⟩
   let Pw1:PvL:=λi zs j=>Same H j/\j D1=some (.lst zs)/\i<=ps.length/\zs=((ps.take i).map (·.1)).map V.int
   refine fy (K:=K) (a:=p) (xs:=vs) Pw1 ⟨Same.new a7,ad,Nat.zero_le _,rfl⟩ (λi ys j h=>SqT.of (h.1 _ _ hp)) (λi ys j h=>h.2.1) ?_ ?_
   .rintro i y zs j P' hy ⟨F,Y,hi,rfl⟩ ba
    obtain⟨⟨m,u⟩,x,q1,w1,rfl,R,_⟩:=aJ hP hy;have a1:i<ps.length:=(List.getElem?_eq_some_iff.mp x).1;refine⟨q1,_,rfl,SqT.of (F _ _ R),rfl,_,_,rfl,_,_,rfl,rfl,trivial,Y,by rw[length_map,length_map,length_take];lia,ba _ _ ⟨F.put a7,ad,a1,?_⟩⟩;rw[take_add_one,x];simp
   rintro zs H1 ⟨F,Y,_,rfl⟩;rw[<- pl,take_length]at Y;refine⟨D1,_,rfl,SqL.of Y,?_⟩;have a2:=F _ _ hp;have bt:∀{j:Hp},(∀ b o,b≠L->H1 b=some o->j b=some o)->TK H1 j:=λJ b us e=>J _ _ (cY e (F _ _ f) (λz=>nomatch z)) e
   have bb:p≠L:=cY hp f (λz=>nomatch z)
   let Pw2:PvS:=λi σ j=>∃(r:List (List Key×V)) (x3 x5 x6:Option V),(∀ b o,b≠L->H1 b=some o->j b=some o)/\j L=some (.dT r)/\WR K j (Tb.adds (W++Tb.kR (Tb.wfs (ps.take i) q (Tb.tot ps)))) r/\i<=ps.length/\σ=[some (.ref p),some z,some (.ref L),x3,some (.int (Tb.tot ps)),x5,x6]
   refine .inr ⟨⟨_,SqT.of a2⟩,qo (K:=K) (a:=p) (xs:=vs) Pw2 ⟨g,none,none,none,(λb o _ e=>e),F _ _ f,by rw[take_zero,Tb.wfs];show WR K H1 (Tb.adds (W++[])) g;rw[append_nil];exact hW.tk F.tk,Nat.zero_le _,rfl⟩ (λi σ j _ h=>by
    obtain⟨r,x3,x5,x6,J,_⟩:=h
    exact SqT.of (J _ _ bb a2)) ?_ ?_⟩
   .rintro i y σ j hy ⟨r,x3,x5,x6,J,I,ab,hi,rfl⟩
    obtain⟨⟨m,u⟩,x,q1,w1,rfl,R,m1,m2,hu⟩:=aJ hP hy;have m1:1<=m:=m1;have m2:m<=1000000000:=m2;have a1:i<ps.length:=(List.getElem?_eq_some_iff.mp x).1;have pm:=List.mem_of_getElem? x;have mS:=Tb.mem_tot X.2 pm;have mS:m<=Tb.tot ps:=mS;have bp:=(Tb.dq_part G.2.2 pm).2.2;have bA:=Tb.share_bq m1 mS;have tS:(Tb.tot ps).toNat<=Lm2:=Nat.le_trans (by have:=G.2.1;lia) y7;have a9:=ku (show 0<(Tb.tot ps).toNat by lia) tS bA;have bS:IsQ K j q z:=(hq.tk F.tk).tk (bt J)
    have qb:Bq D q:=by
     have:=hG.right.sm;rw[Tb.kR_sm]at this;have e:=Tb.wf_sm (.die ps) q (by rw[Tb.Ok];exact X);rw[Tb.wf]at e;rw[e]at this;exact this
    have a':=Tb.wfs_snoc q (Tb.tot ps) x;have gi:=Tb.gd_pre (i+1) hG;rw[a',Tb.kR_app,<- append_assoc]at gi;have b0:=Tb.lvs_part x;refine⟨q1,_,rfl,SqT.of (J _ _ (cY (F _ _ R) (F _ _ f) (λz=>nomatch z)) (F _ _ R)),rfl,_,_,rfl,_,_,rfl,rfl,?_⟩;refine⟨m,Tb.tot ps,rfl,by lia,by lia,(show Bt 64 m by unfold Bt;lia).mono (by decide),(show Bt 64 (Tb.tot ps) by unfold Bt;have:=G.2.1;lia).mono (by decide),λH3 r3 s3 a8=>?_⟩;rw[pH m (by lia)]at a8;refine⟨_,_,q,_,rfl,bS.same s3,⟨r3,rfl,.inl a8⟩,ku hD ac qb,a9,λH4 z4 s4 q4=>?_⟩;have Z:=s3.trans s4;have a4:∀ b o,sqO o=true->H b=some o->H4 b=some o:=λb o c e=>Z _ _ (J _ _ (λy=>by rw[y,f]at e;cases e;cases c) (F _ _ e))
    refine⟨w1,z4,L,d',u,q*((m:Rat)/(Tb.tot ps:Rat)),W++Tb.kR (Tb.wfs (ps.take i) q (Tb.tot ps)),r,D,rfl,by lia,IsTree.m a4 _ _ _ hu,bp,q4,Z _ _ I,ab.tk Z.tk,hD,ac,gi,?_,λH5 bB k5 a5 bo=>?_⟩
    .rw[length_append,Tb.kR_len,Tb.wfs_len];lia
    refine⟨bB,_,_,_,λb o n e=>k5 _ _ n (Z _ _ (J _ _ n e)),a5,?_,a1,rfl⟩;rw[a',Tb.kR_app,<- append_assoc];exact bo
   .rintro σ j ⟨r,x3,x5,x6,J,I,ab,hi,rfl⟩
    rw[<- pl,take_length]at ab;exact k _ r (λb o n e=>J _ _ n (F _ _ e)) I ab
theorem lD(T:Txt K mg a):∀ N,FnOk P w K mg base CX0 (N+4) a.f_B a.d_B ["_law_tree_here","_law_much","_law_found"] (spWalk K N)
 | 0=>⟨λb H Q E h=>by obtain⟨v,z,df,d,t,q,W,kvs,D,rfl,h0,_⟩:=h;exact absurd h0 (by lia),λ_ _ _ _ _ _ _ _ _ _ _ _ _ h=>by obtain⟨v,z,df,d,t,q,W,kvs,D,rfl,h0,_⟩:=h;exact absurd h0 (by lia)⟩
 | N+1=>rC T N (lD T N)
end
end My
namespace My
open PySem L2 FrM
open Tb (Tr bnd cQ)
def xS:V->Bool
 | .int _=>true
 | .bl _=>true
 | .non=>true
 | .str z=>PyData.strOk z
 | _=>false
def thr:V->Option Int
 | .int i=>some i
 | _=>none
def inR(lo hi:Int):Option Int->Bool
 | some i=>decide (lo<=i/\i<=hi)
 | none=>false
def tot{α:Type}(ps:List (Int×α)):Int:=(ps.map (·.1)).sum
def eZ{α:Type}:List (Int×α)->Int->Option α
 | [],_=>none
 | (m,t)::r,k=>if k<m then some t else eZ r (k - m)
theorem jw{a:Type}{m:Int}{u:a}{r:List (Int×a)}:tot ((m,u)::r)=m+tot r:=by simp[tot]
theorem kn{a:Type}:∀(ps:List (Int×a)) (t:Int),0<=t->t<tot ps->∃ u,eZ ps t=some u
 | [],t,h0,h1=>by simp[tot]at h1;lia
 | (m,u)::r,t,h0,h1=>by
  unfold eZ
  by_cases c:t<m
  .exact⟨u,if_pos c⟩
  .rw[if_neg c]
   refine kn r (t - m) (by lia) ?_;rw[jw]at h1;lia
theorem sR{c:Type}:∀(l:List (Int×c)),(∀ p∈l,0<=p.1)->0<=tot l
 | [],_=>by simp[tot]
 | (m,u)::r,h=>by
  have a:=h (m,u) (mem_cons_self ..);have b:=sR r λp d=>h p (mem_cons_of_mem _ d)
  rw[jw];simp at a;lia
theorem pU{a:Type}:∀(ps:List (Int×a)) (k:Nat) (t m:Int) (u:a),(∀ p∈ps,0<=p.1)->ps[k]? = some (m,u)->tot (ps.take k)<=t->t<tot (ps.take (k+1))->eZ ps t=some u
 | [],k,t,m,u,_,h,_,_=>by simp at h
 | (m0,u0)::r,0,t,m,u,hp,h,h0,h1=>by
  simp at h;obtain⟨rfl,rfl⟩:=h;unfold eZ;rw[if_pos (by simpa[tot] using h1)]
 | (m0,u0)::r,k+1,t,m,u,hp,h,h0,h1=>by
  have b:tot (((m0,u0)::r).take (k+1))=m0+tot (r.take k):=by simp[tot]
  have d:tot (((m0,u0)::r).take (k+1+1))=m0+tot (r.take (k+1)):=by simp[tot]
  have c:=sR (r.take k) λp h=>hp p (mem_cons_of_mem _ (mem_of_mem_take h))
  unfold eZ;rw[if_neg (by lia)];exact pU r k (t - m0) m u (λp h=>hp p (mem_cons_of_mem _ h)) (by simpa using h) (by lia) (by lia)
theorem mw{a:Type}{ps:List (Int×a)}{k:Nat}{m:Int}{u:a}(h:ps[k]? = some (m,u)):tot (ps.take (k+1))=tot (ps.take k)+m:=by
 rw[take_add_one,h];simp[tot]
theorem wM{a:Ad}{H:Hp}{v:V}{b:List (Int×V)}(h:IsRaw a H v b):∀ p∈b,1<=p.1:=by
 obtain⟨x,o,l,n,k,j,c,f,g,d⟩:=h;clear g d c
 induction f with
 | nil=>intro p hp;cases hp
 | cons r _ ih =>
  intro p hp
  rcases mem_cons.mp hp with rfl | hp
  .obtain⟨_,_,_,i⟩:=r
   exact i
  .exact ih p hp
inductive spIsW(vs:List V)(H:Hp)(Q:VK)(_E:XK):Prop
 | mk(x:V)(lo hi:Int)(h0:vs=[x,.int lo,.int hi])(h1:xS x=true)(h2:Q (.bl (inR lo hi (thr x))) H):spIsW vs H Q _E
def uD(a:Ad):Sp:=λvs H Q _=>∃ v x rs,vs=[v,x]/\xS x=true/\IsRaw a H v rs/\∀ H',Same H H'->Q (.bl (inR 0 (tot rs - 1) (thr x))) H'
inductive spI1(c:Addr)(f1:Str)(vs:List V)(H:Hp)(Q:VK)(_E:XK):Prop
 | mk(x:Addr)(m:Int)(h0:vs=[.ref x,.int m])(h1:H x=some (.ext (XD0 x c)))(h2:∀ dx,H dx=none->dx≠x->Q .non (upd (upd H dx (.ext (XDct dx [(f1,.int m)]))) x (.ext (XD1 x c dx)))):spI1 c f1 vs H Q _E
theorem zZ{c:Addr}{a:Str}:∀ vs H Q E,spI1 c a vs H Q E->vs.length<=100:=by
 rintro _ _ _ _ ⟨_,_,rfl,_⟩;exact(by decide:2<=100)
inductive Wy:Tr->List Int->List Int->Prop
 | leaf {ns:List Int}:Wy (.leaf ns) [] ns
 | die {ps:List (Int×Tr)}{th:Int}{rest r:List Int}{u:Tr}(h0:0<=th) (h1:th<Tb.tot ps) (hp:eZ ps th=some u) (hw:Wy u rest r):Wy (.die ps) (th::rest) r
theorem mP{a b:Type}(f:a->b):∀(ps:List (Int×a)) (t:Int),eZ (ps.map λp=>(p.1,f p.2)) t=(eZ ps t).map f
 | [],t=>rfl
 | (m,u)::r,t=>by
  rw[map_cons];show(if t<m then some (f u) else eZ (r.map λp=>(p.1,f p.2)) (t - m))=Option.map f (if t<m then some u else eZ r (t - m))
  split
  .rfl
  .exact mP f r (t - m)
theorem Wy.bnd{g:List Int->Tr}{t:Tr}{b d a r:List Int}(h:Wy t b d)(c:Wy (g (Tb.so d)) a r):Wy (Tb.bnd t g) (b++a) r:=by
 induction h with
 | leaf=>rw[Tb.bnd,nil_append];exact c
 | die h0 h1 hp _ ih =>
  rw[Tb.bnd,cons_append];refine .die h0 (by rw[Tb.bnds_tot];exact h1) ?_ (ih c);rw[Tb.bnds_map,mP (λu=>Tb.bnd u g),hp];rfl
theorem mE{a:Ad}{H:Hp}:∀{ps:List (Int×Tr)}{rs:List (Int×V)}{t:Int}{u:Tr},Paired (NdR a H) ps rs->eZ ps t=some u->∃ f,eZ rs t=some f/\IsMkN a H f u
 | _,_,_,_,.nil,h=>by cases h
 | (m,u0)::ps,(m',f)::rs,t,u,.cons r hr,h=>by
  have e:m=m':=r.1;subst e;have h:(if t<m then some u0 else eZ ps (t - m))=some u:=h;show ∃ f',(if t<m then some f else eZ rs (t - m))=some f'/\_
  by_cases c:t<m
  .rw[if_pos c]at h ⊢
   cases h;exact⟨f,rfl,r.2.2.2⟩
  .rw[if_neg c]at h ⊢
   exact mE hr h
def Runs(a:Ad)(H1:Hp)(f:V)(Q:VK):Prop:=o8 ld_L_make_1 fvT (spL a) f [] H1 Q\/o8 aC fvC (u6 a) f [] H1 Q
def AT(a:Ad):Sp:=λvs H Q E=>∃ v rs f,∃ t:Int,vs=[v,.int t]/\IsRaw a H v rs/\0<=t/\t<tot rs/\eZ rs t=some f/\∀ H1,Same H H1->Runs a H1 f Q
def AQ(a:Ad):Sp:=λvs H Q E=>∃ v l t ths ns,vs=[v,.ref l]/\IsNd a H v t/\H l=some (.lst (ths.map V.int))/\Wy t ths ns/\TabsOk (tabs a) H/\∀ H' kt,SameT H H'->TabsOk (tabs a) H'->H' kt=some (.tup ((Tb.so ns).map V.int))->Q (.ref kt) H'
section
variable {P:Program}{w:World}{K:Frag}{mg:Str->Option Value}{base:Heap}{a:Ad}
theorem yB(T:Txt K mg a):FnOk P w K mg base CX0 1 a.f_N a.d_N ["thing","low","high"] spIsW:=by
 refine T.F_N.ok mZ (λg H Q E h=>?_) (λcdv A outer s H g Q E hr h=>?_)
 .obtain⟨x,d,f,rfl,_⟩:=h;rfl
 .obtain⟨x,d,f,rfl,c,q⟩:=h
  refine⟨_,(am (aB (xX (aD dY rfl T.z_isinstance bL (aa (vr 0) (aa (fj (v:=.ty "int") rfl T.z_int yF rfl) af))) (xX (Al (aD dY rfl T.z_isinstance bL (aa (vr 0) (aa (fj (v:=.ty "bool") rfl T.z_bool xb rfl) af)))) (yw (w4 Ay Ay (vr 1) (vr 0) (vr 2))))))),?_⟩
  match x,c with
  | .int i,_ =>
   refine⟨_,_,_,true,rfl,rfl,.int i,rfl,?_⟩;refine⟨_,_,_,false,rfl,rfl,.int i,rfl,?_⟩;exact yA (Q:=λv=>Q v H) q
  | .bl b,_=>exact⟨_,_,_,true,rfl,rfl,.bl b,rfl,⟨_,_,_,true,rfl,rfl,.bl b,rfl,q⟩⟩
  | .non,_=>exact⟨_,_,_,false,rfl,rfl,.non,rfl,q⟩
  | .str t,_=>exact⟨_,_,_,false,rfl,rfl,.str t,rfl,q⟩
theorem vL(T:Txt K mg a):FnOk P w K mg base CX0 2 a.f_o a.d_o ["node","throw"] (uD a):=by
 have d:FnOk P w K mg base CX0 1 _ _ _ spIsW:=yB T;have c:FnOk P w K mg base CX0 1 _ _ _ (spV (.int 0)):=yf T;have f:FnOk P w K mg base CX0 1 _ _ _ (zh a):=xU T;refine T.F_o.ok g9 (λk H Q E h=>?_) (λcdv A outer s H k Q E hr h=>?_)
 .obtain⟨v,x,b,rfl,_⟩:=h;rfl
 .obtain⟨v,y,b,rfl,j,g,q⟩:=h
  refine⟨_,(am (aB (ap d hr rfl T.m_N T.F_N.kp T.B_N .nil ar (aa (vr 1) (aa ak (aa (aA qg (PE.or (aS (vr 0) T.cl_f T.mt_v c hr T.B_v .nil ar) (aS (vr 0) T.cl_g T.mt_A f hr T.B_A .nil ar)) ak) af)))))),?_⟩;obtain⟨x,i,l,p,rfl,n,_⟩:=id g;refine .inr ⟨x,i,_,rfl,n,rfl,_,b,rfl,g,λr o=>?_⟩;exact⟨y,0,tot b - 1,rfl,j,q _ o⟩
theorem jx(T:Txt K mg a):FnOk P w K mg base CX0 1 a.i_a a.e_a ["self","place"] (spI1 a.c_a "place"):=by
 refine T.Fi_a.ok gq (λf H Q E h=>?_) (λcdv A outer s H f Q E hr h=>?_)
 .obtain⟨x,m,rfl,_⟩:=h;rfl
 .obtain⟨x,m,rfl,i,q⟩:=h
  obtain⟨c,j⟩:=T.sx_NoThrow_place;refine⟨_,(am (xm (vr 0) (vr 1) rfl)),?_⟩;exact⟨x,a.c_a,c,rfl,j,.inl ⟨i,λg d b=>q g d b⟩⟩
theorem Av(T:Txt K mg a)(hB:Bm mg base):FnOk P w K mg base (CXG P w) 12 a.x_u a.y_u ["self","throw"] (AT a):=by
 have o:LamOk P w K mg base 11 ld_L_make_1 fvT [] (spL a):=LamOk.mono (yv T hB) (by decide);have z:LamOk P w K mg base 11 aC fvC [] (u6 a):=xK T hB;have R:FnOk P w K mg base CX0 11 _ _ _ _:=(vL T).mono (by decide);have ac:FnOk P w K mg base CX0 10 _ _ _ _:=(jx T).mono (by decide);refine T.F_u.okG sc_u (λvs H Q E h=>?_) (λcdv A outer s H vs Q E hr h=>?_)
 .obtain⟨v,rs,f,t,rfl,_⟩:=h;rfl
 .obtain⟨v,j,f0,t,rfl,hd,t0,t1,ab,I⟩:=h
  refine⟨_,(aj (cX (ly (gw (ap R hr rfl T.m_o T.F_o.kp T.B_o .nil ar (aa (vr 0) (aa (vr 1) af))))) (am (fW T.xc_a T.xh_a (nL T.xi_NoThrow T.kc_NoThrow T.fn_NoThrow ac hr rfl T.mc_a T.Bi_a (aa ak af) zZ))) bO) (aj (aL (i:=2) sc_u.nd rfl (Or.inl rfl) ak) (aj (aL (i:=3) sc_u.nd rfl (Or.inl rfl) (aA qg (cD bN (cD bN (gA (vr 0) rfl) ak (λ_ _=>rfl)) ak (λ_ _=>rfl)) ak)) (aj (fH vS (eG wp (vr 3) (vr 1) (cP _)) (aj (vI (i:=2) sc_u.nd rfl (Or.inl rfl) ak vz) (am (vI (i:=3) sc_u.nd rfl (Or.inl rfl) (cD bN (cD bN (gA (vr 0) rfl) (vr 2) (λ_ _=>rfl)) ak (λ_ _=>rfl)) vz)))) (aj (jD (cD bN (gA (vr 0) rfl) (vr 2) (λ_ _=>rfl)) (eh rfl (av (au (i:=4) sc_u.nd rfl (Or.inl rfl)) (av (au (i:=5) sc_u.nd rfl (Or.inl rfl)) bi)))) (am (aB (PE.or (eP (vr 5) o hr) (eP (vr 5) z hr))))))))),AX ?_⟩;intro a0 a2 al az a1;refine⟨v,.int t,j,rfl,rfl,hd,λH1 s1=>?_⟩;have hc:inR 0 (tot j - 1) (thr (.int t))=true:=decide_eq_true ⟨t0,by lia⟩;cases hc':inR 0 (tot j - 1) (thr (.int t)) with
  | false=>rw[hc]at hc';cases hc'
  | true =>
   have Z:=hd.t s1.t;have J:=wM hd;obtain⟨x,Y,l,D,rfl,hx,X,hP,an,as⟩:=id Z;have yl:D.length=j.length:=hP.length.symm
   have y:∀ k:Nat,k<j.length->∃ q d f,D[k]? = some (.ref q)/\j[k]? = some (d,f)/\H1 q=some (.tup [.int d,f]):=λk hk=>by
    have L:k<D.length:=by lia
    have e:D[k]? = some D[k]:=List.getElem?_eq_getElem L;obtain⟨⟨d,u⟩,n,q,e2,M,_⟩:=aJ hP e;exact⟨q,d,u,by rw[e,e2],n,M⟩
   obtain⟨qz,mz,fz,yz,pz,hz⟩:=y 0 (by lia);refine⟨x,_,Y,_,_,rfl,hx,T.cl_g,T.na_Die_makes,rfl,.inl ⟨l,_,_,_,rfl,rfl,SqL.of X,dX 0 rfl yz,.inr (.inl ⟨qz,_,_,_,rfl,rfl,SqT.of hz,dX 0 rfl rfl,?_⟩)⟩⟩;have tz:tot (j.take 1)=mz:=by rw[mw pz];simp[tot]
   refine⟨λk σ H'=>H'=H1/\∃(b:Nat) (g:Int) (N x5:Option V),σ=[some (.ref x),some (.int t),some (.int (b:Nat)),some (.int g),N,x5]/\b<j.length/\g=tot (j.take (b+1)) - 1/\tot (j.take b)<=t/\k=j.length - b,⟨_,rfl,0,_,_,_,rfl,by lia,by rw[tz],by simpa[tot] using t0,rfl⟩,?_⟩;rintro k σ H' ⟨rfl,b,g,N,x5,rfl,hn,r,G,rfl⟩;refine ifC (λc=>?_) λc=>?_
   .have c:g<t:=c
    have C:b+1<j.length:=by
     rcases Nat.lt_or_ge (b+1) j.length with h | h
     .exact h
     .rw[take_of_length_le h]at r;lia
    obtain⟨q,d,f,hy,n,W⟩:=y (b+1) C
    let Pw2:St->Hp->Prop:=λB F=>F=H'/\B=[some (.ref x),some (.int t),some (.int ((b+1:Nat):Int)),some (.int (g+d)),N,x5]
    refine⟨Pw2,?_,?_⟩
    .rintro B F ⟨rfl,rfl⟩
     exact⟨_,by lia,rfl,b+1,_,_,_,rfl,C,by rw[mw n];lia,by lia,rfl⟩
    .refine⟨_,rfl,_,_,rfl,rfl,_,rfl,?_⟩
     exact⟨x,_,Y,_,_,rfl,hx,T.cl_g,T.na_Die_makes,rfl,.inl ⟨l,_,_,_,rfl,rfl,SqL.of X,dX (b+1) (by show(b:Int)+1=((b+1:Nat):Int);lia) hy,.inr (.inl ⟨q,_,_,_,rfl,rfl,SqT.of W,dX 0 rfl rfl,_,_,rfl,rfl,rfl,by rw[show((b+1:Nat):Int)=(b:Int)+1 by lia];rfl⟩)⟩⟩
   .have c:¬g<t:=c
    obtain⟨q,d,f,hy,n,W⟩:=y b hn;have eu:=pU j b t d f (λp hp=>by have:=J p hp;lia) n G (by lia);rw[ab]at eu;cases eu;exact⟨x,_,Y,_,_,rfl,hx,T.cl_g,T.na_Die_makes,rfl,.inl ⟨l,_,_,_,rfl,rfl,SqL.of X,dX b (by lia) hy,q,_,rfl,SqT.of W,rfl,_,_,rfl,_,_,rfl,rfl,I _ s1⟩⟩
theorem sU(T:Txt K mg a)(hB:Bm mg base):FnOk P w K mg base (CXG P w) 13 a.f_U a.d_U ["node","throws"] (AQ a):=by
 have W:FnOk P w K mg base CX0 12 _ _ _ _:=(vL T).mono (by decide);have C:FnOk P w K mg base CX0 11 _ _ _ _:=(jx T).mono (by decide);have an:FnOk P w K mg base (CXG P w) 12 _ _ _ (AT a):=Av T hB;have a1:FnOk P w K mg base CX0 12 _ _ _ _:=(vp T).mono (by decide);have Y:FnOk P w K mg base CX0 12 _ _ _ _:=(vo T).mono (by decide);have a0:FnOk P w K mg base CX0 12 _ _ _ _:=(uX T).mono (by decide);have X:FnOk P w K mg base CX0 12 _ _ _ _:=(tF T).mono (by decide);refine T.F_U.okG sc_U (λvs H Q E h=>?_) (λcdv A outer s H vs Q E hr h=>?_)
 .obtain⟨v,l,t,d,ns,rfl,_⟩:=h;rfl
 .obtain⟨v,l,t,d,ns,rfl,hn,hl,hw,hT,q⟩:=h
  refine⟨_,(aj (aL (i:=2) sc_U.nd rfl (Or.inl rfl) (vr 0)) (aj (d9 vS rfl (xz rfl T.z_enumerate (aa (vr 1) af)) (eh rfl (av (au (i:=3) sc_U.nd rfl (Or.inl rfl)) (av (au (i:=4) sc_U.nd rfl (Or.inl rfl)) bi))) (aj (cX (ly (gw (ap W hr rfl T.m_o T.F_o.kp T.B_o .nil ar (aa (vr 2) (aa (vr 4) af))))) (am (fW T.xc_a T.xh_a (nL T.xi_NoThrow T.kc_NoThrow T.fn_NoThrow C hr rfl T.mc_a T.Bi_a (aa (vr 3) af) zZ))) bO) (am (aL (i:=2) sc_U.nd rfl (Or.inl rfl) (pZ (vr 2) T.cl_g T.mt_u an hr T.B_u .nil xZ (aa (vr 4) af)))))) (aj (cX (ly (gw (PE.or (aS (vr 2) T.cl_f T.mt_j a1 hr T.B_j .nil ar) (aS (vr 2) T.cl_g T.mt_k Y hr T.B_k .nil ar)))) (am (fW T.xc_a T.xh_a (nL T.xi_NoThrow T.kc_NoThrow T.fn_NoThrow C hr rfl T.mc_a T.Bi_a (aa (aD eU rfl T.z_len jq (aa (vr 1) af)) af) zZ))) bO) (am (aB (PE.or (aS (vr 2) T.cl_f T.mt_m a0 hr T.B_m .nil ar) (aS (vr 2) T.cl_g T.mt_r X hr T.B_r .nil ar))))))),mU ?_⟩;intro a3 a4 a5
  let Pw1:PvS:=λi I r=>SameT H r/\TabsOk (tabs a) r/\∃(c:V) (L:Tr) (N R:Option V),I=[some v,some (.ref l),some c,N,R]/\IsNd a r c L/\Wy L (d.drop i) ns
  refine⟨l,_,rfl,hl,ve (a:=l) (xs:=d.map V.int) Pw1 ⟨SameT.refl,hT,v,t,none,none,rfl,hn,hw⟩ (λi I r h=>h.1.at hl) ?_ ?_⟩
  .rintro i x I r p k ⟨M,y,c,L,N,R,rfl,z,g⟩ hp
   rw[List.getElem?_map]at k
   obtain⟨th,hth,rfl⟩:∃ n,d[i]? = some n/\V.int n=x:=by
    cases e:d[i]? with
    | none=>rw[e]at k;cases k
    | some n=>rw[e]at k;cases k;exact⟨n,rfl,rfl⟩
   have ac:d.drop i=th::d.drop (i+1):=by
    obtain⟨hi,e⟩:=List.getElem?_eq_some_iff.mp hth;rw[drop_eq_getElem_cons hi,e]
   rw[ac]at g;have Z:Same r (upd r p (.tup [.int (i:Nat),.int th])):=Same.new hp;refine⟨p,_,rfl,SqT.of ad,rfl,_,_,rfl,_,_,rfl,rfl,?_⟩;cases g with
   | @die ps _ _ _ u h0 h1 hpk hw2 =>
    obtain⟨J,o,D⟩:=nJ (z.t Z.t);have et:tot J=Tb.tot ps:=qP D;refine⟨c,.int th,J,rfl,rfl,o,λH2 G=>?_⟩;have al:=M.trans (Z.trans G).t;have a2:=y.same (Z.trans G);have hc:inR 0 (tot J - 1) (thr (.int th))=true:=decide_eq_true ⟨h0,by lia⟩;rw[hc];obtain⟨f,hf,az⟩:=mE D hpk;have j:=o.t G.t;obtain⟨x0,B,l',ys,rfl,as,_⟩:=id j;refine⟨x0,B,_,rfl,as,rfl,_,J,f,th,rfl,j,h0,by lia,hf,λH3 s4=>?_⟩;have F:IsMkN a (untrs H3 []) f u:=by rw[cu];exact az.t (G.trans s4).t
    refine qh F (λb hb=>by cases hb) (a2.same s4) λH5 u5 t5 hT5 hu=>?_
    rw[cu]at hu;exact⟨(al.trans s4.t).trans t5,hT5,u5,u,_,_,rfl,hu,hw2⟩
  .rintro I r ⟨M,y,c,L,N,R,rfl,z,g⟩
   rw[length_map,List.drop_length]at g;cases g with
   | leaf =>
    obtain⟨x,B,tt,ms,rfl,k,ab,hs⟩:=qO z;have e:ms=Tb.so ns:=Tb.so_uniq hs.1 hs.2;subst e;refine .inl ⟨x,B,_,rfl,k,rfl,_,rfl,?_⟩;exact .inl ⟨x,B,_,rfl,k,rfl,x,B,tt,rfl,k,q _ tt M y ab⟩
end
end My
namespace My
open PySem L2 FrM Du LexM
open Tb (Tr Ent Way Rws Ch Lm2 Grp bnd cQ)
inductive spWay(vs:List V)(H:Hp)(Q:VK)(_E:XK):Prop
 | mk(v:V)(st:Addr)(d:Nat)(t:Tr)(n:Int)(h0:vs=[v,.ref st])(h1:IsTree (untr H st) d v t)(h2:d<=4)(h3:H st=some (.lst [.int n]))(h4:∀ H' p lt kt (n':Int) (ths ns:List Int),SameP st H H'->H' st=some (.lst [.int n'])->H' p=some (.tup [.ref lt,.ref kt])->H' lt=some (.lst (ths.map V.int))->lt≠st->ths.length<=4->H' kt=some (.tup ((Tb.so ns).map V.int))->ns.length<=12->Wy t ths ns->Q (.ref p) H'):spWay vs H Q _E
theorem qm{K:Frag}{H H':Hp}{st:Rws}{kvs:List (List Key×V)}{o:List Nat}{f k:Nat->Addr}(w:Tb.NdR st)(q:WR K H st kvs)(n:Same H H')(op:o.Perm (List.range (st.map (·.1)).length))(p:o.Pairwise λi j=>aH ((st.map (·.1)).getD j []) ((st.map (·.1)).getD i [])=false)
  (d:∀(i:Nat) (kv:List Key×V),kvs[i]? = some kv->H' (f i)=some (.tup [.ref (k i),kv.2])/\Row H (k i) ((st.map (·.1)).getD i [])/\H (f i)=none) :
  ∃ R:Rws,R.Perm st/\(R.map (·.1)).Pairwise (λa b=>aH a b=true)/\Paired (RowR K H') R (o.map λi=>V.ref (f i)):=by
 rw[length_map]at op;obtain⟨r,l⟩:=Tb.tab_of w op p;refine⟨_,r,l,?_⟩;have c:∀ i∈o,i<st.length:=λi z=>mem_range.mp (op.mem_iff.mp z)
 clear op p r l
 induction o with
 | nil=>exact .nil
 | cons i o ih =>
  rw[map_cons,map_cons];refine .cons ?_ (ih λj A=>c j (mem_cons_of_mem _ A));have u:=c i mem_cons_self
  obtain⟨kv,hkv⟩:∃ kv,kvs[i]? = some kv:=⟨_,List.getElem?_eq_getElem (by rw[<- q.length];exact u)⟩
  obtain⟨x,g,C,y⟩:=aJ q hkv;obtain⟨s,h,_⟩:=d i kv hkv;have v:st.getD i ([],0)=x:=by rw[List.getD,g];rfl
  have B:(st.map (·.1)).getD i []=x.1:=by rw[List.getD,List.getElem?_map,g];rfl
  rw[B]at h;rw[v];exact⟨f i,k i,kv.2,rfl,s,n _ _ h,y.same n⟩
theorem tw{ps:List (Int×Tr)}{i:Nat}{m:Int}{u:Tr}{r:Int}(a:ps[i]? = some (m,u)):eZ (ps.drop i) r=if r<m then some u else eZ (ps.drop (i+1)) (r - m):=by
 obtain⟨b,e⟩:=List.getElem?_eq_some_iff.mp a;rw[drop_eq_getElem_cons b,e];rfl
section
variable {P:Program}{w:World}{K:Frag}{mg:Str->Option Value}{base:Heap}{a:Ad}
theorem yC(T:Txt K mg a):FnOk P w K mg base CX0 2 a.f_P a.d_P ["_law_tree_here","_law_state"] spWay:=by
 have br:FnOk P w K mg base CX0 1 _ _ _ spTake:=kS T;refine T.F_P.ok sc_P (λvs H Q E h=>?_) (λcdv A outer s H vs Q E hr h=>?_)
 .obtain⟨v,x,d,t,n,rfl,_⟩:=h;rfl
 .obtain⟨v,x,d,t,n,rfl,ht,bl,a6,q⟩:=h
  have bn:sizeLine=16777216:=sizeLine_eq;refine⟨_,(aj (aL (i:=2) sc_P.nd rfl (Or.inl rfl) (cV af)) (aj (fH PassesOwn.never (ly (gw (aD dY rfl T.z_isinstance bL (aa (vr 0) (aa (fj (v:=.ty "list") rfl T.z_list eD rfl) af))))) (aj (aL (i:=3) sc_P.nd rfl (Or.inl rfl) (ap br hr rfl T.m_q T.F_q.kp T.B_q .nil ar (aa (vr 1) (aa (aD (fZ rfl) rfl T.z_sum lu (aa (bY rfl (N:=["_law_many","_law_part"]) (ix:=[none,none]) ⟨rfl,rfl,rfl,rfl,trivial⟩ (bV (vr 0)) ⟨λC s H fp=>(di (K:=K) (n:=2) rfl rfl (av (au (i:=0) (show List.Nodup (["_law_many","_law_part"]:List Str) by decide +kernel) rfl (Or.inl rfl)) (av (au (i:=1) (show List.Nodup (["_law_many","_law_part"]:List Str) by decide +kernel) rfl (Or.inl rfl)) bi))),λC s H fp=>bX,λC s H fp=>(vr 0)⟩) af)) af)))) (aj (fg (pe_m.append (vr 2) (aa (vr 3) af))) (am (d9 PassesOwn.never rfl (bV (vr 0)) (eh rfl (av (au (i:=4) sc_P.nd rfl (Or.inl rfl)) (av (au (i:=5) sc_P.nd rfl (Or.inl rfl)) bi))) (aj (cX (eG wp (vr 3) (vr 4) (cP _)) (aj (aL (i:=0) sc_P.nd rfl (Or.inl rfl) (vr 5)) (am uK)) bO) (am (aL (i:=3) sc_P.nd rfl (Or.inl rfl) (aA qg (vr 3) (vr 4)))))))))) (am (aB (bH (aa (vr 2) (aa (bP bz rfl T.z_tuple dH (aa (aD cW rfl T.z_sorted bU (aa (vr 0) af)) af)) af))))))),iH ?_⟩;intro b3 bB;generalize hHt:untr H x=Ht at ht
  have L:∀{k:Hp},SameP x H k->∀ b o,Ht b=some o->k b=some o:=λ{k} s b o e=>by
   rw[<- hHt]at e;have nb:b≠x:=λz=>by rw[z,bT]at e;cases e
   rw[aO nb]at e;exact s _ _ nb e
  refine⟨Nat.zero_le _,λl G=>?_⟩;have I:l≠x:=λz=>by rw[z,a6]at G;cases G
  let Pw3:PvS:=λc σ k=>∃(v:V) (d':Nat) (t':Tr) (n:Int) (f:List Int) (x3 x4 x5:Option V),c=d'/\SameP x H k/\k x=some (.lst [.int n])/\IsTree Ht d' v t'/\k l=some (.lst (f.map V.int))/\f.length+d'<=4/\(∀ D B,Wy t' D B->Wy t (f++D) B)/\σ=[some v,some (.ref x),some (.ref l),x3,x4,x5]
  refine⟨Pw3,
   ⟨_,v,d,t,n,[],none,none,none,rfl,SameP.of (Same.new G),by rw[ag (Ne.symm I)];exact a6,ht,ad,by simpa using bl,(λD B h=>h),rfl⟩,?_⟩
  rintro c σ H1 ⟨v,d',t',n,f,x3,x4,x5,rfl,s1,ab,ht,a4,bS,a8,rfl⟩;cases t' with
  | leaf B =>
   obtain⟨p,rfl,hp,a9,_⟩:=(ax _).mp ht;refine⟨_,_,_,true,rfl,rfl,.lst (L s1 _ _ hp),rfl,?_⟩;refine⟨p,B,rfl,SqL.of (L s1 _ _ hp),by lia,λq1 bq F bt fq=>?_⟩;have en:bq=Tb.so B:=Tb.so_uniq F bt;subst en;have a1:=Same.new (o:=.lst ((Tb.so B).map V.int)) fq;refine⟨q1,_,rfl,.inl ⟨SqL.of ad,λkt ft=>?_⟩⟩;have a2:=Same.new (o:=.tup ((Tb.so B).map V.int)) ft;have az:=ad (H:=upd H1 q1 (.lst ((Tb.so B).map V.int))) (a:=kt) (o:=.tup ((Tb.so B).map V.int));have a5:=a1.trans a2;generalize upd (upd H1 q1 (.lst ((Tb.so B).map V.int))) kt (.tup ((Tb.so B).map V.int))=H2 at a5 az;refine⟨by show 2<=sizeLine;decide,λr fr=>?_⟩;have a3:=Same.new (o:=.tup [.ref l,.ref kt]) fr;have ac:=a5.trans a3;have hw:=a8 [] B .leaf;rw[append_nil]at hw;exact q _ r l kt n f B (s1.trans (SameP.of ac)) (ac _ _ ab) ad (ac _ _ a4) I (by lia) (a3 _ _ az) a9 hw
  | die g =>
   obtain⟨d2,rfl,p,vs,rfl,hp,hP,b0,b2⟩:=cO ht;have F:=L s1 _ _ hp;have pl:g.length=vs.length:=hP.length;refine⟨_,_,_,false,rfl,rfl,.tup F,rfl,?_⟩;refine⟨_,λ_ _ h=>h,?_⟩;refine .inr ⟨⟨_,SqT.of F⟩,λD1 a'=>?_⟩
   let Pw1:PvL:=λi zs k=>Same H1 k/\k D1=some (.lst zs)/\i<=g.length/\zs=((g.take i).map (·.1)).map V.int
   refine fy (K:=K) (a:=p) (xs:=vs) Pw1 ⟨Same.new a',ad,Nat.zero_le _,rfl⟩ (λi ys k h=>SqT.of (h.1 _ _ F)) (λi ys k h=>h.2.1) ?_ ?_
   .rintro i y zs k P' hy ⟨s9,W,hi,rfl⟩ bc
    obtain⟨⟨m,u⟩,M,q1,w1,rfl,al,_⟩:=aJ hP hy;have bp:i<g.length:=(List.getElem?_eq_some_iff.mp M).1;refine⟨q1,_,rfl,SqT.of (s9 _ _ (L s1 _ _ al)),rfl,_,_,rfl,_,_,rfl,rfl,trivial,W,by rw[length_map,length_map,length_take];lia,bc _ _ ⟨s9.put a',ad,bp,?_⟩⟩;rw[take_add_one,M];simp
   rintro zs H2 ⟨s2,W,_,rfl⟩;rw[<- pl,take_length]at W;refine⟨D1,_,rfl,SqL.of W,?_⟩
   have an:∀{g:List (Int×Tr)}{vs:List V},Paired (PairR Ht (IsTree Ht d2)) g vs->(g.length:Int)<=Tb.tot g/\Tb.tot g<=(g.length:Int)*1000000000:=by
    intro g vs h
    induction h with
    | nil=>simp[Tb.tot]
    | @cons pt y g ys r _ ih =>
     obtain⟨_,_,_,_,m1,m2,_⟩:=r;obtain⟨m,u⟩:=pt;have et:Tb.tot ((m,u)::g)=m+Tb.tot g:=by unfold Tb.tot;rw[map_cons,sum_cons]
     have m1:1<=m:=m1;have m2:m<=1000000000:=m2;rw[et,length_cons];have e:((g.length+1:Nat):Int)*1000000000=(g.length:Int)*1000000000+1000000000:=by rw[Int.natCast_add,Int.add_mul];simp
     rw[e];show((g.length+1:Nat):Int)<=m+_/\m+_<=_;lia
   obtain⟨b1,b4⟩:=an hP;have bb:=s2 _ _ ab;have a0:=s2 _ _ a4;refine⟨x,n,Tb.tot g,rfl,bb,by lia,by lia,λr n2 r0 r1=>?_⟩;have bg:=s1.trans (SameP.of s2);have s3:=bg.trans (SameP.put (o:=.lst [.int n2]));have X:=ad (H:=H2) (a:=x) (o:=.lst [.int n2]);have J:(upd H2 x (.lst [.int n2])) l=some (.lst (f.map V.int)):=by rw[ag I];exact a0
   generalize upd H2 x (.lst [.int n2])=H3 at s3 X J;refine⟨.inl ⟨rfl,_,SqL.of J⟩,⟨l,_,_,rfl,rfl,J,by rw[length_map];lia,?_⟩⟩
   have a7:∀{b o},Ht b=some o->b≠l:=λ{b o} e z=>by
    rw[z,<- hHt,aO I,G]at e;cases e
   have R:∀ b o,Ht b=some o->(upd H3 l (.lst (f.map V.int++[.int r]))) b=some o:=λb o e=>by rw[ag (a7 e)];exact L s3 b o e
   have s4:SameP x H (upd H3 l (.lst (f.map V.int++[.int r]))):=λb o n9 e=>by rw[ag (λz=>by rw[z,G]at e;cases e)];exact s3 _ _ n9 e
   have Y:(upd H3 l (.lst (f.map V.int++[.int r]))) x=some (.lst [.int n2]):=by rw[ag (Ne.symm I)];exact X
   have Z:(upd H3 l (.lst (f.map V.int++[.int r]))) l=some (.lst ((f++[r]).map V.int)):=by rw[ad,map_append];rfl
   generalize upd H3 l (.lst (f.map V.int++[.int r]))=H4 at R s4 Y Z;obtain⟨u9,as⟩:=kn g r r0 r1
   let Pw2:PvS:=λi σ k=>k=H4/\∃(r':Int) (x4 x5:Option V),σ=[some (.ref p),some (.ref x),some (.ref l),some (.int r'),x4,x5]/\eZ (g.drop i) r'=some u9/\0<=r'/\r'<tot (g.drop i)
   refine .inr ⟨⟨_,SqT.of (R _ _ hp)⟩,qo (K:=K) (a:=p) (xs:=vs) Pw2 ⟨rfl,r,_,_,rfl,as,r0,r1⟩ (λi σ k _ h=>by rw[h.1];exact SqT.of (R _ _ hp)) ?_ ?_⟩
   .rintro i y σ k hy ⟨rfl,r',bm,bo,rfl,j,bA,ba⟩
    obtain⟨⟨m,u⟩,M,q1,w1,rfl,al,m1,m2,hu⟩:=aJ hP hy;refine⟨q1,_,rfl,SqT.of (R _ _ al),rfl,_,_,rfl,_,_,rfl,rfl,?_⟩;rw[tw M]at j;refine ifC (λc=>?_) (λc=>?_)
    .rw[if_pos c]at j
     cases j;refine⟨d2,by lia,w1,d2,u9,n2,f++[r],_,_,_,rfl,s4,Y,hu,Z,by rw[length_append,length_singleton];lia,λD B hw=>?_,rfl⟩;rw[append_assoc];exact a8 _ _ (.die r0 r1 as hw)
    .rw[if_neg c]at j
     have c:¬r'<m:=c
     have e9:tot (g.drop i)=m+tot (g.drop (i+1)):=by
      obtain⟨hi,e⟩:=List.getElem?_eq_some_iff.mp M;rw[drop_eq_getElem_cons hi,e,jw]
     exact⟨rfl,_,_,_,rfl,j,by lia,by lia⟩
   .rintro σ k ⟨rfl,r',bm,bo,rfl,j,bA,ba⟩
    exfalso;rw[<- pl,List.drop_length]at ba;have:tot ([]:List (Int×Tr))=0:=rfl;lia
end
end My
namespace Tb
open FrM Du LexM
def rowP(w:List Int×Rat)(B:Rws):Rws:=B.map λx=>(so (w.1++x.1),w.2*x.2)
theorem prod_snoc{A B:Rws}{i:Nat}{w:List Int×Rat}(h:A[i]? = some w):prod (A.take (i+1)) B=prod (A.take i) B++rowP w B:=by
 unfold prod rowP;rw[take_add_one,h,List.flatMap_append];simp
theorem rowP_snoc{w:List Int×Rat}{B:Rws}{j:Nat}{x:List Int×Rat}(h:B[j]? = some x):rowP w (B.take (j+1))=rowP w (B.take j)++[(so (w.1++x.1),w.2*x.2)]:=by
 unfold rowP;rw[take_add_one,h,map_append];simp
theorem qe{A:Rws}(c:NdR A){i:Nat}{w:List Int×Rat}(h:A[i]? = some w):∀ y∈A.take i,y.1≠w.1:=λy f e=>by
 obtain⟨j,a⟩:=List.getElem?_of_mem f;rw[List.getElem?_take]at a
 split at a
 .rename_i lt
  obtain⟨b,k⟩:=List.getElem?_eq_some_iff.mp a;obtain⟨g,d⟩:=List.getElem?_eq_some_iff.mp h;have:=pairwise_iff_getElem.mp c j i (by simpa using b) (by simpa using g) lt;rw[getElem_map,getElem_map,k,d]at this;exact this e
 .cases a
theorem new_key{A B:Rws}(p:∀ x∈A,Evn x.1)(d:∀ x∈B,Odn x.1)(f:NdR A)(k:NdR B){i j:Nat}{w x:List Int×Rat}(l:A[i]? = some w)(q:B[j]? = some x):so (w.1++x.1) ∉ (prod (A.take i) B++rowP w (B.take j)).map (·.1):=by
 rw[map_append,mem_append,not_or];have g:=p w (List.mem_of_getElem? l);have o:=d x (List.mem_of_getElem? q)
 constructor
 .intro h
  obtain⟨n,b,c,a,e⟩:=prod_keys.mp h;exact qe f l n b (gK g (p n (mem_of_mem_take b)) o (d c a) e).1.symm
 .intro h
  obtain⟨y,r,e⟩:=mem_map.mp h;obtain⟨c,a,rfl⟩:=mem_map.mp r;exact qe k q c a (gK g g (d c (mem_of_mem_take a)) o e).2
theorem nd_snoc{st:Rws}{k:List Int}{q:Rat}(f:NdR st)(h:k ∉ st.map (·.1)):NdR (st++[(k,q)]):=by
 unfold NdR at *;rw[map_append];refine nodup_append.mpr ⟨f,by simp,λa c b d e=>h ?_⟩;have:b=k:=by simpa using d
 rw[<- this,<- e];exact c
theorem adds_bq{D:Nat}{W:Rws}(g:Gd D W):∀ x∈adds W,Bq D x.2:=λx a=>by
 rw[<- gU (adds_nd W) x a,eV,qx];exact g.pmA _
mutual
theorem nY{o:Int}:∀(t:Tr) (q:Rat),Par o t->∀ x∈wf t q,Par o (.leaf x.1)
 | .leaf ns,q,h,x,hx=>by rw[wf]at hx;rw[mem_singleton.mp hx];exact h
 | .die ps,q,h,x,hx=>by rw[wf]at hx;rw[Par]at h;exact qG ps q _ h x hx
theorem qG{o:Int}:∀(ps:List (Int×Tr)) (q:Rat) (S:Int),Pars o ps->∀ x∈wfs ps q S,Par o (.leaf x.1)
 | [],q,S,_,x,hx=>by rw[wfs]at hx;cases hx
 | (m,u)::r,q,S,h,x,hx=>by
  rw[Pars]at h;rw[wfs]at hx
  rcases mem_append.mp hx with hx | hx
  .exact nY u _ h.1 x hx
  .exact qG r q S h.2 x hx
end
theorem kt_evn{t:Tr}(h:Par 0 t):∀ x∈kt t,Evn x.1/\x.1.length<=6:=λx c=>by
 obtain⟨y,a,rfl⟩:=mem_map.mp c;have:=nY t 1 h y a;rw[Par]at this;exact⟨⟨λz b=>this.1 z ((so_perm _).mem_iff.mp b),lQ _⟩,by rw[(so_perm _).length_eq];exact this.2.1⟩
theorem kt_odn{t:Tr}(h:Par 1 t):∀ x∈kt t,Odn x.1/\x.1.length<=6:=λx c=>by
 obtain⟨y,a,rfl⟩:=mem_map.mp c;have:=nY t 1 h y a;rw[Par]at this;exact⟨⟨λz b=>this.1 z ((so_perm _).mem_iff.mp b),lQ _⟩,by rw[(so_perm _).length_eq];exact this.2.1⟩
theorem of_adds{W:Rws}{p:List Int->Prop}(h:∀ x∈W,p x.1):∀ x∈adds W,p x.1:=λx b=>by
 have:=(dQ W x.1).mp (mem_map.mpr ⟨x,b,rfl⟩);obtain⟨y,a,e⟩:=mem_map.mp this;rw[<- e];exact h y a
theorem both_tab{i h:Tr}(B:Par 0 i)(z:Par 1 h){W R p:Rws}(s:W.Perm (kt (bth i h)))(C:IsTab W R)(v:p.Perm (prod (adds (kt i)) (adds (kt h))))(A:(p.map (·.1)).Pairwise λa b=>aH a b=true):p=R:=by
 have r:∀ x∈kt i,Evn x.1:=λx c=>(kt_evn B x c).1
 have q:∀ x∈kt h,Odn x.1:=λx c=>(kt_odn z x c).1
 refine zX C A (λk=>?_) λx c=>?_
 .rw[(v.map _).mem_iff,prod_keys,(s.map _).mem_iff,u7,prod_keys]
  constructor
  .rintro⟨w,g,x,c,rfl⟩
   obtain⟨o,f,l⟩:=mem_map.mp ((dQ _ _).mp (mem_map.mpr ⟨w,g,rfl⟩));obtain⟨n,d,j⟩:=mem_map.mp ((dQ _ _).mp (mem_map.mpr ⟨x,c,rfl⟩));exact⟨o,f,n,d,by rw[l,j]⟩
  .rintro⟨w,g,x,c,rfl⟩
   obtain⟨o,f,l⟩:=mem_map.mp ((dQ _ _).mpr (mem_map.mpr ⟨w,g,rfl⟩));obtain⟨n,d,j⟩:=mem_map.mp ((dQ _ _).mpr (mem_map.mpr ⟨x,c,rfl⟩));exact⟨o,f,n,d,by rw[l,j]⟩
 .have c:=v.mem_iff.mp c
  obtain⟨w,g,c⟩:=mem_flatMap.mp c;obtain⟨y,u,rfl⟩:=mem_map.mp c;show w.2*y.2=bQ W (so (w.1++y.1));rw[ke s,u7,sy r q (of_adds r w g) (of_adds q y u),<- eV,<- eV (kt h),gU (adds_nd _) w g,gU (adds_nd _) y u]
mutual
theorem yi(f:List Int->List Int):∀ t:Tr,dn (bnd t λms=>.leaf (f ms))=dn t
 | .leaf ns=>by rw[bnd,dn,dn]
 | .die ps=>by rw[bnd,dn,dn,bnds_tot,u4 f ps]
theorem u4(f:List Int->List Int):∀ ps:List (Int×Tr),dns (cQ ps λms=>.leaf (f ms))=dns ps
 | []=>by rw[cQ]
 | (m,u)::r=>by rw[cQ,dns,dns,yi f u,u4 f r]
end
theorem ch_both{a g:Tr}(j:Ok a)(i:∀ ns,∀ w∈wl a 1 1,ns=so w.1->Ok (bnd g λms=>.leaf (ns++ms))):∀ w∈wl (bth a g) 1 1,Ch ((dn a*dn g:Nat):Int) w.2:=λw c=>by
 unfold bth at c;rw[vg]at c;obtain⟨b,f,c⟩:=mem_flatMap.mp c;have d:=wl_ch a 1 1 1 j (by decide) (by decide) (by decide) (Int.dvd_refl 1) b f;rw[Int.one_mul]at d;have h:=wl_ch _ b.2.1 b.2.2 ((dn a:Nat):Int) (i _ b f rfl) d.t0 d.le d.b0 d.dv w c;rw[yi (λms=>so b.1++ms)]at h
 push_cast
 exact h
mutual
theorem wl_par{o:Int}:∀(t:Tr) (a b:Int),Par o t->∀ x∈wl t a b,Par o (.leaf x.1)
 | .leaf ns,a,b,h,x,hx=>by rw[wl]at hx;rw[mem_singleton.mp hx];exact h
 | .die ps,a,b,h,x,hx=>by rw[wl]at hx;rw[Par]at h;exact pA ps a b _ h x hx
theorem pA{o:Int}:∀(ps:List (Int×Tr)) (a b S:Int),Pars o ps->∀ x∈wls ps a b S,Par o (.leaf x.1)
 | [],a,b,S,_,x,hx=>by rw[wls]at hx;cases hx
 | (m,u)::r,a,b,S,h,x,hx=>by
  rw[Pars]at h;rw[wls]at hx
  rcases mem_append.mp hx with hx | hx
  .exact pA r a b S h.2 x hx
  .exact wl_par u _ _ h.1 x hx
end
theorem xk{d:List Int}(h:Par 0 (.leaf d)):∀ ms,Par 1 (.leaf ms)->Dq 0 (.leaf (so d++so ms)):=λms c=>by
 rw[Par]at h c;rw[Dq];refine⟨nodup_append.mpr ⟨so_nd h.2.2,so_nd c.2.2,λa i b f e=>?_⟩,by rw[length_append,(so_perm _).length_eq,(so_perm _).length_eq];have:=h.2.1;have:=c.2.1;lia⟩;have g:=h.1 a ((so_perm _).mem_iff.mp i);have j:=c.1 b ((so_perm _).mem_iff.mp f);rw[e]at g;lia
theorem kI{e:Nat}:∀{d:Nat}{t:Tr},Dq e t->Dq (d+e) t:=λ{d t} h=>pY h d
theorem inner_dq{b:Nat}{a:Tr}(d:Dq b a)(f:Par 1 a){c:List Int}(h:Par 0 (.leaf c)):Dq b (bnd a λms=>.leaf (so c++ms)):=by
 have:=lG (o:=1) (g:=λms=>.leaf (so c++ms)) (e:=0) (λms hm=>xk h ms hm) kI b a d f;exact this
theorem both_dq{d c:Nat}{a b:Tr}(j:Dq d a)(l:Par 0 a)(i:Dq c b)(k:Par 1 b):Dq (d+c) (bth a b) :=
 lG (o:=0) (g:=λf=>bnd b λms=>.leaf (f++ms)) (e:=c) (λf h=>inner_dq i k h) kI d a j l
theorem xI{s:Int}(d:1<=s)(c:s<=5){a:List Int}(h:Par 0 (.leaf a)):Dq 1 (gone s (so a)):=by
 rw[Par]at h;rw[gone_so];have b:(so a).length=a.length:=(so_perm a).length_eq;unfold gone
 split
 .rw[Dq];exact⟨so_odd h.2.2 h.1 (by decide),by rw[length_append,b];have:=h.2.1;show _+1<=12;lia⟩
 .rw[Dq,Dqs,Dqs,Dqs,Dqs,Dq,Dq,Dq]
  have:=h.2.1;exact⟨(by decide:1<=3),(by decide:3<=4),by decide,by decide,⟨by decide,by decide⟩,by lia,by lia,⟨by decide,by decide⟩,by decide,by decide,⟨so_nd h.2.2,by lia⟩,trivial⟩
theorem goneT_dq{s:Int}(f:1<=s)(c:s<=5){d:Nat}{t:Tr}(a:Dq d t)(b:Par 0 t):Dq (d+1) (bnd t (gone s)) :=
 lG (o:=0) (g:=gone s) (e:=1) (λi h=>xI f c h) kI d t a b
end Tb
namespace My
open PySem L2 FrM Du LexM
open Tb (Tr Ent Way Rws Ch Lm2 Grp bnd cQ Dq)
theorem rK{kvs:List (List Key×V)}{k:List Key}(h:k ∉ kvs.map (·.1)):dO kvs k=none:=by
 induction kvs with
 | nil=>rfl
 | cons p r ih =>
  rw[map_cons,mem_cons,not_or]at h;rw[dG (λe=>h.1 e.symm)];exact ih h.2
theorem WR.snoc{K:Frag}{H:Hp}{st:Rws}{kvs:List (List Key×V)}{k:List Int}{q:Rat}{z:V}(h:WR K H st kvs)(n:k ∉ st.map (·.1))(hz:IsQ K H q z):WR K H (st++[(k,q)]) (d8 kvs (k.map Sum.inl) z):=by
 rw[mj z (rK λa=>?_)]
 .exact cS ⟨rfl,hz⟩ h
 .rw[h.keys]at a
  obtain⟨y,b,e⟩:=mem_map.mp a;exact n (by rw[<- dB e];exact b)
def Kp(H H':Hp)(df:Addr):Prop:=∀ b o,b≠df->H b=some o->H' b=some o
def Ah(K:Frag):Sp:=λvs H Q _=>∃ v1 v2 d1 d2 t1 t2,vs=[v1,v2]/\d1<5/\d2<5/\IsTree H d1 v1 t1/\IsTree H d2 v2 t2/\Dq d1 t1/\Dq d2 t2/\Tb.Par 0 t1/\Tb.Par 1 t2/\Tb.lv t1<=256/\Tb.lv t2<=256/\Tb.dn t1<=Lm2/\Tb.dn t2<=Lm2/\∀ H' l R ys,Same H H'->H' l=some (.lst ys)->Paired (RowR K H') R ys->R.Perm (Tb.prod (Tb.adds (Tb.kt t1)) (Tb.adds (Tb.kt t2)))->(R.map (·.1)).Pairwise (λa b=>aH a b=true)->Q (.ref l) H'
theorem m6(A B:Rws):(Tb.prod A B).length=A.length*B.length:=by
 unfold Tb.prod
 induction A with
 | nil=>simp
 | cons w r ih=>rw[flatMap_cons,length_append,length_map,ih,length_cons,Nat.add_mul];lia
section
variable {P:Program}{w:World}{K:Frag}{mg:Str->Option Value}{base:Heap}{a:Ad}
theorem vd(T:Txt K mg a):FnOk P w K mg base CX0 11 a.f_O a.d_O ["_law_one","_law_other"] (Ah K):=by
 have cy:FnOk P w K mg base CX0 10 _ _ _ _:=(lD T 5).mono (by decide);have dV:FnOk P w K mg base CX0 10 _ _ _ _:=(jG T).mono (by decide);refine T.F_O.ok sc_O (λvs H Q E h=>?_) (λcdv A outer s H vs Q E hr h=>?_)
 .obtain⟨v1,v2,d1,d2,t1,t2,rfl,_⟩:=h;rfl
 .obtain⟨v1,v2,d1,d2,t1,t2,rfl,ds,dT,d0,d4,q1,q2,p1,p2,l1,l2,n1,n2,q⟩:=h
  have d5:sizeLine=16777216:=sizeLine_eq;have o1:=Tb.dq_ok _ _ q1;have o2:=Tb.dq_ok _ _ q2;have D1:=Tb.dn_pos t1 o1;have D2:=Tb.dn_pos t2 o2;obtain⟨g1,-⟩:=Tb.kt_gd o1;obtain⟨g2,-⟩:=Tb.kt_gd o2;have eA:=Tb.of_adds (λx hx=>(Tb.kt_evn p1 x hx).1);have eB:=Tb.of_adds (λx hx=>(Tb.kt_odn p2 x hx).1);have lA:=Tb.of_adds (p:=λk=>k.length<=6) (λx hx=>(Tb.kt_evn p1 x hx).2);have lB:=Tb.of_adds (p:=λk=>k.length<=6) (λx hx=>(Tb.kt_odn p2 x hx).2);have bA:=Tb.adds_bq g1;have bB:=Tb.adds_bq g2;have c9:=Tb.adds_nd (Tb.kt t1);have cB:=Tb.adds_nd (Tb.kt t2)
  have bp:(Tb.adds (Tb.kt t1)).length<=256:=by
   refine Nat.le_trans (Tb.adds_len _) ?_;unfold Tb.kt;rw[Tb.kR_len,Tb.wf_len];exact l1
  have ab:(Tb.adds (Tb.kt t2)).length<=256:=by
   refine Nat.le_trans (Tb.adds_len _) ?_;unfold Tb.kt;rw[Tb.kR_len,Tb.wf_len];exact l2
  refine⟨_,(aj (aL (i:=2) sc_O.nd rfl (Or.inl rfl) fN) (aj (d9 PassesOwn.never rfl (nz (pe_m.itemsR (ap cy hr rfl T.m_B T.F_B.kp T.B_B .nil ar (aa (vr 0) (aa (bH (aa ak (aa ak af))) (aa fN af)))))) (eh rfl (av (au (i:=3) sc_O.nd rfl (Or.inl rfl)) (av (au (i:=4) sc_O.nd rfl (Or.inl rfl)) bi))) (am (d9 PassesOwn.never rfl (nz (pe_m.itemsR (ap cy hr rfl T.m_B T.F_B.kp T.B_B .nil ar (aa (vr 1) (aa (bH (aa ak (aa ak af))) (aa fN af)))))) (eh rfl (av (au (i:=5) sc_O.nd rfl (Or.inl rfl)) (av (au (i:=6) sc_O.nd rfl (Or.inl rfl)) bi))) (am (lF (jX hr) (vr 2) (bP bz rfl T.z_tuple dH (aa (aD eO rfl T.z_sorted bU (aa (aA jl (vr 3) (vr 5)) af)) af)) (ap dV hr rfl T.m_E T.F_E.kp T.B_E .nil ar (aa (vr 4) (aa (vr 6) af))) rfl))))) (am (aB (aD (gv rfl hr.units) rfl T.z_sorted bU (aa (pe_m.itemsR (vr 2)) af)))))),iH ?_⟩;intro eq ep;intro l b3;have s1:=Same.new (o:=.dT []) b3;have az:=ad (H:=H) (a:=l) (o:=.dT []);generalize upd H l (.dT [])=H1 at s1 az;refine⟨iq _ _,λY b0=>?_⟩;have s2:=Same.new (o:=.tup [.int 1,.int 1]) b0;have N:=ad (H:=H1) (a:=Y) (o:=.tup [.int 1,.int 1]);generalize upd H1 Y (.tup [.int 1,.int 1])=D at s2 N;intro B W;have s3:=Same.new (o:=.dT []) W;have ct:=ad (H:=D) (a:=B) (o:=.dT [])
  have qz:IsQ K (upd D B (.dT [])) 1 (.ref Y):=⟨Y,rfl,.inl (s3 _ _ N)⟩
  generalize upd D B (.dT [])=H3 at s3 ct qz;have dK:=(s1.trans s2).trans s3;refine⟨v1,.ref Y,B,d1,t1,1,[],[],Tb.dn t1,rfl,ds,IsTree.t dK.t _ _ _ d0,q1,qz,ct,.nil,D1,n1,g1,by show 0+Tb.lv t1<=1000;lia,λH4 d k4 bn cc=>?_⟩;have cc:WR K H4 (Tb.adds (Tb.kt t1)) d:=cc;have ck:Same H1 H4:=λb o e=>k4 _ _ (λz=>by rw[z,s2.free W]at e;cases e) ((s2.trans s3) _ _ e)
  refine⟨B,d,rfl,rfl,.inl bn,λL b5=>?_⟩;have s5:=Same.new (o:=.ext (IV L B)) b5;have X:=ad (H:=H4) (a:=L) (o:=.ext (IV L B));generalize upd H4 L (.ext (IV L B))=H5 at s5 X;have bq:=s5 _ _ bn;refine⟨L,B,d,rfl,X,.inl bq,λob=>?_⟩;have dh:B≠l:=λz=>by rw[z,s2 _ _ az]at W;cases W
  have co:=(ck.trans s5) _ _ az;have an:(upd H5 B (.frz ob (.dT d))) l=some (.dT []):=by rw[ag (Ne.symm dh)];exact co
  have bo:=ad (H:=H5) (a:=B) (o:=.frz ob (.dT d));have ch:∀ b o,b≠B->H5 b=some o->(upd H5 B (.frz ob (.dT d))) b=some o:=λb o n e=>by rw[ag n];exact e
  have br:Same H1 (upd H5 B (.frz ob (.dT d))):=λb o e=>ch _ _ (λz=>by rw[z,s2.free W]at e;cases e) ((ck.trans s5) _ _ e)
  have a8:WR K (upd H5 B (.frz ob (.dT d))) (Tb.adds (Tb.kt t1)) d:=cc.tk (λb us e=>ch _ _ (cY (s5 _ _ e) bq (λz=>nomatch z)) (s5 _ _ e));generalize upd H5 B (.frz ob (.dT d))=H6 at an bo br a8;clear ch;have al:(Tb.adds (Tb.kt t1)).length=d.length:=a8.length;generalize hAA:Tb.adds (Tb.kt t1)=AA at eA lA bA c9 bp a8 al q;generalize hBB:Tb.adds (Tb.kt t2)=BB at eB lB bB cB ab q;refine kA (Pv:=λi σ G=>∃(v:List (List Key×V)) (x3 x4 x5 x6:Option V),Kp H6 G l/\G l=some (.dT v)/\WR K G (Tb.prod (AA.take i) BB) v/\Tb.NdR (Tb.prod (AA.take i) BB)/\i<=AA.length/\σ=[some v1,some v2,some (.ref l),x3,x4,x5,x6]) ⟨[],none,none,none,none,(λb o _ e=>e),an,.nil,nodup_nil,Nat.zero_le _,rfl⟩ (λi σ G h=>?_) ?_ ?_
  .obtain⟨v,x3,x4,x5,x6,kp,_⟩:=h
   exact kp _ _ dh bo
  .rintro i kv b σ G p ef hb ⟨v,x3,x4,x5,x6,kp,a6,hF,a4,hi,rfl⟩ fp
   obtain⟨u,a',ek,c0⟩:=aJ a8 ef;have ea:i<AA.length:=(List.getElem?_eq_some_iff.mp a').1;have wm:=List.mem_of_getElem? a';have ek:kv.1=u.1.map Sum.inl:=ek;rw[ek,eC]at hb;have c4:∀{Ha Hb:Hp}{kva:List (List Key×V)},Ha l=some (.dT kva)->Kp Ha Hb l->TK Ha Hb:=λhd kp b us e=>kp _ _ (cY e hd (λz=>nomatch z)) e
   have sN:=Same.new (o:=.tup [.ref b,kv.2]) fp;have dd:=ad (H:=G) (a:=p) (o:=.tup [.ref b,kv.2]);have dg:=sN _ _ hb;have a1:=sN _ _ a6;have qN:IsQ K (upd G p (.tup [.ref b,kv.2])) u.2 kv.2:=(c0.tk (c4 an kp)).same sN;have bS:Kp H6 (upd G p (.tup [.ref b,kv.2])) l:=λM o n e=>sN _ _ (kp _ _ n e)
   have cA:=hF.tk sN.tk;generalize upd G p (.tup [.ref b,kv.2])=HN at sN dd dg a1 qN bS cA;refine⟨p,_,rfl,SqT.of dd,rfl,_,_,rfl,_,_,rfl,rfl,?_⟩;refine⟨iq _ _,λY b0=>?_⟩;have a2:=Same.new (o:=.tup [.int 1,.int 1]) b0;have N:=ad (H:=HN) (a:=Y) (o:=.tup [.int 1,.int 1]);generalize upd HN Y (.tup [.int 1,.int 1])=HO' at a2 N;intro C a0;have a3:=Same.new (o:=.dT []) a0;have dm:=ad (H:=HO') (a:=C) (o:=.dT [])
   have qz:IsQ K (upd HO' C (.dT [])) 1 (.ref Y):=⟨Y,rfl,.inl (a3 _ _ N)⟩
   generalize upd HO' C (.dT [])=HP at a3 dm qz;have c':=a2.trans a3;have de:IsTree HP d2 v2 t2:=IsTree.m (λM o c e=>c' _ _ (bS _ _ (λz=>by rw[z,b3]at e;cases e) (br _ _ (s1 _ _ e)))) _ _ _ d4;refine⟨v2,.ref Y,C,d2,t2,1,[],[],Tb.dn t2,rfl,dT,de,q2,qz,dm,.nil,D2,n2,g2,by show 0+Tb.lv t2<=1000;lia,λHQ g kq bg b6=>?_⟩;have b6:WR K HQ BB g:=by rw[<- hBB];exact b6
   have eb:Same HN HQ:=λM o e=>kq _ _ (λz=>by rw[z,a2.free a0]at e;cases e) (c' _ _ e)
   refine⟨C,g,rfl,rfl,.inl bg,λiw dv=>?_⟩;have a5:=Same.new (o:=.ext (IV iw C)) dv;have c3:=ad (H:=HQ) (a:=iw) (o:=.ext (IV iw C));generalize upd HQ iw (.ext (IV iw C))=HR at a5 c3;have bm:=a5 _ _ bg;refine⟨iw,C,g,rfl,c3,.inl bm,λoc=>?_⟩;have ec:C≠l:=λz=>by rw[z,a2 _ _ a1]at a0;cases a0
   have k9:∀ M o,M≠C->HR M=some o->(upd HR C (.frz oc (.dT g))) M=some o:=λM o n e=>by rw[ag n];exact e
   have I:Same HN (upd HR C (.frz oc (.dT g))):=λM o e=>k9 _ _ (λz=>by rw[z,a2.free a0]at e;cases e) ((eb.trans a5) _ _ e)
   have bc:=ad (H:=HR) (a:=C) (o:=.frz oc (.dT g));have ci:WR K (upd HR C (.frz oc (.dT g))) BB g:=b6.tk (λM us e=>k9 _ _ (cY (a5 _ _ e) bm (λz=>nomatch z)) (a5 _ _ e));generalize upd HR C (.frz oc (.dT g))=HS at I bc ci;clear k9;have bl:BB.length=g.length:=ci.length;have ba:=I _ _ a1;refine kA (Pv:=λj σ D=>∃(y:List (List Key×V)) (x5 x6:Option V),Kp HS D l/\D l=some (.dT y)/\WR K D (Tb.prod (AA.take i) BB++Tb.rowP u (BB.take j)) y/\Tb.NdR (Tb.prod (AA.take i) BB++Tb.rowP u (BB.take j))/\j<=BB.length/\σ=[some v1,some v2,some (.ref l),some (.ref b),some kv.2,x5,x6]) ⟨v,_,_,(λM o _ e=>e),ba,by show WR K HS (_++[]) _;rw[append_nil];exact cA.tk I.tk,by show Tb.NdR (_++[]);rw[append_nil];exact a4,Nat.zero_le _,rfl⟩ (λj σ D h=>?_) ?_ ?_
   .obtain⟨y,x5,x6,J,_⟩:=h
    exact J _ _ ec bc
   .rintro j Z c σ D r dp hc ⟨y,x5,x6,J,as,ac,a9,hj,rfl⟩ fr
    obtain⟨F,a7,b',b1⟩:=aJ ci dp;have d6:j<BB.length:=(List.getElem?_eq_some_iff.mp a7).1;have ym:=List.mem_of_getElem? a7;have b':Z.1=F.1.map Sum.inl:=b';rw[b',eC]at hc;have nk:=Tb.new_key eA eB c9 cB a' a7;have er:=Tb.rowP_snoc (w:=u) a7;have bt:=c4 ba J;have b2:D b=some (.tup (u.1.map V.int)):=bt _ _ (I _ _ dg);have qw:IsQ K D u.2 kv.2:=(qN.same I).tk bt;have qy:IsQ K D F.2 Z.2:=b1.tk bt;have c1:=Same.new (o:=.tup [.ref c,Z.2]) fr;have cs:=ad (H:=D) (a:=r) (o:=.tup [.ref c,Z.2]);generalize upd D r (.tup [.ref c,Z.2])=H3' at c1 cs;refine⟨r,_,rfl,SqT.of cs,rfl,_,_,rfl,_,_,rfl,rfl,?_⟩;refine⟨_,_,u.2,F.2,rfl,qw.same c1,qy.same c1,ku D1 n1 (bA u wm),ku D2 n2 (bB F ym),λej z5 c5 q5=>?_⟩;have cj:=c1.trans c5;have la:=lA u wm;have lb:=lB F ym;refine zL (cj _ _ b2) (cj _ _ hc) (by rw[length_map,length_map];lia) λcx kk c6 c2=>?_
    rw[<- map_append]at c2;refine⟨kk,u.1++F.1,rfl,.inr (SqT.of c2),by rw[length_append];lia,λls ed dq ei d'=>?_⟩;have en:ed=Tb.so (u.1++F.1):=Tb.so_uniq dq ei;subst en;have c7:=Same.new (o:=.lst ((Tb.so (u.1++F.1)).map V.int)) d';refine⟨ls,_,rfl,.inl ⟨SqL.of ad,λkt ft=>?_⟩⟩;have c8:=Same.new (o:=.tup ((Tb.so (u.1++F.1)).map V.int)) ft;have cm:=ad (H:=upd cx ls (.lst ((Tb.so (u.1++F.1)).map V.int))) (a:=kt) (o:=.tup ((Tb.so (u.1++F.1)).map V.int));have ca:=c7.trans c8;generalize upd (upd cx ls (.lst ((Tb.so (u.1++F.1)).map V.int))) kt (.tup ((Tb.so (u.1++F.1)).map V.int))=H8 at ca cm;have cg:=(cj.trans c6).trans ca;have bb:=cg _ _ as
    have el:y.length<=65536+256:=by
     rw[<- ac.length,length_append,m6];unfold Tb.rowP;rw[length_map,length_take,length_take];have:min i AA.length*BB.length<=256*256:=Nat.mul_le_mul (by lia) ab;lia
    refine⟨l,_,rfl,.inr ⟨y,(Tb.so (u.1++F.1)).map Sum.inl,kt,bb,rfl,by rw[eC];exact cm,by lia,rfl⟩,?_⟩;refine⟨_,_,_,λM o n e=>by rw[ag n];exact cg _ _ (J _ _ n e),ad,?_,?_,d6,rfl⟩
    .rw[er,<- append_assoc]
     exact((ac.tk cg.tk).snoc nk (q5.same (c6.trans ca))).tk (λM us e=>by rw[ag (cY e bb (λz=>nomatch z))];exact e)
    .rw[er,<- append_assoc]
     exact Tb.nd_snoc a9 nk
   .rintro σ D ⟨y,x5,x6,J,as,ac,a9,hj,rfl⟩
    rw[<- bl,take_length,<- Tb.prod_snoc a']at ac a9;exact⟨y,_,_,_,_,λM o n e=>J _ _ n (I _ _ (bS _ _ n e)),as,ac,a9,ea,rfl⟩
  .rintro σ G ⟨v,x3,x4,x5,x6,kp,a6,hF,a4,hi,rfl⟩
   rw[<- al,take_length]at hF a4;have dr:Same H G:=λb o e=>kp _ _ (λz=>by rw[z,b3]at e;cases e) (br _ _ (s1 _ _ e))
   refine⟨l,v,rfl,rfl,.inl a6,λL b5=>?_⟩;have s7:=Same.new (o:=.ext (IV L l)) b5;have X:=ad (H:=G) (a:=L) (o:=.ext (IV L l));have b4:=hF.tk s7.tk;generalize upd G L (.ext (IV L l))=H7 at s7 X b4
   have em:v.length<=65536:=by
    rw[<- hF.length,m6];have:AA.length*BB.length<=256*256:=Nat.mul_le_mul bp ab;lia
   refine⟨L,l,v,_,rfl,X,.inl (s7 _ _ a6),by lia,b4.keys,a4,λld o f k H8 s8 eo op d3 eg dt=>?_⟩;obtain⟨R,rp,up,hR⟩:=qm a4 b4 s8 op d3 eg;exact q _ ld R _ ((dr.trans s7).trans s8) dt hR rp up
end
open Tb (Tr Ent Way Rws Ch Lm2 Grp bnd cQ Dq)
theorem vN{a:Ad}{c:List Addr}{H:Hp}(b:∀ q∈tabs a,q.1∈c)(h:∀ P∈c,H P=some (.tbl #[])):TabsOk (tabs a) H:=λq d=>⟨#[],h _ (b q d),trivial,λ_ _=>.inl rfl⟩
theorem zP{K:Frag}{H H':Hp}{p:Addr}{xs:List V}(e:SameT H H')(h:SqL K H p xs):SqL K H' p xs:=by
 rcases h with(h | ⟨o,h⟩) | h
 .exact .inl (.inl (e.at h))
 .exact .inl (.inr ⟨o,e.at h⟩)
 .exact .inr h
theorem sW{i:Nat}{v:V}{a σ':St}{H:Hp}{Q:St->Hp->Prop}(e:a.set i (some v)=σ')(h:Q σ' H):mq i v a H Q:=by
 subst e;exact h
theorem vU{xs:List V}{lo a:Option Int}{x:V}(h:x∈fF xs lo a):x∈xs:=mem_of_mem_drop (mem_of_mem_take h)
theorem xA{K:Frag}{H:Hp}{p:Addr}{t b:Int}(h:SqT K H p [.int t,.int b]):DV K H (.tuple [.int t,.int b]) (.ref p):=by
 rw[DV];refine⟨p,_,rfl,h,?_⟩;rw[DVs];refine⟨_,_,rfl,by simp[DV],?_⟩;rw[DVs];exact⟨_,_,rfl,by simp[DV],by simp[DVs]⟩
def ww(x:List Int):PyData:=.tuple (x.map PyData.int)
theorem mH{K:Frag}{H:Hp}:∀ x:List Int,DVs K H (x.map PyData.int) (x.map V.int)
 | []=>by simp[DVs]
 | i::x=>by
  rw[map_cons,map_cons,DVs];exact⟨_,_,rfl,by simp[DV],mH x⟩
theorem nN{K:Frag}{H:Hp}{p:Addr}{x:List Int}(h:H p=some (.tup (x.map V.int))):DV K H (ww x) (.ref p):=by
 unfold ww;rw[DV];exact⟨p,_,rfl,SqT.of h,mH x⟩
def frD(q:Rat):PyData:=.tuple [.int q.num,.int q.den]
def wE(x:List Int×Rat):PyData:=.tuple [ww x.1,frD x.2]
theorem Ar{K:Frag}{H:Hp}{q:Rat}{z:V}(h:IsQ K H q z):DV K H (frD q) z:=by
 obtain⟨p,rfl,a⟩:=h;exact xA a.sq
theorem lJ{K:Frag}{H:Hp}{x:List Int×Rat}{y:V}(h:RowR K H x y):DV K H (wE x) y:=by
 obtain⟨p,d,z,rfl,c,a,b⟩:=h;unfold wE;rw[DV];refine⟨p,_,rfl,SqT.of c,?_⟩;rw[DVs];refine⟨_,_,rfl,nN a,?_⟩;rw[DVs];exact⟨_,_,rfl,Ar b,by simp[DVs]⟩
theorem lR{K:Frag}{H:Hp}{b:Type}{r:b->V->Prop}{f:b->PyData}(h:∀ a y,r a y->DV K H (f a) y){c:List b}{ys:List V}(p:Paired r c ys):DVs K H (c.map f) ys:=by
 induction p with
 | nil=>simp[DVs]
 | cons x _ ih=>rw[map_cons,DVs];exact⟨_,_,rfl,h _ _ x,ih⟩
theorem iY{K:Frag}{H:Hp}{l:Addr}{a:List PyData}{ys:List V}(h:H l=some (.lst ys))(d:DVs K H a ys):DV K H (.list a) (.ref l):=by
 rw[DV];exact⟨l,_,rfl,SqL.of h,d⟩
def Ly(n:Nat)(d:PyData):Prop:=PyData.canLay0 d=true/\PyData.depth d<=n
theorem ou{n:Nat}:∀{ds:List PyData},(∀ d∈ds,Ly n d)->PyData.canLayAll0 ds=true/\PyData.depthAll ds<=n
 | [],_=>by simp[PyData.canLayAll0,PyData.depthAll]
 | d::ds,h=>by
  obtain⟨a,c⟩:=ou λx hx=>h x (mem_cons_of_mem _ hx)
  obtain⟨b,f⟩:=h d mem_cons_self;rw[PyData.canLayAll0,PyData.depthAll,a,b];exact⟨rfl,by lia⟩
theorem kM{n:Nat}{a:List PyData}(h:∀ d∈a,Ly n d):Ly (n+1) (.tuple a):=by
 obtain⟨b,c⟩:=ou h;refine⟨by rw[PyData.canLay0,b],?_⟩;simp only[PyData.depth];lia
theorem xq{n:Nat}{a:List PyData}(h:∀ d∈a,Ly n d):Ly (n+1) (.list a):=by
 obtain⟨b,c⟩:=ou h;refine⟨by rw[PyData.canLay0,b],?_⟩;simp only[PyData.depth];lia
theorem oC(i:Int):Ly 1 (.int i):=⟨by simp[PyData.canLay0],by simp[PyData.depth]⟩
theorem dP{n:Nat}{d:PyData}(h:Ly n d)(a:n<=5):SeqAt.shaped d=true:=by
 unfold SeqAt.shaped;rw[h.1,Bool.true_and];exact decide_eq_true (by have:=h.2;lia)
theorem pQ(x:List Int):∀ d∈x.map PyData.int,Ly 1 d:=λd a=>by
 obtain⟨i,_,rfl⟩:=mem_map.mp a;exact oC i
theorem Bl(q:Rat):Ly 2 (frD q):=kM (n:=1) λd hd=>by
 rcases mem_cons.mp hd with rfl | hd
 .exact oC _
 .rw[mem_singleton.mp hd];exact oC _
theorem yN(x:List Int×Rat):Ly 3 (wE x):=kM (n:=2) λd hd=>by
 rcases mem_cons.mp hd with rfl | hd
 .exact kM (pQ x.1)
 .rw[mem_singleton.mp hd];exact Bl _
def vE(R:Rws):PyData:=.list (R.map wE)
theorem qf(R:Rws):Ly 4 (vE R):=xq λd a=>by
 obtain⟨x,_,rfl⟩:=mem_map.mp a;exact yN x
theorem qp{K:Frag}{H:Hp}{x y:V}{d:PyData}{n:Nat}{Q:VK}(c:DV K H d x)(b:DV K H d y)(h:Ly n d)(a:n<=5)(q:Q (.bl false) H):rEqD K true x y H Q:=by
 refine⟨d,d,c,b,dP h a,dP h a,?_⟩;rw[SeqAt.eqv_refl _ (SeqAt.canLay_of_shaped (dP h a))];exact q
theorem v8{K:Frag}{H:Hp}{x y:V}{d:PyData}{n:Nat}{Q:VK}(c:DV K H d x)(b:DV K H d y)(h:Ly n d)(a:n<=5)(q:Q (.bl true) H):rEqD K false x y H Q:=by
 refine⟨d,d,c,b,dP h a,dP h a,?_⟩;rw[SeqAt.eqv_refl _ (SeqAt.canLay_of_shaped (dP h a))];exact q
theorem lM{H:Hp}:∀{d:Nat}{v:V}{t:Tr},IsTree H d v t->Dq d t
 | d,v,.leaf ns,h=>by
  obtain⟨p,_,_,f,a⟩:=(ax d).mp h;rw[Tb.Dq];exact⟨a,f⟩
 | 0,v,.die ps,h=>False.elim h
 | d+1,v,.die ps,h=>by
  obtain⟨p,k,-,-,j,a,b⟩:=h;rw[Tb.Dq];refine⟨a,b,?_⟩;clear a b
  induction j with
  | nil=>rw[Tb.Dqs];trivial
  | @cons pt y ps ys r _ ih =>
   obtain⟨m,u⟩:=pt;obtain⟨_,_,_,_,i,c,g⟩:=r;rw[Tb.Dqs];exact⟨i,c,lM g,ih⟩
theorem o5{d:Nat}{t:Tr}(a:d<=4)(h:Dq d t):Tb.dn t<=Lm2:=Nat.le_trans (Tb.dnq_le d t h) (Nat.pow_le_pow_right (by decide) (Tb.fb_mono a))
theorem yI{d:Nat}{t:Tr}(a:d<=4)(h:Dq d t):Tb.lv t<=256:=by
 have c:=Tb.lvq_le d t h;have b:4 ^ d<=4 ^ 4:=Nat.pow_le_pow_right (by decide) a;have e:4 ^ 4=256:=by decide
 lia
theorem zf{d c:Tr}(g:Dq 3 d)(f:Dq 2 c):Tb.dn d*Tb.dn c<=Lm2:=by
 have a:=Tb.dnq_le 3 d g;have b:=Tb.dnq_le 2 c f;refine Nat.le_trans (Nat.mul_le_mul a b) ?_;rw[<- Nat.pow_add];exact Nat.pow_le_pow_right (by decide) (by decide)
abbrev lawK:Nat:=17
theorem Bo{a σ':St}{H:Hp}{Q:St->Hp->Prop}(e:a=σ')(h:Q σ' H):Q a H:=e ▸ h
section
variable {P:Program}{w:World}{K:Frag}{mg:Str->Option Value}{base:Heap}{a:Ad}
theorem xT{k:Nat}{f:Addr}{a:FuncData}{ps:List Str}{sp:Sp}(F:FnOk P w K mg base (CXG P w) k f a ps sp):FnOk P w K mg base CX0 k f a ps (λvs H Q _=>sp vs H Q λ_ _ _=>False) :=
 ⟨λvs H Q E h=>F.len vs H Q _ h,λA outer s H args us vs Q E hr e0 hb hv hs=>codeAny_mono (F.run A outer s H args us vs Q _ hr e0 hb hv hs) λr s' hq=>by
  cases r with
  | error e=>obtain⟨_,_,_,_,_,_,_,z⟩:=hq;exact z
  | ok fl=>cases fl <;> exact hq⟩
theorem ok_law{ts:List Addr}(T:Txt K mg a)(hB:Bm mg base)(fx:∀ q∈tabs a,q.1∈ts):FnOk P w K mg base CX0 lawK a.f_Y a.d_Y ["_law_script"] (spLaw K ts):=by
 have bA:FnOk P w K mg base CX0 16 _ _ _ _:=(xw T).mono (by decide);have bn:FnOk P w K mg base CX0 16 _ _ _ _:=(rM T).mono (by decide);have c':FnOk P w K mg base CX0 16 _ _ _ _:=(qt T 5).mono (by decide);have cc:FnOk P w K mg base CX0 16 _ _ _ _:=(tU T 5).mono (by decide);have b0:FnOk P w K mg base CX0 16 _ _ _ _:=(lE T hB).mono (by decide);have eB:FnOk P w K mg base CX0 16 _ _ _ _:=(lD T 5).mono (by decide);have eH:FnOk P w K mg base CX0 16 _ _ _ _:=(ln T 5).mono (by decide);have dT:FnOk P w K mg base CX0 16 _ _ _ _:=(yC T).mono (by decide);have fI:FnOk P w K mg base CX0 16 _ _ _ _:=(vd T).mono (by decide);have fP:FnOk P w K mg base CX0 16 _ _ _ _:=(yS T hB).mono (by decide);have fa:FnOk P w K mg base CX0 16 _ _ _ _:=(xf T hB).mono (by decide);have fn:FnOk P w K mg base CX0 16 _ _ _ _:=(oh T hB).mono (by decide);have dV:FnOk P w K mg base CX0 16 _ _ _ _:=(xT (uB T hB)).mono (by decide);have eS:FnOk P w K mg base CX0 16 _ _ _ _:=(xT (sU T hB)).mono (by decide);refine T.F_Y.ok sc_Y (λvs H Q E h=>?_) (λcdv A outer s H vs Q E hr h=>?_)
 .obtain⟨p,M,rfl,_⟩:=h;rfl
 .obtain⟨p,M,rfl,hS,X,e0,q⟩:=h
  have e6:sizeLine=16777216:=sizeLine_eq;have hT:=vN fx e0
  refine⟨_,(aj (aL (i:=1) sc_Y.nd rfl (Or.inl rfl) (ap cc hr rfl T.m_n T.F_n.kp T.B_n .nil ar (aa (ap c' hr rfl T.m_G T.F_G.kp T.B_G .nil ar (aa (ap bn hr rfl T.m_x T.F_x.kp T.B_x .nil ar (aa (ap bA hr rfl T.m_M T.F_M.kp T.B_M .nil ar (aa (vr 0) (aa ak af))) af)) (aa ak af))) (aa ak af)))) (aj (aL (i:=2) sc_Y.nd rfl (Or.inl rfl) (ap cc hr rfl T.m_n T.F_n.kp T.B_n .nil ar (aa (ap c' hr rfl T.m_G T.F_G.kp T.B_G .nil ar (aa (ap bn hr rfl T.m_x T.F_x.kp T.B_x .nil ar (aa (ap bA hr rfl T.m_M T.F_M.kp T.B_M .nil ar (aa (vr 0) (aa ak af))) af)) (aa ak af))) (aa ak af)))) (aj (aL (i:=3) sc_Y.nd rfl (Or.inl rfl) (ap fa hr rfl T.m_H T.F_H.kp T.B_H .nil ar (aa (ap b0 hr rfl T.m_D T.F_D.kp T.B_D .nil ar (aa (vr 1) af)) (aa (ap b0 hr rfl T.m_D T.F_D.kp T.B_D .nil ar (aa (vr 2) af)) af)))) (aj (cX (eG (xY hr.units) (ap dV hr rfl T.m_S T.F_S.kp T.B_S .nil ar (aa (vr 3) af)) (ap fI hr rfl T.m_O T.F_O.kp T.B_O .nil ar (aa (vr 1) (aa (vr 2) af))) (cP _)) (am (aB mR)) bO) (aj (d9 PassesOwn.never rfl (bV (aA pe (vt zM (vr 0) (pq ak) (pq ak)) (cV (aa ak af)))) (au (i:=4) sc_Y.nd rfl (Or.inl rfl)) (aj (aL (i:=5) sc_Y.nd rfl (Or.inl rfl) (ap bn hr rfl T.m_x T.F_x.kp T.B_x .nil ar (aa (vr 4) af))) (aj (jD (ap dT hr rfl T.m_P T.F_P.kp T.B_P .nil ar (aa (vr 1) (aa (vr 5) af))) (eh rfl (av (au (i:=6) sc_Y.nd rfl (Or.inl rfl)) (av (au (i:=7) sc_Y.nd rfl (Or.inl rfl)) bi)))) (aj (jD (ap dT hr rfl T.m_P T.F_P.kp T.B_P .nil ar (aa (vr 2) (aa (vr 5) af))) (eh rfl (av (au (i:=8) sc_Y.nd rfl (Or.inl rfl)) (av (au (i:=9) sc_Y.nd rfl (Or.inl rfl)) bi)))) (am (cX (eG (xY hr.units) (ap eS hr rfl T.m_U T.F_U.kp T.B_U .nil ar (aa (vr 3) (aa (aA pe (vr 6) (vr 8)) af))) (bP bz rfl T.z_tuple dH (aa (aD eO rfl T.z_sorted bU (aa (aA jl (vr 7) (vr 9)) af)) af)) (cP _)) (am (aB mR)) bO)))))) (aj (aL (i:=10) sc_Y.nd rfl (Or.inl rfl) (aA fm ak (aA gu (ap bA hr rfl T.m_M T.F_M.kp T.B_M .nil ar (aa (vr 0) (aa ak af))) ak))) (aj (aL (i:=11) sc_Y.nd rfl (Or.inl rfl) (aD (gv rfl hr.units) rfl T.z_sorted bU (aa (pe_m.itemsR (ap eB hr rfl T.m_B T.F_B.kp T.B_B .nil ar (aa (ap eH hr rfl T.m_t T.F_t.kp T.B_t .nil ar (aa (vr 1) (aa (vr 10) af))) (aa (bH (aa ak (aa ak af))) (aa fN af))))) af))) (am (aB (wj (Ax hr.units) (ap dV hr rfl T.m_S T.F_S.kp T.B_S .nil ar (aa (ap fn hr rfl T.m_i T.F_i.kp T.B_i .nil ar (aa (ap b0 hr rfl T.m_D T.F_D.kp T.B_D .nil ar (aa (vr 1) af)) (aa (ap fP hr rfl T.m_J T.F_J.kp T.B_J .nil ar (aa (vr 10) af)) af))) af)) (vr 11) (cP _))))))))))),Aj ?_⟩
  intro gT g' gk g3 ge g5 g0
  refine⟨p,M,0,rfl,hS,X,by decide,by decide,⟨_,rfl,λst n0 d2=>?_⟩⟩;have s1:=Same.new (o:=.lst [.int n0]) d2;have e1:(upd H st (.lst [.int n0])) st=some (.lst [.int n0]):=ad;generalize upd H st (.lst [.int n0])=Hs at s1 e1;refine⟨st,n0,3,rfl,by decide,by decide,e1,λH2 v n2 t s2 e2 it ci=>?_⟩;have eo:Same H H2:=λb o e=>s2 _ _ (aw e d2) (s1 _ _ e)
  refine⟨v,0,nw Hs none H2,3,t,rfl,by decide,by decide,by decide,it,Same.t (λb o e=>(cC e).2.2),ci,λH3 w1 t1 s3 it1 par1=>?_⟩;have ct:=eo.trans s3
  obtain⟨H01,hH01⟩:∃ H0,H0=sqH (nw H2 none H3):=⟨_,rfl⟩
  have a6:SqH H01:=by rw[hH01];exact oZ
  have j:IsTree H01 3 w1 t1:=by rw[hH01];exact IsTree.m (λb o c e=>pk c e) _ _ _ it1
  have fA:Same H01 H3:=λb o e=>by rw[hH01]at e;exact(cC (eQ e).1).2.2
  clear hH01 it1 it ci;refine sW (σ':=[some (.ref p),some w1,none,none,none,none,none,none,none,none,none,none]) rfl ?_
  refine⟨p,M,1,rfl,zP ct.t hS,X,by decide,by decide,⟨_,rfl,λa0 Y a7=>?_⟩⟩;have a1:=Same.new (o:=.lst [.int Y]) a7;have f1:(upd H3 a0 (.lst [.int Y])) a0=some (.lst [.int Y]):=ad;generalize upd H3 a0 (.lst [.int Y])=Ht at a1 f1;refine⟨a0,Y,2,rfl,by decide,by decide,f1,λH4 v' g2 t' a2 f2 dg a4=>?_⟩;have ff:Same H3 H4:=λb o e=>a2 _ _ (aw e a7) (a1 _ _ e)
  refine⟨v',1,nw Ht none H4,2,t',rfl,by decide,by decide,by decide,dg,Same.t (λb o e=>(cC e).2.2),a4,λH5 w2 t2 s45 it2 par2=>?_⟩;have ds:=ff.trans s45;have bq:=ct.trans ds
  obtain⟨H02,hH02⟩:∃ H0,H0=sqH (nw H4 none H5):=⟨_,rfl⟩
  have dh:SqH H02:=by rw[hH02];exact oZ
  have C:IsTree H02 2 w2 t2:=by rw[hH02];exact IsTree.m (λb o c e=>pk c e) _ _ _ it2
  have as:Same H02 H5:=λb o e=>by rw[hH02]at e;exact(cC (eQ e).1).2.2
  clear hH02 it2 dg a4;have e5:=hT.same bq;have J:=lM j;have L:=lM C;have dx:=Tb.dq_ok _ _ J;have ed:=Tb.dq_ok _ _ L;refine sW (σ':=[some (.ref p),some w1,some w2,none,none,none,none,none,none,none,none,none]) rfl ?_
  have r:=fA.trans ds;refine⟨w1,3,t1,H01,rfl,j,r.t,e5,λH6 u1 t6 fC eg _=>?_⟩;refine⟨w2,2,t2,H02,rfl,C,as.t.trans t6,fC,λH7 u2 t7 ew ey _=>?_⟩;have bb:=t6.trans t7
  have f8:IsPl a H7 u1 t1:=⟨H01,3,a6,r.t.trans bb,eg.t t7,fY j⟩
  have e4:IsPl a H7 u2 t2:=⟨H02,2,dh,as.t.trans bb,ey,fY C⟩
  refine⟨u1,u2,t1,t2,rfl,f8,e4,ew,λH8 u t8 f7 hN=>?_⟩;have hN:IsNd a H8 u (Tb.bth t1 t2):=hN;have bc:=bb.trans t8;have gV:=bq.t.trans bc;have b5:Dq 5 (Tb.bth t1 t2):=Tb.both_dq J par1 L par2;have d1:=Tb.dq_ok _ _ b5;have go:Tb.lv (Tb.bth t1 t2)<=4096:=Nat.le_trans (Tb.lvq_le 5 _ b5) (by decide);have ef:∀ w∈Tb.wl (Tb.bth t1 t2) 1 1,Ch ((Tb.dn t1*Tb.dn t2:Nat):Int) w.2:=Tb.ch_both dx (λg6 w9 a9 e9=>by rw[e9];exact Tb.dq_ok _ _ (Tb.inner_dq L par2 (Tb.wl_par t1 1 1 par1 w9 a9)));have DB:0<Tb.dn t1*Tb.dn t2:=Nat.mul_pos (Tb.dn_pos t1 dx) (Tb.dn_pos t2 ed);refine sW (σ':=[some (.ref p),some w1,some w2,some u,none,none,none,none,none,none,none,none]) rfl ?_;refine⟨u,5,_,Tb.dn t1*Tb.dn t2,rfl,hN,b5,Nat.le_refl _,d1,DB,zf J L,ef,f7,λ_ H9 lf R ys t9 f0 g4 ep hR d4 _=>?_,λh=>absurd h (by lia)⟩;have dr:=bc.trans t9;have cB:=IsTree.t (r.t.trans dr) _ _ _ j;have dq:=IsTree.t (as.t.trans dr) _ _ _ C;refine⟨w1,w2,3,2,t1,t2,rfl,by decide,by decide,cB,dq,J,L,par1,par2,yI (by decide) J,yI (by decide) L,o5 (by decide) J,o5 (by decide) L,λHA ld R' yd sA el e7 rp up=>?_⟩;obtain rfl:=Tb.both_tab par1 par2 (Tb.kt_perm d1) d4 rp up;refine qp (d:=vE R') (iY (sA _ _ ep) (lR (λx y h=>lJ h) (aq (RowR.tk sA.tk) hR))) (iY el (lR (λx y h=>lJ h) e7)) (qf R') (by decide) ?_;have d3:=t9.trans sA.t;have az:=bc.trans d3;have cj:=bq.t.trans az;have fz:=f0.same sA;have eq:=hN.t d3
  refine⟨_,rfl,_,rfl,.inl ⟨_,zP cj hS,λr1 fB=>?_⟩⟩;refine⟨by show 1<=sizeLine;decide,λr2 f4=>?_⟩;have b1:=Same.new (o:=.lst (fF (M.map V.int) (some 2) (some 63))) fB;have b2:=Same.new (o:=.lst [.int 4]) f4;have cl:=fu (M.map V.int) (some 2) (some 63);rw[length_map]at cl;refine⟨r1,r2,_,_,rfl,rfl,b2 _ _ ad,ad,by show _+1<=sizeLine;lia,λr3 em=>?_⟩;have b3:=(b1.trans b2).trans (Same.new (o:=.lst (fF (M.map V.int) (some 2) (some 63)++[.int 4])) em);have b4:(upd (upd (upd HA r1 (.lst (fF (M.map V.int) (some 2) (some 63)))) r2 (.lst [.int 4])) r3 (.lst (fF (M.map V.int) (some 2) (some 63)++[.int 4]))) r3=some (.lst (fF (M.map V.int) (some 2) (some 63)++[.int 4])):=ad;generalize upd (upd (upd HA r1 (.lst (fF (M.map V.int) (some 2) (some 63)))) r2 (.lst [.int 4])) r3 (.lst (fF (M.map V.int) (some 2) (some 63)++[.int 4]))=HB' at b3 b4;refine .inl ⟨⟨_,SqL.of b4⟩,?_⟩
  let Pw1:PvS:=λi σ H'=>SameT HB' H'/\TabsOk (tabs a) H'/\∃(x4 x5 x6 x7 x8 x9:Option V),σ=[some (.ref p),some w1,some w2,some u,x4,x5,x6,x7,x8,x9,none,none]
  refine gQ (K:=K) (a:=r3) (xs:=fF (M.map V.int) (some 2) (some 63)++[.int 4]) Pw1 ⟨SameT.refl,fz.same b3,none,none,none,none,none,none,rfl⟩ (λi σ H' _ h=>SqL.of (h.1.at b4)) ?_ ?_
  .rintro i x σ H' hx ⟨tl,bo,x4,x5,x6,x7,x8,x9,rfl⟩
   obtain⟨c,rfl⟩:∃ c,x=.int c:=by
    rcases mem_append.mp (List.mem_of_getElem? hx) with h | h
    .obtain⟨c,_,rfl⟩:=mem_map.mp (vU h);exact⟨c,rfl⟩
    .exact⟨4,mem_singleton.mp h⟩
   have N:=b3.t.trans tl;refine mU ?_;intro gs gf g7;refine⟨c,rfl,λl n3 D=>?_⟩;have c1:=Same.new (o:=.lst [.int n3]) D;have g1:=ad (H:=H') (a:=l) (o:=.lst [.int n3]);have a5:IsTree (untr (upd H' l (.lst [.int n3])) l) 3 w1 t1:=IsTree.t (tE c1.t D) _ _ _ (IsTree.t ((r.t.trans az).trans N) _ _ _ j);generalize upd H' l (.lst [.int n3])=HC at c1 g1 a5;refine sW (σ':=[some (.ref p),some w1,some w2,some u,some (.int c),some (.ref l),x6,x7,x8,x9,none,none]) rfl ?_;refine⟨w1,l,3,t1,n3,rfl,a5,by decide,g1,λHD p1 a' ba n4 I B sD gD ea dw ch ga ab gb dm=>?_⟩;have d':Same H' HD:=λb o e=>sD _ _ (aw e D) (c1 _ _ e)
   refine⟨p1,_,rfl,SqT.of ea,rfl,_,_,rfl,_,_,rfl,rfl,?_⟩;refine Bo (σ':=[some (.ref p),some w1,some w2,some u,some (.int c),some (.ref l),some (.ref a'),some (.ref ba),x8,x9,none,none]) rfl ?_;have cs:IsTree (untr HD l) 2 w2 t2:=IsTree.t (tE d'.t D) _ _ _ (IsTree.t ((as.t.trans az).trans N) _ _ _ C);refine⟨w2,l,2,t2,n4,rfl,cs,by decide,gD,λHE p2 b9 fl n5 G F sE gE fv c2 gc gd d0 f' d5=>?_⟩;have e':Same H' HE:=λb o e=>sE _ _ (aw e D) (d' _ _ e)
   refine⟨p2,_,rfl,SqT.of fv,rfl,_,_,rfl,_,_,rfl,rfl,?_⟩;refine Bo (σ':=[some (.ref p),some w1,some w2,some u,some (.int c),some (.ref l),some (.ref a'),some (.ref ba),some (.ref b9),some (.ref fl),none,none]) rfl ?_;have bB:=sE _ _ ch dw;have ft:ba≠l:=λz=>by rw[z,gD]at ab;cases ab
   have bS:=sE _ _ ft ab;refine⟨a',b9,_,_,rfl,rfl,bB,c2,by rw[length_map,length_map];lia,λrc fp=>?_⟩;have c5:=Same.new (o:=.lst (I.map V.int++G.map V.int)) fp;have bg:=ad (H:=HE) (a:=rc) (o:=.lst (I.map V.int++G.map V.int));rw[<- map_append]at c5 bg ⊢;generalize upd HE rc (.lst ((I++G).map V.int))=HF at c5 bg;have Z:=e'.trans c5
   have ek:Wy (Tb.bth t1 t2) (I++G) (Tb.so B++Tb.so F):=by
    refine Wy.bnd dm ?_;have:=Wy.bnd (g:=λms=>.leaf (Tb.so B++ms)) d5 .leaf;rwa [append_nil]at this
   refine⟨u,rc,_,I++G,_,rfl,(eq.t N).t Z.t,bg,ek,bo.same Z,λHG gi tG ex d6=>?_⟩;have l1:(Tb.so B).length=B.length:=(Tb.so_perm _).length_eq;have l2:(Tb.so F).length=F.length:=(Tb.so_perm _).length_eq;refine zL (tG.at (c5 _ _ bS)) (tG.at (c5 _ _ d0)) (by rw[length_map,length_map];lia) λHH kk c7 dp=>?_
   rw[<- map_append]at dp;refine⟨kk,Tb.so B++Tb.so F,rfl,.inr (SqT.of dp),by rw[length_append];lia,λls fL eu ev fq=>?_⟩;have en:fL=Tb.so (Tb.so B++Tb.so F):=Tb.so_uniq eu ev;subst en;have c8:=Same.new (o:=.lst ((Tb.so (Tb.so B++Tb.so F)).map V.int)) fq;refine⟨ls,_,rfl,.inl ⟨SqL.of ad,λgP f6=>?_⟩⟩;have c9:=Same.new (o:=.tup ((Tb.so (Tb.so B++Tb.so F)).map V.int)) f6;have bm:=(c7.trans c8).trans c9;refine qp (d:=ww (Tb.so (Tb.so B++Tb.so F))) (n:=2) (nN (bm _ _ d6)) (nN ad) (kM (pQ _)) (by decide) ?_;exact⟨((tl.trans Z.t).trans tG).trans bm.t,ex.same bm,_,_,_,_,_,_,rfl⟩
  .rintro σ H' ⟨tl,bo,x4,x5,x6,x7,x8,x9,rfl⟩
   have N:=b3.t.trans tl;have b':=az.trans N;refine⟨p,M,2,rfl,zP (cj.trans N) hS,X,by decide,by decide,cp,?_⟩;generalize vy M 2=c;have m0:=Int.emod_nonneg c (show(5:Int)≠0 by decide);have m1:=Int.emod_lt_of_pos c (show(0:Int)<5 by decide);have bp:1<=(1+c % 5):=by lia
   have bl:(1+c % 5)<=5:=by lia
   have ac:Dq 4 (bnd t1 (Tb.gone (1+c % 5))):=Tb.goneT_dq bp bl J par1;have W:=Tb.dq_ok _ _ ac;have ec:=yI (Nat.le_refl 4) ac;have b6:=o5 (Nat.le_refl 4) ac;have DG:=Tb.dn_pos _ W;obtain⟨gG,-⟩:=Tb.kt_gd W;refine⟨w1,(1+c % 5),H01,3,t1,rfl,bp,bl,by decide,j,r.t.trans b',par1,λHC wg sC eb=>?_⟩;have dd:IsTree HC 4 wg (bnd t1 (Tb.gone (1+c % 5))):=IsTree.t (Same.t λb o e=>(cC e).2.2) _ _ _ eb;refine⟨iq _ _,λz1 eA=>?_⟩;have c3:=Same.new (o:=.tup [.int 1,.int 1]) eA;have ck:=ad (H:=HC) (a:=z1) (o:=.tup [.int 1,.int 1]);generalize upd HC z1 (.tup [.int 1,.int 1])=HD at c3 ck;intro df de;have c4:=Same.new (o:=.dT []) de;have a8:=ad (H:=HD) (a:=df) (o:=.dT [])
   have qz:IsQ K (upd HD df (.dT [])) 1 (.ref z1):=⟨z1,rfl,.inl (c4 _ _ ck)⟩
   generalize upd HD df (.dT [])=HE at c4 a8 qz;have dt:=c3.trans c4;refine⟨wg,.ref z1,df,4,_,1,[],[],_,rfl,by decide,IsTree.t dt.t _ _ _ dd,ac,qz,a8,.nil,DG,b6,gG,by show 0+Tb.lv _<=1000;lia,λHF al k5 a3 an=>?_⟩;have an:WR K HF (Tb.adds (Tb.kt (bnd t1 (Tb.gone (1+c % 5))))) al:=an;have Z:Same HC HF:=λb o e=>k5 _ _ (λz=>by rw[z,c3.free de]at e;cases e) (dt _ _ e)
   refine⟨df,al,rfl,rfl,.inl a3,λiv e8=>?_⟩;have c6:=Same.new (o:=.ext (IV iv df)) e8;have cA:=ad (H:=HF) (a:=iv) (o:=.ext (IV iv df));have bt:=an.tk c6.tk;generalize upd HF iv (.ext (IV iv df))=HG at c6 cA bt
   have kl:al.length<=256:=by
    rw[<- an.length];refine Nat.le_trans (Tb.adds_len _) ?_;unfold Tb.kt;rw[Tb.kR_len,Tb.wf_len];exact ec
   refine⟨iv,df,al,_,rfl,cA,.inl (c6 _ _ a3),by lia,bt.keys,Tb.adds_nd _,λle o f k HH c7 gl op e3 f5 cx=>?_⟩;obtain⟨Rd,fd,co,dK⟩:=qm (Tb.adds_nd _) bt c7 op e3 f5
   have cg:Tb.IsTab (Tb.kt (bnd t1 (Tb.gone (1+c % 5)))) Rd:=⟨fd,co⟩
   generalize (o.map λi=>V.ref (f i))=yd9 at cx dK;have dv:Same H' HH:=((sC.trans Z).trans c6).trans c7;have er:=bo.same dv;have c0:=b'.trans dv.t;refine sW (σ':=[some (.ref p),some w1,some w2,some u,x4,x5,x6,x7,x8,x9,some (.int (1+c % 5)),some (.ref le)]) rfl ?_;refine⟨w1,3,t1,H01,rfl,j,r.t.trans c0,er,λHI u9 tI ej fe _=>?_⟩;refine⟨(1+c % 5),rfl,ej,λHJ f9 tJ fD ca=>?_⟩;have cm:=tI.trans tJ
   have f3:IsPl a HJ u9 t1:=⟨H01,3,a6,(r.t.trans c0).trans cm,fe.t tJ,fY j⟩
   refine⟨u9,f9,Tb.gone (1+c % 5),true,t1,[],rfl,(λb hb=>by cases hb),by rw[cu];exact f3,.inr (.inr ⟨(1+c % 5),by rw[cu];exact ca,bp,bl,rfl,rfl⟩),(λ_=>par1),fD,λHK u8 tK hTK hN8=>?_⟩;rw[cu]at hN8
   have es:∀ w∈Tb.wl (bnd t1 (Tb.gone (1+c % 5))) 1 1,Ch ((Tb.dn (bnd t1 (Tb.gone (1+c % 5))):Nat):Int) w.2:=λw9 a9=>by
    have:=Tb.wl_ch _ 1 1 1 W (by decide) (by decide) (by decide) (Int.dvd_refl 1) w9 a9;rwa [Int.one_mul]at this
   refine⟨u8,4,_,_,rfl,hN8,ac,by decide,W,DG,b6,es,hTK,λ_ HL lg Rt yt tL gn gr ei et br _=>?_,λh=>absurd h (by lia)⟩;have eR:Rt=Rd:=Tb.IsTab.uniq (Tb.kt_perm W) br cg;subst eR;have cy:=(cm.trans tK).trans tL;exact v8 (d:=vE Rt) (iY ei (lR (λx y h=>lJ h) et)) (iY (cy.at cx) (lR (λx y h=>lJ h) (aq (RowR.tk (λb us e=>cy.at e)) dK))) (qf Rt) (by decide) (q _)
end
end My
namespace My
open PySem L2
theorem us0{a:Type}:∀{us:List a},us.length=0->us=[]
 | [],_=>rfl
theorem us1{a:Type}{us:List a}(h:us.length=1):∃ a0,us=[a0]:=by
 cases us with
 | nil=>cases h
 | cons a0 t=>obtain rfl:=us0 (Nat.succ.inj h);exact⟨a0,rfl⟩
theorem us2{a:Type}{us:List a}(h:us.length=2):∃ a0 a1,us=[a0,a1]:=by
 cases us with
 | nil=>cases h
 | cons a0 t=>obtain⟨a1,rfl⟩:=us1 (Nat.succ.inj h);exact⟨a0,a1,rfl⟩
theorem us3{a:Type}{us:List a}(h:us.length=3):∃ a0 a1 a2,us=[a0,a1,a2]:=by
 cases us with
 | nil=>cases h
 | cons a0 t=>obtain⟨a1,a2,rfl⟩:=us2 (Nat.succ.inj h);exact⟨a0,a1,a2,rfl⟩
theorem txt_mk{K:Frag}{h:Heap}{mg:Str->Option Value}{f0 f1 f2 f3 f4 f5 f6 f7 f8 f9 f10 f11 f12 f13 f14 f15 f16 f17 f18 f19 f20 f21 f22 f23 f24 f25 f26 f27 f28 f29 f30 f31 c_L c_a i_a c_z c_T c_f i_f c_g i_g x_j x_k x_m x_r x_v x_A x_C x_F x_u x_w lc_J lp_J lc_s lp_s lc_b lp_b lc_p lp_p lc_H lp_H lc_i lp_i:Addr}{od0 an0 od1 an1 od2 an2 od3 an3 od4 an4 od5 an5 od6 an6 od7 an7 od8 an8 od9 an9 od10 an10 od11 an11 od12 an12 od13 an13 od14 an14 od15 an15 od16 an16 od17 an17 od18 an18 od19 an19 od20 an20 od21 an21 od22 an22 od23 an23 od24 an24 od25 an25 od26 an26 od27 an27 od28 an28 od29 an29 od30 an30 od31 an31 od_9 an_9 od_a an_a od_0 an_0 od_b an_b od_3 an_3 od_c an_c od_4 an_4 od_e an_e od_6 an_6 od_d an_d od_5 an_5 od_1 an_1 od_2 an_2 lod_7 lod_8 lod_11 lod_12 lod_10 lod_f:Option Addr}{sl0 sl1 sl2 sl3 sl4 sl5 sl6 sl7 sl8 sl9 sl10 sl11 sl12 sl13 sl14 sl15 sl16 sl17 sl18 sl19 sl20 sl21 sl22 sl23 sl24 sl25 sl26 sl27 sl28 sl29 sl30 sl31 sl_9 sl_a sl_0 sl_b sl_3 sl_c sl_4 sl_e sl_6 sl_d sl_5 sl_1 sl_2 lsl_7 lsl_8 lsl_11 lsl_12 lsl_10 lsl_f:Array (Option Value)}{oc0 kV0 dc0 pm0 cd0 ct0 oc1 kV1 dc1 pm1 cd1 ct1 oc2 kV2 dc2 pm2 cd2 ct2 oc3 kV3 dc3 pm3 cd3 ct3 oc4 kV4 dc4 pm4 cd4 ct4 oc5 kV5 dc5 pm5 cd5 ct5 oc6 kV6 dc6 pm6 cd6 ct6 oc7 kV7 dc7 pm7 cd7 ct7 oc8 kV8 dc8 pm8 cd8 ct8 oc9 kV9 dc9 pm9 cd9 ct9 oc10 kV10 dc10 pm10 cd10 ct10 oc11 kV11 dc11 pm11 cd11 ct11 oc12 kV12 dc12 pm12 cd12 ct12 oc13 kV13 dc13 pm13 cd13 ct13 oc14 kV14 dc14 pm14 cd14 ct14 oc15 kV15 dc15 pm15 cd15 ct15 oc16 kV16 dc16 pm16 cd16 ct16 oc17 kV17 dc17 pm17 cd17 ct17 oc18 kV18 dc18 pm18 cd18 ct18 oc19 kV19 dc19 pm19 cd19 ct19 oc20 kV20 dc20 pm20 cd20 ct20 oc21 kV21 dc21 pm21 cd21 ct21 oc22 kV22 dc22 pm22 cd22 ct22 oc23 kV23 dc23 pm23 cd23 ct23 oc24 kV24 dc24 pm24 cd24 ct24 oc25 kV25 dc25 pm25 cd25 ct25 oc26 kV26 dc26 pm26 cd26 ct26 oc27 kV27 dc27 pm27 cd27 ct27 oc28 kV28 dc28 pm28 cd28 ct28 oc29 kV29 dc29 pm29 cd29 ct29 oc30 kV30 dc30 pm30 cd30 ct30 oc31 kV31 dc31 pm31 cd31 ct31 u0 oc_9 kV_9 dc_9 pm_9 cd_9 ct_9 oc_a kV_a dc_a pm_a cd_a ct_a oc_0 kV_0 dc_0 pm_0 cd_0 ct_0 oc_b kV_b dc_b pm_b cd_b ct_b oc_3 kV_3 dc_3 pm_3 cd_3 ct_3 oc_c kV_c dc_c pm_c cd_c ct_c oc_4 kV_4 dc_4 pm_4 cd_4 ct_4 oc_e kV_e dc_e pm_e cd_e ct_e oc_6 kV_6 dc_6 pm_6 cd_6 ct_6 oc_d kV_d dc_d pm_d cd_d ct_d oc_5 kV_5 dc_5 pm_5 cd_5 ct_5 oc_1 kV_1 dc_1 pm_1 cd_1 ct_1 oc_2 kV_2 dc_2 pm_2 cd_2 ct_2 lo_7 lo_8 lo_11 lo_12 lo_10 lo_f:Value}{lvs_7 lvs_8 lvs_11 lvs_12 lvs_10 lvs_f:Array Value}(X:K.In h) (G:h.Ns mainGlobals mg)
  (a0:nsIn K mainGlobals "greatest_divisor" = some (some (.ref f0))) (l0:K.lookup f0=some ⟨oc0,od0,.func (fnOf "greatest_divisor" "greatest_divisor" (ai aE) (ah aE) (ae aE) .none kV0 dc0 pm0 an0 cd0 ct0),sl0⟩) (c0:codeIn K cd0 "greatest_divisor" = true) (k0:keepIn K (.ref f0)=true)
  (a1:nsIn K mainGlobals "least_multiple" = some (some (.ref f1))) (l1:K.lookup f1=some ⟨oc1,od1,.func (fnOf "least_multiple" "least_multiple" (ai aN) (ah aN) (ae aN) .none kV1 dc1 pm1 an1 cd1 ct1),sl1⟩) (c1:codeIn K cd1 "least_multiple" = true) (k1:keepIn K (.ref f1)=true)
  (a2:nsIn K mainGlobals "share" = some (some (.ref f2))) (l2:K.lookup f2=some ⟨oc2,od2,.func (fnOf "share" "share" (ai dk) (ah dk) (ae dk) .none kV2 dc2 pm2 an2 cd2 ct2),sl2⟩) (c2:codeIn K cd2 "share" = true) (k2:keepIn K (.ref f2)=true)
  (a3:nsIn K mainGlobals "total" = some (some (.ref f3))) (l3:K.lookup f3=some ⟨oc3,od3,.func (fnOf "total" "total" (ai dl) (ah dl) (ae dl) .none kV3 dc3 pm3 an3 cd3 ct3),sl3⟩) (c3:codeIn K cd3 "total" = true) (k3:keepIn K (.ref f3)=true)
  (a4:nsIn K mainGlobals "is_whole" = some (some (.ref f4))) (l4:K.lookup f4=some ⟨oc4,od4,.func (fnOf "is_whole" "is_whole" (ai bI) (ah bI) (ae bI) .none kV4 dc4 pm4 an4 cd4 ct4),sl4⟩) (c4:codeIn K cd4 "is_whole" = true) (k4:keepIn K (.ref f4)=true)
  (a5:nsIn K mainGlobals "carried_make" = some (some (.ref f5))) (l5:K.lookup f5=some ⟨oc5,od5,.func (fnOf "carried_make" "carried_make" (ai aP) (ah aP) (ae aP) .none kV5 dc5 pm5 an5 cd5 ct5),sl5⟩) (c5:codeIn K cd5 "carried_make" = true) (k5:keepIn K (.ref f5)=true)
  (a6:nsIn K mainGlobals "can_be_thrown" = some (some (.ref f6))) (l6:K.lookup f6=some ⟨oc6,od6,.func (fnOf "can_be_thrown" "can_be_thrown" (ai aR) (ah aR) (ae aR) .none kV6 dc6 pm6 an6 cd6 ct6),sl6⟩) (c6:codeIn K cd6 "can_be_thrown" = true) (k6:keepIn K (.ref f6)=true)
  (a7:nsIn K mainGlobals "drawn" = some (some (.ref f7))) (l7:K.lookup f7=some ⟨oc7,od7,.func (fnOf "drawn" "drawn" (ai dj) (ah dj) (ae dj) .none kV7 dc7 pm7 an7 cd7 ct7),sl7⟩) (c7:codeIn K cd7 "drawn" = true) (k7:keepIn K (.ref f7)=true)
  (a8:nsIn K mainGlobals "behind" = some (some (.ref f8))) (l8:K.lookup f8=some ⟨oc8,od8,.func (fnOf "behind" "behind" (ai bZ) (ah bZ) (ae bZ) .none kV8 dc8 pm8 an8 cd8 ct8),sl8⟩) (c8:codeIn K cd8 "behind" = true) (k8:keepIn K (.ref f8)=true)
  (a9:nsIn K mainGlobals "both" = some (some (.ref f9))) (l9:K.lookup f9=some ⟨oc9,od9,.func (fnOf "both" "both" (ai dZ) (ah dZ) (ae dZ) .none kV9 dc9 pm9 an9 cd9 ct9),sl9⟩) (c9:codeIn K cd9 "both" = true) (k9:keepIn K (.ref f9)=true)
  (a10:nsIn K mainGlobals "joined" = some (some (.ref f10))) (l10:K.lookup f10=some ⟨oc10,od10,.func (fnOf "joined" "joined" (ai ce) (ah ce) (ae ce) .none kV10 dc10 pm10 an10 cd10 ct10),sl10⟩) (c10:codeIn K cd10 "joined" = true) (k10:keepIn K (.ref f10)=true)
  (a11:nsIn K mainGlobals "ways_of" = some (some (.ref f11))) (l11:K.lookup f11=some ⟨oc11,od11,.func (fnOf "ways_of" "ways_of" (ai bR) (ah bR) (ae bR) .none kV11 dc11 pm11 an11 cd11 ct11),sl11⟩) (c11:codeIn K cd11 "ways_of" = true) (k11:keepIn K (.ref f11)=true)
  (a12:nsIn K mainGlobals "table" = some (some (.ref f12))) (l12:K.lookup f12=some ⟨oc12,od12,.func (fnOf "table" "table" (ai dA) (ah dA) (ae dA) .none kV12 dc12 pm12 an12 cd12 ct12),sl12⟩) (c12:codeIn K cd12 "table" = true) (k12:keepIn K (.ref f12)=true)
  (a13:nsIn K mainGlobals "_law_cell" = some (some (.ref f13))) (l13:K.lookup f13=some ⟨oc13,od13,.func (fnOf "_law_cell" "_law_cell" (ai cL) (ah cL) (ae cL) .none kV13 dc13 pm13 an13 cd13 ct13),sl13⟩) (c13:codeIn K cd13 "_law_cell" = true) (k13:keepIn K (.ref f13)=true)
  (a14:nsIn K mainGlobals "_law_mix" = some (some (.ref f14))) (l14:K.lookup f14=some ⟨oc14,od14,.func (fnOf "_law_mix" "_law_mix" (ai dC) (ah dC) (ae dC) .none kV14 dc14 pm14 an14 cd14 ct14),sl14⟩) (c14:codeIn K cd14 "_law_mix" = true) (k14:keepIn K (.ref f14)=true)
  (a15:nsIn K mainGlobals "_law_digits" = some (some (.ref f15))) (l15:K.lookup f15=some ⟨oc15,od15,.func (fnOf "_law_digits" "_law_digits" (ai bK) (ah bK) (ae bK) .none kV15 dc15 pm15 an15 cd15 ct15),sl15⟩) (c15:codeIn K cd15 "_law_digits" = true) (k15:keepIn K (.ref f15)=true)
  (a16:nsIn K mainGlobals "_law_take" = some (some (.ref f16))) (l16:K.lookup f16=some ⟨oc16,od16,.func (fnOf "_law_take" "_law_take" (ai cF) (ah cF) (ae cF) .none kV16 dc16 pm16 an16 cd16 ct16),sl16⟩) (c16:codeIn K cd16 "_law_take" = true) (k16:keepIn K (.ref f16)=true)
  (a17:nsIn K mainGlobals "_law_kept" = some (some (.ref f17))) (l17:K.lookup f17=some ⟨oc17,od17,.func (fnOf "_law_kept" "_law_kept" (ai cJ) (ah cJ) (ae cJ) .none kV17 dc17 pm17 an17 cd17 ct17),sl17⟩) (c17:codeIn K cd17 "_law_kept" = true) (k17:keepIn K (.ref f17)=true)
  (a18:nsIn K mainGlobals "_law_tree" = some (some (.ref f18))) (l18:K.lookup f18=some ⟨oc18,od18,.func (fnOf "_law_tree" "_law_tree" (ai cG) (ah cG) (ae cG) .none kV18 dc18 pm18 an18 cd18 ct18),sl18⟩) (c18:codeIn K cd18 "_law_tree" = true) (k18:keepIn K (.ref f18)=true)
  (a19:nsIn K mainGlobals "_law_make" = some (some (.ref f19))) (l19:K.lookup f19=some ⟨oc19,od19,.func (fnOf "_law_make" "_law_make" (ai cf) (ah cf) (ae cf) .none kV19 dc19 pm19 an19 cd19 ct19),sl19⟩) (c19:codeIn K cd19 "_law_make" = true) (k19:keepIn K (.ref f19)=true)
  (a20:nsIn K mainGlobals "_law_node" = some (some (.ref f20))) (l20:K.lookup f20=some ⟨oc20,od20,.func (fnOf "_law_node" "_law_node" (ai cK) (ah cK) (ae cK) .none kV20 dc20 pm20 an20 cd20 ct20),sl20⟩) (c20:codeIn K cd20 "_law_node" = true) (k20:keepIn K (.ref f20)=true)
  (a21:nsIn K mainGlobals "_law_divisor" = some (some (.ref f21))) (l21:K.lookup f21=some ⟨oc21,od21,.func (fnOf "_law_divisor" "_law_divisor" (ai bv) (ah bv) (ae bv) .none kV21 dc21 pm21 an21 cd21 ct21),sl21⟩) (c21:codeIn K cd21 "_law_divisor" = true) (k21:keepIn K (.ref f21)=true)
  (a22:nsIn K mainGlobals "_law_lowest" = some (some (.ref f22))) (l22:K.lookup f22=some ⟨oc22,od22,.func (fnOf "_law_lowest" "_law_lowest" (ai bJ) (ah bJ) (ae bJ) .none kV22 dc22 pm22 an22 cd22 ct22),sl22⟩) (c22:codeIn K cd22 "_law_lowest" = true) (k22:keepIn K (.ref f22)=true)
  (a23:nsIn K mainGlobals "_law_sum" = some (some (.ref f23))) (l23:K.lookup f23=some ⟨oc23,od23,.func (fnOf "_law_sum" "_law_sum" (ai du) (ah du) (ae du) .none kV23 dc23 pm23 an23 cd23 ct23),sl23⟩) (c23:codeIn K cd23 "_law_sum" = true) (k23:keepIn K (.ref f23)=true)
  (a24:nsIn K mainGlobals "_law_product" = some (some (.ref f24))) (l24:K.lookup f24=some ⟨oc24,od24,.func (fnOf "_law_product" "_law_product" (ai bx) (ah bx) (ae bx) .none kV24 dc24 pm24 an24 cd24 ct24),sl24⟩) (c24:codeIn K cd24 "_law_product" = true) (k24:keepIn K (.ref f24)=true)
  (a25:nsIn K mainGlobals "_law_walk" = some (some (.ref f25))) (l25:K.lookup f25=some ⟨oc25,od25,.func (fnOf "_law_walk" "_law_walk" (ai cI) (ah cI) (ae cI) .none kV25 dc25 pm25 an25 cd25 ct25),sl25⟩) (c25:codeIn K cd25 "_law_walk" = true) (k25:keepIn K (.ref f25)=true)
  (a26:nsIn K mainGlobals "_law_doubled" = some (some (.ref f26))) (l26:K.lookup f26=some ⟨oc26,od26,.func (fnOf "_law_doubled" "_law_doubled" (ai bu) (ah bu) (ae bu) .none kV26 dc26 pm26 an26 cd26 ct26),sl26⟩) (c26:codeIn K cd26 "_law_doubled" = true) (k26:keepIn K (.ref f26)=true)
  (a27:nsIn K mainGlobals "_law_way" = some (some (.ref f27))) (l27:K.lookup f27=some ⟨oc27,od27,.func (fnOf "_law_way" "_law_way" (ai dz) (ah dz) (ae dz) .none kV27 dc27 pm27 an27 cd27 ct27),sl27⟩) (c27:codeIn K cd27 "_law_way" = true) (k27:keepIn K (.ref f27)=true)
  (a28:nsIn K mainGlobals "_law_both" = some (some (.ref f28))) (l28:K.lookup f28=some ⟨oc28,od28,.func (fnOf "_law_both" "_law_both" (ai cE) (ah cE) (ae cE) .none kV28 dc28 pm28 an28 cd28 ct28),sl28⟩) (c28:codeIn K cd28 "_law_both" = true) (k28:keepIn K (.ref f28)=true)
  (a29:nsIn K mainGlobals "_law_gone_on" = some (some (.ref f29))) (l29:K.lookup f29=some ⟨oc29,od29,.func (fnOf "_law_gone_on" "_law_gone_on" (ai bF) (ah bF) (ae bF) .none kV29 dc29 pm29 an29 cd29 ct29),sl29⟩) (c29:codeIn K cd29 "_law_gone_on" = true) (k29:keepIn K (.ref f29)=true)
  (a30:nsIn K mainGlobals "_law_go" = some (some (.ref f30))) (l30:K.lookup f30=some ⟨oc30,od30,.func (fnOf "_law_go" "_law_go" (ai ee) (ah ee) (ae ee) .none kV30 dc30 pm30 an30 cd30 ct30),sl30⟩) (c30:codeIn K cd30 "_law_go" = true) (k30:keepIn K (.ref f30)=true)
  (a31:nsIn K mainGlobals "law" = some (some (.ref f31))) (l31:K.lookup f31=some ⟨oc31,od31,.func (fnOf "law" "law" (ai gN) (ah gN) (ae gN) .none kV31 dc31 pm31 an31 cd31 ct31),sl31⟩) (c31:codeIn K cd31 "law" = true) (k31:keepIn K (.ref f31)=true)
  (b0:nsIn K mainGlobals "MOST_WAYS" = some (some u0))
  (ca_L:nsIn K mainGlobals "SpeakError" = some (some (.ref c_L))) (cb_L:keepIn K (.ref c_L)=true) (cc_L:nM K c_L=true)
  (cx_L:xIn K c_L none=true)
  (ca_a:nsIn K mainGlobals "NoThrow" = some (some (.ref c_a))) (cb_a:keepIn K (.ref c_a)=true) (cc_a:nM K c_a=true)
  (cf_a:findIn K (.ref c_a) "__init__" = some (some (.ref i_a))) (cx_a:xIn K c_a (some (.ref i_a))=true) (cg_a:isFn K (.ref i_a)=true)
  (cl_a:K.lookup i_a=some ⟨oc_9,od_9,.func (fnOf "__init__" "NoThrow.__init__" (ai aF) (ah aF) (ae aF) .none kV_9 dc_9 pm_9 an_9 cd_9 ct_9),sl_9⟩) (co_a:codeIn K cd_9 "NoThrow.__init__" = true) (ck_a:keepIn K (.ref i_a)=true)
  (cs_NoThrow_place:yT K c_a "place" = true)
  (ca_z:nsIn K mainGlobals "TooMany" = some (some (.ref c_z))) (cb_z:keepIn K (.ref c_z)=true) (cc_z:nM K c_z=true)
  (cx_z:xIn K c_z none=true)
  (ca_T:nsIn K mainGlobals "Node" = some (some (.ref c_T))) (pa_T:plainGet K c_T Str.empty=true) (pb_T:hasDictIn K c_T=true) (pc_T:plainOver K c_T=true)
  (pd_T:findIn K (.ref c_T) "__setattr__" = some (some (.builtin "object.__setattr__"))) (pe_T:findIn K (.ref c_T) "__class__" = some (some (.builtin "object.__class__"))) (pf_T:specialIn K (.builtin "object.__class__") "__get__" = some (some (.builtin "getset_descriptor.__get__"))) (pg_T:takesIn K (.builtin "object.__class__")=some true) (ph_T:mroIn K c_T (.type "object")=some true)
  (ca_f:nsIn K mainGlobals "Told" = some (some (.ref c_f))) (pa_f:plainGet K c_f Str.empty=true) (pb_f:hasDictIn K c_f=true) (pc_f:plainOver K c_f=true)
  (pd_f:findIn K (.ref c_f) "__setattr__" = some (some (.builtin "object.__setattr__"))) (pe_f:findIn K (.ref c_f) "__class__" = some (some (.builtin "object.__class__"))) (pf_f:specialIn K (.builtin "object.__class__") "__get__" = some (some (.builtin "getset_descriptor.__get__"))) (pg_f:takesIn K (.builtin "object.__class__")=some true) (ph_f:mroIn K c_f (.type "object")=some true)
  (qa_f:makesIn K c_f=true) (qb_f:findIn K (.ref c_f) "__init__" = some (some (.ref i_f))) (qc_f:isFn K (.ref i_f)=true) (qd_f:keepIn K (.ref c_f)=true)
  (qn_Told_rising:findIn K (.ref c_f) "rising" = some none)
  (cl_f:K.lookup i_f=some ⟨oc_a,od_a,.func (fnOf "__init__" "Told.__init__" (ai aQ) (ah aQ) (ae aQ) .none kV_a dc_a pm_a an_a cd_a ct_a),sl_a⟩) (co_f:codeIn K cd_a "Told.__init__" = true) (ck_f:keepIn K (.ref i_f)=true)
  (ca_g:nsIn K mainGlobals "Die" = some (some (.ref c_g))) (pa_g:plainGet K c_g Str.empty=true) (pb_g:hasDictIn K c_g=true) (pc_g:plainOver K c_g=true)
  (pd_g:findIn K (.ref c_g) "__setattr__" = some (some (.builtin "object.__setattr__"))) (pe_g:findIn K (.ref c_g) "__class__" = some (some (.builtin "object.__class__"))) (pf_g:specialIn K (.builtin "object.__class__") "__get__" = some (some (.builtin "getset_descriptor.__get__"))) (pg_g:takesIn K (.builtin "object.__class__")=some true) (ph_g:mroIn K c_g (.type "object")=some true)
  (qa_g:makesIn K c_g=true) (qb_g:findIn K (.ref c_g) "__init__" = some (some (.ref i_g))) (qc_g:isFn K (.ref i_g)=true) (qd_g:keepIn K (.ref c_g)=true)
  (qn_Die_makes:findIn K (.ref c_g) "makes" = some none)
  (cl_g:K.lookup i_g=some ⟨oc_0,od_0,.func (fnOf "__init__" "Die.__init__" (ai aT) (ah aT) (ae aT) .none kV_0 dc_0 pm_0 an_0 cd_0 ct_0),sl_0⟩) (co_g:codeIn K cd_0 "Die.__init__" = true) (ck_g:keepIn K (.ref i_g)=true)
  (mf_b:findIn K (.ref c_f) "is_told" = some (some (.ref x_j)))
  (ml_b:K.lookup x_j=some ⟨oc_b,od_b,.func (fnOf "is_told" "Told.is_told" (ai aV) (ah aV) (ae aV) .none kV_b dc_b pm_b an_b cd_b ct_b),sl_b⟩) (mo_b:codeIn K cd_b "Told.is_told" = true) (mk_b:keepIn K (.ref x_j)=true) (mi_b:isFn K (.ref x_j)=true)
  (mf_3:findIn K (.ref c_g) "is_told" = some (some (.ref x_k)))
  (ml_3:K.lookup x_k=some ⟨oc_3,od_3,.func (fnOf "is_told" "Die.is_told" (ai aZ) (ah aZ) (ae aZ) .none kV_3 dc_3 pm_3 an_3 cd_3 ct_3),sl_3⟩) (mo_3:codeIn K cd_3 "Die.is_told" = true) (mk_3:keepIn K (.ref x_k)=true) (mi_3:isFn K (.ref x_k)=true)
  (mf_c:findIn K (.ref c_f) "kept" = some (some (.ref x_m)))
  (ml_c:K.lookup x_m=some ⟨oc_c,od_c,.func (fnOf "kept" "Told.kept" (ai bD) (ah bD) (ae bD) .none kV_c dc_c pm_c an_c cd_c ct_c),sl_c⟩) (mo_c:codeIn K cd_c "Told.kept" = true) (mk_c:keepIn K (.ref x_m)=true) (mi_c:isFn K (.ref x_m)=true)
  (mf_4:findIn K (.ref c_g) "kept" = some (some (.ref x_r)))
  (ml_4:K.lookup x_r=some ⟨oc_4,od_4,.func (fnOf "kept" "Die.kept" (ai bM) (ah bM) (ae bM) .none kV_4 dc_4 pm_4 an_4 cd_4 ct_4),sl_4⟩) (mo_4:codeIn K cd_4 "Die.kept" = true) (mk_4:keepIn K (.ref x_r)=true) (mi_4:isFn K (.ref x_r)=true)
  (mf_e:findIn K (.ref c_f) "sides" = some (some (.ref x_v)))
  (ml_e:K.lookup x_v=some ⟨oc_e,od_e,.func (fnOf "sides" "Told.sides" (ai bh) (ah bh) (ae bh) .none kV_e dc_e pm_e an_e cd_e ct_e),sl_e⟩) (mo_e:codeIn K cd_e "Told.sides" = true) (mk_e:keepIn K (.ref x_v)=true) (mi_e:isFn K (.ref x_v)=true)
  (mf_6:findIn K (.ref c_g) "sides" = some (some (.ref x_A)))
  (ml_6:K.lookup x_A=some ⟨oc_6,od_6,.func (fnOf "sides" "Die.sides" (ai bE) (ah bE) (ae bE) .none kV_6 dc_6 pm_6 an_6 cd_6 ct_6),sl_6⟩) (mo_6:codeIn K cd_6 "Die.sides" = true) (mk_6:keepIn K (.ref x_A)=true) (mi_6:isFn K (.ref x_A)=true)
  (mf_d:findIn K (.ref c_f) "parts" = some (some (.ref x_C)))
  (ml_d:K.lookup x_C=some ⟨oc_d,od_d,.func (fnOf "parts" "Told.parts" (ai bf) (ah bf) (ae bf) .none kV_d dc_d pm_d an_d cd_d ct_d),sl_d⟩) (mo_d:codeIn K cd_d "Told.parts" = true) (mk_d:keepIn K (.ref x_C)=true) (mi_d:isFn K (.ref x_C)=true)
  (mf_5:findIn K (.ref c_g) "parts" = some (some (.ref x_F)))
  (ml_5:K.lookup x_F=some ⟨oc_5,od_5,.func (fnOf "parts" "Die.parts" (ai bj) (ah bj) (ae bj) .none kV_5 dc_5 pm_5 an_5 cd_5 ct_5),sl_5⟩) (mo_5:codeIn K cd_5 "Die.parts" = true) (mk_5:keepIn K (.ref x_F)=true) (mi_5:isFn K (.ref x_F)=true)
  (mf_1:findIn K (.ref c_g) "after" = some (some (.ref x_u)))
  (ml_1:K.lookup x_u=some ⟨oc_1,od_1,.func (fnOf "after" "Die.after" (ai bC) (ah bC) (ae bC) .none kV_1 dc_1 pm_1 an_1 cd_1 ct_1),sl_1⟩) (mo_1:codeIn K cd_1 "Die.after" = true) (mk_1:keepIn K (.ref x_u)=true) (mi_1:isFn K (.ref x_u)=true)
  (mf_2:findIn K (.ref c_g) "carried" = some (some (.ref x_w)))
  (ml_2:K.lookup x_w=some ⟨oc_2,od_2,.func (fnOf "carried" "Die.carried" (ai aY) (ah aY) (ae aY) .none kV_2 dc_2 pm_2 an_2 cd_2 ct_2),sl_2⟩) (mo_2:codeIn K cd_2 "Die.carried" = true) (mk_2:keepIn K (.ref x_w)=true) (mi_2:isFn K (.ref x_w)=true)
  (lca_7:cd30=.ref lc_J) (lct_7:K.lookup lc_J=some ⟨lo_7,lod_7,.fields lvs_7,lsl_7⟩) (lcq_7:lvs_7[11]? = some (.ref lp_J)) (lch_J:codeHdIn K lc_J lp_J=true)
  (lca_8:cd19=.ref lc_s) (lct_8:K.lookup lc_s=some ⟨lo_8,lod_8,.fields lvs_8,lsl_8⟩) (lcq_8:lvs_8[11]? = some (.ref lp_s)) (lch_s:codeHdIn K lc_s lp_s=true)
  (lca_11:cd5=.ref lc_b) (lct_11:K.lookup lc_b=some ⟨lo_11,lod_11,.fields lvs_11,lsl_11⟩) (lcq_11:lvs_11[11]? = some (.ref lp_b)) (lch_b:codeHdIn K lc_b lp_b=true)
  (lca_12:cd10=.ref lc_p) (lct_12:K.lookup lc_p=some ⟨lo_12,lod_12,.fields lvs_12,lsl_12⟩) (lcq_12:lvs_12[11]? = some (.ref lp_p)) (lch_p:codeHdIn K lc_p lp_p=true)
  (lca_10:cd9=.ref lc_H) (lct_10:K.lookup lc_H=some ⟨lo_10,lod_10,.fields lvs_10,lsl_10⟩) (lcq_10:lvs_10[11]? = some (.ref lp_H)) (lch_H:codeHdIn K lc_H lp_H=true)
  (lca_f:cd8=.ref lc_i) (lct_f:K.lookup lc_i=some ⟨lo_f,lod_f,.fields lvs_f,lsl_f⟩) (lcq_f:lvs_f[11]? = some (.ref lp_i)) (lch_i:codeHdIn K lc_i lp_i=true)
  (ltnd:([lp_J,lp_s,lp_b,lp_p,lp_H,lp_i]:List Addr).Nodup)
  (z0:nsIn K mainGlobals "abs" = some none)
  (z1:nsIn K mainGlobals "bool" = some none)
  (z2:nsIn K mainGlobals "enumerate" = some none)
  (z3:nsIn K mainGlobals "int" = some none)
  (z4:nsIn K mainGlobals "isinstance" = some none)
  (z5:nsIn K mainGlobals "len" = some none)
  (z6:nsIn K mainGlobals "list" = some none)
  (z7:nsIn K mainGlobals "range" = some none)
  (z8:nsIn K mainGlobals "sorted" = some none)
  (z9:nsIn K mainGlobals "sum" = some none)
  (z10:nsIn K mainGlobals "tuple" = some none) (r0:RelV (.int 4096) u0):∃ a:Ad,Txt K mg a/\(tabs a).map (·.1)=[lp_J,lp_s,lp_b,lp_p,lp_H,lp_i]:=by
 refine⟨{ f_h:=f0,d_h:=fnOf "greatest_divisor" "greatest_divisor" (ai aE) (ah aE) (ae aE) .none kV0 dc0 pm0 an0 cd0 ct0,f_l:=f1,d_l:=fnOf "least_multiple" "least_multiple" (ai aN) (ah aN) (ae aN) .none kV1 dc1 pm1 an1 cd1 ct1,f_R:=f2,d_R:=fnOf "share" "share" (ai dk) (ah dk) (ae dk) .none kV2 dc2 pm2 an2 cd2 ct2,f_W:=f3,d_W:=fnOf "total" "total" (ai dl) (ah dl) (ae dl) .none kV3 dc3 pm3 an3 cd3 ct3,f_N:=f4,d_N:=fnOf "is_whole" "is_whole" (ai bI) (ah bI) (ae bI) .none kV4 dc4 pm4 an4 cd4 ct4,f_b:=f5,d_b:=fnOf "carried_make" "carried_make" (ai aP) (ah aP) (ae aP) .none kV5 dc5 pm5 an5 cd5 ct5,f_o:=f6,d_o:=fnOf "can_be_thrown" "can_be_thrown" (ai aR) (ah aR) (ae aR) .none kV6 dc6 pm6 an6 cd6 ct6,f_U:=f7,d_U:=fnOf "drawn" "drawn" (ai dj) (ah dj) (ae dj) .none kV7 dc7 pm7 an7 cd7 ct7,f_i:=f8,d_i:=fnOf "behind" "behind" (ai bZ) (ah bZ) (ae bZ) .none kV8 dc8 pm8 an8 cd8 ct8,f_H:=f9,d_H:=fnOf "both" "both" (ai dZ) (ah dZ) (ae dZ) .none kV9 dc9 pm9 an9 cd9 ct9,f_p:=f10,d_p:=fnOf "joined" "joined" (ai ce) (ah ce) (ae ce) .none kV10 dc10 pm10 an10 cd10 ct10,f_K:=f11,d_K:=fnOf "ways_of" "ways_of" (ai bR) (ah bR) (ae bR) .none kV11 dc11 pm11 an11 cd11 ct11,f_S:=f12,d_S:=fnOf "table" "table" (ai dA) (ah dA) (ae dA) .none kV12 dc12 pm12 an12 cd12 ct12,f_M:=f13,d_M:=fnOf "_law_cell" "_law_cell" (ai cL) (ah cL) (ae cL) .none kV13 dc13 pm13 an13 cd13 ct13,f_V:=f14,d_V:=fnOf "_law_mix" "_law_mix" (ai dC) (ah dC) (ae dC) .none kV14 dc14 pm14 an14 cd14 ct14,f_x:=f15,d_x:=fnOf "_law_digits" "_law_digits" (ai bK) (ah bK) (ae bK) .none kV15 dc15 pm15 an15 cd15 ct15,f_q:=f16,d_q:=fnOf "_law_take" "_law_take" (ai cF) (ah cF) (ae cF) .none kV16 dc16 pm16 an16 cd16 ct16,f_Q:=f17,d_Q:=fnOf "_law_kept" "_law_kept" (ai cJ) (ah cJ) (ae cJ) .none kV17 dc17 pm17 an17 cd17 ct17,f_G:=f18,d_G:=fnOf "_law_tree" "_law_tree" (ai cG) (ah cG) (ae cG) .none kV18 dc18 pm18 an18 cd18 ct18,f_s:=f19,d_s:=fnOf "_law_make" "_law_make" (ai cf) (ah cf) (ae cf) .none kV19 dc19 pm19 an19 cd19 ct19,f_D:=f20,d_D:=fnOf "_law_node" "_law_node" (ai cK) (ah cK) (ae cK) .none kV20 dc20 pm20 an20 cd20 ct20,f_I:=f21,d_I:=fnOf "_law_divisor" "_law_divisor" (ai bv) (ah bv) (ae bv) .none kV21 dc21 pm21 an21 cd21 ct21,f_y:=f22,d_y:=fnOf "_law_lowest" "_law_lowest" (ai bJ) (ah bJ) (ae bJ) .none kV22 dc22 pm22 an22 cd22 ct22,f_X:=f23,d_X:=fnOf "_law_sum" "_law_sum" (ai du) (ah du) (ae du) .none kV23 dc23 pm23 an23 cd23 ct23,f_E:=f24,d_E:=fnOf "_law_product" "_law_product" (ai bx) (ah bx) (ae bx) .none kV24 dc24 pm24 an24 cd24 ct24,f_B:=f25,d_B:=fnOf "_law_walk" "_law_walk" (ai cI) (ah cI) (ae cI) .none kV25 dc25 pm25 an25 cd25 ct25,f_n:=f26,d_n:=fnOf "_law_doubled" "_law_doubled" (ai bu) (ah bu) (ae bu) .none kV26 dc26 pm26 an26 cd26 ct26,f_P:=f27,d_P:=fnOf "_law_way" "_law_way" (ai dz) (ah dz) (ae dz) .none kV27 dc27 pm27 an27 cd27 ct27,f_O:=f28,d_O:=fnOf "_law_both" "_law_both" (ai cE) (ah cE) (ae cE) .none kV28 dc28 pm28 an28 cd28 ct28,f_t:=f29,d_t:=fnOf "_law_gone_on" "_law_gone_on" (ai bF) (ah bF) (ae bF) .none kV29 dc29 pm29 an29 cd29 ct29,f_J:=f30,d_J:=fnOf "_law_go" "_law_go" (ai ee) (ah ee) (ae ee) .none kV30 dc30 pm30 an30 cd30 ct30,f_Y:=f31,d_Y:=fnOf "law" "law" (ai gN) (ah gN) (ae gN) .none kV31 dc31 pm31 an31 cd31 ct31,c_L:=c_L,c_a:=c_a,i_a:=i_a,e_a:=fnOf "__init__" "NoThrow.__init__" (ai aF) (ah aF) (ae aF) .none kV_9 dc_9 pm_9 an_9 cd_9 ct_9,c_z:=c_z,c_T:=c_T,c_f:=c_f,i_f:=i_f,e_f:=fnOf "__init__" "Told.__init__" (ai aQ) (ah aQ) (ae aQ) .none kV_a dc_a pm_a an_a cd_a ct_a,c_g:=c_g,i_g:=i_g,e_g:=fnOf "__init__" "Die.__init__" (ai aT) (ah aT) (ae aT) .none kV_0 dc_0 pm_0 an_0 cd_0 ct_0,x_j:=x_j,y_j:=fnOf "is_told" "Told.is_told" (ai aV) (ah aV) (ae aV) .none kV_b dc_b pm_b an_b cd_b ct_b,x_k:=x_k,y_k:=fnOf "is_told" "Die.is_told" (ai aZ) (ah aZ) (ae aZ) .none kV_3 dc_3 pm_3 an_3 cd_3 ct_3,x_m:=x_m,y_m:=fnOf "kept" "Told.kept" (ai bD) (ah bD) (ae bD) .none kV_c dc_c pm_c an_c cd_c ct_c,x_r:=x_r,y_r:=fnOf "kept" "Die.kept" (ai bM) (ah bM) (ae bM) .none kV_4 dc_4 pm_4 an_4 cd_4 ct_4,x_v:=x_v,y_v:=fnOf "sides" "Told.sides" (ai bh) (ah bh) (ae bh) .none kV_e dc_e pm_e an_e cd_e ct_e,x_A:=x_A,y_A:=fnOf "sides" "Die.sides" (ai bE) (ah bE) (ae bE) .none kV_6 dc_6 pm_6 an_6 cd_6 ct_6,x_C:=x_C,y_C:=fnOf "parts" "Told.parts" (ai bf) (ah bf) (ae bf) .none kV_d dc_d pm_d an_d cd_d ct_d,x_F:=x_F,y_F:=fnOf "parts" "Die.parts" (ai bj) (ah bj) (ae bj) .none kV_5 dc_5 pm_5 an_5 cd_5 ct_5,x_u:=x_u,y_u:=fnOf "after" "Die.after" (ai bC) (ah bC) (ae bC) .none kV_1 dc_1 pm_1 an_1 cd_1 ct_1,x_w:=x_w,y_w:=fnOf "carried" "Die.carried" (ai aY) (ah aY) (ae aY) .none kV_2 dc_2 pm_2 an_2 cd_2 ct_2,lc_J:=lc_J,lp_J:=lp_J,lc_s:=lc_s,lp_s:=lp_s,lc_b:=lc_b,lp_b:=lp_b,lc_p:=lc_p,lp_p:=lp_p,lc_H:=lc_H,lp_H:=lp_H,lc_i:=lc_i,lp_i:=lp_i },?_,rfl⟩
 exact {
  lcd_J:=lca_7
  lch_J:=lch_J
  lcd_s:=lca_8
  lch_s:=lch_s
  lcd_b:=lca_11
  lch_b:=lch_b
  lcd_p:=lca_12
  lch_p:=lch_p
  lcd_H:=lca_10
  lch_H:=lch_H
  lcd_i:=lca_f
  lch_i:=lch_i
  tnd:=ltnd
  F_h:=ao l0 c0 k0
  B_h:=(ao l0 c0 k0).binds (ps:=["one","other"]) λ_ _ _ _ _ _ us hl=>(by obtain⟨_,_,rfl⟩:=us2 hl;rfl)
  m_h:=mg_of X G a0
  F_l:=ao l1 c1 k1
  B_l:=(ao l1 c1 k1).binds (ps:=["numbers"]) λ_ _ _ _ _ _ us hl=>(by obtain⟨_,rfl⟩:=us1 hl;rfl)
  m_l:=mg_of X G a1
  F_R:=ao l2 c2 k2
  B_R:=(ao l2 c2 k2).binds (ps:=["top","bottom"]) λ_ _ _ _ _ _ us hl=>(by obtain⟨_,_,rfl⟩:=us2 hl;rfl)
  m_R:=mg_of X G a2
  F_W:=ao l3 c3 k3
  B_W:=(ao l3 c3 k3).binds (ps:=["fractions"]) λ_ _ _ _ _ _ us hl=>(by obtain⟨_,rfl⟩:=us1 hl;rfl)
  m_W:=mg_of X G a3
  F_N:=ao l4 c4 k4
  B_N:=(ao l4 c4 k4).binds (ps:=["thing","low","high"]) λ_ _ _ _ _ _ us hl=>(by obtain⟨_,_,_,rfl⟩:=us3 hl;rfl)
  m_N:=mg_of X G a4
  F_b:=ao l5 c5 k5
  B_b:=(ao l5 c5 k5).binds (ps:=["make","carry"]) λ_ _ _ _ _ _ us hl=>(by obtain⟨_,_,rfl⟩:=us2 hl;rfl)
  m_b:=mg_of X G a5
  F_o:=ao l6 c6 k6
  B_o:=(ao l6 c6 k6).binds (ps:=["node","throw"]) λ_ _ _ _ _ _ us hl=>(by obtain⟨_,_,rfl⟩:=us2 hl;rfl)
  m_o:=mg_of X G a6
  F_U:=ao l7 c7 k7
  B_U:=(ao l7 c7 k7).binds (ps:=["node","throws"]) λ_ _ _ _ _ _ us hl=>(by obtain⟨_,_,rfl⟩:=us2 hl;rfl)
  m_U:=mg_of X G a7
  F_i:=ao l8 c8 k8
  B_i:=(ao l8 c8 k8).binds (ps:=["node","go"]) λ_ _ _ _ _ _ us hl=>(by obtain⟨_,_,rfl⟩:=us2 hl;rfl)
  m_i:=mg_of X G a8
  F_H:=ao l9 c9 k9
  B_H:=(ao l9 c9 k9).binds (ps:=["one","other"]) λ_ _ _ _ _ _ us hl=>(by obtain⟨_,_,rfl⟩:=us2 hl;rfl)
  m_H:=mg_of X G a9
  F_p:=ao l10 c10 k10
  B_p:=(ao l10 c10 k10).binds (ps:=["kept","node"]) λ_ _ _ _ _ _ us hl=>(by obtain⟨_,_,rfl⟩:=us2 hl;rfl)
  m_p:=mg_of X G a10
  F_K:=ao l11 c11 k11
  B_K:=(ao l11 c11 k11).binds (ps:=["node"]) λ_ _ _ _ _ _ us hl=>(by obtain⟨_,rfl⟩:=us1 hl;rfl)
  m_K:=mg_of X G a11
  F_S:=ao l12 c12 k12
  B_S:=(ao l12 c12 k12).binds (ps:=["node"]) λ_ _ _ _ _ _ us hl=>(by obtain⟨_,rfl⟩:=us1 hl;rfl)
  m_S:=mg_of X G a12
  F_M:=ao l13 c13 k13
  B_M:=(ao l13 c13 k13).binds (ps:=["_law_script","_law_k"]) λ_ _ _ _ _ _ us hl=>(by obtain⟨_,_,rfl⟩:=us2 hl;rfl)
  m_M:=mg_of X G a13
  F_V:=ao l14 c14 k14
  B_V:=(ao l14 c14 k14).binds (ps:=["_law_cell_here","_law_k"]) λ_ _ _ _ _ _ us hl=>(by obtain⟨_,_,rfl⟩:=us2 hl;rfl)
  m_V:=mg_of X G a14
  F_x:=ao l15 c15 k15
  B_x:=(ao l15 c15 k15).binds (ps:=["_law_cell_here"]) λ_ _ _ _ _ _ us hl=>(by obtain⟨_,rfl⟩:=us1 hl;rfl)
  m_x:=mg_of X G a15
  F_q:=ao l16 c16 k16
  B_q:=(ao l16 c16 k16).binds (ps:=["_law_state","_law_many"]) λ_ _ _ _ _ _ us hl=>(by obtain⟨_,_,rfl⟩:=us2 hl;rfl)
  m_q:=mg_of X G a16
  F_Q:=ao l17 c17 k17
  B_Q:=(ao l17 c17 k17).binds (ps:=["_law_state"]) λ_ _ _ _ _ _ us hl=>(by obtain⟨_,rfl⟩:=us1 hl;rfl)
  m_Q:=mg_of X G a17
  F_G:=ao l18 c18 k18
  B_G:=(ao l18 c18 k18).binds (ps:=["_law_state","_law_deep"]) λ_ _ _ _ _ _ us hl=>(by obtain⟨_,_,rfl⟩:=us2 hl;rfl)
  m_G:=mg_of X G a18
  F_s:=ao l19 c19 k19
  B_s:=(ao l19 c19 k19).binds (ps:=["_law_tree_here"]) λ_ _ _ _ _ _ us hl=>(by obtain⟨_,rfl⟩:=us1 hl;rfl)
  m_s:=mg_of X G a19
  F_D:=ao l20 c20 k20
  B_D:=(ao l20 c20 k20).binds (ps:=["_law_tree_here"]) λ_ _ _ _ _ _ us hl=>(by obtain⟨_,rfl⟩:=us1 hl;rfl)
  m_D:=mg_of X G a20
  F_I:=ao l21 c21 k21
  B_I:=(ao l21 c21 k21).binds (ps:=["_law_one","_law_other"]) λ_ _ _ _ _ _ us hl=>(by obtain⟨_,_,rfl⟩:=us2 hl;rfl)
  m_I:=mg_of X G a21
  F_y:=ao l22 c22 k22
  B_y:=(ao l22 c22 k22).binds (ps:=["_law_top","_law_bottom"]) λ_ _ _ _ _ _ us hl=>(by obtain⟨_,_,rfl⟩:=us2 hl;rfl)
  m_y:=mg_of X G a22
  F_X:=ao l23 c23 k23
  B_X:=(ao l23 c23 k23).binds (ps:=["_law_one","_law_other"]) λ_ _ _ _ _ _ us hl=>(by obtain⟨_,_,rfl⟩:=us2 hl;rfl)
  m_X:=mg_of X G a23
  F_E:=ao l24 c24 k24
  B_E:=(ao l24 c24 k24).binds (ps:=["_law_one","_law_other"]) λ_ _ _ _ _ _ us hl=>(by obtain⟨_,_,rfl⟩:=us2 hl;rfl)
  m_E:=mg_of X G a24
  F_B:=ao l25 c25 k25
  B_B:=(ao l25 c25 k25).binds (ps:=["_law_tree_here","_law_much","_law_found"]) λ_ _ _ _ _ _ us hl=>(by obtain⟨_,_,_,rfl⟩:=us3 hl;rfl)
  m_B:=mg_of X G a25
  F_n:=ao l26 c26 k26
  B_n:=(ao l26 c26 k26).binds (ps:=["_law_tree_here","_law_odd"]) λ_ _ _ _ _ _ us hl=>(by obtain⟨_,_,rfl⟩:=us2 hl;rfl)
  m_n:=mg_of X G a26
  F_P:=ao l27 c27 k27
  B_P:=(ao l27 c27 k27).binds (ps:=["_law_tree_here","_law_state"]) λ_ _ _ _ _ _ us hl=>(by obtain⟨_,_,rfl⟩:=us2 hl;rfl)
  m_P:=mg_of X G a27
  F_O:=ao l28 c28 k28
  B_O:=(ao l28 c28 k28).binds (ps:=["_law_one","_law_other"]) λ_ _ _ _ _ _ us hl=>(by obtain⟨_,_,rfl⟩:=us2 hl;rfl)
  m_O:=mg_of X G a28
  F_t:=ao l29 c29 k29
  B_t:=(ao l29 c29 k29).binds (ps:=["_law_tree_here","_law_sides"]) λ_ _ _ _ _ _ us hl=>(by obtain⟨_,_,rfl⟩:=us2 hl;rfl)
  m_t:=mg_of X G a29
  F_J:=ao l30 c30 k30
  B_J:=(ao l30 c30 k30).binds (ps:=["_law_sides"]) λ_ _ _ _ _ _ us hl=>(by obtain⟨_,rfl⟩:=us1 hl;rfl)
  m_J:=mg_of X G a30
  F_Y:=ao l31 c31 k31
  m_Y:=mg_of X G a31
  F_j:=ao ml_b mo_b mk_b
  B_j:=(ao ml_b mo_b mk_b).binds (ps:=["self"]) λ_ _ _ _ _ _ us hl=>(by obtain⟨_,rfl⟩:=us1 hl;rfl)
  F_k:=ao ml_3 mo_3 mk_3
  B_k:=(ao ml_3 mo_3 mk_3).binds (ps:=["self"]) λ_ _ _ _ _ _ us hl=>(by obtain⟨_,rfl⟩:=us1 hl;rfl)
  F_m:=ao ml_c mo_c mk_c
  B_m:=(ao ml_c mo_c mk_c).binds (ps:=["self"]) λ_ _ _ _ _ _ us hl=>(by obtain⟨_,rfl⟩:=us1 hl;rfl)
  F_r:=ao ml_4 mo_4 mk_4
  B_r:=(ao ml_4 mo_4 mk_4).binds (ps:=["self"]) λ_ _ _ _ _ _ us hl=>(by obtain⟨_,rfl⟩:=us1 hl;rfl)
  F_v:=ao ml_e mo_e mk_e
  B_v:=(ao ml_e mo_e mk_e).binds (ps:=["self"]) λ_ _ _ _ _ _ us hl=>(by obtain⟨_,rfl⟩:=us1 hl;rfl)
  F_A:=ao ml_6 mo_6 mk_6
  B_A:=(ao ml_6 mo_6 mk_6).binds (ps:=["self"]) λ_ _ _ _ _ _ us hl=>(by obtain⟨_,rfl⟩:=us1 hl;rfl)
  F_C:=ao ml_d mo_d mk_d
  B_C:=(ao ml_d mo_d mk_d).binds (ps:=["self"]) λ_ _ _ _ _ _ us hl=>(by obtain⟨_,rfl⟩:=us1 hl;rfl)
  F_F:=ao ml_5 mo_5 mk_5
  B_F:=(ao ml_5 mo_5 mk_5).binds (ps:=["self"]) λ_ _ _ _ _ _ us hl=>(by obtain⟨_,rfl⟩:=us1 hl;rfl)
  F_u:=ao ml_1 mo_1 mk_1
  B_u:=(ao ml_1 mo_1 mk_1).binds (ps:=["self","throw"]) λ_ _ _ _ _ _ us hl=>(by obtain⟨_,_,rfl⟩:=us2 hl;rfl)
  F_w:=ao ml_2 mo_2 mk_2
  B_w:=(ao ml_2 mo_2 mk_2).binds (ps:=["self","carry"]) λ_ _ _ _ _ _ us hl=>(by obtain⟨_,_,rfl⟩:=us2 hl;rfl)
  mt_j:=⟨mf_b,mi_b,mk_b⟩
  mt_k:=⟨mf_3,mi_3,mk_3⟩
  mt_m:=⟨mf_c,mi_c,mk_c⟩
  mt_r:=⟨mf_4,mi_4,mk_4⟩
  mt_v:=⟨mf_e,mi_e,mk_e⟩
  mt_A:=⟨mf_6,mi_6,mk_6⟩
  mt_C:=⟨mf_d,mi_d,mk_d⟩
  mt_F:=⟨mf_5,mi_5,mk_5⟩
  mt_u:=⟨mf_1,mi_1,mk_1⟩
  mt_w:=⟨mf_2,mi_2,mk_2⟩
  mc_f:=mg_of X G ca_f
  cl_f:=⟨pa_f,pb_f,pc_f,pd_f⟩
  mk_f:=⟨qa_f,qb_f,qc_f,qd_f⟩
  na_Told_rising:=qn_Told_rising
  Fi_f:=ao cl_f co_f ck_f
  Bi_f:=(ao cl_f co_f ck_f).binds (ps:=["self","kept"]) λ_ _ _ _ _ _ us hl=>(by obtain⟨_,_,rfl⟩:=us2 hl;rfl)
  mc_g:=mg_of X G ca_g
  cl_g:=⟨pa_g,pb_g,pc_g,pd_g⟩
  mk_g:=⟨qa_g,qb_g,qc_g,qd_g⟩
  na_Die_makes:=qn_Die_makes
  Fi_g:=ao cl_g co_g ck_g
  Bi_g:=(ao cl_g co_g ck_g).binds (ps:=["self","parts"]) λ_ _ _ _ _ _ us hl=>(by obtain⟨_,_,rfl⟩:=us2 hl;rfl)
  g_MOST_WAYS:=⟨u0,mg_of X G b0,r0⟩
  mc_a:=mg_of X G ca_a
  kc_NoThrow:=cb_a
  xc_a:=xP cc_a
  xh_a:=xQ cc_a
  xi_NoThrow:=cx_a
  fn_NoThrow:=cg_a
  Fi_a:=ao cl_a co_a ck_a
  Bi_a:=(ao cl_a co_a ck_a).binds (ps:=["self","place"]) λ_ _ _ _ _ _ us hl=>(by obtain⟨_,_,rfl⟩:=us2 hl;rfl)
  sx_NoThrow_place:=Ag cs_NoThrow_place
  mc_z:=mg_of X G ca_z
  kc_TooMany:=cb_z
  xc_z:=xP cc_z
  xh_z:=xQ cc_z
  xi_TooMany:=cx_z
  z_abs:=mg_none_of X G z0
  z_bool:=mg_none_of X G z1
  z_enumerate:=mg_none_of X G z2
  z_int:=mg_none_of X G z3
  z_isinstance:=mg_none_of X G z4
  z_len:=mg_none_of X G z5
  z_list:=mg_none_of X G z6
  z_range:=mg_none_of X G z7
  z_sorted:=mg_none_of X G z8
  z_sum:=mg_none_of X G z9
  z_tuple:=mg_none_of X G z10
  bl:=λs u=>.of_eq rfl }
end My
open PySem PySem.W PyProof.Rows
namespace PySem.W.Fast
def tw10191706357428840450:=0
def tw14660299607524841987:=0
def tw6615244543820562918:=0
def tw15405425326937844199:=0
def tw13412187135426119656:=0
def tw4279408563017542249:=0
def tw18378781389930991659:=0
def tw7640538422582897707:=0
def tw952069778177804624:=0
def tw15684322081593938321:=0
def tw3218516162580295410:=0
def tw12252036936492597106:=0
def tw1836507978620210743:=0
def tw10274094170358308392:=0
def tw10323968590976745064:=0
def tw10336403162472718625:=0
def tw10341165921663951900:=0
def tw1034250270949914742:=0
def tw10413005002570546917:=0
def tw10467668757388327337:=0
def tw10556543626885556077:=0
def tw10753352297588704486:=0
def tw10949368191396295660:=0
def tw11019839984925308593:=0
def tw11122517631373130299:=0
def tw11229651177595972453:=0
def tw11255658791648442202:=0
def tw11292788961213908012:=0
def tw11302888385568030027:=0
def tw11311598046225354092:=0
def tw11371436709743318072:=0
def tw11435533579620988856:=0
def tw11445888190741262626:=0
def tw11469230059118432279:=0
def tw11561381047842280514:=0
def tw1160818049518811887:=0
def tw11615830254736732637:=0
def tw1166009512410709508:=0
def tw11705218382332003531:=0
def tw1172800030288146086:=0
def tw11784882292372893700:=0
def tw1185962946272517066:=0
def tw11895386831890949518:=0
def tw11951939105715055200:=0
def tw12071115645921554901:=0
def tw12139165743058535068:=0
def tw12189204840848864444:=0
def tw12192724900104229822:=0
def tw12222572984188928758:=0
def tw12338272368046750596:=0
def tw1238657954425575965:=0
def tw12392447204239474384:=0
def tw12486135997971468193:=0
def tw12620435873407782420:=0
def tw1262695726442126282:=0
def tw12692169671994489118:=0
def tw12696510857655659032:=0
def tw12705609880564890284:=0
def tw12764761149637272823:=0
def tw12775732127775231406:=0
def tw12776976477785836321:=0
def tw12867009828856034820:=0
def tw12919503154204186757:=0
def tw1295064634306205413:=0
def tw13056622622248025562:=0
def tw1320747001832342284:=0
def tw13230896514424132698:=0
def tw1330897069244903398:=0
def tw13342548762383936679:=0
def tw13352077035755849479:=0
def tw13390794761114994818:=0
def tw13427910641918835036:=0
def tw13557584377179139400:=0
def tw13655870614862846552:=0
def tw1369004199800094935:=0
def tw13737044033978051805:=0
def tw13810503091190954701:=0
def tw13851067256740663757:=0
def tw13866426031212640657:=0
def tw13905293152522172036:=0
def tw13966472755679979618:=0
def tw14067546407298999315:=0
def tw14076829077024926538:=0
def tw14079946584706545535:=0
def tw1409663831293557277:=0
def tw14204127033209427656:=0
def tw14318615466708783883:=0
def tw14362490337299003558:=0
def tw1438143633239741077:=0
def tw14390366361124496639:=0
def tw14421761037543102559:=0
def tw14463223253464980505:=0
def tw14473169621702337988:=0
def tw14476826967105568649:=0
def tw14480503378865740148:=0
def tw14537673765018674433:=0
def tw14554457855967379205:=0
def tw14608850777756799011:=0
def tw14615818958195847499:=0
def tw14694014961761560134:=0
def tw14728312354176797735:=0
def tw14750196391649936148:=0
def tw14812329404796821809:=0
def tw14842598591064946897:=0
def tw1497383620044027384:=0
def tw15001049020925751544:=0
def tw15035429857294523659:=0
def tw15090996964722898258:=0
def tw15100136681357833022:=0
def tw1515545468638831301:=0
def tw15201528427355744533:=0
def tw15277633021632642182:=0
def tw15352320297960702926:=0
def tw15412596801090043044:=0
def tw15464351769829668235:=0
def tw15466721573085656518:=0
def tw15584996078386395098:=0
def tw15588195247552333563:=0
def tw15608114749533709736:=0
def tw15616833760667792121:=0
def tw15637177361719058386:=0
def tw1566846950772994303:=0
def tw15707871748187305035:=0
def tw15734286705103379026:=0
def tw15761979834824183348:=0
def tw15847819553597605158:=0
def tw15871293469031874592:=0
def tw15871667639437548295:=0
def tw15876765048825689484:=0
def tw15885716699510009569:=0
def tw15919536772055106866:=0
def tw15957920816866063217:=0
def tw16011423645010788171:=0
def tw1605313296518383780:=0
def tw16076577490933839513:=0
def tw16092193969226288751:=0
def tw1609270908652840595:=0
def tw16237941622797149853:=0
def tw16366908428418912980:=0
def tw16377163416085771789:=0
def tw16380526180486732285:=0
def tw16457283664579442845:=0
def tw16525048256323939332:=0
def tw16643947071200934808:=0
def tw16686499413298907261:=0
def tw16760513707809586414:=0
def tw16776191524283286544:=0
def tw16830254006445397632:=0
def tw16835938656269501044:=0
def tw17008922393211220960:=0
def tw17185523327419561293:=0
def tw17259782274410107134:=0
def tw1730063887016996902:=0
def tw17339752521901289232:=0
def tw17356010882744659643:=0
def tw17544793524525386613:=0
def tw17548548131322790376:=0
def tw17550023617966381852:=0
def tw1755275898540529647:=0
def tw17588167264319441975:=0
def tw17605517308899582431:=0
def tw17831693442946086730:=0
def tw1786606178416526705:=0
def tw17879901569375496988:=0
def tw17910647363818692477:=0
def tw17982269436607176490:=0
def tw18009653860690146002:=0
def tw18022521441171946767:=0
def tw18094188582807599121:=0
def tw1810340744746989718:=0
def tw18126235814262611027:=0
def tw18201884033902959229:=0
def tw1822371440599533195:=0
def tw18249611350113764940:=0
def tw18391147201787369015:=0
def tw18392989302462487598:=0
def tw18398200958754730533:=0
def tw18427439705913573961:=0
def tw1851828910192937867:=0
def tw186482648023009852:=0
def tw1905150767504468165:=0
def tw2052188529850742159:=0
def tw206545200701214018:=0
def tw2083383699481495450:=0
def tw2111270388808563300:=0
def tw211908853688281237:=0
def tw2133715143619992339:=0
def tw2172052459786587907:=0
def tw2196333915702040609:=0
def tw2246685816821749890:=0
def tw2319160679185394281:=0
def tw2414037204174322286:=0
def tw2452815248365231397:=0
def tw2470029838749136426:=0
def tw2504742704249399266:=0
def tw2510249222659837949:=0
def tw2516665908470519907:=0
def tw255926852749712276:=0
def tw2573975439980023194:=0
def tw2659814087512964707:=0
def tw2699610057566131182:=0
def tw2717599530715168163:=0
def tw2754420248895885143:=0
def tw2810421849349842646:=0
def tw283880583441755284:=0
def tw2848929093487688968:=0
def tw2902270862603832357:=0
def tw2919882986514612657:=0
def tw2943017991604695206:=0
def tw2985059601820060579:=0
def tw3001179413915515837:=0
def tw3025023176498071612:=0
def tw3044083964258707008:=0
def tw312918346759489621:=0
def tw3161749088963249692:=0
def tw3176169262844466540:=0
def tw3176279059626475904:=0
def tw3229606804042813696:=0
def tw3304783628933503080:=0
def tw3343634884784491426:=0
def tw3368041429664054735:=0
def tw3372509641885732024:=0
def tw342490186591286564:=0
def tw3470273506157239580:=0
def tw3701622987031730080:=0
def tw3741106061390084782:=0
def tw3752059901331511517:=0
def tw3775119708173488182:=0
def tw3783945813071139037:=0
def tw3814113859082462387:=0
def tw3829791927729856990:=0
def tw387660254716235893:=0
def tw3974616344849078161:=0
def tw3978109113876794523:=0
def tw3987114387117142171:=0
def tw4233526891105386684:=0
def tw4249007190504009175:=0
def tw4252810042473153018:=0
def tw4256547102794540981:=0
def tw4356892799328822269:=0
def tw4391263440017393894:=0
def tw4450882748379191223:=0
def tw4498141373429733541:=0
def tw4715382493044984493:=0
def tw4801162712257314627:=0
def tw4875055168201077972:=0
def tw5039939110854908027:=0
def tw515219644503882509:=0
def tw5169814931257686947:=0
def tw5177857601763214946:=0
def tw5217103888296687536:=0
def tw52360089799370557:=0
def tw5255812631602711958:=0
def tw5262512080302910910:=0
def tw5298943428511751101:=0
def tw5305681339453404561:=0
def tw5312261426869433870:=0
def tw547237306421660939:=0
def tw5494854155791630538:=0
def tw5511023546992423258:=0
def tw5531272973356152122:=0
def tw5589155591293784272:=0
def tw5615834668371105150:=0
def tw5663552006299807104:=0
def tw5720880092061521100:=0
def tw5721938186352987496:=0
def tw5800511347955661999:=0
def tw5838048121875466655:=0
def tw5960386917296660144:=0
def tw6071446332990078344:=0
def tw6071766535559691951:=0
def tw608913726810601851:=0
def tw6107950236050706979:=0
def tw6141825904795161056:=0
def tw6207632498830538684:=0
def tw6217026409072194429:=0
def tw6297231813326418388:=0
def tw6299899574028211078:=0
def tw63192197778328373:=0
def tw637086459700226648:=0
def tw638255536854369057:=0
def tw6387561538845211086:=0
def tw6428087898880283247:=0
def tw6485231077511471976:=0
def tw6508956070188770374:=0
def tw6767334179624589227:=0
def tw6787495705479146031:=0
def tw6798324226213121112:=0
def tw6877478191767170344:=0
def tw6988885260919033931:=0
def tw7005014787658271130:=0
def tw7084918449474588871:=0
def tw7109487137529377026:=0
def tw7145309241346250355:=0
def tw7262832769568664121:=0
def tw7416403340922160992:=0
def tw7471051409790037169:=0
def tw7532863878940126557:=0
def tw7613354525140598923:=0
def tw764400515966329087:=0
def tw7658885960047789615:=0
def tw7666578176466567249:=0
def tw7691374519799196798:=0
def tw7728957814024709277:=0
def tw7758826064290808774:=0
def tw7803648617412890079:=0
def tw7826016587441353813:=0
def tw7833311606738538538:=0
def tw7859159975480726295:=0
def tw8006117331763511846:=0
def tw8023800156048021045:=0
def tw806978261443829951:=0
def tw816672709395972267:=0
def tw8211981921311118508:=0
def tw8243048036963124831:=0
def tw8264726957561572810:=0
def tw8265378801941016326:=0
def tw8369446937977888193:=0
def tw8444778985219973119:=0
def tw8476225376620817679:=0
def tw8506442178692181451:=0
def tw8517056068149538038:=0
def tw8575701543046289032:=0
def tw8600837965955382181:=0
def tw8659973931178843689:=0
def tw8756115370528261988:=0
def tw8756147152192283645:=0
def tw8783843577415314252:=0
def tw8784804634862099511:=0
def tw8849448446852179741:=0
def tw8861132122962886405:=0
def tw8872566307247665480:=0
def tw8876112011991258884:=0
def tw8910909243993550531:=0
def tw8949380781119117589:=0
def tw9022292441340262814:=0
def tw9027400846240941656:=0
def tw9038910084351364748:=0
def tw9040605448130848936:=0
def tw9046986097537222253:=0
def tw9057326389739973323:=0
def tw9058199853611407372:=0
def tw9064021423189857758:=0
def tw9080830045515240416:=0
def tw9112970153554227428:=0
def tw9253895585023567536:=0
def tw9273008882327359334:=0
def tw9308941055650709905:=0
def tw937065186167221628:=0
def tw9418848423519315385:=0
def tw9565718681944727747:=0
def tw9640828305453158039:=0
def tw9931215256062188731:=0
def tw9933097075085120143:=0
def tw9970757821140956656:=0
def tw9988169061748055193:=0
end PySem.W.Fast
set_option maxRecDepth 100000 in
set_option maxHeartbeats 0 in
theorem PySem.Challenge.cw_fewspeak_k15_one_behind_another_holds : PySem.Challenge.rw_fewspeak_k15_one_behind_another.Holds := by
 w_on;o_law;k_head;(case hw=>w_witness2)
 k_fill
 refine L2.walk_ofT (l:=PySem.Challenge.rw_fewspeak_k15_one_behind_another) (n:=63) (k:=My.lawK) (x := "_law_script") (CX:=L2.CX0) (sp:=My.spLaw) rfl (by decide) rfl ⟨rfl,by decide,by decide⟩ (λw h Y=>⟨PySem.W.km_in_of Y,PySem.W.km_tabs_of Y⟩) ?F ?S ?C
 case F =>
  intro ts' hts w mg fa h KX G hmg
  have T:∃ a,My.Txt (L2.KOf KX) mg a/\(My.tabs a).map (·.1)=ts':=by
   rw[hts];dsimp only[L2.KOf];refine' My.txt_mk KX G ?a0 ?l0 ?c0 ?k0 ?a1 ?l1 ?c1 ?k1 ?a2 ?l2 ?c2 ?k2 ?a3 ?l3 ?c3 ?k3 ?a4 ?l4 ?c4 ?k4 ?a5 ?l5 ?c5 ?k5 ?a6 ?l6 ?c6 ?k6 ?a7 ?l7 ?c7 ?k7 ?a8 ?l8 ?c8 ?k8 ?a9 ?l9 ?c9 ?k9 ?a10 ?l10 ?c10 ?k10 ?a11 ?l11 ?c11 ?k11 ?a12 ?l12 ?c12 ?k12 ?a13 ?l13 ?c13 ?k13 ?a14 ?l14 ?c14 ?k14 ?a15 ?l15 ?c15 ?k15 ?a16 ?l16 ?c16 ?k16 ?a17 ?l17 ?c17 ?k17 ?a18 ?l18 ?c18 ?k18 ?a19 ?l19 ?c19 ?k19 ?a20 ?l20 ?c20 ?k20 ?a21 ?l21 ?c21 ?k21 ?a22 ?l22 ?c22 ?k22 ?a23 ?l23 ?c23 ?k23 ?a24 ?l24 ?c24 ?k24 ?a25 ?l25 ?c25 ?k25 ?a26 ?l26 ?c26 ?k26 ?a27 ?l27 ?c27 ?k27 ?a28 ?l28 ?c28 ?k28 ?a29 ?l29 ?c29 ?k29 ?a30 ?l30 ?c30 ?k30 ?a31 ?l31 ?c31 ?k31 ?b0 ?ca_L ?cb_L ?cc_L ?cx_L ?ca_a ?cb_a ?cc_a ?cf_a ?cx_a ?cg_a ?cl_a ?co_a ?ck_a ?cs_NoThrow_place ?ca_z ?cb_z ?cc_z ?cx_z ?ca_T ?pa_T ?pb_T ?pc_T ?pd_T ?pe_T ?pf_T ?pg_T ?ph_T ?ca_f ?pa_f ?pb_f ?pc_f ?pd_f ?pe_f ?pf_f ?pg_f ?ph_f ?qa_f ?qb_f ?qc_f ?qd_f ?qn_Told_rising ?cl_f ?co_f ?ck_f ?ca_g ?pa_g ?pb_g ?pc_g ?pd_g ?pe_g ?pf_g ?pg_g ?ph_g ?qa_g ?qb_g ?qc_g ?qd_g ?qn_Die_makes ?cl_g ?co_g ?ck_g ?mf_b ?ml_b ?mo_b ?mk_b ?mi_b ?mf_3 ?ml_3 ?mo_3 ?mk_3 ?mi_3 ?mf_c ?ml_c ?mo_c ?mk_c ?mi_c ?mf_4 ?ml_4 ?mo_4 ?mk_4 ?mi_4 ?mf_e ?ml_e ?mo_e ?mk_e ?mi_e ?mf_6 ?ml_6 ?mo_6 ?mk_6 ?mi_6 ?mf_d ?ml_d ?mo_d ?mk_d ?mi_d ?mf_5 ?ml_5 ?mo_5 ?mk_5 ?mi_5 ?mf_1 ?ml_1 ?mo_1 ?mk_1 ?mi_1 ?mf_2 ?ml_2 ?mo_2 ?mk_2 ?mi_2 ?lca_7 ?lct_7 ?lcq_7 ?lch_J ?lca_8 ?lct_8 ?lcq_8 ?lch_s ?lca_11 ?lct_11 ?lcq_11 ?lch_b ?lca_12 ?lct_12 ?lcq_12 ?lch_p ?lca_10 ?lct_10 ?lcq_10 ?lch_H ?lca_f ?lct_f ?lcq_f ?lch_i ?ltnd ?z0 ?z1 ?z2 ?z3 ?z4 ?z5 ?z6 ?z7 ?z8 ?z9 ?z10 ?r0
   case a0|l0|c0|k0|a1|l1|c1|k1|a2|l2|c2|k2|a3|l3|c3|k3|a4|l4|c4|k4|a5|l5|c5|k5|a6|l6|c6|k6|a7|l7|c7|k7|a8|l8|c8|k8|a9|l9|c9|k9|a10|l10|c10|k10|a11|l11|c11|k11|a12|l12|c12|k12|a13|l13|c13|k13|a14|l14|c14|k14|a15|l15|c15|k15|a16|l16|c16|k16|a17|l17|c17|k17|a18|l18|c18|k18|a19|l19|c19|k19|a20|l20|c20|k20|a21|l21|c21|k21|a22|l22|c22|k22|a23|l23|c23|k23|a24|l24|c24|k24|a25|l25|c25|k25|a26|l26|c26|k26|a27|l27|c27|k27|a28|l28|c28|k28|a29|l29|c29|k29|a30|l30|c30|k30|a31|l31|c31|k31|b0|ca_L|cb_L =>k_is
   case cc_L|cx_L =>kernel_rfl
   case ca_a|cb_a =>k_is
   case cc_a =>kernel_rfl
   case cf_a =>k_is
   case cx_a =>kernel_rfl
   case cg_a|cl_a|co_a|ck_a =>k_is
   case cs_NoThrow_place =>kernel_rfl
   case ca_z|cb_z =>k_is
   case cc_z|cx_z =>kernel_rfl
   case ca_T =>k_is
   case pa_T|pb_T|pc_T|pd_T|pe_T|pf_T|pg_T|ph_T =>(first | k_is | kernel_rfl)
   case ca_f =>k_is
   case pa_f|pb_f|pc_f|pd_f|pe_f|pf_f|pg_f|ph_f|qa_f|qb_f|qc_f|qd_f|qn_Told_rising =>(first | k_is | kernel_rfl)
   case cl_f|co_f|ck_f|ca_g =>k_is
   case pa_g|pb_g|pc_g|pd_g|pe_g|pf_g|pg_g|ph_g|qa_g|qb_g|qc_g|qd_g|qn_Die_makes =>(first | k_is | kernel_rfl)
   case cl_g|co_g|ck_g =>k_is
   case mf_b =>(first | k_is | kernel_rfl)
   case ml_b|mo_b|mk_b =>k_is
   case mi_b|mf_3 =>(first | k_is | kernel_rfl)
   case ml_3|mo_3|mk_3 =>k_is
   case mi_3|mf_c =>(first | k_is | kernel_rfl)
   case ml_c|mo_c|mk_c =>k_is
   case mi_c|mf_4 =>(first | k_is | kernel_rfl)
   case ml_4|mo_4|mk_4 =>k_is
   case mi_4|mf_e =>(first | k_is | kernel_rfl)
   case ml_e|mo_e|mk_e =>k_is
   case mi_e|mf_6 =>(first | k_is | kernel_rfl)
   case ml_6|mo_6|mk_6 =>k_is
   case mi_6|mf_d =>(first | k_is | kernel_rfl)
   case ml_d|mo_d|mk_d =>k_is
   case mi_d|mf_5 =>(first | k_is | kernel_rfl)
   case ml_5|mo_5|mk_5 =>k_is
   case mi_5|mf_1 =>(first | k_is | kernel_rfl)
   case ml_1|mo_1|mk_1 =>k_is
   case mi_1|mf_2 =>(first | k_is | kernel_rfl)
   case ml_2|mo_2|mk_2 =>k_is
   case mi_2 =>(first | k_is | kernel_rfl)
   case lca_7 =>exact rfl
   case lct_7 =>k_is
   case lcq_7 =>exact rfl
   case lch_J =>kernel_rfl
   case lca_8 =>exact rfl
   case lct_8 =>k_is
   case lcq_8 =>exact rfl
   case lch_s =>kernel_rfl
   case lca_11 =>exact rfl
   case lct_11 =>k_is
   case lcq_11 =>exact rfl
   case lch_b =>kernel_rfl
   case lca_12 =>exact rfl
   case lct_12 =>k_is
   case lcq_12 =>exact rfl
   case lch_p =>kernel_rfl
   case lca_10 =>exact rfl
   case lct_10 =>k_is
   case lcq_10 =>exact rfl
   case lch_H =>kernel_rfl
   case lca_f =>exact rfl
   case lct_f =>k_is
   case lcq_f =>exact rfl
   case lch_i =>kernel_rfl
   case ltnd =>decide
   case z0|z1|z2|z3|z4|z5|z6|z7|z8|z9|z10 =>k_is
   case r0 =>first | exact rfl | exact⟨_,rfl⟩
  obtain⟨a,T,e1⟩:=T;have e1:=e1.trans hts;have e0:=hmg.symm.trans T.m_Y;cases e0;refine' ⟨a.d_Y,?b,?t,?u,λbase kb nb hB=>My.ok_law T hB ?v⟩
  case b=>exact T.bl
  case t =>
   intro P hP;have hP:=e1.symm ▸ hP;simp only[My.tabs,map_cons,map_nil,mem_cons,not_mem_nil,or_false]at hP
   rcases hP with rfl | rfl | rfl | rfl | rfl | rfl
   .exact⟨_,T.lch_J⟩
   .exact⟨_,T.lch_s⟩
   .exact⟨_,T.lch_b⟩
   .exact⟨_,T.lch_p⟩
   .exact⟨_,T.lch_H⟩
   .exact⟨_,T.lch_i⟩
  case u =>
   intro P hP;simp only[mem_cons,not_mem_nil,or_false]at hP
   rcases hP with rfl | rfl | rfl | rfl | rfl | rfl <;> kernel_rfl
  case v =>
   intro q hq;rw[<- e1];exact List.mem_map_of_mem hq
 case S=>exact λK H a ns hl hO hS=>My.law_start hl hO hS
 case C=>exact λH s e s' z=>z
