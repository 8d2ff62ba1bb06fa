import PyProof.Rows.All
import Wide.All
import OpenK.AllK
import Wide.FinOn
import Lean
import PyProof.EqAt
import PyProof.EqKinds
import PyProof.TupleCall
import PySem.Challenge.RW_fewspeak_k95_whole_weights_over_those_dr
open List renaming length_map->a_,getElem?_eq_some_iff->b_,getElem?_eq_getElem->c_,mem_of_getElem?->eH,getElem?_map->fb,mem_cons_self->ft,mem_cons_of_mem->fy,length_cons->f_,take_of_length_le->ga,map_append->gn,range->g0,filter_cons_of_neg->g_,length_append->ir,mem_cons->i_,take_add_one->j_,length_take->ki,filter_cons_of_pos->k6,mem_singleton->k_,mem_map->lz,replicate->l4,size_toArray->l5,map_cons->l_,mem_filter->mN,length_filter_le->nn,getElem?_eq_none->nr,getElem?_append_left->oN,mem_append_right->pf,length_range->py,length_replicate->qi,mem_append->ra,getD->rd,getElem?_append_right->rn,getElem?_of_mem->ro,filter_append->rz,nodup_cons->t_,mem_range->vV,not_mem_nil->xo,append_nil->y_,take_length->A7,sum_cons->BH,mem_append_left->B_,getElem_mem->E_,pairwise_map->FW,replicate_succ'->F1,nodup_iff_pairwise_ne->F2,all_eq_true->F8,length_singleton->Ga,find?_cons->Gb,lookup->Gc,length_eq_zero_iff->Gk,mem_singleton_self->Go,getElem_map->Gq,of_mem_zip->GB,getElem?_range->GD,ext_getElem?->GR,nodup_nil->GV,getElem?_replicate->GY,take_zero->Hi,length->Hm,length_nil->Hw,nodup_append->Hz,range_succ->HE,filterMap_cons->HF,any_cons->HV,lookup_cons->HW,cons_append->HX,filter_cons->H_,filter_sublist->Ib,getElem_range->Iu,filter_nil->Iz,foldl_append->IQ,pairwise_iff_getElem->Jc,getElem?_take_of_lt->Jg,length_drop->Jh,nodup_range->Jm,getElem?_set_self->Jt,getElem?_set_ne->JJ,mem_of_mem_take->JL,filter_eq_self->JP,mem_replicate->JU,map_congr_left->JV,mem_filterMap->JX,pairwise_cons->J4,find?_eq_none->J7,take_sublist->Kb,getElem?_set->Ko,getElem_inj->Kp,any_eq_true->Kw,isEmpty_iff->Ky,length_set->KE,all_cons->KF,find?_some->KP,drop_zero->KS,forIn_nil->KY,find?_map->K5,forIn_cons->Lj,countP_map->Lo,length_zip->Lr,sum_append->Lu,map_nil->Lz,map_set->LF
open PySem renaming wpAny_bind->cn,Value->cX,Shared->ej,wpAny_pure->eB,sizeLine_eq->fE,starEach->fI,Program->gN,wpAny->gV,model->kw,World->ml,compareOp->nf,bootBuiltins->nv,wpAny_Call_Name_kw->oI,Around->o3,wpAny_truthy_bool->qj,FuncData->ri,backTo->tp,wpAny_mono->tW,sysModules->uF,wpAny_newObj_type->uS,wpAny_holding->xi,mainGlobals->xj,wpAny_callSpecial?_slot->x_,rawInt->A2,attributeBase->A6,wpAny_execs_cons->A8,NameKind->A_,cellsFrom->C_,binaryOp->D0,wpAny_call_entry->D_,Scope->E2,keywordEach->E3,wpAny_typeNameOfWhole_keyiter->Fe,wpAny_passesOwn->F0,Keyword->F4,mem_of_lookup->F5,wpAny_field->F7,behindInMarks->Gf,wpAny_typeNameOf_keyiter->Gg,wpAny_execs_nil->Gh,wpAny_getItem_str_slice->Gp,codeAny_mono->Gv,assignEach->Gz,Paired->GE,codeAny->GG,backToKw->GJ,sliceBounds->GK,wpAny_specialOf->GN,codeAny_builtin->GO,tupleKind->GS,wpAny_newFunctionEnv_cells->GW,tupleKind_room_in1->GX,cLine->G8,wpAny_dictEntries->G9,pyNext->Ha,swapsWith->He,ZipApart->Hg,TriplesOk->Hj,DictEntry->Hk,Str->Ho,builtinsNs->Hq,holding->Hr,getItem->Hs,post_val_or_str->HG,wpAny_updateSeq->HH,codeAny_call_function->HK,PyData->HY,codeAmong->Ig,wpAny_standAt->Ip,wpAny_attempt->Iq,wpAny_call->Iw,wpAny_Return_some->ID,foldedSetIterable->IE,bindArgs->IG,callerA->IH,relabel->II,valueAt->IJ,Builtin->IK,assign->IW,IsPart->IX,seqIndex?->IY,IsPair->I7,wpAny_pyIter_zip->I_,seqIndex_of->Ji,subscripted->Jj,strIterType->Jk,Within->Jn,letOwnedTupleGo->Jo,wpAny_dictEpoch->Jq,size_of_entries->Jr,standAt->Ju,typeLookup->Jy,call_meets->JA,atKey->JB,wpAny_seqItems->JG,assignInOrder->JM,wpAny_comprehension_free->JO,CmpOp->JW,getMethod->JY,bindL->JZ,bindC->J1,wpAny_callSpecial?_none->J5,updateSeq->J6,isTrue->J8,truthy->J_,BindsTo->Ka,codeAny_func->Kc,wpAny_typeOf->Kd,seqIndex_neg->Ke,call_meetsIn->Kg,wpAny_nextOf_list_item->Kk,wpAny_isTrue_Compare1->Kq,wpAny_pyNext_zip_item->Kr,wpAny_isOneOf_keyiter->Kt,builtinLookup_eq_fast->Kv,wpAny_loadName_local->Kz,Operator->KA,bindName->KB,wpAny_newFunctionEnv->KH,wpAny_pyNext_zip_end->KJ,wpAny_loadName_cell->KR,entryOfKey->K7,wpAny_Name->K_,pyIter->La,Result->Lb,typeIs_str->Lg,closureFor->Lh,cellOf->Li,setItem->Lv,wpAny_assign_Name->Lw,wpAny_pyIter_strU->LA,wpAny_pyIter_list->LB,wpAny_pyIter_enum->LC,storeName->LH,Arguments->LJ,wpAny_isInstance->LL,typeLookup_type->LM,wpAny_bindName->LN,recursionLimit->LQ,pick_run->LS,sliceRange_one->LU,fitsIndex_both->LV,intBits_le_iff->LW,wpAny_fieldsOf->LX,wpAny_setField->LY,firstArgMember->LZ,isSubtype_stop->L3,wpAny_runValue->L4
open Nat renaming le_refl->d_,zero_le->ey,lt_of_lt_of_le->jb,le_trans->mu,lt_of_le_of_lt->na,ne_of_lt->nl,lt_irrefl->pw,le_of_lt->Gj,mul_le_mul->Gm,le_succ->GT,lt_succ_self->G3,min_le_right->G4,le_mul_of_pos_right->G7,pow_le_pow_right->Hy,mul_le_mul_left->HN,le_of_eq->Il,lt_or_ge->Io,mul_ne_zero->IN,one_ne_zero->IR,sub_self->JC,pow_succ->JD,min_self->JI,mul_pos->JT,lt_trichotomy->Kx,gcd_dvd_left->KN,min_eq_left->KU
open PySem.Heap renaming get?_push_of_some->e_,lt_size->fR,get?_push_size->h_,get?_update_other->qk,get?_update_self->Gs,SameBut->GF,size_push->IS
open Bool renaming false_ne_true->fx,and_eq_true->p_,eq_iff_iff->ue,false_eq_true->DQ,true_and->Jl
open PySem.Paired renaming length->gp,snoc->Jb
open PySem.PassesOwn renaming never->kk
open Option.some renaming inj->ll
open PySem.Value renaming ref->mr,none->F_,type->Gr,int->Hl,bool->HI,str->Ik,float->Jx
open False renaming elim->mM
open Or renaming inl->m_,inr->GZ
open Int renaming emod_lt_of_pos->nt,gcd->n_,mul_comm->oD,emod_nonneg->o_,mul_ediv_cancel_left->sn,mul_assoc->uc,natAbs_mul->wh,le_refl->wk,mul_lt_mul_of_pos_right->zb,mul_pos->z_,eq_of_mul_eq_mul_right->A4,mul_nonpos_of_nonneg_of_nonpos->A5,ediv_eq_of_eq_mul_right->FX,add_mul->F3,eq_ofNat_of_zero_le->Ge,mul_le_mul_of_nonneg_right->Gx,le_of_dvd->Gy,natCast_add->GC,le_of_lt->GL,lt_of_mul_lt_mul_right->GP,toNat_natCast->GU,lt_or_le->Hb,ediv_mul_cancel->HM,ofNat_dvd->HQ,mul_nonpos_of_nonpos_of_nonneg->Ia,gcd_dvd_left->Ix,natCast_pos->IP,le_of_mul_le_mul_right->Ja,zero_add->JH,sub_mul->JS,mul_ediv_assoc->Kh,natAbs->Ki,not_le->Km,gcd_dvd_right->Ks,ediv_nonneg->K0,le_antisymm->K6
open PySem.NameKind renaming free->pa,cell->IA
open PySem.Builtin.Str renaming occurrences->rc,strSliceIndices->v_
open PySem.Obj renaming mapSeq->r0,data_mapFields->Kj
open PyProof.Rows renaming callWith_type1->r_,AllBare->GQ,slot_tuple_getitem->Hf,IntsAre->Hv,seqObj->HB,assignInOrder_cons->Iv,isTrue_plain->IF,subscriptTail->JN,subscriptTail_builtinR->Kf,Subscript_->Le,assignInOrder_nil->Lx,UnaryOp_->LO,slicePart_none->LR
open PySem.PyData renaming eqv->sN,canLayAll0->ub,depthAll->w_,int->BQ,canLay0->GH,depth->G2,eqvAll->HD
open PySem.Str renaming ofString->s_
open PySem.Builtin.SmallTypes renaming ownedTupleIsFree->u_,nextOf->Gi
open PySem.Builtin.List renaming listExtendWith->ve,listLengthHint->HP,listSameRef->Ih,listItems->Ir
open Option renaming none->x0,isSome_map->Gd,map_some->G5,map_map->IB,isSome_iff_exists->IT,getD_none->J3
open ForInStep renaming yield->Aa
open Array renaming length_toList->CZ,append_assoc->HJ,toArray_toList->JF,toList_append->JK,forIn_toList->JQ
open PySem.SeqAt renaming shaped->DB,canLay_of_shaped->Js,eqv_refl->KQ,EqAt->LK
open True renaming intro->DP
open PySem.Builtin.Slice renaming slicePlaces->E1,sliceAdjust->Gw,sliceApplied->HL
open PySem.Builtin.Tuple renaming tupleExact->Ff
open PySem.F renaming slot_dict_keyiterator_next->Fk,plain_extend_loop->GM,plainAttrs_list->G0,slot_dict_get->G6,slot_zip_next->Hn,args_dict_keyiterator_next_1->IL,args_dict_get_3->IU,entry_dict_keyiterator_next->IV,entry_dict_get->IZ,entry_extend_loop->Ku,slot_list_append->KG,slot_list_insert->KL,slot_list_count->KW,args_zip_next_1->KZ,slot_dict_iter->Ln,entry_zip_next->Lp,slot_list_pop->Ly,slot_dict_len->LD
open Classical renaming byContradiction->FY,choose->JE
open Ne renaming symm->FZ
open List.Pairwise renaming imp->F6,imp_of_mem->Ic
open PySem.W renaming codeHdIn->F9,emptyDict->GA,findIn->Ht,callWith_K->Hu,keepIn->HR,cellsFrom_some->HU,instObj->Ie,plainGet->KC,plainGet_of->KD,codeIn->Lc,codeRec_of->Ld,tabObj->Lk,methodObj->LG,hasDictIn->LI,lookIn->LP
open Rat renaming divInt_eq_div->Gn,num_divInt_den->HZ,mul_pos->JR,lt_iff->Kl,divInt_ofNat->KM,mul_nonneg->Lq
open Prod.mk renaming inj->Gu
open PySem.Calls renaming spliced_cons->GI,spliced_nil->HS,Name_function_global->IC,callWith_builtin->Jp,evalArgs_plain->Jz
open PySem.Builtin.Dict_items renaming ownsTuple->G_
open PySem.Around renaming under_plainId->Hd,under->Jf,frames_deeper->Jw
open Sum renaming inl->Ii,inr->Ij
open PySem.Txt renaming slice_le->Im,slice->KI
open PySem.Builtin.Dict renaming showsAll->Iy
open PySem.Heap.SameBut renaming update->IM
open PySem.SeqAt.EqAt renaming int_str->Jd,str_int->Je
open PySem.Code renaming isFrame->Jv
open PyProof.Rows.IsTup renaming new->J9
open And renaming intro->KO
open PySem.W(CodeHd FnAt Frag InstAt Looks any_some callWith_K cellsFrom_some clsIn codeHdIn codeHd_of_K codeIn codeRec_of emptyDict findIn fnOf handedIn hasDictIn instObj isFn keepIn kitOne kitx_dict kitx_list kitx_tuple kla_fn kla_obj lookIn makesIn methodCall_KW methodObj mg_of mroIn nsIn nsOkIn plainGet plainGet_of plainOver tabObj tailIn takerIn typeIn)
open List(all_cons all_eq_true any_cons append_assoc append_nil cons_append countP_map ext_getElem filter_append filter_cons filter_cons_of_neg filter_cons_of_pos filter_nil filter_sublist foldl_append forIn_cons getElem_map getElem_mem getElem_range length_append length_cons length_drop length_eq_zero_iff length_filter_le length_map length_nil length_range length_replicate length_singleton length_take length_zip lookup_cons map_append map_cons map_id map_map map_nil map_set mem_append mem_append_left mem_append_right mem_cons mem_cons_of_mem mem_cons_self mem_filter mem_map mem_range mem_replicate mem_singleton mem_singleton_self nodup_append nodup_cons nodup_nil nodup_range not_mem_nil of_mem_zip pairwise_map range_succ replicate_succ' size_toArray sum_append sum_cons take_add_one take_length take_of_length_le take_zero)
noncomputable section
set_option Elab.async false
set_option linter.all false
set_option maxRecDepth 100000
namespace L2
open PySem PySem.Spec PyProof.Rows
abbrev Key:=Sum Int Str
def o8:Key->cX->Bool
 | .inl k,v=>Value.isInt k v
 | .inr x,v=>Value.isStrOf x v
def FA(w:ml):Key->Int
 | .inl k=>hashInt k
 | .inr x=>hashStr w x
def bJ:∀{k:Key}{v:cX},o8 k v=true->(∃ i t,k=Ii i/\v=Hl i t)\/(∃ x t,k=Ij x/\v=Ik x t)
 | .inl i,v,h=>by
  obtain⟨t,e⟩:=Value.isInt_shape (k:=i) (v:=v) h;exact .inl ⟨i,t,rfl,e⟩
 | .inr x,v,h=>by
  obtain⟨t,e⟩:=Value.isStrOf_shape (x:=x) (v:=v) h;exact .inr ⟨x,t,rfl,e⟩
def wo(i:Int)(t:Tok):o8 (.inl i) (.int i t)=true:=by simp[o8,Value.isInt]
def wg(x:Str)(t:Tok):o8 (.inr x) (.str x t)=true:=by simp[o8,Value.isStrOf]
def CU(a b:Int):decide ((Ii a:Key)=Ii b)=(a == b):=by
 by_cases e:a=b
 .subst e;simp
 .have h:¬(Ii a:Key)=Ii b:=λq=>e (Sum.inl.inj q)
  rw[decide_eq_false h];exact(beq_eq_false_iff_ne.mpr e).symm
def CI(a b:Str):decide ((Ij a:Key)=Ij b)=decide (a=b):=by
 by_cases e:a=b
 .subst e;simp
 .have h:¬(Ij a:Key)=Ij b:=λq=>e (Sum.inr.inj q)
  rw[decide_eq_false h,decide_eq_false e]
def C0(a:Int)(b:Str):decide ((Ii a:Key)=Ij b)=false:=decide_eq_false (λq=>nomatch q)
def DN(a:Str)(b:Int):decide ((Ij a:Key)=Ii b)=false:=decide_eq_false (λq=>nomatch q)
def bH(prog:gN)(w:ml):PySem.KeyKind prog w Key where
 is:=o8
 hash:=FA w
 inj:=λv a b ha hb=>by
  rcases bJ ha with⟨i,t,rfl,rfl⟩ | ⟨x,t,rfl,rfl⟩
  .rcases bJ hb with⟨j,u,rfl,e⟩ | ⟨y,u,rfl,e⟩
   .injection e with e1 _;rw[e1]
   .exact nomatch e
  .rcases bJ hb with⟨j,u,rfl,e⟩ | ⟨y,u,rfl,e⟩
   .exact nomatch e
   .injection e with e1 _;rw[e1]
 byValue:=λk v h=>by
  rcases bJ h with⟨i,t,rfl,rfl⟩ | ⟨x,t,rfl,rfl⟩ <;> rfl
 pyHash:=λhv h=>by
  rcases bJ hv with⟨i,t,rfl,rfl⟩ | ⟨x,t,rfl,rfl⟩
  .exact wpAny_pyHash_int h
  .exact wpAny_pyHash_str h
 eqBool:=λhu hv h=>by
  rcases bJ hu with⟨i,t,rfl,rfl⟩ | ⟨x,t,rfl,rfl⟩
  .rcases bJ hv with⟨j,u,rfl,rfl⟩ | ⟨y,u,rfl,rfl⟩
   .rw[CU]at h;exact wpAny_eqBool_int h
   .rw[C0]at h;exact Jd i t y u _ _ _ _ h
  .rcases bJ hv with⟨j,u,rfl,rfl⟩ | ⟨y,u,rfl,rfl⟩
   .rw[DN]at h;exact Je x t j u _ _ _ _ h
   .rw[CI]at h;exact wpAny_eqBool_str h
 «strs»:=λk x t v h=>by
  rcases bJ h with⟨i,u,rfl,e⟩ | ⟨y,u,rfl,e⟩
  .exact nomatch e
  .injection e with e1 _
   subst e1
   cases v <;> rfl
def rJ(prog:gN)(w:ml)(i:Int)(t:Tok):(bH prog w).is (.inl i) (.int i t)=true:=wo i t
def sj(prog:gN)(w:ml)(x:Str)(t:Tok):(bH prog w).is (.inr x) (.str x t)=true:=wg x t
inductive V where
 | non | bl (b:Bool) | int (i:Int) | str (x:Str) | byt (b:Array UInt8) | flt (b:UInt64) | ref (a:Addr) | ty (n:String)
 deriving DecidableEq
def RelV:V->cX->Prop
 | .non,u=>u=F_
 | .bl b,u=>u=HI b
 | .int i,u=>∃ t,u=Hl i t
 | .str x,u=>∃ t,u=Ik x t
 | .byt b,u=>∃ t,u=Value.bytes b t
 | .flt b,u=>∃ t,u=Jx b t
 | .ref a,u=>u=mr a
 | .ty n,u=>u=Gr n
abbrev Vals:List V->List cX->Prop:=Paired RelV
def Vals.length{xs:List V}{us:List cX}(r:Vals xs us):xs.length=us.length:=gp r
theorem Vals.get:∀{xs:List V}{us:List cX}{i:Nat}{x:V},Vals xs us->xs[i]? = some x->∃ u,us[i]? = some u/\RelV x u
 | _,_,_,_,.nil,e=>by simp at e
 | _,_,0,_,.cons r _,e=>by simp at e;subst e;exact⟨_,rfl,r⟩
 | _,_,i+1,x,.cons _ t,e=>by
  obtain⟨u,b,a⟩:=Vals.get (i:=i) (x:=x) t (by simpa using e);exact⟨u,by simpa using b,a⟩
theorem Vals.set{x:V}{u:cX}(r:RelV x u):∀{xs:List V}{us:List cX}(i:Nat),Vals xs us->Vals (xs.set i x) (us.set i u)
 | _,_,_,.nil=>.nil
 | _,_,0,.cons _ t=>.cons r t
 | _,_,i+1,.cons q t=>.cons q (Vals.set r i t)
theorem Vals.append:∀{xs ys:List V}{us ws:List cX},Vals xs us->Vals ys ws->Vals (xs++ys) (us++ws)
 | _,_,_,_,.nil,s=>s
 | _,_,_,_,.cons r t,s=>.cons r (Vals.append t s)
theorem Vals.take:∀{xs:List V}{us:List cX}(n:Nat),Vals xs us->Vals (xs.take n) (us.take n)
 | _,_,0,_=>.nil
 | _,_,_+1,.nil=>.nil
 | _,_,n+1,.cons r t=>.cons r (Vals.take n t)
theorem Vals.drop:∀{xs:List V}{us:List cX}(n:Nat),Vals xs us->Vals (xs.drop n) (us.drop n)
 | _,_,0,r=>r
 | _,_,_+1,.nil=>.nil
 | _,_,n+1,.cons _ t=>Vals.drop n t
def RelO:Option V->Option cX->Prop
 | some v,some u=>RelV v u
 | none,none=>True
 | _,_=>False
def KV{κ:Type}:List (κ×V)->List (κ×cX)->Prop:=Paired λ(p:κ×V) (q:κ×cX)=>p.1=q.1/\RelV p.2 q.2
def kV:Key->V
 | .inl i=>.int i
 | .inr x=>.str x
inductive HO where
 | lst (xs:List V)
 | tup (xs:List V)
 | dK (kvs:List (Key×V)) | dT (kvs:List (List Key×V))
 | set (S:Int->Bool) (n:Nat)
 | ins (C dx:Addr) (fs:List (Str×V))
 | own (x:Addr)
 | xd (fs:List (Str×V))
 | met (f x:Addr)
 | rng (lo hi:Int)
 | frz (o:Obj) (u:HO)
 | tbl (ps:Array cX)
 | ext (φ:Heap->Prop)
abbrev Hp:=Addr->Option HO
def upd(H:Hp)(a:Addr)(o:HO):Hp:=λb=>if b=a then some o else H b
def ac{H:Hp}{a:Addr}{o:HO}:upd H a o a=some o:=by unfold upd;rw[if_pos rfl]
def aq{H:Hp}{a b:Addr}{o:HO}(h:b≠a):upd H a o b=H b:=by unfold upd;rw[if_neg h]
def cq{H:Hp}{a:Addr}{o u:HO}:upd (upd H a o) a u=upd H a u:=by
 funext b;unfold upd;split <;> rfl
def BY{H:Hp}{a b:Addr}{o u:HO}(h:H a=some o)(h':H b=some u)(d:o≠u):a≠b:=by
 intro e;subst e;rw[h]at h';exact d (ll h')
def ar{H:Hp}{a b:Addr}{o:HO}(h:H a=some o)(h':H b=none):a≠b:=by
 intro e;subst e;rw[h]at h';cases h'
section
variable (P:gN)(w:ml)
def ObjOk(H:Hp)(h:Heap)(a:Addr):HO->Prop
 | .lst xs=>xs.length<=sizeLine/\∃(its:List cX) (n:Nat),Vals xs its/\h.get? a=some { cls:=.type "list",data:=.seq its.toArray n }
 | .tup xs=>xs.length<=sizeLine/\∃ its:List cX,Vals xs its/\IsTup h a its.toArray
 | .dK kvs=>kvs.length<=sizeLine/\(a == uF)=false/\∃ vs,KV kvs vs/\h.DictOf (bH P w) a vs
 | .dT kvs=>kvs.length<=sizeLine/\(a == uF)=false/\∃ xs:List (List Key×Addr×cX),
   Paired (λ(p:List Key×V) (q:List Key×Addr×cX)=>p.1=q.1/\H q.2.1=some (.tup (p.1.map kV))/\RelV p.2 q.2.2) kvs xs /\
   ∃ o es ep,h.get? a=some o/\o.ExactDict/\o.data=.dict es ep/\es.toList=xs.map (K7 (GS (bH P w)))/\(xs.map (·.1)).Nodup
 | .set S n=>h.SetOf (intKind P w) a S n
 | .ins C dx fs=>H dx=some (.own a)/\fs.length<=1000/\dx≠a/\h.get? a=some (Ie C dx) /\
   ∃ mA,h.Ns1 dx mA/\(∀ f,RelO (fs.lookup f) (mA f))/\Jn mA (fs.map (·.1))
 | .own _=>∃ o,h.get? a=some o
 | .xd fs=>∃ mA,h.Ns1 a mA/\∀ f,RelO (fs.lookup f) (mA f)
 | .rng lo hi=>∃ t u v,h.get? a=some { cls:=.type "range",data:=.fields #[.int lo t,.int hi u,.int 1 v] }
 | .frz o u=>h.get? a=some o/\ObjOk H h a u
 | .tbl ps=>h.get? a=some { cls:=.none,data:=.fields ps }
 | .met f x=>h.get? a=some (LG (.ref f) (.ref x))
 | .ext φ=>φ h/\(∃ o,h.get? a=some o)/\∀ h1 h2:Heap,φ h1->(∀ o,h1.get? a=some o->h2.get? a=some o)->φ h2
def HOk(H:Hp)(h:Heap):Prop:=∀ a o,H a=some o->ObjOk P w H h a o
end
section
variable {P:gN}{w:ml}{H H':Hp}{h h':Heap}{a:Addr}{o:HO}
def ObjOk.lt(x:ObjOk P w H h a o):a<h.objs.size:=by
 cases o with
 | lst xs=>obtain⟨_,_,_,_,e⟩:=x;exact fR e
 | tup xs=>obtain⟨_,_,_,p⟩:=x;exact p.lt
 | dK kvs=>obtain⟨_,_,_,_,o,_,_,e,_⟩:=x;exact fR e
 | dT kvs=>obtain⟨_,_,_,_,o,_,_,e,_⟩:=x;exact fR e
 | set S n=>obtain⟨o,_,_,_,e,_⟩:=x;exact fR e
 | ins C dx fs=>obtain⟨_,_,_,e,_⟩:=x;exact fR e
 | own y=>obtain⟨_,e⟩:=x;exact fR e
 | xd fs=>obtain⟨_,⟨_,_,_,e,_⟩,_⟩:=x;exact fR e
 | rng lo hi=>obtain⟨_,_,_,e⟩:=x;exact fR e
 | frz ob u=>obtain⟨e,_⟩:=x;exact fR e
 | tbl ps=>exact fR (show h.get? a=some _ from x)
 | met f y=>exact fR (show h.get? a=some _ from x)
 | ext φ=>obtain⟨_,⟨_,e⟩,_⟩:=x;exact fR e
theorem Paired.mapP{c d:Type}{F G:c->d->Prop}:∀{l₁:List c}{l₂:List d},Paired F l₁ l₂->(∀ a b,F a b->G a b)->Paired G l₁ l₂
 | _,_,.nil,_=>.nil
 | _,_,.cons r t,f=>.cons (f _ _ r) (Paired.mapP t f)
def ObjOk.stay(x:ObjOk P w H h a o)(k:∀ b u,(b=a\/H b=some (.own a))->h.get? b=some u->h'.get? b=some u)
  (D:∀ b,H b=some (.own a)->H' b=some (.own a)) (E:∀ b xs,H b=some (.tup xs)->H' b=some (.tup xs)):ObjOk P w H' h' a o:=by
 induction o with
 | lst xs=>obtain⟨z,l,n,r,e⟩:=x;exact⟨z,l,n,r,k _ _ (.inl rfl) e⟩
 | tup xs=>obtain⟨z,l,r,g,e,c⟩:=x;exact⟨z,l,r,g,k _ _ (.inl rfl) e,c⟩
 | dK kvs=>obtain⟨z,y,B,r,g,j,i,e,c⟩:=x;exact⟨z,y,B,r,g,j,i,k _ _ (.inl rfl) e,c⟩
 | dT kvs =>
  obtain⟨z,y,xs,r,g,j,i,e,c⟩:=x;exact⟨z,y,xs,Paired.mapP r λp q z=>⟨z.1,E _ _ z.2.1,z.2.2⟩,g,j,i,k _ _ (.inl rfl) e,c⟩
 | set S n=>obtain⟨g,j,i,t,e,c⟩:=x;exact⟨g,j,i,t,k _ _ (.inl rfl) e,c⟩
 | ins C dx fs =>
  obtain⟨d,z,F,e,m,⟨s,j,i,G,c⟩,r⟩:=x;exact⟨D _ d,z,F,k _ _ (.inl rfl) e,m,⟨s,j,i,k _ _ (.inr d) G,c⟩,r⟩
 | own y=>obtain⟨g,e⟩:=x;exact⟨g,k _ _ (.inl rfl) e⟩
 | xd fs=>obtain⟨m,⟨s,j,i,e,c⟩,r⟩:=x;exact⟨m,⟨s,j,i,k _ _ (.inl rfl) e,c⟩,r⟩
 | rng lo hi=>obtain⟨t,u,v,e⟩:=x;exact⟨t,u,v,k _ _ (.inl rfl) e⟩
 | frz g u ih=>obtain⟨e,q⟩:=x;exact⟨k _ _ (.inl rfl) e,ih q⟩
 | tbl ps =>
  have e:h.get? a=some { cls:=.none,data:=.fields ps }:=x;show h'.get? a=some { cls:=.none,data:=.fields ps };exact k a _ (.inl rfl) e
 | met f y =>
  have e:h.get? a=some (LG (.ref f) (.ref y)):=x;show h'.get? a=some (LG (.ref f) (.ref y));exact k a _ (.inl rfl) e
 | ext φ=>obtain⟨p,⟨o,e⟩,A⟩:=x;exact⟨A _ _ p λo q=>k _ _ (.inl rfl) q,⟨o,k _ _ (.inl rfl) e⟩,A⟩
def HOk.lt(x:HOk P w H h)(e:H a=some o):a<h.objs.size:=(x a o e).lt
def HOk.fresh(x:HOk P w H h)(e:h.objs.size<=a):H a=none:=by
 cases q:H a with
 | none=>rfl
 | some u=>exact absurd (jb (x.lt q) e) (pw _)
def HOk.kept(x:HOk P w H h)(k:∀ b u,h.get? b=some u->h'.get? b=some u):HOk P w H h':=λa o e =>
 (x a o e).stay (λb u _ q=>k b u q) (λ_ q=>q) λ_ _ q=>q
def HOk.laid(x:HOk P w H h)(k:∀ b u,h.get? b=some u->h'.get? b=some u)(g:h.objs.size<=a)(d:ObjOk P w (upd H a o) h' a o):HOk P w (upd H a o) h':=λb u e=>by
 have f:=x.fresh g
 by_cases hb:b=a
 .subst hb;rw[ac]at e;cases e;exact d
 .rw[aq hb]at e
  exact(x b u e).stay (λc v _ q=>k c v q) (λc q=>by rw[aq (ar q f)];exact q) λc xs q=>by rw[aq (ar q f)];exact q
end
def Rd(H:Hp)(a:Addr)(u:HO):Prop:=H a=some u\/∃ o,H a=some (.frz o u)
def Rd.ok{P:gN}{w:ml}{H:Hp}{h:Heap}{a:Addr}{u:HO}(r:Rd H a u)(x:HOk P w H h):ObjOk P w H h a u:=by
 rcases r with r | ⟨o,r⟩
 .exact x a u r
 .obtain⟨_,q⟩:=x a _ r
  exact q
def Mut:Option HO->Prop
 | some (.lst _)=>True
 | some (.dK _)=>True
 | some (.dT _)=>True
 | some (.set _ _)=>True
 | some (.ins _ _ _)=>True
 | some (.ext _)=>True
 | _=>False
section
variable {P:gN}{w:ml}{H:Hp}{h h':Heap}{x e:Addr}{o':HO}
def HOk.write(p:HOk P w H h)(f:Mut (H x))(m:e=x\/H e=some (.own x))(k:∀ b u,b≠e->h.get? b=some u->h'.get? b=some u)(j:∃ u,h'.get? e=some u)
  (i:ObjOk P w (upd H x o') h' x o'):HOk P w (upd H x o') h':=λb u q=>by
 have a:∀ c y,H c=some (.own y)->c≠x:=λc y r z=>by subst z;rw[r]at f;exact f
 have d:∀ c g,H c=some (.tup g)->c≠x:=λc g r z=>by subst z;rw[r]at f;exact f
 by_cases hb:b=x
 .subst hb;rw[ac]at q;cases q;exact i
 .rw[aq hb]at q
  by_cases hbe:b=e
  .have l:H b=some (.own x):=by
    rcases m with z | z
    .exact absurd (hbe.trans z) hb
    .rw[hbe];exact z
   rw[q]at l;cases l;obtain⟨v,o⟩:=j;exact⟨v,by rw[hbe];exact o⟩
  .refine(p b u q).stay (λc v hc r=>k c v ?_ r) (λc r=>by rw[aq (a c b r)];exact r) λc g r=>by rw[aq (d c g r)];exact r
   rcases hc with rfl | hc
   .exact hbe
   .rintro rfl
    rcases m with z | z
    .exact a c b hc z
    .rw[hc]at z;cases z;exact hb rfl
end
structure Un(fs ex:List Addr)(H H':Hp)(h h':Heap):Prop where
 keep:∀ b o,h.get? b=some o->H b=none->b ∉ fs->b ∉ ex->h'.get? b=some o
 slot:∀ b o,h.get? b=some o->H b=none->b∈fs->b ∉ ex->∃ sl,h'.get? b=some { o with slots:=sl }
 free:∀ b o,h.get? b=some o->H b=none->b ∉ ex->H' b=none
 there:∀ b o,h.get? b=some o->b ∉ ex->∃ o',h'.get? b=some o'
 tups:∀ b xs,H b=some (.tup xs)->H' b=some (.tup xs)
 frzs:∀ b o u,H b=some (.frz o u)->H' b=some (.frz o u)
 tbls:∀ b ps,H b=some (.tbl ps)->∃ more,H' b=some (.tbl (ps++more))
section
variable {fs ex:List Addr}{H H1:Hp}{h h1 h':Heap}{a x e:Addr}{o:HO}
def Un.any(u:Un fs ex H H1 h h1){b:Addr}{a:Obj}(q:h.get? b=some a)(n:H b=none)(c:b ∉ ex):∃ sl,h1.get? b=some { a with slots:=sl }:=by
 by_cases hb:b∈fs
 .exact u.slot b a q n hb c
 .exact⟨a.slots,u.keep b a q n hb c⟩
def Un.kept(k:∀ b u,h.get? b=some u->h'.get? b=some u):Un fs ex H H h h' :=
 ⟨λb a q _ _ _=>k b a q,λb a q _ _ _=>⟨a.slots,k b a q⟩,λ_ _ _ n _=>n,λb a q _=>⟨a,k b a q⟩,λ_ _ q=>q,λ_ _ _ q=>q,λ_ ps q=>⟨#[],by rw[q];simp⟩⟩
def Un.refl:Un fs ex H H h h:=Un.kept λ_ _ q=>q
def Un.laid(k:∀ b u,h.get? b=some u->h'.get? b=some u)(e:h.objs.size<=a)(c:H a=none):Un fs ex H (upd H a o) h h' where
 keep:=λb u q _ _ _=>k b u q
 slot:=λb u q _ _ _=>⟨u.slots,k b u q⟩
 free:=λb u q n _=>by rw[aq (nl (jb (fR q) e))];exact n
 there:=λb u q _=>⟨u,k b u q⟩
 tups:=λb d q=>by rw[aq (ar q c)];exact q
 frzs:=λb u d q=>by rw[aq (ar q c)];exact q
 tbls:=λb f q=>⟨#[],by rw[aq (ar q c),q];simp⟩
def Un.write(a:Mut (H x))(l:e=x\/H e=some (.own x))(k:∀ b u,b≠e->h.get? b=some u->h'.get? b=some u)(d:∃ u,h'.get? e=some u):Un fs ex H (upd H x o) h h':=by
 have f:∀ b,H b=none->b≠x:=λb n z=>by subst z;rw[n]at a;exact a
 have g:∀ b,H b=none->b≠e:=λb n z=>by
  subst z
  rcases l with r | r
  .exact f b n r
  .rw[n]at r;cases r
 have c:∀ b u,H b=some u->¬Mut (some u)->b≠x:=λb u q j z=>by subst z;rw[q]at a;exact j a
 refine⟨λb u q n _ _=>k b u (g b n) q,λb u q n _ _=>⟨u.slots,k b u (g b n) q⟩,λb u q n _=>by rw[aq (f b n)];exact n,λb u q _=>?_,
  λb i q=>by rw[aq (c b _ q λz=>z)];exact q,λb u i q=>by rw[aq (c b _ q λz=>z)];exact q,λb ps q=>⟨#[],by rw[aq (c b _ q λz=>z),q];simp⟩⟩
 by_cases hbe:b=e
 .subst hbe;exact d
 .exact⟨u,k b u hbe q⟩
end
def trk(h:Heap)(H:Hp):List Addr:=(g0 h.objs.size).filter λa=>(H a).isSome
def nW(h:Heap)(H:Hp):Heap:=PySem.W.hideAll h (trk h H)
def v7(h:Heap)(H:Hp):(nW h H).objs.size=h.objs.size:=PySem.W.hideAll_size _ _
def xO{h:Heap}{H:Hp}{b:Addr}{o:Obj}(e:h.get? b=some o)(n:H b=none):(nW h H).get? b=some o :=
 PySem.W.hideAll_get _ e λa=>by
  have q:(H b).isSome=true:=(mN.mp a).2;rw[n]at q;simp at q
def AV{h:Heap}{H:Hp}{b:Addr}{o:Obj}(e:(nW h H).get? b=some o):h.get? b=some o/\H b=none:=by
 have a:h.get? b=some o:=PySem.W.of_hideAll (trk h H) e;refine⟨a,?_⟩;cases q:H b with
 | none=>rfl
 | some x =>
  have c:b∈trk h H:=mN.mpr ⟨vV.mpr (fR a),by simp[q]⟩;have z:(nW h H).get? b=none:=PySem.W.hideAll_none (trk h H) c;rw[z]at e;cases e
def An(g h:Heap)(L:Addr):List (Addr×Obj):=(g0 h.objs.size).filterMap λa=>if a=L\/(g.get? a).isSome=true then none else (h.get? a).map λo=>(a,o)
def rest(g h:Heap)(L d:Addr):List (Addr×Obj):=(An g h L).filter λp=>decide (p.1≠d)
structure Mod(K:Frag)(mg:Str->Option cX)(base:Heap):Prop where
 kin:K.In base
 glob:base.Ns xj mg
 blt:∃ mb,base.Ns Hq mb/\∀ x:Str,x ≠ "__name__" -> mb x=nv x
 nolimit:base.NoLimit
structure Cx where
 prog:gN
 w:ml
 K:Frag
 mg:Str->Option cX
 base:Heap
 A:o3
 N:List Str
 s₀:ej
 H₀:Hp
 env:Env
 outer:List Env
 stack:List Env
 ex:List Addr
 fn:Str->Bool
 calm:Bool
 pn:List (Addr×Obj)
 xe:cX->ej->Prop
def frs(l:List Env):List Addr:=l.filterMap (·.frame)
abbrev Cx.fs(X:Cx):List Addr:=frs X.outer
def Vis(sc:E2)(x:Str):Prop:=sc.names.lookup x = some .local\/sc.names.lookup x = some .cell\/sc.names.lookup x = some .free
def Loc(sc:E2)(x:Str):Prop:=sc.names.lookup x = some .local\/sc.names.lookup x = some .cell
def FU(env:Env)(h:Heap)(m:Str->Option cX)(x:Str)(u:cX):Prop :=
 (env.kindOf x = some .local/\m x = some u)\/((env.kindOf x = some .cell\/env.kindOf x = some .free)/\∃ c,env.cells.lookup x = some c/\h.IsCell c (some u))
structure Cx.Ok(X:Cx):Prop where
 mod:Mod X.K X.mg X.base
 kind:X.env.scope.kind=.function
 glob:X.env.globals=xj
 blt:X.env.builtins=Hq
 above:X.s₀.heap.objs.size<=X.env.locals
 inj:∀ x y c,X.env.cells.lookup x=some c->X.env.cells.lookup y=some c->x=y
 has:∀ x,(X.env.kindOf x=some .cell\/X.env.kindOf x=some .free)->∃ c,X.env.cells.lookup x=some c
 cab:∀ x c,X.fn x=true->X.env.cells.lookup x=some c->X.s₀.heap.objs.size<=c
 hd:X.calm=true->X.A.handled=none
 frames:X.A.frames=some X.stack
 stk:X.stack = X.outer\/(X.stack = X.env :: X.outer/\X.env.frame = some X.env.locals)
 exf:∀ b ∈ X.ex,b≠X.env.locals/\∀ x c,X.env.cells.lookup x = some c->c≠b
 bs:∀ b o,X.base.get? b=some o->X.s₀.heap.get? b=some o/\X.H₀ b=none
 bsz:X.base.objs.size<=X.s₀.heap.objs.size
 noex:∀ b o,X.base.get? b=some o->b ∉ X.ex
 exfs:∀ b∈X.ex,b ∉ X.fs
 funs:X.s₀.heap.FunFrames X.base X.outer
 frf:∀ b∈X.fs,X.H₀ b=none
structure Inv(X:Cx)(pins:List (Addr×Obj))(σ:List (Option V))(H:Hp)(s:ej):Prop where
 ok:X.Ok
 os:s.os=X.s₀.os
 bare:GQ s.gens
 base:Un X.fs X.ex X.H₀ H X.s₀.heap s.heap
 loc:∃ m,s.heap.Ns X.env.locals m/\∀(i:Nat) (x:Str) (v:V),X.N[i]? = some x->σ[i]? = some (some v)->Vis X.env.scope x->∃ u,RelV v u/\FU X.env s.heap m x u
 cell:∀ x c,X.env.cells.lookup x=some c->∃ v,s.heap.IsCell c v
 free:H X.env.locals = none
 freeC:∀ x c,X.env.cells.lookup x=some c->H c=none
 pin:∀ p ∈ X.pn ++ pins,s.heap.get? p.1 = some p.2/\H p.1 = none/\p.1≠X.env.locals/\p.1 ∉ X.fs/\∀ v,p.2.data≠.cell v
 hok:HOk X.prog X.w H s.heap
 len:σ.length=X.N.length
section
variable {X:Cx}{pins:List (Addr×Obj)}{σ:List (Option V)}{H H':Hp}{s:ej}{h':Heap}
def Cx.Ok.nofr(a:X.Ok){b:Addr}{o:Obj}(e:X.base.get? b=some o):b ∉ X.fs:=λc=>by
 have:=(a.funs.mem c).1;rw[e]at this;cases this
def Inv.bs(I:Inv X pins σ H s):∀ b o,X.base.get? b=some o->s.heap.get? b=some o/\H b=none:=λb o e =>
 ⟨I.base.keep b o (I.ok.bs b o e).1 (I.ok.bs b o e).2 (I.ok.nofr e) (I.ok.noex b o e),I.base.free b o (I.ok.bs b o e).1 (I.ok.bs b o e).2 (I.ok.noex b o e)⟩
def Inv.bk(I:Inv X pins σ H s):∀ b o,X.base.get? b=some o->s.heap.get? b=some o:=λb o e=>(I.bs b o e).1
def Inv.mod(I:Inv X pins σ H s):Mod X.K X.mg X.base:=I.ok.mod
def Inv.kIn(I:Inv X pins σ H s):X.K.In s.heap:=I.ok.mod.kin.keeps I.bk
def Inv.lt(I:Inv X pins σ H s):X.env.locals < s.heap.objs.size:=let ⟨_,hn,_⟩:=I.loc;hn.lt
def Inv.sz(I:Inv X pins σ H s):X.s₀.heap.objs.size<=s.heap.objs.size:=mu I.ok.above (Gj I.lt)
def Inv.nofs(I:Inv X pins σ H s){a:Addr}(h:s.heap.objs.size<=a):a ∉ X.fs:=λc=>by
 obtain⟨_,o,b,_⟩:=I.ok.funs.mem c;exact absurd (jb (fR b) (mu I.sz h)) (pw _)
def Inv.cne(I:Inv X pins σ H s):∀ x c,X.env.cells.lookup x = some c->c≠X.env.locals:=λx c e z=>by
 obtain⟨v,o,d,f⟩:=I.cell x c e;obtain⟨m,⟨h,i,g,a,b,_⟩,_⟩:=I.loc;rw[z,a]at d;cases d;rw[b]at f;cases f
def Inv.funs(I:Inv X pins σ H s):s.heap.FunFrames X.base X.outer:=by
 have f:∀(l:List Env),(∀ b∈frs l,b∈X.fs)->X.s₀.heap.FunFrames X.base l->s.heap.FunFrames X.base l:=by
  intro l
  induction l with
  | nil=>intro _ _;trivial
  | cons env r ih =>
   intro g m;obtain⟨k,⟨L,o,a,j,h,p⟩,i⟩:=m;have d:L∈X.fs:=g L (by unfold frs;rw[HF,a];exact ft);obtain⟨v,e⟩:=I.base.slot L o h (I.ok.frf L d) d λz=>I.ok.exfs L z d
   exact⟨k,⟨L,_,a,j,e,p⟩,ih (λb c=>g b (by unfold frs;rw[HF,a];exact fy _ c)) i⟩
 exact f X.outer (λ_ c=>c) I.ok.funs
def Inv.stack(I:Inv X pins σ H s):s.heap.FunFrames X.base X.stack:=by
 rcases I.ok.stk with e | ⟨e,a⟩
 .rw[e];exact I.funs
 .rw[e]
  obtain⟨m,b,_⟩:=I.loc;refine .cons (by rw[I.ok.kind];decide) a b ?_ I.funs;exact Heap.get?_none_of_le (mu I.ok.bsz I.ok.above)
def Inv.stkSub(I:Inv X pins σ H s):∀ b ∈ frs X.stack,b ∈ X.env.locals :: X.fs:=λb a=>by
 rcases I.ok.stk with e | ⟨e,c⟩
 .rw[e]at a;exact fy _ a
 .rw[e]at a
  unfold frs at a;rw[HF,c]at a;exact a
def Inv.stkFree(I:Inv X pins σ H s):∀ b∈frs X.stack,H b=none:=λb hb=>by
 rcases i_.mp (I.stkSub b hb) with e | hb
 .rw[e];exact I.free
 .obtain⟨_,o,a,_⟩:=I.ok.funs.mem hb
  exact I.base.free b o a (I.ok.frf b hb) λz=>I.ok.exfs b z hb
def Inv.step{g':Array GenState}{t':Nat}{d':Drawn}{ch:List Addr}(I:Inv X pins σ H s)
  (g:∀ b ∈ ch,(b ∈ X.ex\/X.s₀.heap.objs.size<=b)/\b≠X.env.locals/\(∀ x c,X.env.cells.lookup x = some c->c≠b)/\∀ p ∈ X.pn ++ pins,p.1≠b)
  (h:∀ b o,b≠X.env.locals->b ∉ X.fs->b ∉ ch->s.heap.get? b = some o->H b = none->h'.get? b = some o)
  (B:∀ b o,b≠X.env.locals->b ∈ X.fs->b ∉ ch->s.heap.get? b = some o->H b = none->∃ sl,h'.get? b = some { o with slots:=sl }) (f:∀ b o,b ∉ ch->s.heap.get? b = some o->H b = none->H' b = none)
  (C:∀ b o,b ∉ ch->s.heap.get? b=some o->∃ o',h'.get? b=some o')
  (G:∀ b xs,H b=some (.tup xs)->H' b=some (.tup xs)) (J:∀ b o u,H b=some (.frz o u)->H' b=some (.frz o u)) (F:∀ b ps,H b=some (.tbl ps)->∃ more,H' b=some (.tbl (ps++more)))
  (R:∀ m,s.heap.Ns X.env.locals m->h'.Ns X.env.locals m) (O:HOk X.prog X.w H' h') (Z:GQ g') :
  Inv X pins σ H' { s with heap:=h',gens:=g',drawn:=d',toks:=t' }:=by
 have L:∀ b o,X.s₀.heap.get? b = some o->b≠X.env.locals:=λb o e=>nl (jb (fR e) I.ok.above)
 have y:∀ b o,X.s₀.heap.get? b=some o->b ∉ X.ex->b ∉ ch:=λb o e a D=>by
  rcases(g b D).1 with z | z
  .exact a z
  .exact absurd (jb (fR e) z) (pw _)
 have j:∀ x c,X.env.cells.lookup x=some c->∀ v,s.heap.IsCell c v->h'.IsCell c v:=λx c e v ⟨o,E,N⟩=>by
  have w:c ∉ ch:=λz=>(g c z).2.2.1 x c e rfl
  by_cases hc:c∈X.fs
  .obtain⟨sl,q⟩:=B c o (I.cne x c e) hc w E (I.freeC x c e)
   exact⟨_,q,N⟩
  .exact⟨o,h c o (I.cne x c e) hc w E (I.freeC x c e),N⟩
 refine⟨I.ok,I.os,Z,⟨λb o e n D a=>?_,λb o e n D a=>?_,λb o e n a=>?_,λb o e a=>?_,λb xs e=>G b xs (I.base.tups b xs e),λb o xs e=>J b o xs (I.base.frzs b o xs e),λb ps e=>?_⟩,?_,λx c e=>?_,?_,λx c e=>?_,λp hp=>?_,O,I.len⟩
 .exact h b o (L b o e) D (y b o e a) (I.base.keep b o e n D a) (I.base.free b o e n a)
 .obtain⟨sl,A⟩:=I.base.slot b o e n D a
  obtain⟨M,K⟩:=B b _ (L b o e) D (y b o e a) A (I.base.free b o e n a);exact⟨M,K⟩
 .obtain⟨o',A⟩:=I.base.there b o e a
  exact f b o' (y b o e a) A (I.base.free b o e n a)
 .obtain⟨o',A⟩:=I.base.there b o e a
  exact C b o' (y b o e a) A
 .obtain⟨S,A⟩:=I.base.tbls b ps e
  obtain⟨W,K⟩:=F b _ A;exact⟨S++W,by rw[K,HJ]⟩
 .obtain⟨m,hn,T⟩:=I.loc
  refine⟨m,R m hn,λi x v A K Y=>?_⟩;obtain⟨u,r,l⟩:=T i x v A K Y;refine⟨u,r,?_⟩
  rcases l with l | ⟨k,c,e,z⟩
  .exact .inl l
  .exact .inr ⟨k,c,e,j x c e _ z⟩
 .obtain⟨v,z⟩:=I.cell x c e
  exact⟨v,j x c e v z⟩
 .obtain⟨m,⟨o,_,_,E,_⟩,_⟩:=I.loc
  exact f _ o (λz=>(g _ z).2.1 rfl) E I.free
 .obtain⟨v,o,E,N⟩:=I.cell x c e
  exact f c o (λz=>(g c z).2.2.1 x c e rfl) E (I.freeC x c e)
 .obtain⟨e,n,Q,P,d⟩:=I.pin p hp
  have w:p.1 ∉ ch:=λz=>(g p.1 z).2.2.2 p hp rfl
  exact⟨h p.1 p.2 Q P w e n,f p.1 p.2 w e n,Q,P,d⟩
def Inv.un{t':Nat}(I:Inv X pins σ H s)(u:Un X.fs [] H H' s.heap h')(d:HOk X.prog X.w H' h'):Inv X pins σ H' { s with heap:=h',toks:=t' }:=by
 obtain⟨m,⟨o,k,j,g,r⟩,_⟩:=id I.loc;obtain⟨p,i⟩:=u.any g I.free (by simp)
 exact I.step (g':=s.gens) (d':=s.drawn) (ch:=[]) (λ_ z=>nomatch z) (λb o _ hb _ e n=>u.keep b o e n hb (by simp)) (λb o _ hb _ e n=>u.slot b o e n hb (by simp)) (λb o _ e n=>u.free b o e n (by simp)) (λb o _ e=>u.there b o e (by simp)) u.tups u.frzs u.tbls (λm' hm=>by
  obtain⟨l,f,c,a,h⟩:=hm;rw[g]at a;cases a
  exact⟨_,f,c,i,h⟩) d I.bare
def Inv.call{g':Array GenState}{t':Nat}{d':Drawn}{ch:List Addr}(I:Inv X pins σ H s)(u:Un (frs X.stack) ch H H' s.heap h')(h:HOk X.prog X.w H' h')(v:GQ g')
  (d:∀ b ∈ ch,(b ∈ X.ex\/X.s₀.heap.objs.size<=b)/\b≠X.env.locals/\(∀ x c,X.env.cells.lookup x = some c->c≠b)/\∀ p ∈ X.pn ++ pins,p.1≠b) :
  Inv X pins σ H' { s with heap:=h',gens:=g',drawn:=d',toks:=t' }:=by
 obtain⟨m,⟨o,A,y,k,r⟩,_⟩:=id I.loc;obtain⟨C,i⟩:=u.any k I.free λz=>(d _ z).2.1 rfl
 exact I.step (ch:=ch) d (λb o i w a e n=>u.keep b o e n (λz=>(i_.mp (I.stkSub b z)).elim i w) a) (λb o _ _ a e n=>u.any e n a) (λb o a e n=>u.free b o e n a) (λb o a e=>u.there b o e a) u.tups u.frzs u.tbls (λm' hm=>by
  obtain⟨B,j,g,f,l⟩:=hm;rw[k]at f;cases f
  exact⟨_,j,g,i,l⟩) h v
def Inv.turned{t':Nat}{a:Addr}(I:Inv X pins σ H s)(k:∀ b o,b≠a->s.heap.get? b = some o->h'.get? b = some o)(j:H a = none)(g:a≠X.env.locals)
  (y:a∈X.ex\/X.s₀.heap.objs.size<=a) (A:∀ x c,X.env.cells.lookup x=some c->c≠a) (l:∀ p∈X.pn++pins,p.1≠a):Inv X pins σ H { s with heap:=h',toks:=t' }:=by
 have f:∀ b u,H b=some u->b≠a:=λb u e z=>by rw[z,j]at e;cases e
 refine I.step (g':=s.gens) (d':=s.drawn) (ch:=[a]) (λb B=>?_) (λb o _ _ d e _=>k b o (λz=>d (by simp[z])) e) (λb o _ _ d e _=>⟨o.slots,k b o (λz=>d (by simp[z])) e⟩) (λ_ _ _ _ n=>n)
  (λb o d e=>⟨o,k b o (λz=>d (by simp[z])) e⟩) (λ_ _ e=>e) (λ_ _ _ e=>e) (λb ps e=>⟨#[],by rw[e];simp⟩) (λm hm=>?_) (λb u e=>?_) I.bare
 .have e:b=a:=by simpa using B
  subst e;exact⟨y,g,A,l⟩
 .obtain⟨o,w,i,h,r⟩:=hm
  exact⟨o,w,i,k _ o (FZ g) h,r⟩
 .refine(I.hok b u e).stay (λc v d q=>k c v ?_ q) (λ_ q=>q) λ_ _ q=>q
  rcases d with z | z
  .rw[z];exact f b u e
  .exact f c _ z
def Inv.tok(I:Inv X pins σ H s)(t:Nat):Inv X pins σ H { s with toks:=t }:=I.un (h':=s.heap) (t':=t) Un.refl I.hok
def Inv.kept{t':Nat}(I:Inv X pins σ H s)(k:∀ b u,s.heap.get? b=some u->h'.get? b=some u):Inv X pins σ H { s with heap:=h',toks:=t' }:=I.un (Un.kept k) (I.hok.kept k)
def Inv.laid{a:Addr}{o:HO}{t':Nat}(I:Inv X pins σ H s)(k:∀ b u,s.heap.get? b=some u->h'.get? b=some u)(d:s.heap.objs.size<=a)(c:ObjOk X.prog X.w (upd H a o) h' a o) :
  Inv X pins σ (upd H a o) { s with heap:=h',toks:=t' }:=I.un (Un.laid k d (I.hok.fresh d)) (I.hok.laid k d c)
def Inv.write{x e:Addr}{o:HO}{t':Nat}(I:Inv X pins σ H s)(d:Mut (H x))(f:e=x\/H e=some (.own x))(k:∀ b u,b≠e->s.heap.get? b=some u->h'.get? b=some u)(a:∃ u,h'.get? e=some u)
  (c:ObjOk X.prog X.w (upd H x o) h' x o):Inv X pins σ (upd H x o) { s with heap:=h',toks:=t' }:=I.un (Un.write d f k a) (I.hok.write d f k a c)
def Inv.weak{a:List (Option V)}(I:Inv X pins σ H s)(b:a.length=σ.length)(w:∀(i:Nat) v,a[i]? = some (some v)->σ[i]? = some (some v)):Inv X pins a H s :=
 ⟨I.ok,I.os,I.bare,I.base,let ⟨m,hn,hl'⟩:=I.loc;⟨m,hn,λi x v c d e=>hl' i x v c (w i v d) e⟩,I.cell,I.free,I.freeC,I.pin,I.hok,b.trans I.len⟩
def Inv.pins_of{a:List (Addr×Obj)}(I:Inv X pins σ H s)(h:∀ p ∈ a,s.heap.get? p.1 = some p.2/\H p.1 = none/\p.1≠X.env.locals/\p.1 ∉ X.fs/\∀ v,p.2.data≠.cell v):Inv X a σ H s :=
 ⟨I.ok,I.os,I.bare,I.base,I.loc,I.cell,I.free,I.freeC,λp b=>(ra.mp b).elim (λz=>I.pin p (B_ _ z)) (h p),I.hok,I.len⟩
def ni{N:List Str}(c:N.Nodup){i j:Nat}{x:Str}(a:N[i]? = some x)(b:N[j]? = some x):i=j:=by
 obtain⟨f,d⟩:=b_.mp a;obtain⟨g,e⟩:=b_.mp b;exact(Kp c).mp (d.trans e.symm)
def pB{M:Model}{A:o3}{E:cX->ej->Prop}{i:Nat}{x:Str}{v:V}{u:cX}{Q:Unit->ej->Prop}(I:Inv X pins σ H s)(hN:X.N.Nodup)(P:X.N[i]? = some x)(w:Loc X.env.scope x)(r:RelV v u)
  (h:∀ s',Inv X pins (σ.set i (some v)) H s'->(∃ a,GF a s.heap s'.heap/\(a = X.env.locals\/X.env.cells.lookup x = some a))->Q () s') (hf:X.fn x = true\/X.env.scope.names.lookup x = some .local:=by first | exact .inl rfl | exact .inr rfl | assumption):gV M A (LH X.env x u) Q E s:=by
 obtain⟨m,hn,hl⟩:=id I.loc;have L:(X.env.scope.kind == .class || (X.env.scope.kind == .module && X.env.locals != X.env.globals)) = false:=by rw[I.ok.kind];rfl
 have C:i<σ.length:=by rw[I.len];exact(b_.mp P).1
 have G:=I.cne
 have g:∀{a:Addr}{J:Heap},(∃ o,s.heap.get? a=some o/\H a=none)->GF a s.heap J->HOk X.prog X.w H J:=λ{a J} ha f b ob e=>by
  obtain⟨_,_,B⟩:=ha;refine(I.hok b ob e).stay (λc R hc q=>(f.2 c ?_).trans q) (λ_ q=>q) λ_ _ q=>q
  rintro rfl
  rcases hc with rfl | hc
  .rw[B]at e;cases e
  .rw[B]at hc;cases hc
 rcases w with hk | hk
 .refine wpAny_storeName_local hk hn (λJ ab f=>?_) L
  obtain⟨oL,_,_,ad,_⟩:=id hn;refine h _ ⟨I.ok,I.os,I.bare,⟨λb o e n D w=>?_,λb o e n D w=>?_,I.base.free,λb o e w=>?_,I.base.tups,I.base.frzs,I.base.tbls⟩,⟨_,ab,λj y v' l e2 e3=>?_⟩,λy c e=>?_,I.free,I.freeC,λp hp=>?_,g ⟨oL,ad,I.free⟩ f,by simpa using I.len⟩ ⟨_,f,.inl rfl⟩
  .exact(f.2 b (nl (jb (fR e) I.ok.above))).trans (I.base.keep b o e n D w)
  .obtain⟨W,l⟩:=I.base.slot b o e n D w
   exact⟨W,(f.2 b (nl (jb (fR e) I.ok.above))).trans l⟩
  .obtain⟨o',l⟩:=I.base.there b o e w
   exact⟨o',(f.2 b (nl (jb (fR e) I.ok.above))).trans l⟩
  .by_cases hj:j=i
   .subst hj
    rw[P]at l;cases l;rw[Jt C]at e2;cases e2;exact⟨u,r,.inl ⟨hk,by simp⟩⟩
   .rw[JJ (FZ hj)]at e2
    obtain⟨u',Y,q⟩:=hl j y v' l e2 e3;refine⟨u',Y,?_⟩
    rcases q with⟨k,e⟩ | ⟨k,c,e,z⟩
    .refine .inl ⟨k,?_⟩
     have:y≠x:=λe=>hj (ni hN l (e ▸ P))
     simp[this,e]
    .exact .inr ⟨k,c,e,z.sameBut f (G y c e)⟩
  .obtain⟨R,z⟩:=I.cell y c e
   exact⟨R,z.sameBut f (G y c e)⟩
  .obtain⟨e,n,S,Z,d⟩:=I.pin p hp
   exact⟨(f.2 p.1 S).trans e,n,S,Z,d⟩
 .have F:X.fn x=true:=by
   rcases hf with z | z
   .exact z
   .rw[z]at hk;cases hk
  obtain⟨c,hc⟩:=I.ok.has x (.inl hk);obtain⟨R,z⟩:=I.cell x c hc;refine wpAny_storeName_cell I.ok.kind hk hc z (λJ K f=>?_);obtain⟨oc,N,O⟩:=id z;refine h { s with heap:=J } ⟨I.ok,I.os,I.bare,⟨λb o e n D w=>?_,λb o e n D w=>?_,I.base.free,λb o e w=>?_,I.base.tups,I.base.frzs,I.base.tbls⟩,⟨m,hn.sameBut f (FZ (G x c hc)),λj y v' l e2 e3=>?_⟩,λy T e=>?_,I.free,I.freeC,λp hp=>?_,g ⟨oc,N,I.freeC x c hc⟩ f,by simpa using I.len⟩ ⟨c,f,.inr hc⟩
  .exact(f.2 b (nl (jb (fR e) (I.ok.cab x c F hc)))).trans (I.base.keep b o e n D w)
  .obtain⟨W,l⟩:=I.base.slot b o e n D w
   exact⟨W,(f.2 b (nl (jb (fR e) (I.ok.cab x c F hc)))).trans l⟩
  .obtain⟨o',l⟩:=I.base.there b o e w
   exact⟨o',(f.2 b (nl (jb (fR e) (I.ok.cab x c F hc)))).trans l⟩
  .by_cases hj:j=i
   .subst hj
    rw[P]at l;cases l;rw[Jt C]at e2;cases e2;exact⟨u,r,.inr ⟨.inl hk,c,hc,K⟩⟩
   .rw[JJ (FZ hj)]at e2
    obtain⟨u',Y,q⟩:=hl j y v' l e2 e3;refine⟨u',Y,?_⟩
    rcases q with q | ⟨k,T,e,z'⟩
    .exact .inl q
    .refine .inr ⟨k,T,e,z'.sameBut f ?_⟩
     rintro rfl;exact hj (ni hN l (I.ok.inj _ _ _ e hc ▸ P))
  .by_cases hcc:T=c
   .subst hcc;exact⟨_,K⟩
   .obtain⟨w2,z2⟩:=I.cell y T e
    exact⟨w2,z2.sameBut f hcc⟩
  .obtain⟨e,n,S,Z,d⟩:=I.pin p hp
   refine⟨(f.2 p.1 ?_).trans e,n,S,Z,d⟩;intro q;rw[q,N]at e;have q':oc=p.2:=ll e;exact d R (by rw[<- q'];exact O)
def gY{M:Model}{A:o3}{E:cX->ej->Prop}{i:Nat}{x:Str}{v:V}{u:cX}{Q:Unit->ej->Prop}(I:Inv X pins σ H s)(c:X.N.Nodup)(e:X.N[i]? = some x)(d:Loc X.env.scope x)(r:RelV v u)
  (h:∀ s',Inv X pins (σ.set i (some v)) H s'->Q () s') (a:X.fn x = true\/X.env.scope.names.lookup x = some .local:=by first | exact .inl rfl | exact .inr rfl | assumption):gV M A (LH X.env x u) Q E s :=
 pB I c e d r (λs' b _=>h s' b) a
def Inv.call'{a:ej}{ch:List Addr}(I:Inv X pins σ H s)(g:a.os=s.os)(u:Un (frs X.stack) ch H H' s.heap a.heap)(f:HOk X.prog X.w H' a.heap)(h:GQ a.gens)
  (d:∀ b ∈ ch,(b ∈ X.ex\/X.s₀.heap.objs.size<=b)/\b≠X.env.locals/\(∀ x c,X.env.cells.lookup x = some c->c≠b)/\∀ p ∈ X.pn ++ pins,p.1≠b):Inv X pins σ H' a:=by
 obtain⟨j,g',d',t',i⟩:=a;have e:i=s.os:=g;subst e;exact I.call (g':=g') (t':=t') (d':=d') u f h d
end
abbrev XK:=cX->Option Addr->Hp->Prop
abbrev St:=List (Option V)
abbrev VK:=V->Hp->Prop
abbrev TE:=St->Hp->VK->Prop
abbrev TT:=St->Hp->(Bool->Hp->Prop)->Prop
abbrev TA:=St->Hp->(List V->Hp->Prop)->Prop
structure Ends where
 nx:St->Hp->Prop
 rt:VK
 bk:St->Hp->Prop:=λ_ _=>False
 ct:St->Hp->Prop:=λ_ _=>False
abbrev TS:=Ends->St->Hp->Prop
def EP(X:Cx)(pins:List (Addr×Obj))(σ:St)(Q:VK)(u:cX)(s':ej):Prop:=∃ v H',Inv X pins σ H' s'/\RelV v u/\Q v H'
def TP(X:Cx)(pins:List (Addr×Obj))(σ:St)(Q:Bool->Hp->Prop)(b:Bool)(s':ej):Prop:=∃ H',Inv X pins σ H' s'/\Q b H'
def AP(X:Cx)(pins:List (Addr×Obj))(σ:St)(Q:List V->Hp->Prop)(us:List cX)(s':ej):Prop:=∃ vs H',Inv X pins σ H' s'/\Vals vs us/\Q vs H'
def SP(X:Cx)(pins:List (Addr×Obj))(D:Ends)(f:Flow)(s':ej):Prop :=
 match f with
 | .next=>∃ σ' H',Inv X pins σ' H' s'/\D.nx σ' H'
 | .brk=>∃ σ' H',Inv X pins σ' H' s'/\D.bk σ' H'
 | .cont=>∃ σ' H',Inv X pins σ' H' s'/\D.ct σ' H'
 | .ret u=>∃ v σ' H',Inv X pins σ' H' s'/\RelV v u/\D.rt v H'
def PE(X:Cx)(e:Expr)(t:TE):Prop :=
 ∀(pins:List (Addr×Obj)) (s:ej) (σ:St) (H:Hp) (Q:VK),Inv X pins σ H s->t σ H Q->gV (kw X.prog X.w) X.A (eval e X.env) (EP X pins σ Q) X.xe s
def PT(X:Cx)(e:Expr)(t:TT):Prop :=
 ∀(pins:List (Addr×Obj)) (s:ej) (σ:St) (H:Hp) (Q:Bool->Hp->Prop),Inv X pins σ H s->t σ H Q->gV (kw X.prog X.w) X.A (J8 e X.env (eval e X.env)) (TP X pins σ Q) X.xe s
def PW(X:Cx)(e:Expr)(t:TT):Prop :=
 ∀(whole:Sem cX) (pins:List (Addr×Obj)) (s:ej) (σ:St) (H:Hp) (Q:Bool->Hp->Prop),Inv X pins σ H s->t σ H Q->gV (kw X.prog X.w) X.A (J8 e X.env whole) (TP X pins σ Q) X.xe s
def PW.pt{X:Cx}{e:Expr}{t:TT}(h:PW X e t):PT X e t:=h _
def PA(X:Cx)(es:List Expr)(t:TA):Prop :=
 ∀(pos:Pos) (pins:List (Addr×Obj)) (s:ej) (σ:St) (H:Hp) (Q:List V->Hp->Prop),Inv X pins σ H s->t σ H Q->gV (kw X.prog X.w) X.A (spliced (tp pos (fI es X.env))) (AP X pins σ Q) X.xe s
def PS(X:Cx)(st:Stmt)(t:TS):Prop :=
 ∀(pins:List (Addr×Obj)) (s:ej) (σ:St) (H:Hp) (D:Ends),Inv X pins σ H s->t D σ H->gV (kw X.prog X.w) X.A (exec st X.env) (SP X pins D) X.xe s
def PSs(X:Cx)(st:List Stmt)(t:TS):Prop :=
 ∀(pins:List (Addr×Obj)) (s:ej) (σ:St) (H:Hp) (D:Ends),Inv X pins σ H s->t D σ H->gV (kw X.prog X.w) X.A (execs st X.env) (SP X pins D) X.xe s
def thn{b:Type}{t:Sem b}{Q c:b->ej->Prop}{M:Model}{A:o3}{E:cX->ej->Prop}{s:ej}(h:gV M A t Q E s)(d:∀ a s,Q a s->c a s):gV M A t c E s:=tW h d λ_ _ x=>x
section
variable {X:Cx}
def E4(i:Nat):TE:=λσ H Q=>∃ v,σ[i]? = some (some v)/\Q v H
def tC(v:V):TE:=λ_ H Q=>Q v H
def wO{i:Nat}{x:Str}{f:Pos}(A:X.N[i]? = some x)(p:Vis X.env.scope x)(j:(x == ("__debug__" : Str))=false:=by decide)(g:(x == ("__classdict__" : Str))=false:=by decide):PE X (.Name x f) (E4 i):=by
 intro d s B H Q I h;obtain⟨v,e,h⟩:=h;obtain⟨m,w,y⟩:=I.loc;obtain⟨u,r,l⟩:=y i x v A e p
 have b:EP X d B Q u s:=⟨v,H,I,r,h⟩
 rcases l with⟨hk,o⟩ | ⟨hk,c,k,a⟩
 .exact K_ (Kz I.ok.kind hk w o b) j
 .rcases hk with hk | hk
  .exact K_ (KR I.ok.kind hk k a b) j
  .exact K_ (wpAny_loadName_free I.ok.kind hk k a b g) j
def ag{i j pos}:PE X (.Constant (.int i) j pos) (tC (.int i)):=λ_ _ _ H _ I h=>wpAny_Constant_int ⟨.int i,H,I.tok _,⟨_,rfl⟩,h⟩
def fB{b j pos}:PE X (.Constant (.bool b) j pos) (tC (.bl b)):=λ_ _ _ H _ I h=>Constant_bool ⟨.bl b,H,I,rfl,h⟩
def fJ{j pos}:PE X (.Constant .none j pos) (tC .non):=λ_ _ _ H _ I h=>Constant_none ⟨.non,H,I,rfl,h⟩
def b8{x j pos}:PE X (.Constant (.str x) j pos) (tC (.str x)):=λ_ _ _ H _ I h=>Calls.Constant_str ⟨.str x,H,I.tok _,⟨_,rfl⟩,h⟩
def Gl(X:Cx)(x:Str):Prop:=X.env.kindOf x=some .globalImplicit
def jU{E:cX->ej->Prop}{a:List (Addr×Obj)}{s:ej}{f:St}{H:Hp}{x:Str}{u:cX}{b:Pos}{Q:cX->ej->Prop}(I:Inv X a f H s)(d:Gl X x)(c:X.mg x=some u)(h:Q u s)
  (e:(x == ("__debug__" : Str))=false:=by decide):gV (kw X.prog X.w) X.A (eval (.Name x b) X.env) Q E s :=
 IC I.ok.kind d (Calls.loadGlobal_global (by rw[I.ok.glob];exact I.mod.glob.keeps I.bk) c h) e
def ib{E:cX->ej->Prop}{a:List (Addr×Obj)}{s:ej}{j:St}{H:Hp}{x:Str}{u:cX}{b:Pos}{Q:cX->ej->Prop}(I:Inv X a j H s)(d:Gl X x)(c:X.mg x=none)(f:nv x=some u)(h:Q u s)
  (e:x ≠ "__name__" := by decide) (i:(x == ("__debug__" : Str))=false:=by decide):gV (kw X.prog X.w) X.A (eval (.Name x b) X.env) Q E s:=by
 obtain⟨l,g,k⟩:=I.mod.blt;exact IC I.ok.kind d (Calls.loadGlobal_builtin (by rw[I.ok.glob];exact I.mod.glob.keeps I.bk) c (by rw[I.ok.blt];exact g.keeps I.bk) ((k x e).trans f) h) i
def Au{x:Str}{v:V}{u:cX}{a:Pos}(c:Gl X x)(b:X.mg x=some u)(r:RelV v u)(d:(x == ("__debug__" : Str))=false:=by decide):PE X (.Name x a) (tC v) :=
 λ_ _ _ H _ I h=>jU I c b ⟨v,H,I,r,h⟩ d
def bS{x:Str}{v:V}{u:cX}{a:Pos}(c:Gl X x)(b:X.mg x=none)(e:nv x=some u)(r:RelV v u)(d:x ≠ "__name__" := by decide)(f:(x == ("__debug__" : Str))=false:=by decide):PE X (.Name x a) (tC v) :=
 λ_ _ _ H _ I h=>ib I c b e ⟨v,H,I,r,h⟩ d f
variable {a b:Expr}{ta tb:TE}{pos:Pos}
def PC(X:Cx)(op:JW)(a b:Expr)(t:TE):Prop :=
 ∀(pins:List (Addr×Obj)) (s:ej) (σ:St) (H:Hp) (Q:VK),Inv X pins σ H s->t σ H Q ->
  gV (kw X.prog X.w) X.A (eval a X.env) (λv s₁=>gV (kw X.prog X.w) X.A (eval b X.env) (λu s₂=>gV (kw X.prog X.w) X.A (nf op v u) (EP X pins σ Q) X.xe s₂) X.xe s₁) X.xe s
def wU(b:Expr){a:JW}(h:a≠.In)(d:a≠.NotIn):Gf a b=false:=by
 have c:(a == CmpOp.In)=false:=by cases a <;> first | rfl | exact absurd rfl h
 have e:(a == CmpOp.NotIn)=false:=by cases a <;> first | rfl | exact absurd rfl d
 cases b <;> simp[Gf,c,e]
def tB(t:TE):TT:=λσ H Q=>t σ H λx H1=>∃ c,x=.bl c/\Q c H1
def Co{g:JW}{t:TE}(h:PC X g a b t)(f:Gf g b=false:=by first | exact wU _ (by decide) (by decide) | rfl):PT X (.Compare a [g] [b] pos) (tB t):=by
 intro e s j H Q I i;refine Kq (thn (h e s j H _ I i) λv k f=>thn f λu s2 h2=>thn h2 λc s3 ⟨x,H1,I1,r1,q1⟩=>?_) f;obtain⟨d,rfl,q⟩:=q1;cases r1;exact qj ⟨H1,I1,q⟩
variable {tA tB':TT}{rest:List Expr}
def FC(t u:TT):TT:=λσ H Q=>t σ H λc H1=>if c=true then u σ H1 Q else Q false H1
def tOr(t u:TT):TT:=λσ H Q=>t σ H λc H1=>if c=true then Q true H1 else u σ H1 Q
def FS(t:TT):TT:=λσ H Q=>t σ H λc H1=>Q (!c) H1
def qJ(d:PT X a tA):PW X (.BoolOp .And [a] pos) tA:=by
 intro g b s f H Q I h;refine isTrue_and (thn (d b s f H Q I h) λc i e=>?_);cases c with
 | true=>exact isTrue_and_nil e
 | false=>exact e
def hZ(d:PT X a tA):PW X (.BoolOp .Or [a] pos) tA:=by
 intro g b s f H Q I h;refine isTrue_or (thn (d b s f H Q I h) λc i e=>?_);cases c with
 | false=>exact isTrue_or_nil e
 | true=>exact e
def pR(k:PT X a tA)(m:PW X (.BoolOp .And (b::rest) pos) tB'):PW X (.BoolOp .And (a::b::rest) pos) (FC tA tB'):=by
 intro l d s i H Q I h;refine isTrue_and (thn (k d s i H _ I h) λc j ⟨f,g,e⟩=>?_);cases c with
 | true=>exact m l d j i f Q g e
 | false=>exact⟨f,g,e⟩
def kO(k:PT X a tA)(m:PW X (.BoolOp .Or (b::rest) pos) tB'):PW X (.BoolOp .Or (a::b::rest) pos) (tOr tA tB'):=by
 intro l d s i H Q I h;refine isTrue_or (thn (k d s i H _ I h) λc j ⟨f,g,e⟩=>?_);cases c with
 | true=>exact⟨f,g,e⟩
 | false=>exact m l d j i f Q g e
def bx(e:PT X a tA):PT X (.UnaryOp .Not a pos) (FS tA):=by
 intro b s d H Q I h;exact isTrue_not (e b s d H (λc f=>Q (!c) f) I h)
def bW{op}{t:TE}(h:PE X a t):PE X (.BoolOp op [a] pos) t:=λb s d H Q I c=>BoolOp_one (h b s d H Q I c)
def tIf(t:TT)(ta tb:TE):TE:=λσ H Q=>t σ H λc H1=>if c=true then ta σ H1 Q else tb σ H1 Q
def eM{c:Expr}(l:PT X c tA)(m:PE X a ta)(o:PE X b tb):PE X (.IfExp c a b pos) (tIf tA ta tb):=by
 intro e s f H Q I h;refine wpAny_IfExp (thn (l e s f H _ I h) λd g ⟨j,k,i⟩=>?_);cases d with
 | true=>exact m e g f j Q k i
 | false=>exact o e g f j Q k i
end
def SqL(K:Frag)(H:Hp)(a:Addr)(xs:List V):Prop :=
 Rd H a (.lst xs) \/
  ∃(o:Obj) (its:Array cX) (n:Nat),K.lookup a=some o/\o.cls=.type "list" /\ o.dict=none/\o.data=.seq its n/\its.size<=sizeLine/\Vals xs its.toList
def SqT(K:Frag)(H:Hp)(a:Addr)(xs:List V):Prop :=
 Rd H a (.tup xs) \/
  ∃(o:Obj) (its:Array cX) (n:Nat),K.lookup a=some o/\o.cls=.type "tuple" /\ o.data=.seq its n/\its.size<=sizeLine/\Vals xs its.toList
def Fv:cX->Option V
 | .none=>some .non
 | .bool b=>some (.bl b)
 | .int i _=>some (.int i)
 | .str x _=>some (.str x)
 | .bytes b _=>some (.byt b)
 | .float b _=>some (.flt b)
 | .ref a=>some (.ref a)
 | .type n=>some (.ty n)
 | _=>none
def RelV.abs{x:V}{u:cX}(r:RelV x u):Fv u=some x:=by
 cases x with
 | non=>cases r;rfl
 | bl _=>cases r;rfl
 | int _=>obtain⟨t,rfl⟩:=r;rfl
 | str _=>obtain⟨t,rfl⟩:=r;rfl
 | byt _=>obtain⟨t,rfl⟩:=r;rfl
 | flt _=>obtain⟨t,rfl⟩:=r;rfl
 | ref _=>cases r;rfl
 | ty _=>cases r;rfl
def RelV.inj{x y:V}{u:cX}(r:RelV x u)(q:RelV y u):x=y:=ll (r.abs.symm.trans q.abs)
theorem Vals.inj:∀{xs ys:List V}{us:List cX},Vals xs us->Vals ys us->xs=ys
 | _,_,_,.nil,.nil=>rfl
 | _,_,_,.cons r t,.cons r' t'=>by rw[r.inj r',Vals.inj t t']
section
variable {X:Cx}{pins:List (Addr×Obj)}{σ:St}{H:Hp}{s:ej}{a:Addr}{xs ys:List V}
def SqL.of{K:Frag}(h:H a=some (.lst xs)):SqL K H a xs:=.inl (.inl h)
def SqT.of{K:Frag}(h:H a=some (.tup xs)):SqT K H a xs:=.inl (.inl h)
def Inv.list(I:Inv X pins σ H s)(h:SqL X.K H a xs):∃ its:List cX,Vals xs its/\PlainL s.heap a its.toArray/\xs.length<=sizeLine:=by
 rcases h with h | ⟨o,its,n,b,c,d,f,g,r⟩
 .obtain⟨z,its,n,r,e⟩:=h.ok I.hok
  exact⟨its,r,⟨_,n,e,rfl,rfl,rfl⟩,z⟩
 .refine⟨its.toList,r,⟨o,n,I.kIn a o b,c,d,by simpa using f⟩,?_⟩
  have e:=r.length;simp only[CZ]at e;lia
def Inv.tuple(I:Inv X pins σ H s)(h:SqT X.K H a xs):∃ its:List cX,Vals xs its/\IsTup s.heap a its.toArray/\xs.length<=sizeLine:=by
 rcases h with h | ⟨o,its,n,b,d,c,f,r⟩
 .obtain⟨z,its,r,p⟩:=h.ok I.hok
  exact⟨its,r,p,z⟩
 .refine⟨its.toList,r,⟨o,I.kIn a o b,d,n,by simpa using c⟩,?_⟩
  have e:=r.length;simp only[CZ]at e;lia
def Inv.list_inj(I:Inv X pins σ H s)(h:SqL X.K H a xs)(h':SqL X.K H a ys):xs=ys:=by
 obtain⟨c,r,⟨o,n,e,_,_,d⟩,_⟩:=I.list h;obtain⟨b,i,⟨k,j,f,_,_,g⟩,_⟩:=I.list h';rw[e]at f;cases f;rw[d]at g;injection g with d1 _
 have:c=b:=by simpa using congrArg Array.toList d1
 subst this;exact r.inj i
def Inv.tuple_inj(I:Inv X pins σ H s)(h:SqT X.K H a xs)(h':SqT X.K H a ys):xs=ys:=by
 obtain⟨c,r,⟨o,e,_,n,d⟩,_⟩:=I.tuple h;obtain⟨b,i,⟨k,f,_,j,g⟩,_⟩:=I.tuple h';rw[e]at f;cases f;rw[d]at g;injection g with d1 _
 have:c=b:=by simpa using congrArg Array.toList d1
 subst this;exact r.inj i
end
abbrev Cx.wish(X:Cx)(E:cX->ej->Prop):Cx:={ X with xe:=E }
abbrev Cx.nox(X:Cx):Cx:=X.wish λ_ _=>False
def Cx.Ok.wish{X:Cx}(a:X.Ok)(E:cX->ej->Prop):(X.wish E).Ok :=
 ⟨a.mod,a.kind,a.glob,a.blt,a.above,a.inj,a.has,a.cab,a.hd,a.frames,a.stk,a.exf,a.bs,a.bsz,a.noex,a.exfs,a.funs,a.frf⟩
def Cx.Ok.unwish{X:Cx}{E:cX->ej->Prop}(a:(X.wish E).Ok):X.Ok :=
 ⟨a.mod,a.kind,a.glob,a.blt,a.above,a.inj,a.has,a.cab,a.hd,a.frames,a.stk,a.exf,a.bs,a.bsz,a.noex,a.exfs,a.funs,a.frf⟩
section
variable {X:Cx}{pins:List (Addr×Obj)}{σ:St}{H:Hp}{s:ej}{E:cX->ej->Prop}
def Inv.wish(I:Inv X pins σ H s)(E:cX->ej->Prop):Inv (X.wish E) pins σ H s:=⟨I.ok.wish E,I.os,I.bare,I.base,I.loc,I.cell,I.free,I.freeC,I.pin,I.hok,I.len⟩
def Inv.unwish(I:Inv (X.wish E) pins σ H s):Inv X pins σ H s:=⟨I.ok.unwish,I.os,I.bare,I.base,I.loc,I.cell,I.free,I.freeC,I.pin,I.hok,I.len⟩
def SP.unwish{D:Ends}{f:Flow}{c:ej}(h:SP (X.wish E) pins D f c):SP X pins D f c:=by
 cases f with
 | next=>obtain⟨a,b,I,q⟩:=h;exact⟨a,b,I.unwish,q⟩
 | brk=>obtain⟨a,b,I,q⟩:=h;exact⟨a,b,I.unwish,q⟩
 | cont=>obtain⟨a,b,I,q⟩:=h;exact⟨a,b,I.unwish,q⟩
 | ret u=>obtain⟨v,a,b,I,r,q⟩:=h;exact⟨v,a,b,I.unwish,r,q⟩
def PSs.nox{st:List Stmt}{t:TS}(h:PSs X.nox st t):PSs X st t:=λa s c H D I b =>
 tW (h a s c H D (I.wish _) b) (λ_ _ q=>q.unwish) λ_ _ z=>mM z
end
section
variable {X:Cx}{st:Stmt}{rest:List Stmt}{t u:TS}{e:Expr}{te:TE}{pos:Pos}
def Eb:TS:=λD σ H=>D.nx σ H
def bj(t u:TS):TS:=λD σ H=>t { D with nx:=u D } σ H
def aC:PSs X [] Eb:=λ_ _ a H _ I h=>Gh ⟨a,H,I,h⟩
def af(e:PS X st t)(j:PSs X rest u):PSs X (st::rest) (bj t u):=by
 intro a s i H D I h;refine A8 (thn (e a s i H { D with nx:=u D } I h) λf d q=>?_);cases f with
 | next =>
  obtain⟨b,g,c,q⟩:=q;exact j a d b g D c q
 | ret v=>exact q
 | brk=>exact q
 | cont=>exact q
def ai(c:PS X st t):PSs X [st] t:=by
 intro a s b H D I h;refine A8 (thn (c a s b H D I h) λf d q=>?_);cases f with
 | next=>exact Gh q
 | ret v=>exact q
 | brk=>exact q
 | cont=>exact q
def DM:TS:=λD σ H=>D.bk σ H
def se:PS X (.Break pos) DM:=λ_ _ a H _ I h=>wpAny_Break ⟨a,H,I,h⟩
def Inv.quiet{a:List (Addr×Obj)}{b:St}{H:Hp}{s:ej}(I:Inv X a b H s):interactive X.env=false:=by simp[interactive,I.ok.kind]
def E5(te:TE):TS:=λD σ H=>te σ H λ_ H1=>D.nx σ H1
def cH(i:PE X e te)(g:He e none pos.line X.env=pure false:=by rfl):PS X (.Expr e pos) (E5 te):=by
 intro a s b H D I h;exact wpAny_Expr_any (thn (i a s b H _ I h) λv j ⟨x,d,f,k,c⟩=>⟨b,d,f,c⟩) I.quiet g
def Fj(te:TE):TS:=λD σ H=>te σ H D.rt
def ap(i:PE X e te):PS X (.Return (some e) pos) (Fj te):=by
 intro a s b H D I h;exact ID (thn (i a s b H _ I h) λv j ⟨x,d,g,f,c⟩=>⟨x,b,d,g,f,c⟩)
def FF(c:TT)(t u:TS):TS:=λD σ H=>c σ H λb H1=>if b=true then t D σ H1 else u D σ H1
def aP{c:Expr}{a b:List Stmt}{l:TT}(m:PT X c l)(o:PSs X a t)(p:PSs X b u):PS X (.If c a b pos) (FF l t u):=by
 intro e s f H D I h;refine wpAny_If (thn (m e s f H _ I h) λd g ⟨j,k,i⟩=>?_);cases d with
 | true=>exact o e g f j D k i
 | false=>exact p e g f j D k i
def CW:TS:=λ_ _ _=>False
def df:PS X st CW:=λ_ _ _ _ _ _ h=>h.elim
end
abbrev TG:=V->St->Hp->(St->Hp->Prop)->Prop
abbrev TGs:=List V->St->Hp->(St->Hp->Prop)->Prop
def PG(X:Cx)(target:Expr)(t:TG):Prop :=
 ∀(pins:List (Addr×Obj)) (s:ej) (σ:St) (H:Hp) (v:V) (u:cX) (Q:St->Hp->Prop),Inv X pins σ H s->RelV v u->t v σ H Q ->
  gV (kw X.prog X.w) X.A (IW target X.env u) (λ_ s'=>∃ σ' H',Inv X pins σ' H' s'/\Q σ' H') X.xe s
def PGs(X:Cx)(ts:List Expr)(t:TGs):Prop :=
 ∀(pins:List (Addr×Obj)) (s:ej) (σ:St) (H:Hp) (vs:List V) (us:List cX) (Q:St->Hp->Prop),Inv X pins σ H s->Vals vs us->t vs σ H Q ->
  gV (kw X.prog X.w) X.A (JM ((Gz ts X.env).map (·.2)) us) (λ_ s'=>∃ σ' H',Inv X pins σ' H' s'/\Q σ' H') X.xe s
abbrev xQ:=V->V->V->Hp->(Hp->Prop)->Prop
def CL(X:Cx)(t:xQ):Prop :=
 ∀(pins:List (Addr×Obj)) (s:ej) (σ:St) (H:Hp) (o i v:V) (ov iv u:cX) (Q:Hp->Prop),Inv X pins σ H s->RelV o ov->RelV i iv->RelV v u->t o i v H Q ->
  gV (kw X.prog X.w) X.A (Lv ov iv u) (λ_ s'=>∃ H',Inv X pins σ H' s'/\Q H') X.xe s
abbrev TIp:=V->V->Hp->VK->Prop
def PIp(X:Cx)(op:KA)(t:TIp):Prop :=
 ∀(pins:List (Addr×Obj)) (s:ej) (σ:St) (H:Hp) (x y:V) (v u:cX) (Q:VK),Inv X pins σ H s->RelV x v->RelV y u->t x y H Q ->
  gV (kw X.prog X.w) X.A (inplaceOp op v u) (EP X pins σ Q) X.xe s
section
variable {X:Cx}{pos:Pos}
def iK(i:Nat):TG:=λv σ H Q=>Q (σ.set i (some v)) H
def ax{i:Nat}{x:Str}(d:X.N.Nodup)(f:X.N[i]? = some x)(e:Loc X.env.scope x)(b:X.fn x = true\/X.env.scope.names.lookup x = some .local:=by first | exact .inl rfl | exact .inr rfl | assumption):PG X (.Name x pos) (iK i):=by
 intro a s j H v u Q I r h;exact Lw (gY I d f e r (λg c=>⟨_,H,c,h⟩) b)
def DL:TGs:=λvs σ H Q=>vs=[]/\Q σ H
inductive gCons(t:TG)(u:TGs)(vs:List V)(σ:St)(H:Hp)(Q:St->Hp->Prop):Prop
 | mk(v:V)(r:List V)(h0:vs=v::r)(h1:t v σ H λσ' H'=>u r σ' H' Q):gCons t u vs σ H Q
def a9:PGs X [] DL:=by
 intro a s b H c d Q I r h;obtain⟨e,h⟩:=h;subst e;cases r;exact Lx ⟨b,H,I,h⟩
def av{e:Expr}{es:List Expr}{t:TG}{u:TGs}(g:PG X e t)(m:PGs X es u)
  (l:(Gz (e::es) X.env).map (·.2)=IW e X.env::(Gz es X.env).map (·.2):=by rfl):PGs X (e::es) (gCons t u):=by
 intro a s j H o p Q I r h;obtain⟨v,w,k,h⟩:=h;subst k;cases r with
 | cons r rr =>
  rw[l];refine Iv (thn (g a s j H _ _ _ I r h) λ_ c ⟨b,f,i,d⟩=>?_);exact m a c b f _ _ Q i rr d
inductive gTup(K:Frag)(n:Nat)(t:TGs)(v:V)(σ:St)(H:Hp)(Q:St->Hp->Prop):Prop
 | mk(a:Addr)(xs:List V)(h0:v=.ref a)(h1:SqT K H a xs)(h2:xs.length=n)(h3:t xs σ H Q):gTup K n t v σ H Q
def bF{es:List Expr}{k:Nat}{t:TGs}{n:Nat}(p:X.calm=true)(h:PGs X es t)
  (j:(Gz es X.env).length=n:=by rfl) (f:(Gz es X.env).findIdx? (·.1)=none:=by rfl):PG X (.Tuple es k pos) (gTup X.K n t):=by
 intro c s g H v u Q I r d;obtain⟨a,B,C,y,w,d⟩:=d;subst C;cases r;obtain⟨l,i,m,E⟩:=I.tuple y;refine assign_Tuple_tuple (I.ok.hd p) m (by simp[j,<- w,i.length]) f λx D=>?_
 have A:Inv X c g H { s with heap:=x }:=I.kept (t':=s.toks) λb o e=>D b o (nl (fR e)) e
 exact h c _ g H B _ Q A (by simpa using i) d
def Fw(to ti:TE)(t:xQ):TG:=λv σ H Q=>to σ H λo H1=>ti σ H1 λi H2=>t o i v H2 λH3=>Q σ H3
def DG{o i:Expr}{c d:TE}{t:xQ}(k:PE X o c)(G:PE X i d)(e:CL X t)
  (F:∀ v,IW (.Subscript o i pos) X.env v=(do
   let ov <- Hr [v] (eval o X.env)
   let iv <- Hr [v,ov] (eval i X.env)
   Ju pos
   Hr [v,ov,iv] (Lv ov iv v)
   release [v,ov,iv] []):=by intro _;rfl):PG X (.Subscript o i pos) (Fw c d t):=by
 intro a s b H v u Q I r h;rw[F];refine cn (xi (thn (k a s b H _ I h) λov m ⟨x,w,A,j,g⟩=>?_));refine cn (xi (thn (G a m b w _ A g) λiv f ⟨y,J,C,l,E⟩=>?_));refine cn (Ip (cn (xi (thn (e a f b J x y v ov iv u _ C j l r E) λ_ K ⟨p,B,D⟩=>?_))));exact wpAny_release ⟨b,p,B,D⟩
def yN(te:TE)(g:TG):TS:=λD σ H=>te σ H λx H1=>g x σ H1 D.nx
def gD{tg e:Expr}{b:TE}{g:TG}(r:PE X e b)(f:PG X tg g)(p:swapsWithSole [tg] e pos.line X.env=pure false:=by rfl)(d:swappedStores [tg] e X.env=pure none:=by rfl)
  (l:(Gz [tg] X.env).map (·.2)=[IW tg X.env]:=by rfl):PS X (.Assign [tg] e pos) (yN b g):=by
 intro a s c H D I h;refine wpAny_Assign_stores (thn (r a s c H _ I h) λv i ⟨x,k,o,m,j⟩=>?_) p d;rw[l];exact thn (f a i c k x v _ o m j) λ_ w q=>q
def ye{i:Nat}{x:Str}{e:Expr}{c:TE}{a:Pos}(o:X.N.Nodup)(w:X.N[i]? = some x)(r:Loc X.env.scope x)(A:PE X e c)(p:He e (some (.Name x a)) pos.line X.env = pure false:=by rfl)(d:X.fn x = true\/X.env.scope.names.lookup x = some .local:=by first | exact .inl rfl | exact .inr rfl | assumption) :
  PS X (.Assign [.Name x a] e pos) (yN c (iK i)):=by
 intro b s m H D I h;refine wpAny_Assign_Name (thn (A b s m H _ I h) λv B ⟨y,j,l,k,g⟩=>?_) p;exact gY l o w r k (λC f=>⟨_,j,f,g⟩) d
def FP(i j:Nat)(ta:TA):TS:=λD σ H=>ta σ H λvs H1=>∃ v w,vs=[v,w]/\D.nx ((σ.set i (some v)).set j (some w)) H1
def Cn{i j:Nat}{x y:Str}{a b:Expr}{A:TA}{l k g:Pos}{kt k2 pt2}(O:X.calm=true)(G:X.N.Nodup)(Z:X.N[i]? = some x)(N:X.N[j]? = some y)(f:i≠j)
  (J:X.env.scope.names.lookup x = some .local) (C:X.env.scope.names.lookup y = some .local) (Y:PA X [a,b] A)
  (M:swappedStores [.Tuple [.Name x l,.Name y k] kt g] (.Tuple [a,b] k2 pt2) X.env=pure (some [x,y]))
  (L:swapsWithSole [.Tuple [.Name x l,.Name y k] kt g] (.Tuple [a,b] k2 pt2) pos.line X.env=pure false:=by rfl) :
  PS X (.Assign [.Tuple [.Name x l,.Name y k] kt g] (.Tuple [a,b] k2 pt2) pos) (FP i j A):=by
 intro c s B H D I h;rw[exec_Assign_arm];refine cn (Ip ?_);rw[L];refine cn (eB ?_);rw[if_neg (by decide)];refine cn (Tuple_ (thn (Y _ c s B H _ I h) λW d ⟨vs,E,Q,P,m⟩=>?_));obtain⟨v,w,R,m⟩:=m;subst R
 obtain⟨u1,u2,rfl,rv,rw'⟩:∃ u1 u2,W=[u1,u2]/\RelV v u1/\RelV w u2:=by
  cases P with
  | cons p q =>
   cases q with
   | cons p' q' =>
    cases q';exact⟨_,_,rfl,p,p'⟩
 refine uS ?_ (by show 2<=sizeLine;decide);have T:Inv X c B E { d with heap:=d.heap.push { cls:=.type "tuple",data:=.seq [u1,u2].toArray } }:=Q.kept (t':=d.toks) λb o e=>e_ _ e
 rw[M];refine cn (eB ?_);show gV (kw X.prog X.w) X.A (do rule "assign.swapped-stores";let items <- unpackItems (.ref d.heap.objs.size) 2 none;JM [λv=>KB X.env y v,λv=>KB X.env x v] items.reverse;pure Flow.next) _ _ _;refine cn (wpAny_rule (cn (unpackItems_tuple (items:=#[u1,u2]) (I.ok.hd O) (J9 d.heap _) λh' r=>?_)));have S:=T.kept (h':=h') (t':=d.toks) λb o e=>r b o (nl (fR e)) e
 show gV _ _ (JM [λv=>KB X.env y v,λv=>KB X.env x v] [u2,u1] >>= λ_=>pure Flow.next) _ _ _;refine cn (Iv (LN (gY S G N (.inl C) rw' (λs2 K=>?_) (.inr C))));refine Iv (LN (gY K G Z (.inl J) rv (λs3 F=>Lx (eB ?_)) (.inr J)));rw[List.set_comm _ _ (FZ f)]at F;exact⟨_,E,F,m⟩
def Fh(i:Nat)(te:TE)(ti:TIp):TS:=λD σ H=>∃ x,σ[i]? = some (some x)/\te σ H λy H1=>ti x y H1 λz H2=>D.nx (σ.set i (some z)) H2
def t6{i:Nat}{x:Str}{e:Expr}{p:TE}{j:KA}{C:TIp}{d:Pos}(hN:X.N.Nodup)(E:X.N[i]? = some x)(o:Loc X.env.scope x)(T:PE X e p)(L:PIp X j C)(M:X.fn x = true\/X.env.scope.names.lookup x = some .local:=by first | exact .inl rfl | exact .inr rfl | assumption) :
  PS X (.AugAssign (.Name x d) j e pos) (Fh i p C):=by
 intro a s B H D I h;obtain⟨v,S,h⟩:=h;obtain⟨m,Z,P⟩:=I.loc;have g:Vis X.env.scope x:=by rcases o with k | k;exact .inl k;exact .inr (.inl k)
 obtain⟨u,r,l⟩:=P i x v E S g;refine wpAny_AugAssign_Name ?_
 have A:gV (kw X.prog X.w) X.A (eval e X.env) (λw f=>gV (kw X.prog X.w) X.A (inplaceOp j u w) (λr s₃=>gV (kw X.prog X.w) X.A (LH X.env x r) (λ_=>SP X a D .next) X.xe s₃) X.xe f) X.xe s:=by
  refine thn (T a s B H _ I h) λw O ⟨y,Q,R,K,G⟩=>?_
  refine thn (L a O B Q v y u w _ R r K G) λz s2 ⟨zv,H2,Y,N,q2⟩=>?_
  exact gY Y hN E o N (λs3 W=>⟨_,H2,W,q2⟩) M
 rcases l with⟨hk,F⟩ | ⟨hk,c,J,b⟩
 .exact Kz I.ok.kind hk Z F A
 .rcases hk with hk | hk
  .exact KR I.ok.kind hk J b A
  .rcases o with k | k
   .have:X.env.scope.names.lookup x=some .free:=hk
    rw[k]at this;cases this
   .have:X.env.scope.names.lookup x=some .free:=hk
    rw[k]at this;cases this
def EJ(to ti te:TE)(tget:V->V->Hp->VK->Prop)(tip:TIp)(tset:xQ):TS:=λD σ H=>to σ H λo H1=>ti σ H1 λi H2=>tget o i H2 λx H3=>te σ H3 λy H4=>tip x y H4 λz H5=>tset o i z H5 λH6=>D.nx σ H6
def Ez(X:Cx)(t:V->V->Hp->VK->Prop):Prop :=
 ∀(pins:List (Addr×Obj)) (s:ej) (σ:St) (H:Hp) (o i:V) (ov iv:cX) (Q:VK),Inv X pins σ H s->RelV o ov->RelV i iv->t o i H Q ->
  gV (kw X.prog X.w) X.A (Hs ov iv) (EP X pins σ Q) X.xe s
def vw{o i e:Expr}{m x l:TE}{b:V->V->Hp->VK->Prop}{g:TIp}{c:xQ}{y:KA}{f:Pos}(R:PE X o m)(hi:PE X i x)(hg:Ez X b)(he:PE X e l)(Y:PIp X y g)(G:CL X c)
  (ha:∀ ov iv new,augStore i ov iv new=(do Hr [new,ov,iv] (Lv ov iv new);release [new,ov,iv] [];pure .next):=by intros;rfl):PS X (.AugAssign (.Subscript o i f) y e pos) (EJ m x l b g c):=by
 intro a s d H D I h;refine wpAny_AugAssign_SubscriptAny (thn (R a s d H _ I h) λov S ⟨k,W,Z,p,M⟩=>?_) ha;refine thn (hi a S d W _ Z M) λiv K ⟨r,H2,I2,w,q2⟩=>?_
 refine thn (hg a K d H2 k r ov iv _ I2 p w q2) λj O ⟨x3,T,I3,B,q3⟩=>?_
 refine thn (he a O d T _ I3 q3) λv s4 ⟨N,P,E,L,Q⟩=>?_
 refine thn (Y a s4 d P x3 N j v _ E B L Q) λnew F ⟨C,H5,I5,J,A⟩=>?_
 exact thn (G a F d H5 k r C ov iv new _ I5 p w J A) λ_ s6 ⟨H6,I6,q6⟩=>⟨d,H6,I6,q6⟩
def ipI(f:Int->Int->Int):TIp:=λx y H Q=>∃ i j,x=.int i/\y=.int j/\Q (.int (f i j)) H
def qX:PIp X .Add (ipI λi j=>i+j):=by
 intro a s g H x y v u Q I c b h;obtain⟨i,j,d,e,q⟩:=h;subst d;subst e;obtain⟨t,rfl⟩:=c;obtain⟨f,rfl⟩:=b;exact iadd_int ⟨.int _,H,I.tok _,⟨_,rfl⟩,q⟩
def Ck:PIp X .Sub (ipI λi j=>i - j):=by
 intro a s g H x y v u Q I c b h;obtain⟨i,j,d,e,q⟩:=h;subst d;subst e;obtain⟨t,rfl⟩:=c;obtain⟨f,rfl⟩:=b;exact isub_int ⟨.int _,H,I.tok _,⟨_,rfl⟩,q⟩
def Dl(c:TT)(tb:TS):TS:=λD σ H=>∃ W:Nat->St->Hp->Prop,(∃ m,W m σ H)/\∀ m σ H,W m σ H ->
 c σ H λb H1=>if b=true then ∃ N:St->Hp->Prop,(∀ σ' H',N σ' H'->∃ m',m'<m/\W m' σ' H')/\tb { D with nx:=N,ct:=N,bk:=D.nx } σ H1 else D.nx σ H1
def dM{c:Expr}{body:List Stmt}{w:TT}{A:TS}(y:PassesOwn (kw X.prog X.w) X.A X.env X.xe)(K:PT X c w)(R:PSs X body A):PS X (.While c body [] pos) (Dl w A):=by
 intro d s M H D I h;obtain⟨W,⟨J,F⟩,g⟩:=h;refine wpAny_While (codeAny_whileLoop (λn Q=>∃ σ' H',Inv X d σ' H' Q/\W n σ' H') ?_ J ⟨M,H,I,F⟩);rintro n O ⟨e,x,P,L⟩;refine F0 y (thn (K d O e x _ P (g n e x L)) λb G ⟨E,B,k⟩=>?_);cases b with
 | true =>
  obtain⟨N,C,k⟩:=k;rw[if_pos rfl];refine F0 y (thn (R d G e E _ B k) λf S j=>?_);cases f with
  | next =>
   obtain⟨a,i,r,o⟩:=j;obtain⟨m,l,p⟩:=C a i o;exact⟨m,l,a,i,r,p⟩
  | cont =>
   obtain⟨a,i,r,o⟩:=j;obtain⟨m,l,p⟩:=C a i o;exact⟨m,l,a,i,r,p⟩
  | brk=>exact j
  | ret v=>exact j
 | false =>
  rw[if_neg fx];exact Gh ⟨e,E,B,k⟩
end
structure It where
 go:Nat->Hp->Prop
 yld:Nat->Hp->V->Hp->Prop
 stop:Nat->Hp->Prop
def FpOk(X:Cx)(pins:List (Addr×Obj))(H:Hp)(b:Addr):Prop :=
 H b = none/\b≠X.env.locals/\b ∉ X.fs/\(b ∈ X.ex\/X.s₀.heap.objs.size<=b)/\(∀ x c,X.env.cells.lookup x = some c->c≠b)/\∀ p ∈ X.pn ++ pins,p.1≠b
def Inv.fpOk{X:Cx}{a:List (Addr×Obj)}{h:St}{H f:Hp}{s:ej}{b:Addr}(I:Inv X a h H s)(d:s.heap.objs.size<=b)(g:f b=none):FpOk X a f b:=by
 refine⟨g,Nat.ne_of_gt (jb I.lt d),I.nofs d,.inr (mu I.sz d),λx c e z=>?_,λp hp z=>?_⟩
 .obtain⟨v,q⟩:=I.cell x c e
  exact absurd (jb q.lt (by rw[z];exact d)) (pw _)
 .exact absurd (jb (fR (I.pin p hp).1) (by rw[z];exact d)) (pw _)
structure Turn(P:gN)(w:ml)(K:Frag)(tg:Expr)(J:It)(fp:List Addr)(it:Addr)(tn:Nat->Heap->Prop):Prop where
 mem:it∈fp
 obj:∀ i h,tn i h->∀ b∈fp,∃ o,h.get? b=some o/\∀ v,o.data≠.cell v
 keep:∀ i h h',tn i h->(∀ b∈fp,∀ o,h.get? b=some o->h'.get? b=some o)->tn i h'
 item:∀(X:Cx),X.prog=P->X.w=w->X.K=K->X.calm=true->∀(i:Nat) (pins:List (Addr×Obj)) (s:ej) (σ:St) (H:Hp) (E:cX->ej->Prop),Inv X pins σ H s->(∀ b∈fp,FpOk X pins H b)->tn i s.heap->J.go i H ->
  gV (kw P w) X.A (Ha (.ref it)) (λr s1=>∃ u,r=some u /\
   gV (kw P w) X.A (Jo tg (.ref it) u) (λ_ s2=>∃ x H',Inv X pins σ H' s2/\RelV x u/\J.yld i H x H'/\tn (i+1) s2.heap/\∀ b∈fp,H' b=none) E s1) E s
 done:∀(X:Cx),X.prog=P->X.w=w->X.K=K->X.calm=true->∀(i:Nat) (pins:List (Addr×Obj)) (s:ej) (σ:St) (H:Hp) (E:cX->ej->Prop),Inv X pins σ H s->(∀ b∈fp,FpOk X pins H b)->tn i s.heap->J.stop i H ->
  gV (kw P w) X.A (Ha (.ref it)) (λr s1=>r=none/\Inv X pins σ H s1) E s
 self:∀(A:o3) (i:Nat) (s:ej) (Q:cX->ej->Prop) (E:cX->ej->Prop),tn i s.heap->Q (.ref it) s->gV (kw P w) A (La (.ref it)) Q E s
abbrev TI:=St->Hp->(It->Hp->Prop)->Prop
def PIE(X:Cx)(pins:List (Addr×Obj))(σ:St)(tg:Expr)(R:It->Hp->Prop)(itv:cX)(s2:ej):Prop :=
 ∃(it:Addr) (fp:List Addr) (tn:Nat->Heap->Prop) (J:It) (H':Hp),itv=.ref it/\Inv X pins σ H' s2/\Turn X.prog X.w X.K tg J fp it tn/\tn 0 s2.heap/\(∀ b∈fp,FpOk X pins H' b)/\R J H'
def PI(X:Cx)(tg iter:Expr)(wi:TI):Prop :=
 ∀(pins:List (Addr×Obj)) (s:ej) (σ:St) (H:Hp) (R:It->Hp->Prop),Inv X pins σ H s->wi σ H R ->
  gV (kw X.prog X.w) X.A (eval iter X.env) (λv s1=>gV (kw X.prog X.w) X.A (La v) (PIE X pins σ tg R) X.xe s1) X.xe s
def oG{M:Model}{A:o3}{E:cX->ej->Prop}{s:ej}{tg:Expr}{b:Addr}{u:cX}{o:Obj}{n:String}{vs:Array cX}{Q:Unit->ej->Prop}(c:s.heap.get? b=some o)(e:o.cls=.type n)(f:o.data=.fields vs)
  (d:["enumerate","zip","dict_itemiterator","dict_reverseitemiterator","odict_iterator","itertools.zip_longest","itertools.pairwise"].contains n=false) (a:Q () s):gV M A (Jo tg (.ref b) u) Q E s:=by
 unfold Jo
 cases tg <;> first
  | exact eB a
  | (cases u <;> first
    | exact eB a
    | (refine cn (wpAny_load c ?_)
       rw[e,f];show gV M A (if (["enumerate","zip","dict_itemiterator","dict_reverseitemiterator","odict_iterator","itertools.zip_longest","itertools.pairwise"].contains n && vs[0]? == some (A2 _))=true then _ else _) Q E s;rw[if_neg (by intro h;rw[d,Bool.false_and]at h;cases h)]
       exact eB a))
def Itl(K:Frag)(a:Addr):It :=
 ⟨λi H=>∃ xs x,SqL K H a xs/\xs[i]? = some x,λi H x H'=>H'=H/\∀ xs,SqL K H a xs->xs[i]? = some x,λi H=>∃ xs,SqL K H a xs/\xs.length<=i⟩
def Itt(K:Frag)(a:Addr):It :=
 ⟨λi H=>∃ xs x,SqT K H a xs/\xs[i]? = some x,λi H x H'=>H'=H/\∀ xs,SqT K H a xs->xs[i]? = some x,λi H=>∃ xs,SqT K H a xs/\xs.length<=i⟩
def Itr(lo:Int)(n:Nat):It:=⟨λi _=>i<n,λi H x H'=>H'=H/\x=.int (lo+i),λi _=>n<=i⟩
def wu{P:gN}{w:ml}{K:Frag}{tg:Expr}(a j:Addr):Turn P w K tg (Itl K a) [j] j (λi h=>h.IsListIter j a i) where
 mem:=by simp
 obj:=λi h f b l=>by
  have e:b=j:=by simpa using l
  subst e;obtain⟨o,e,c,d⟩:=f;exact⟨o,e,λv z=>by rw[d]at z;cases z⟩
 keep:=λi h r f k=>f.at λo e=>k j (by simp) o e
 item:=by
  intro X N C L S i g s T H E I y f O;subst N C L;obtain⟨xs,x,A,R⟩:=O;obtain⟨B,F,p,Y⟩:=I.list A;obtain⟨u,W,ru⟩:=F.get R;obtain⟨G,D,f2,M,J,Q⟩:=y j (by simp);refine wpAny_pyNext_list_item f p.isList (x:=u) (by simpa using W) λr m sb=>?_
  have I1:Inv X g T H { s with heap:=r }:=I.turned (t':=s.toks) (λb o l e=>(sb.2 b l).trans e) G D M J Q;obtain⟨o,e,c,d⟩:=id m;exact⟨u,rfl,oG (s:={ s with heap:=r }) e c d (by decide) ⟨x,H,I1,ru,⟨rfl,λys hy=>by rw[I.list_inj hy A];exact R⟩,m,λb l=>(y b l).1⟩⟩
 done:=by
  intro X N C L S i g s T H E I y f O;subst N C L;obtain⟨xs,A,R⟩:=O;obtain⟨B,F,p,Y⟩:=I.list A;obtain⟨G,D,f2,M,J,Q⟩:=y j (by simp);have hl:=F.length
  exact wpAny_pyNext_list_end (I.ok.hd S) f p.isList (by simp;lia) λr Z=>⟨rfl,I.turned (t':=s.toks) (λb o l e=>Z b o l e) G D M J Q⟩
 self:=λ_ _ _ _ _ f h=>wpAny_pyIter_listiter f h
def tI{P:gN}{w:ml}{K:Frag}{tg:Expr}(a l:Addr):Turn P w K tg (Itt K a) [l] l (λi h=>h.IsTupleIter l a i) where
 mem:=by simp
 obj:=λi h f b m=>by
  have e:b=l:=by simpa using m
  subst e;obtain⟨o,e,c,d⟩:=f;exact⟨o,e,λv z=>by rw[d]at z;cases z⟩
 keep:=λi h y f k=>f.at λo e=>k l (by simp) o e
 item:=by
  intro X N C L S i g s T H E I A f O;subst N C L;obtain⟨xs,x,B,R⟩:=O;obtain⟨j,F,p,Y⟩:=I.tuple B;obtain⟨u,W,ru⟩:=F.get R;obtain⟨G,D,f2,M,J,Q⟩:=A l (by simp);refine wpAny_pyNext_tuple_item f (show s.heap.IsTuple a j.toArray from p) (x:=u) (by simpa using W) λy r sb=>?_
  have I1:Inv X g T H { s with heap:=y }:=I.turned (t':=s.toks) (λb o m e=>(sb.2 b m).trans e) G D M J Q;obtain⟨o,e,c,d⟩:=id r;exact⟨u,rfl,oG (s:={ s with heap:=y }) e c d (by decide) ⟨x,H,I1,ru,⟨rfl,λys hy=>by rw[I.tuple_inj hy B];exact R⟩,r,λb m=>(A b m).1⟩⟩
 done:=by
  intro X N C L S i g s T H E I A f O;subst N C L;obtain⟨xs,B,R⟩:=O;obtain⟨j,F,p,Y⟩:=I.tuple B;obtain⟨G,D,f2,M,J,Q⟩:=A l (by simp);have hl:=F.length
  exact wpAny_pyNext_tuple_end (I.ok.hd S) f (show s.heap.IsTuple a j.toArray from p) (by simp;lia) λy Z=>⟨rfl,I.turned (t':=s.toks) (λb o m e=>Z b o m e) G D M J Q⟩
 self:=λ_ _ _ _ _ f h=>wpAny_pyIter_tupleiter f h
def uv{P:gN}{w:ml}{K:Frag}{tg:Expr}(c:Addr)(lo:Int)(n:Nat):Turn P w K tg (Itr lo n) [c] c (λi h=>IsRangeIter h c (lo+(i:Nat)*1) ((n:Int) - (i:Nat)) 1) where
 mem:=by simp
 obj:=λi h a b f=>by
  have e:b=c:=by simpa using f
  subst e
  exact⟨_,a,λv z=>by
   have N:Data.fields _=Data.cell v:=z
   cases N⟩
 keep:=λi h j a k=>k c (by simp) _ a
 item:=by
  intro X C m A r i d s J H E I l a D;subst C m A;obtain⟨x,p,O,B,y,F⟩:=l c (by simp);have W:=Walks.range (prog:=X.prog) (w:=X.w) (I.ok.hd r) c lo 1 n;refine W.item i s _ _ D a λv j G R g L=>?_
  obtain⟨t,rfl⟩:=R;have Q:Inv X d J H { s with heap:=j,toks:=G }:=I.turned (λb o f e=>L b o (by simpa using f) e) x p B y F;refine⟨_,rfl,oG (s:={ s with heap:=j,toks:=G }) (n := "range_iterator") g rfl rfl (by decide) ⟨.int (lo+i),H,Q,⟨t,?_⟩,⟨rfl,rfl⟩,g,λb f=>(l b f).1⟩⟩;rw[Int.mul_one]
 done:=by
  intro X C m A r i d s J H E I l a D;subst C m A;obtain⟨x,p,O,B,y,F⟩:=l c (by simp)
  exact wpAny_pyNext_range_end (I.ok.hd r) a (by have:n<=i:=D;lia) λj M=>⟨rfl,I.turned (t':=s.toks) (λb o f e=>M b o f e) x p B y F⟩
 self:=λ_ _ _ _ _ a h=>wpAny_pyIter_rangeiter a h
section
variable {X:Cx}{tg:Expr}
def zt{c:List (Addr×Obj)}{f:St}{H:Hp}{s:ej}{R:It->Hp->Prop}{E:cX->ej->Prop}{lo a:Int}{t u v:Tok}{tk:Nat}(I:Inv X c f H s)(h:-(2 ^ 62)<=lo)(j:lo<2 ^ 62)(g:-(2 ^ 62)<=a)(k:a<2 ^ 62)
  (q:R (Itr lo (a - lo).toNat) H):gV (kw X.prog X.w) X.A (La (.ref s.heap.objs.size)) (PIE X c f tg R) E { s with heap:=s.heap.push { cls:=.type "range",data:=.fields #[.int lo t,.int a u,.int 1 v] },toks:=tk }:=by
 refine wpAny_pyIter_range (IsRange.new ..) (small_one h j g k) ?_;have d:Inv X c f H { s with heap:=s.heap.push { cls:=.type "range",data:=.fields #[.int lo t,.int a u,.int 1 v] },toks:=tk }:=I.kept λb o e=>e_ _ e
 refine⟨(s.heap.push { cls:=.type "range",data:=.fields #[.int lo t,.int a u,.int 1 v] }).objs.size,[(s.heap.push { cls:=.type "range",data:=.fields #[.int lo t,.int a u,.int 1 v] }).objs.size],_,_,H,rfl,
  d.kept (t':=tk) λb o e=>e_ _ e,uv _ lo (a - lo).toNat,?_,λb hb=>?_,q⟩
 .have i:lo+((0:Nat):Int)*1=lo:=by simp
  have l:(((a - lo).toNat:Nat):Int) - ((0:Nat):Int)=Builtin.Range.rangeSize lo a 1:=by rw[rangeSize_one];split <;> lia
  show IsRangeIter _ _ (lo+((0:Nat):Int)*1) ((((a - lo).toNat:Nat):Int) - ((0:Nat):Int)) 1;rw[i,l];exact h_ _ rfl
 .have e:b=(s.heap.push { cls:=.type "range",data:=.fields #[.int lo t,.int a u,.int 1 v] }).objs.size:=by simpa using hb
  subst e;exact d.fpOk (d_ _) (d.hok.fresh (d_ _))
def Ea(ta:TA):TI:=λσ H R=>ta σ H λvs H1=>∃ j:Int,vs=[.int j]/\-(2 ^ 62)<=j/\j<2 ^ 62/\R (Itr 0 j.toNat) H1
def dw{a:Expr}{f:TA}{p b:Pos}(i:Gl X "range")(g:X.mg "range" = none)(m:PA X [a] f)(w:fI [a] X.env=[(false,eval a X.env)]:=by rfl):PI X tg (.Call (.Name "range" p) [a] [] b) (Ea f):=by
 intro c s v H R I h;refine Call_ (ib I i g boot_range (r_ (thn (m b c s v H _ I h) λB y ⟨x,A,o,k,d⟩=>?_) w rfl));obtain⟨j,e,d,l,q⟩:=d;subst e;cases k with
 | cons r rr =>
  cases rr;obtain⟨t,rfl⟩:=r;exact call_range_1 (zt o (by lia) (by lia) d l (by simpa using q))
def FD(wi:TI)(g:TG)(tb:TS):TS:=λD σ H=>wi σ H λJ H1=>∃ W:Nat->Nat->St->Hp->Prop,(∃ m,W 0 m σ H1)/\∀ i m σ H,W i m σ H ->
 (J.stop i H/\D.nx σ H)\/(J.go i H/\∃ N:St->Hp->Prop,(∀ σ' H',N σ' H'->∃ m',m'<m/\W (i+1) m' σ' H')/\∀ x H',J.yld i H x H'->g x σ H' λσ2 H2=>tb { D with nx:=N,ct:=N,bk:=D.nx } σ2 H2)
def mC(fp:List Addr)(h:Heap):List (Addr×Obj):=fp.filterMap λb=>(h.get? b).map λo=>(b,o)
def gr{a:List Addr}{h:Heap}{b:Addr}{o:Obj}(c:b∈a)(e:h.get? b=some o):(b,o)∈mC a h:=JX.mpr ⟨b,c,by rw[e];rfl⟩
def wG{a:List Addr}{h:Heap}{p:Addr×Obj}(f:p∈mC a h):p.1∈a/\h.get? p.1=some p.2:=by
 obtain⟨b,d,e⟩:=JX.mp f;cases q:h.get? b with
 | none=>rw[q]at e;cases e
 | some o =>
  rw[q]at e;have c:(b,o)=p:=ll e;subst c;exact⟨d,q⟩
def Inv.pinned{a:List (Addr×Obj)}{g:St}{H:Hp}{s:ej}{c:List Addr}(I:Inv X a g H s)(j:∀ b∈c,FpOk X a H b)(i:∀ b∈c,∃ o,s.heap.get? b=some o/\∀ v,o.data≠.cell v):Inv X (a++mC c s.heap) g H s :=
 I.pins_of λp r=>(ra.mp r).elim (λz=>I.pin p (pf _ z)) λz=>by
  obtain⟨h,e⟩:=wG z;obtain⟨k,m,l,_⟩:=j p.1 h;obtain⟨o,f,d⟩:=i p.1 h;rw[e]at f;cases f;exact⟨e,k,m,l,d⟩
def Inv.unpinned{a pl:List (Addr×Obj)}{b:St}{H:Hp}{s:ej}(I:Inv X (a++pl) b H s):Inv X a b H s:=I.pins_of λp c=>I.pin p (pf _ (B_ _ c))
def cj{w:Expr}{body:List Stmt}{wi:TI}{g:TG}{tb:TS}{R:Pos}(M:PassesOwn (kw X.prog X.w) X.A X.env X.xe)(hc:X.calm=true)(hi:PI X tg w wi)(hg:PG X tg g)(A:PSs X body tb)
  (hs:∀ x,IE w X.env x=pure x:=by intro _;rfl):PS X (.For tg w body [] R) (FD wi g tb):=by
 intro c s σ H D I h;refine wpAny_For (thn (hi c s σ H _ I h) λv s1 h1=>thn h1 λitv s2 h2=>?_) hs;obtain⟨it,F,tn,J,H2,e,I2,T,ad,f2,W,⟨m0,w0⟩,E⟩:=h2;subst e
 have l:∀{H':Hp},(∀ b∈F,H' b=none)->∀ b∈F,FpOk X c H' b:=λhn b A=>⟨hn b A,(f2 b A).2⟩
 refine codeAny_forLoop_any (λn s'=>∃ i σ' H',Inv X c σ' H' s'/\tn i s'.heap/\(∀ b∈F,H' b=none)/\W i n σ' H') ?_ m0 ⟨0,σ,H2,I2,ad,λb A=>(f2 b A).1,w0⟩;rintro n s3 ⟨i,j,Q,I3,G,O,w3⟩
 rcases E i n j Q w3 with⟨L,qn⟩ | ⟨go,N,hN,P⟩
 .refine F0 M (thn (T.done X rfl rfl rfl hc i c s3 j Q X.xe I3 (l O) G L) λr s4 ⟨hr,I4⟩=>?_)
  subst hr;exact Gh ⟨j,Q,I4,qn⟩
 .refine F0 M (thn (T.item X rfl rfl rfl hc i c s3 j Q X.xe I3 (l O) G go) λr s4 ⟨u,hr,h4⟩=>?_)
  subst hr;refine F0 M (thn h4 λ_ s5 ⟨x,H5,I5,r5,y5,C,Z⟩=>?_);have S:=I5.pinned (l Z) (T.obj _ _ C);refine F0 M (thn (hg _ s5 j H5 x u _ S r5 (P x H5 y5)) λ_ s6 ⟨ab,H6,I6,q6⟩=>?_);refine F0 M (thn (A _ s6 ab H6 _ I6 q6) λf Y B=>?_)
  have p:∀{a:St}{k:Hp},Inv X (c++mC F s5.heap) a k Y->N a k->∃ m,m<n/\∃ i σ' H',Inv X c σ' H' Y/\tn i Y.heap/\(∀ b∈F,H' b=none)/\W i m σ' H':=λ{a k} y K=>by
   obtain⟨m',hm,w7⟩:=hN a k K;refine⟨m',hm,i+1,a,k,y.unpinned,T.keep _ _ _ C λb A o e=>(y.pin (b,o) (pf _ (pf _ (gr A e)))).1,λb A=>?_,w7⟩;obtain⟨o,e,d⟩:=T.obj _ _ C b A;exact(y.pin (b,o) (pf _ (pf _ (gr A e)))).2.1
  cases f with
  | next=>obtain⟨a,k,y,K⟩:=B;exact p y K
  | cont=>obtain⟨a,k,y,K⟩:=B;exact p y K
  | brk=>obtain⟨a,k,y,B⟩:=B;exact⟨a,k,y.unpinned,B⟩
  | ret v=>obtain⟨x7,a,k,y,r7,B⟩:=B;exact⟨x7,a,k,y.unpinned,r7,B⟩
end
def eV{K:Frag}{a:Addr}{xs:List V}{g:TG}{d:TS}{D:Ends}{b:St}{H:Hp}(c:Nat->St->Hp->Prop)(k:c 0 b H)(h:∀ i b H,i<=xs.length->c i b H->SqL K H a xs)
  (l:∀ i x b H,xs[i]? = some x->c i b H->g x b H λσ2 H2=>d { D with nx:=c (i+1),ct:=c (i+1),bk:=D.nx } σ2 H2) (j:∀ b H,c xs.length b H->D.nx b H) :
  ∃ W:Nat->Nat->St->Hp->Prop,(∃ m,W 0 m b H)/\∀ i m b H,W i m b H ->
   ((Itl K a).stop i H/\D.nx b H)\/((Itl K a).go i H/\∃ N:St->Hp->Prop,(∀ σ' H',N σ' H'->∃ m',m'<m/\W (i+1) m' σ' H')/\∀ x H',(Itl K a).yld i H x H'->g x b H' λσ2 H2=>d { D with nx:=N,ct:=N,bk:=D.nx } σ2 H2):=by
 refine⟨λi m b H=>m=xs.length - i/\i<=xs.length/\c i b H,⟨xs.length,by simp,ey _,k⟩,?_⟩;rintro i m b H ⟨rfl,o,p⟩;have q:=h i b H o p
 by_cases hlt:i<xs.length
 .refine .inr ⟨⟨xs,xs[i],q,by simp[hlt]⟩,c (i+1),λσ' H' f=>⟨xs.length - (i+1),by lia,rfl,hlt,f⟩,λx H' y=>?_⟩
  obtain⟨e,y⟩:=y;subst e;exact l i x b _ (y xs q) p
 .have e:i=xs.length:=by lia
  subst e;exact .inl ⟨⟨xs,q,d_ _⟩,j b H p⟩
def oE{lo:Int}{n:Nat}{g:TG}{c:TS}{D:Ends}{a:St}{H:Hp}(b:Nat->St->Hp->Prop)(h:b 0 a H)
  (j:∀ i a H,i<n->b i a H->g (.int (lo+i)) a H λσ2 H2=>c { D with nx:=b (i+1),ct:=b (i+1),bk:=D.nx } σ2 H2) (f:∀ a H,b n a H->D.nx a H) :
  ∃ W:Nat->Nat->St->Hp->Prop,(∃ m,W 0 m a H)/\∀ i m a H,W i m a H ->
   ((Itr lo n).stop i H/\D.nx a H)\/((Itr lo n).go i H/\∃ N:St->Hp->Prop,(∀ σ' H',N σ' H'->∃ m',m'<m/\W (i+1) m' σ' H')/\∀ x H',(Itr lo n).yld i H x H'->g x a H' λσ2 H2=>c { D with nx:=N,ct:=N,bk:=D.nx } σ2 H2):=by
 refine⟨λi m a H=>m=n - i/\i<=n/\b i a H,⟨n,by simp,ey _,h⟩,?_⟩;rintro i m a H ⟨rfl,k,p⟩
 by_cases hlt:i<n
 .refine .inr ⟨hlt,b (i+1),λσ' H' d=>⟨n - (i+1),by lia,rfl,hlt,d⟩,λx H' y=>?_⟩
  obtain⟨e,y⟩:=y;subst e y;exact j i a _ hlt p
 .have e:i=n:=by lia
  subst e;exact .inl ⟨d_ _,f a H p⟩
abbrev R2:=V->V->Hp->VK->Prop
def OpR(X:Cx)(f:cX->cX->Sem cX)(r:R2):Prop :=
 ∀(pins:List (Addr×Obj)) (s:ej) (σ:St) (H:Hp) (x y:V) (v u:cX) (Q:VK),Inv X pins σ H s->RelV x v->RelV y u->r x y H Q ->
  gV (kw X.prog X.w) X.A (f v u) (EP X pins σ Q) X.xe s
def UnR(X:Cx)(f:cX->Sem cX)(r:V->Hp->VK->Prop):Prop :=
 ∀(pins:List (Addr×Obj)) (s:ej) (σ:St) (H:Hp) (x:V) (v:cX) (Q:VK),Inv X pins σ H s->RelV x v->r x H Q ->
  gV (kw X.prog X.w) X.A (f v) (EP X pins σ Q) X.xe s
def CallR(X:Cx)(f:cX)(r:List V->Hp->VK->Prop):Prop :=
 ∀(pins:List (Addr×Obj)) (s:ej) (σ:St) (H:Hp) (xs:List V) (us:List cX) (Q:VK),Inv X pins σ H s->Vals xs us->r xs H Q ->
  gV (kw X.prog X.w) X.A (call f us) (EP X pins σ Q) X.xe s
def Fx(X:Cx)(r:V->Hp->(Bool->Hp->Prop)->Prop):Prop :=
 ∀(pins:List (Addr×Obj)) (s:ej) (σ:St) (H:Hp) (x:V) (v:cX) (Q:Bool->Hp->Prop),Inv X pins σ H s->RelV x v->r x H Q ->
  gV (kw X.prog X.w) X.A (J_ v) (TP X pins σ Q) X.xe s
def tOp(r:R2)(ta tb:TE):TE:=λσ H Q=>ta σ H λx H1=>tb σ H1 λy H2=>r x y H2 Q
def tUn(r:V->Hp->VK->Prop)(ta:TE):TE:=λσ H Q=>ta σ H λx H1=>r x H1 Q
def rI(C:Int->Int->Prop)(g:Int->Int->V):R2:=λx y H Q=>∃ i j,x=.int i/\y=.int j/\C i j/\Q (g i j) H
def rI0(g:Int->Int->V):R2:=λx y H Q=>∃ i j,x=.int i/\y=.int j/\Q (g i j) H
def rU(g:Int->V):V->Hp->VK->Prop:=λx H Q=>∃ i,x=.int i/\Q (g i) H
section
variable {X:Cx}{a b c:Expr}{ta tb:TE}{pos:Pos}
def De(o:PE X a ta)(r:PE X b tb){c:List (Addr×Obj)}{s:ej}{d:St}{H:Hp}{R:V->V->Hp->Prop}(I:Inv X c d H s)
  (h:ta d H λx H1=>tb d H1 λy H2=>R x y H2){Q:cX->ej->Prop}{f:cX->cX->Sem cX}
  (e:∀ v u s2 x y H2,Inv X c d H2 s2->RelV x v->RelV y u->R x y H2->gV (kw X.prog X.w) X.A (f v u) Q X.xe s2) :
  gV (kw X.prog X.w) X.A (eval a X.env) (λv s₁=>gV (kw X.prog X.w) X.A (eval b X.env) (λu s₂=>gV (kw X.prog X.w) X.A (f v u) Q X.xe s₂) X.xe s₁) X.xe s:=by
 refine thn (o c s d H _ I h) λv j ⟨x,H1,p,l,k⟩=>?_
 refine thn (r c j d H1 _ p k) λu s2 ⟨y,H2,g,i,m⟩=>?_
 exact e v u s2 x y H2 g l i m
def au{d:KA}{r:R2}(e:OpR X (D0 d) r)(i:PE X a ta)(l:PE X b tb):PE X (.BinOp a d b pos) (tOp r ta tb):=by
 intro c s k H Q I h;exact wpAny_BinOp (De i l I h λv u o x y m g j f q=>e c o k m x y v u Q g j f q)
def nT{c:UnaryOp}{r:V->Hp->VK->Prop}(e:UnR X (unaryOp c) r)(k:PE X a ta):PE X (.UnaryOp c a pos) (tUn r ta):=by
 intro b s d H Q I h;exact LO (thn (k b s d H _ I h) λv f ⟨x,i,l,j,g⟩=>e b f d i x v Q l j g)
def opI{f:cX->cX->Sem cX}{C:Int->Int->Prop}{g:Int->Int->Int}
  (a:∀(i j:Int) (t u:Tok) (s:ej) (Q:cX->ej->Prop) (E:cX->ej->Prop),C i j->Q (.int (g i j) s.toks) { s with toks:=s.toks+1 }->gV (kw X.prog X.w) X.A (f (.int i t) (.int j u)) Q E s) :
  OpR X f (rI C λi j=>.int (g i j)):=by
 intro b s l H x y v u Q I e c h;obtain⟨i,j,rfl,rfl,d,q⟩:=h;obtain⟨t,rfl⟩:=e;obtain⟨k,rfl⟩:=c;exact a i j t k s _ _ d ⟨.int (g i j),H,I.tok _,⟨_,rfl⟩,q⟩
def Eo{f:cX->cX->Sem cX}{g:Int->Int->Int}
  (a:∀(i j:Int) (t u:Tok) (s:ej) (Q:cX->ej->Prop) (E:cX->ej->Prop),Q (.int (g i j) s.toks) { s with toks:=s.toks+1 }->gV (kw X.prog X.w) X.A (f (.int i t) (.int j u)) Q E s) :
  OpR X f (rI0 λi j=>.int (g i j)):=by
 intro b s k H x y v u Q I d c h;obtain⟨i,j,rfl,rfl,q⟩:=h;obtain⟨t,rfl⟩:=d;obtain⟨e,rfl⟩:=c;exact a i j t e s _ _ ⟨.int (g i j),H,I.tok _,⟨_,rfl⟩,q⟩
def Bl{f:cX->cX->Sem cX}{g:Int->Int->Bool}
  (a:∀(i j:Int) (t u:Tok) (s:ej) (Q:cX->ej->Prop) (E:cX->ej->Prop),Q (.bool (g i j)) s->gV (kw X.prog X.w) X.A (f (.int i t) (.int j u)) Q E s) :
  OpR X f (rI0 λi j=>.bl (g i j)):=by
 intro b s k H x y v u Q I d c h;obtain⟨i,j,rfl,rfl,q⟩:=h;obtain⟨t,rfl⟩:=d;obtain⟨e,rfl⟩:=c;exact a i j t e s _ _ ⟨.bl (g i j),H,I,rfl,q⟩
def FJ(i j:Int):Prop:=0<j/\j<1073741824
def Dh(i j:Int):Prop:=0<=j/\j<=1000000/\i.natAbs<2 ^ 64
def CMul(i j:Int):Prop:=(-(2 ^ 64)<i/\i<2 ^ 64)\/(-(2 ^ 64)<j/\j<2 ^ 64)
def CMul.ok{i j:Int}(h:CMul i j):IntMulOk i j:=by
 rcases h with⟨b,a⟩ | ⟨b,a⟩
 .exact .of_left (intBits_le_64 b a)
 .exact .of_right (intBits_le_64 b a)
def op_add:OpR X (D0 .Add) (rI0 λi j=>.int (i+j)):=Eo λ_ _ _ _ _ _ _ q=>add_int q
def op_sub:OpR X (D0 .Sub) (rI0 λi j=>.int (i - j)):=Eo λ_ _ _ _ _ _ _ q=>sub_int q
def op_mod:OpR X (D0 .Mod) (rI (λ_ j=>0<j) λi j=>.int (i % j)):=opI λi j _ _ _ _ _ a q=>by
 have b:(0:Int)<j:=a;exact mod_int' (by lia) (by rw[Int.fmod_eq_emod_of_nonneg i (by lia)];exact q)
def op_pow:OpR X (D0 .Pow) (rI Dh λi j=>.int (i ^ j.toNat)):=opI λ_ _ _ _ _ _ _ a q=>pow_int_small a.1 a.2.1 a.2.2 q
def unI{f:cX->Sem cX}{g:Int->Int}
  (a:∀(i:Int) (t:Tok) (s:ej) (Q:cX->ej->Prop) (E:cX->ej->Prop),Q (.int (g i) s.toks) { s with toks:=s.toks+1 }->gV (kw X.prog X.w) X.A (f (.int i t)) Q E s) :
  UnR X f (rU λi=>.int (g i)):=by
 intro b s d H x v Q I c h;obtain⟨i,rfl,q⟩:=h;obtain⟨t,rfl⟩:=c;exact a i t s _ _ ⟨.int (g i),H,I.tok _,⟨_,rfl⟩,q⟩
def Dr:UnR X (unaryOp .USub) (rU λi=>.int (-i)):=unI λ_ _ _ _ _ q=>neg_int q
end
def El:V->V->Bool
 | .non,.non=>true | .non,.int _=>true | .int _,.non=>true | .non,.bl _=>true | .bl _,.non=>true | .non,.str _=>true | .str _,.non=>true
 | .int _,.int _=>true | .bl _,.bl _=>true | .str _,.str _=>true | .byt _,.byt _=>true
 | .int _,.str _=>true | .str _,.int _=>true | .bl _,.str _=>true | .str _,.bl _=>true
 | _,_=>false
def rEq:R2:=λx y H Q=>El x y=true/\Q (.bl (decide (x=y))) H
def rNe:R2:=λx y H Q=>El x y=true/\Q (.bl (!decide (x=y))) H
def l7{i j:Int}:decide (V.int i=V.int j)=(i == j):=by
 rw[ue];simp
def qy{i j:Bool}:decide (V.bl i=V.bl j)=(i == j):=by
 rw[ue];simp
def lZ{i j:Str}:decide (V.str i=V.str j)=(i == j):=by
 rw[ue];simp
def uX{i j:Array UInt8}:decide (V.byt i=V.byt j)=(i.toList == j.toList):=by
 rw[ue];cases i;cases j;simp
section
variable {X:Cx}{a b c:Expr}{ta tb:TE}{pos:Pos}
def aS{a:List (Addr×Obj)}{b:St}{H:Hp}{s:ej}{Q:VK}{k c:Bool}(I:Inv X a b H s)(q:Q (.bl k) H)(e:k=c):EP X a b Q (.bool c) s:=by
 subst e;exact⟨.bl k,H,I,rfl,q⟩
def op_eq:OpR X (nf .Eq) rEq:=by
 intro e s f H x y v u Q I d a h;obtain⟨c,q⟩:=h;cases x with
 | non =>
  cases d;cases y with
  | non=>cases a;exact PySem.EqNone.eq_none_none (aS I q (by simp))
  | bl j=>cases a;exact PySem.EqNone.eq_none_bool (aS I q (by simp))
  | int j=>obtain⟨b,rfl⟩:=a;exact PySem.EqNone.eq_none_int (aS I q (by simp))
  | str j=>obtain⟨b,rfl⟩:=a;exact PySem.EqNone.eq_none_str (aS I q (by simp))
  | _=>exact absurd (show false=true from c) fx
 | bl i =>
  cases d;cases y with
  | non=>cases a;exact PySem.EqNone.eq_bool_none (aS I q (by simp))
  | bl j=>cases a;exact eq_bool (aS I q qy)
  | str j=>obtain⟨b,rfl⟩:=a;exact PySem.EqMixed.eq_bool_str (aS I q (by simp))
  | _=>exact absurd (show false=true from c) fx
 | int i =>
  obtain⟨t,rfl⟩:=d;cases y with
  | non=>cases a;exact PySem.EqNone.eq_int_none (aS I q (by simp))
  | int j=>obtain⟨b,rfl⟩:=a;exact eq_int (aS I q l7)
  | str j=>obtain⟨b,rfl⟩:=a;exact PySem.EqMixed.eq_int_str (aS I q (by simp))
  | _=>exact absurd (show false=true from c) fx
 | str i =>
  obtain⟨t,rfl⟩:=d;cases y with
  | non=>cases a;exact PySem.EqNone.eq_str_none (aS I q (by simp))
  | bl j=>cases a;exact PySem.EqMixed.eq_str_bool (aS I q (by simp))
  | int j=>obtain⟨b,rfl⟩:=a;exact PySem.EqMixed.eq_str_int (aS I q (by simp))
  | str j=>obtain⟨b,rfl⟩:=a;exact eq_str (aS I q lZ)
  | _=>exact absurd (show false=true from c) fx
 | byt i =>
  obtain⟨t,rfl⟩:=d;cases y with
  | byt j=>obtain⟨b,rfl⟩:=a;exact PySem.W.eq_bytes (aS I q uX)
  | _=>exact absurd (show false=true from c) fx
 | _=>cases y <;> exact absurd (show false=true from c) fx
def op_ne:OpR X (nf .NotEq) rNe:=by
 intro e s f H x y v u Q I d a h;obtain⟨c,q⟩:=h;cases x with
 | non =>
  cases d;cases y with
  | non=>cases a;exact PySem.EqNone.ne_none_none (aS I q (by simp))
  | bl j=>cases a;exact PySem.EqNone.ne_none_bool (aS I q (by simp))
  | int j=>obtain⟨b,rfl⟩:=a;exact PySem.EqNone.ne_none_int (aS I q (by simp))
  | str j=>obtain⟨b,rfl⟩:=a;exact PySem.EqNone.ne_none_str (aS I q (by simp))
  | _=>exact absurd (show false=true from c) fx
 | bl i =>
  cases d;cases y with
  | non=>cases a;exact PySem.EqNone.ne_bool_none (aS I q (by simp))
  | bl j=>cases a;exact ne_bool (aS I q (congrArg not qy))
  | str j=>obtain⟨b,rfl⟩:=a;exact PySem.EqMixed.ne_bool_str (aS I q (by simp))
  | _=>exact absurd (show false=true from c) fx
 | int i =>
  obtain⟨t,rfl⟩:=d;cases y with
  | non=>cases a;exact PySem.EqNone.ne_int_none (aS I q (by simp))
  | int j=>obtain⟨b,rfl⟩:=a;exact ne_int (aS I q (congrArg not l7))
  | str j=>obtain⟨b,rfl⟩:=a;exact PySem.EqMixed.ne_int_str (aS I q (by simp))
  | _=>exact absurd (show false=true from c) fx
 | str i =>
  obtain⟨t,rfl⟩:=d;cases y with
  | non=>cases a;exact PySem.EqNone.ne_str_none (aS I q (by simp))
  | bl j=>cases a;exact PySem.EqMixed.ne_str_bool (aS I q (by simp))
  | int j=>obtain⟨b,rfl⟩:=a;exact PySem.EqMixed.ne_str_int (aS I q (by simp))
  | str j=>obtain⟨b,rfl⟩:=a;exact ne_str (aS I q (congrArg not lZ))
  | _=>exact absurd (show false=true from c) fx
 | byt i =>
  obtain⟨t,rfl⟩:=d;cases y with
  | byt j=>obtain⟨b,rfl⟩:=a;exact PySem.W.ne_bytes (aS I q (congrArg not uX))
  | _=>exact absurd (show false=true from c) fx
 | _=>cases y <;> exact absurd (show false=true from c) fx
def op_lt:OpR X (nf .Lt) (rI0 λi j=>.bl (decide (i<j))):=Bl λ_ _ _ _ _ _ _ q=>lt_int q
def op_le:OpR X (nf .LtE) (rI0 λi j=>.bl (decide (i<=j))):=Bl λ_ _ _ _ _ _ _ q=>le_int q
def op_gt:OpR X (nf .Gt) (rI0 λi j=>.bl (decide (j<i))):=Bl λ_ _ _ _ _ _ _ q=>gt_int q
def op_ge:OpR X (nf .GtE) (rI0 λi j=>.bl (decide (j<=i))):=Bl λ_ _ _ _ _ _ _ q=>ge_int q
def vY:OpR X (nf .Lt) (λx y H Q=>∃ i j,x=.str i/\y=.str j/\Q (.bl (decide (i.cps.toList<j.cps.toList))) H):=by
 intro a s e H x y v u Q I c b h;obtain⟨i,j,rfl,rfl,q⟩:=h;obtain⟨t,rfl⟩:=c;obtain⟨d,rfl⟩:=b;exact lt_str (aS I q rfl)
def op_in_str:OpR X (nf .In) (λx y H Q=>∃ i j,x=.str i/\y=.str j/\Q (.bl (!(rc j i 0 j.length 1).isEmpty)) H):=by
 intro a s e H x y v u Q I c b h;obtain⟨i,j,rfl,rfl,q⟩:=h;obtain⟨t,rfl⟩:=c;obtain⟨d,rfl⟩:=b;exact in_str (aS I q rfl)
def op_isN:OpR X (nf .Is) (λx y H Q=>y=.non/\Q (.bl (decide (x=.non))) H):=by
 intro b s d H x y v u Q I a c h;obtain⟨rfl,q⟩:=h;cases c;refine is_none_gen (aS I q ?_)
 cases x <;> first
  | (cases a;rfl)
  | (obtain⟨t,rfl⟩:=a;rfl)
def op_notN:OpR X (nf .IsNot) (λx y H Q=>y=.non/\Q (.bl (!decide (x=.non))) H):=by
 intro b s d H x y v u Q I a c h;obtain⟨rfl,q⟩:=h;cases c;refine isnot_none_gen (aS I q ?_)
 cases x <;> first
  | (cases a;rfl)
  | (obtain⟨t,rfl⟩:=a;rfl)
def OpR.or{f:cX->cX->Sem cX}{r c:R2}(h:OpR X f r)(h':OpR X f c):OpR X f (λx y H Q=>r x y H Q\/c x y H Q):=by
 intro a s e H x y v u Q I d b q
 rcases q with q | q
 .exact h a s e H x y v u Q I d b q
 .exact h' a s e H x y v u Q I d b q
def az(b:Expr){a:JW}(h:a≠.In:=by decide)(d:a≠.NotIn:=by decide):Gf a b=false:=by
 have c:(a == CmpOp.In)=false:=by cases a <;> first | rfl | exact absurd rfl h
 have e:(a == CmpOp.NotIn)=false:=by cases a <;> first | rfl | exact absurd rfl d
 cases b <;> simp[Gf,c,e]
def ba{d:JW}{r:R2}(f:OpR X (nf d) r)(j:PE X a ta)(m:PE X b tb)(e:Gf d b=false):PE X (.Compare a [d] [b] pos) (tOp r ta tb):=by
 intro c s l H Q I h;exact wpAny_Compare1 (De j m I h λv u p x y o i k g q=>f c p l o x y v u Q i k g q) e
def CH(K:Frag)(x:V)(H:Hp)(k:Bool):Prop :=
 match x with
 | .non=>k=false
 | .bl b=>k=b
 | .int i=>k=(i != 0)
 | .str y=>y.length<=sizeLine/\k=((y.length:Int) != 0)
 | .byt y=>y.size<=sizeLine/\k=((y.size:Int) != 0)
 | .ref p=>(∃ xs,SqL K H p xs/\k = !xs.isEmpty)\/(∃ xs,SqT K H p xs/\k = !xs.isEmpty)\/∃ kvs,H p=some (.dK kvs)/\k = !kvs.isEmpty
 | _=>False
def tZ{a:Type}{kvs:List (a×V)}{vs:List (a×cX)}(r:KV kvs vs):(!vs.isEmpty) = !kvs.isEmpty:=by
 cases r <;> rfl
def mY{xs:List V}{its:List cX}(r:Vals xs its):(!its.toArray.isEmpty) = !xs.isEmpty:=by
 cases r <;> simp
def g7:(sizeLine:Nat)<2 ^ 63:=by rw[fE];decide
def ze:Fx X (λx H Q=>∃ k,CH X.K x H k/\Q k H):=by
 intro w s C H x v Q I g h;obtain⟨k,e,q⟩:=h;have B:=g7;have D:sizeLine=16777216:=fE;cases x with
 | non =>
  cases g;have a:k=false:=e;subst a;exact truthy_none ⟨H,I,q⟩
 | bl b =>
  cases g;have a:k=b:=e;subst a;exact qj ⟨H,I,q⟩
 | int i =>
  obtain⟨t,rfl⟩:=g;have a:k=(i != 0):=e;subst a;exact PySem.P.truthy_int ⟨H,I,q⟩
 | str y =>
  obtain⟨t,rfl⟩:=g;obtain⟨hy,a⟩:y.length<=sizeLine/\k=((y.length:Int) != 0):=e;subst a;exact PySem.P.truthy_str (by lia) ⟨H,I.tok _,q⟩
 | byt y =>
  obtain⟨t,rfl⟩:=g;obtain⟨hy,a⟩:y.size<=sizeLine/\k=((y.size:Int) != 0):=e;subst a;exact PySem.W.truthy_bytes (by lia) ⟨H,I.tok _,q⟩
 | ref p =>
  cases g;have a:(∃ f,SqL X.K H p f/\k = !f.isEmpty)\/(∃ f,SqT X.K H p f/\k = !f.isEmpty)\/∃ c,H p=some (.dK c)/\k = !c.isEmpty:=e
  rcases a with⟨f,j,a⟩ | ⟨f,j,a⟩ | ⟨c,j,a⟩
  .subst a
   obtain⟨o,r,l,A⟩:=I.list j;have d:=r.length;exact wpAny_truthy_list l.isList (by simp only[l5];lia) ⟨H,I.tok _,by rw[mY r];exact q⟩
  .subst a
   obtain⟨o,r,l,A⟩:=I.tuple j;have d:=r.length;exact truthy_tuple l (by simp only[l5];lia) ⟨H,I.tok _,by rw[mY r];exact q⟩
  .subst a
   obtain⟨A,hS,vs,r,m⟩:c.length<=sizeLine/\(p == uF)=false/\∃ vs,KV c vs/\s.heap.DictOf (bH X.prog X.w) p vs:=I.hok p _ j;have d:c.length=vs.length:=gp r;exact wpAny_truthy_dict hS m (by lia) ⟨H,I.tok _,by rw[tZ r];exact q⟩
 | _=>exact(show False from e).elim
def hJ(g:PE X a ta)(j:∀ whole,J8 a X.env whole=(do let v <- whole;Ju a.pos;Hr [v] (J_ v))) :
  PT X a (λσ H Q=>ta σ H λx H'=>∃ k,CH X.K x H' k/\Q k H'):=by
 intro b s σ H Q I h;exact IF (thn (g b s σ H _ I h) λv c ⟨x,e,i,f,d⟩=>ze b c σ e x v Q i f d) (j _)
def uG:OpR X (D0 .Add) (λx y H Q=>∃ i j,x=.str i/\y=.str j/\i.length+j.length<=sizeLine/\Q (.str (i++j)) H):=by
 intro a s g H x y v u Q I c b h;obtain⟨i,j,rfl,rfl,e,q⟩:=h;obtain⟨t,rfl⟩:=c;obtain⟨d,rfl⟩:=b;exact add_str (λd f=>⟨.str (i++j),H,I.tok _,⟨_,rfl⟩,q⟩) e
def dW{x:V}{us:List cX}(r:Vals [x] us):∃ u,us=[u]/\RelV x u:=by
 cases r with
 | cons r1 r2=>cases r2;exact⟨_,rfl,r1⟩
def sk{x y:V}{us:List cX}(r:Vals [x,y] us):∃ u w',us=[u,w']/\RelV x u/\RelV y w':=by
 cases r with
 | cons r1 r2 =>
  cases r2 with
  | cons r3 r4=>cases r4;exact⟨_,_,rfl,r1,r3⟩
def yM:CallR X (.builtin "abs") (λxs H Q=>∃ i,xs=[.int i]/\Q (.int (if i<0 then -i else i)) H):=by
 intro a s b H xs c Q I r h;obtain⟨i,rfl,q⟩:=h;obtain⟨u,rfl,t,rfl⟩:=dW r
 exact call_abs_int λu d=>⟨.int (if i<0 then -i else i),H,I.tok _,⟨_,rfl⟩,q⟩
inductive rTwo(f:Int->Int->Int)(xs:List V)(H:Hp)(Q:VK):Prop
 | mk(i j:Int)(h0:xs=[.int i,.int j])(h1:Q (.int (f i j)) H):rTwo f xs H Q
def oY(b:X.calm=true):CallR X (.builtin "max") (rTwo λi j=>if j > i then j else i):=by
 intro a s m H f d Q I r h;obtain⟨i,j,rfl,q⟩:=h;obtain⟨u,c,rfl,⟨t,rfl⟩,⟨l,rfl⟩⟩:=sk r
 refine max_two_ints (I.ok.hd b) λe g k=>⟨_,H,I.kept k,?_,q⟩
 by_cases hj:j > i
 .rw[if_pos hj,if_pos hj];exact⟨_,rfl⟩
 .rw[if_neg hj,if_neg hj];exact⟨_,rfl⟩
def eC(b:X.calm=true):CallR X (.builtin "min") (rTwo λi j=>if j<i then j else i):=by
 intro a s m H f d Q I r h;obtain⟨i,j,rfl,q⟩:=h;obtain⟨u,c,rfl,⟨t,rfl⟩,⟨l,rfl⟩⟩:=sk r
 refine min_two_ints (I.ok.hd b) λe g k=>⟨_,H,I.kept k,?_,q⟩
 by_cases hj:j<i
 .rw[if_pos hj,if_pos hj];exact⟨_,rfl⟩
 .rw[if_neg hj,if_neg hj];exact⟨_,rfl⟩
def kg:CallR X (.type "int") (λxs H Q=>(∃ i,xs=[.int i]/\Q (.int i) H)\/∃ k,xs=[.bl k]/\Q (.int (if k then 1 else 0)) H):=by
 intro a s c H xs d Q I r h
 rcases h with⟨i,rfl,q⟩ | ⟨k,rfl,q⟩
 .obtain⟨u,rfl,t,rfl⟩:=dW r
  exact call_int_int ⟨.int i,H,I,⟨_,rfl⟩,q⟩
 .obtain⟨u,rfl,b⟩:=dW r
  cases b;exact call_int_bool ⟨.int (if k then 1 else 0),H,I.tok _,⟨_,rfl⟩,q⟩
end
structure ObjM(h:Heap)(x dx C:Addr)(mA:Str->Option cX):Prop where
 obj:h.get? x=some (Ie C dx)
 ns:h.Ns1 dx mA
 ne:dx≠x
def v5{h:Heap}{d:Addr}{c:Str->Option cX}(n:h.Ns1 d c):∃ od,h.get? d=some od/\∀ name,LP name od=some (c name):=by
 obtain⟨o,f,p,i,l,k,_,g⟩:=n;refine⟨o,i,λname=>?_⟩;have e:=g name;unfold nsFind findBy at e;rw[<- Array.find?_toList]at e;unfold LP;rw[l];dsimp only
 split
 .rename_i y q
  rw[q]at e;exact congrArg some e
 .rename_i q
  rw[q]at e
  have a:f.toList.any (·.refKey)=false:=by
   rw[List.any_eq_false];intro y m;obtain⟨z,t,b⟩:=k y (Array.mem_toList_iff.mp m);simp[DictEntry.refKey,b]
  have j:¬f.toList.any (·.refKey)=true:=by rw[a];exact fx
  rw[if_neg j];exact congrArg some e
def ObjM.look{h:Heap}{x b C:Addr}{a:Str->Option cX}(I:ObjM h x b C a):∃ od,InstAt h x (Ie C b) C (some od)/\∀ name,LP name od=some (a name) :=
 let ⟨od,ho,hl⟩:=v5 I.ns
 ⟨od,⟨I.obj,rfl,rfl,ho⟩,hl⟩
section
variable {prog:gN}{w:ml}{A:o3}{E:cX->ej->Prop}{s:ej}{K:Frag}{x dx C f:Addr}{mA:Str->Option cX}{name:Str}{v:cX}
def zG{a:Bool}{Q:cX->ej->Prop}(X:K.In s.heap)(I:ObjM s.heap x dx C mA)(d:KC K C name=true)(e:LI K C=true)
  (g:Ht K (.ref C) name=some none) (c:mA name=some v) (b:handedIn v=true) (h:Q v { s with toks:=s.toks+1 }) :
  gV (kw prog w) A (getAttr (.ref x) name a) Q E s:=by
 obtain⟨i,J,f⟩:=I.look;exact PySem.W.get_value X J (KD d).1 (PySem.W.findObj_own e g rfl (by rw[f,c])) b h
def yS{pl:Sem Bool}{Q:cX×List cX->ej->Prop}(X:K.In s.heap)(I:ObjM s.heap x dx C mA)(a:KC K C name=true)
  (b:Ht K (.ref C) name=some (some (.ref f))) (e:isFn K (.ref f)=true) (c:mA name=none) (h:Q (.ref f,[.ref x]) s) :
  gV (kw prog w) A (JY (.ref x) name pl) Q E s:=by
 obtain⟨d,J,g⟩:=I.look;exact PySem.W.method_fn X J (KD a).1 (KD a).2 b (beq_iff_eq.mp e) (by show(LP name d).map (·.isSome)=some false;rw[g,c];rfl) h
def Az{j:List Str}{Q:Unit->ej->Prop}(X:K.In s.heap)(I:ObjM s.heap x dx C mA)
  (k:Ht K (.ref C) "__setattr__" = some (some (.builtin "object.__setattr__"))) (B:plainOver K C=true) (F:takerIn K C name=some none) (m:LI K C=true)
  (l:Jn mA j) (hsz:j.length<=sizeLine)
  (h:∀ h',ObjM h' x dx C (λy=>if y=name then some v else mA y)->GF dx s.heap h'->Q () { s with heap:=h',toks:=s.toks+2 }) :
  gV (kw prog w) A (setAttr (.ref x) name v) Q E s:=by
 obtain⟨H,J,M⟩:=I.look;refine PySem.W.set_plain X J k (PySem.W.osa_open (s:={ s with toks:=s.toks+1 }) (r:=none) X J B F λb=>?_);obtain⟨N,p,e⟩:=any_some m;have G:s.heap.get? x=some ⟨.ref C,some dx,.plain,#[]⟩:=I.obj;refine cn (eB (cn (cn (wpAny_loadPart G (cn (Looks.here (s:={ s with toks:=s.toks+1 }) (PySem.W.looks_clsIn X p) ?_))))));rw[e];refine eB (a:=some dx) (cn (eB (cn ?_)));refine wpAny_nsSet1 (s:={ s with toks:=s.toks+1 }) I.ns λh' c d=>?_
 obtain⟨L,D,o,i,g,f⟩:=c.count (PySem.Within.cons name v l);refine cn (wpAny_lookBehind i (by rw[g];exact pastItsLine_dict (mu f (by rw[f_];lia))) ?_);exact eB (h _ ⟨(d.2 _ (FZ I.ne)).trans I.obj,c,I.ne⟩ d)
def w9{R:Lb->ej->Prop}{vs:List cX}{b:List (Str×cX)}(X:K.In s.heap)(c:makesIn K C=true)
  (i:Ht K (.ref C) "__init__" = some (some (.ref f))) (e:typeIn K (.ref f)=some (.type "function"))
  (h:GG (kw prog w) (A.under (.builtin "type.__call__" ⟨.ref C::vs,b⟩)) (.call (.ref f) ⟨.ref (s.heap.objs.size+1)::vs,b⟩) (PySem.W.InitBack (s.heap.objs.size+1) R)
   { s with heap:=(s.heap.push GA).push (Ie C s.heap.objs.size) }) :
  GG (kw prog w) A (.call (.ref C) ⟨vs,b⟩) R s:=by
 obtain⟨j,g,d,t,k⟩:=s;exact PySem.W.make_core (PySem.W.makes_of X c) (PySem.W.looks_findIn X i) (λa=>PySem.W.bind_fn X a e) (.inl rfl) h
end
def iU(f:Str)(v:V):List (Str×V)->List (Str×V)
 | []=>[(f,v)]
 | (g,x)::r=>if g=f then (g,v)::r else (g,x)::iU f v r
theorem k8(f g:Str)(v:V):∀ fs:List (Str×V),(iU f v fs).lookup g=if g=f then some v else fs.lookup g
 | []=>by
  show Gc g [(f,v)]=_
  by_cases h:g=f
  .have a:(g == f)=true:=beq_iff_eq.mpr h
   simp only[Gc,a,if_pos h]
  .have a:(g == f)=false:=beq_eq_false_iff_ne.mpr h
   simp only[Gc,a,if_neg h]
 | (k,x)::r=>by
  have b:=k8 f g v r;rw[show iU f v ((k,x)::r)=(if k=f then (k,v)::r else (k,x)::iU f v r) from rfl]
  by_cases hk:k=f
  .rw[if_pos hk]
   by_cases h:g=k
   .have a:(g == k)=true:=beq_iff_eq.mpr h
    simp only[Gc,a,if_pos (h.trans hk)]
   .have a:(g == k)=false:=beq_eq_false_iff_ne.mpr h
    simp only[Gc,a,if_neg (λe:g=f=>h (e.trans hk.symm))]
  .rw[if_neg hk]
   by_cases h:g=k
   .have a:(g == k)=true:=beq_iff_eq.mpr h
    simp only[Gc,a,if_neg (λe:g=f=>hk (h.symm.trans e))]
   .have a:(g == k)=false:=beq_eq_false_iff_ne.mpr h
    simp only[Gc,a];exact b
theorem ku(f:Str)(v:V):∀ fs:List (Str×V),f∈(iU f v fs).map (·.1)/\∀ g,g∈fs.map (·.1)->g∈(iU f v fs).map (·.1)
 | []=>⟨by simp[iU],λg h=>by simp at h⟩
 | (k,x)::r=>by
  obtain⟨a,b⟩:=ku f v r;rw[show iU f v ((k,x)::r)=(if k=f then (k,v)::r else (k,x)::iU f v r) from rfl]
  by_cases hk:k=f
  .rw[if_pos hk]
   subst hk;exact⟨by simp,λg h=>by simpa using h⟩
  .rw[if_neg hk]
   refine⟨?_,λg h=>?_⟩
   .rw[l_]
    exact fy _ a
   .rw[l_]at h ⊢
    rcases i_.mp h with e | e
    .exact i_.mpr (.inl e)
    .exact fy _ (b g e)
theorem kT(f:Str)(v:V):∀ fs:List (Str×V),(iU f v fs).length<=fs.length+1
 | []=>by simp[iU]
 | (k,x)::r=>by
  have a:=kT f v r;rw[show iU f v ((k,x)::r)=(if k=f then (k,v)::r else (k,x)::iU f v r) from rfl]
  by_cases hk:k=f
  .rw[if_pos hk,f_,f_];lia
  .rw[if_neg hk,f_,f_];lia
def RelO.some_of{v:V}{o:Option cX}(r:RelO (some v) o):∃ u,o=some u/\RelV v u:=by
 cases o with
 | none=>exact(show False from r).elim
 | some u=>exact⟨u,rfl,r⟩
def RelO.none_of{o:Option cX}(r:RelO none o):o=none:=by
 cases o with
 | none=>rfl
 | some u=>exact(show False from r).elim
def wr{v:V}{u:cX}(r:RelV v u):handedIn u=true:=by
 cases v with
 | non=>cases(show u=F_ from r);rfl
 | bl b=>cases(show u=HI b from r);rfl
 | int i=>obtain⟨t,e⟩:=(show ∃ t,u=Hl i t from r);cases e;rfl
 | str x=>obtain⟨t,e⟩:=(show ∃ t,u=Ik x t from r);cases e;rfl
 | byt b=>obtain⟨t,e⟩:=(show ∃ t,u=Value.bytes b t from r);cases e;rfl
 | flt b=>obtain⟨t,e⟩:=(show ∃ t,u=Jx b t from r);cases e;rfl
 | ref a=>cases(show u=mr a from r);rfl
 | ty n=>cases(show u=Gr n from r);rfl
section
variable {P:gN}{w:ml}{H:Hp}{h:Heap}{a C dx:Addr}{fs:List (Str×V)}
def lV(b:HOk P w H h)(e:H a=some (.ins C dx fs)):∃ mA,ObjM h a dx C mA/\(∀ f,RelO (fs.lookup f) (mA f))/\Jn mA (fs.map (·.1))/\fs.length<=1000/\H dx=some (.own a):=by
 obtain⟨d,z,g,c,mA,n,r,q⟩:=(show ObjOk P w H h a (.ins C dx fs) from b a _ e)
 exact⟨mA,⟨c,n,g⟩,r,q,z,d⟩
end
structure Cls(K:Frag)(C:Addr):Prop where
 pg:KC K C Str.empty=true
 hd:LI K C=true
 po:plainOver K C=true
 sa:Ht K (.ref C) "__setattr__" = some (some (.builtin "object.__setattr__"))
def Cls.get{K:Frag}{C:Addr}(c:Cls K C)(f:Str):KC K C f=true:=c.pg
def NoAttr(K:Frag)(C:Addr)(f:Str):Prop:=Ht K (.ref C) f=some none
def NoAttr.taker{K:Frag}{C:Addr}{f:Str}(n:NoAttr K C f):takerIn K C f=some none:=by
 unfold takerIn;rw[show Ht K (.ref C) f=some none from n];rfl
structure Meth(K:Frag)(C:Addr)(m:Str)(f:Addr):Prop where
 at_:Ht K (.ref C) m=some (some (.ref f))
 fn:isFn K (.ref f)=true
 kp:HR K (.ref f)=true
section
variable {X:Cx}{pins:List (Addr×Obj)}{σ:St}{H:Hp}{s:ej}{a C dx:Addr}{fs:List (Str×V)}{f:Str}{v:V}{A:o3}{E:cX->ej->Prop}
def ul{b:Bool}{Q:cX->ej->Prop}(I:Inv X pins σ H s)(e:H a=some (.ins C dx fs))(c:Cls X.K C)(n:NoAttr X.K C f)(l:fs.lookup f=some v)
  (h:∀ u s',Inv X pins σ H s'->RelV v u->Q u s'):gV (kw X.prog X.w) A (getAttr (.ref a) f b) Q E s:=by
 obtain⟨g,O,r,_,_,_⟩:=lV I.hok e;obtain⟨u,i,d⟩:=RelO.some_of (v:=v) (o:=g f) (by rw[<- l];exact r f);exact zG I.kIn O (c.get f) c.hd n i (wr d) (h u _ (I.tok _) d)
def nE{m:Str}{g:Addr}{pl:Sem Bool}{Q:cX×List cX->ej->Prop}(I:Inv X pins σ H s)(e:H a=some (.ins C dx fs))(c:Cls X.K C)(k:Meth X.K C m g)(l:fs.lookup m=none)
  (h:Q (.ref g,[.ref a]) s):gV (kw X.prog X.w) A (JY (.ref a) m pl) Q E s:=by
 obtain⟨b,O,r,_,_,_⟩:=lV I.hok e;have d:b m=none:=RelO.none_of (by rw[<- l];exact r m);exact yS I.kIn O (c.get m) k.at_ k.fn d h
def tR{y:V}{u:cX}{Q:Unit->ej->Prop}(I:Inv X pins σ H s)(e:H a=some (.ins C dx fs))(c:Cls X.K C)(n:NoAttr X.K C f)(B:fs.length<1000)(l:RelV y u)
  (h:∀ s',Inv X pins σ (upd H a (.ins C dx (iU f y fs))) s'->Q () s'):gV (kw X.prog X.w) A (setAttr (.ref a) f u) Q E s:=by
 obtain⟨i,O,r,k,_,j⟩:=lV I.hok e;have w:(fs.map (·.1)).length<=sizeLine:=by rw[a_,fE];lia
 refine Az I.kIn O c.sa c.po n.taker c.hd k w λm d p=>h _ ?_
 have v:∃ o,m.get? dx=some o:=let ⟨o,_,_,e',_⟩:=d.ns;⟨o,e'⟩;refine I.write (x:=a) (e:=dx) (by rw[e];exact DP) (.inr j) (λb q hb z=>(p.2 b hb).trans z) v ?_;refine⟨by rw[aq O.ne];exact j,?_,O.ne,d.obj,_,d.ns,λg=>?_,λg hg=>?_⟩
 .have:=kT f y fs;lia
 .show RelO ((iU f y fs).lookup g) (if g=f then some u else i g)
  rw[k8]
  by_cases q:g=f
  .rw[if_pos q,if_pos q];exact l
  .rw[if_neg q,if_neg q];exact r g
 .by_cases q:g=f
  .rw[q];exact(ku f y fs).1
  .refine(ku f y fs).2 g (k g λz=>hg ?_)
   show(if g=f then some u else i g)=none;rw[if_neg q];exact z
def Inv.made(I:Inv X pins σ H s):Inv X pins σ (upd (upd H s.heap.objs.size (.own (s.heap.objs.size+1))) (s.heap.objs.size+1) (.ins C s.heap.objs.size []))
  { s with heap:=(s.heap.push GA).push (Ie C s.heap.objs.size) }:=by
 have d:(s.heap.push GA).get? s.heap.objs.size=some GA:=h_ s.heap rfl
 have g:((s.heap.push GA).push (Ie C s.heap.objs.size)).get? (s.heap.objs.size+1)=some (Ie C s.heap.objs.size):=by
  have:=h_ (s.heap.push GA) (o:=Ie C s.heap.objs.size) rfl;rwa [IS]at this
 have h:(s.heap.push GA).Ns s.heap.objs.size (λ_=>none):=⟨GA,#[],_,d,rfl,(λe he=>absurd he (by simp)),λ_=>rfl⟩
 have f:=I.laid (a:=s.heap.objs.size) (o:=.own (s.heap.objs.size+1)) (h':=s.heap.push GA) (t':=s.toks) (λb u q=>e_ _ q) (d_ _) ⟨_,d⟩;refine f.laid (a:=s.heap.objs.size+1) (o:=.ins C s.heap.objs.size []) (t':=s.toks) (λb u q=>e_ _ q) (Il (IS _ _)) ?_;have c:s.heap.objs.size≠s.heap.objs.size+1:=nl (G3 _);refine⟨by rw[aq c,ac],ey _,c,g,λ_=>none,(Heap.Ns1.of_empty h).at λo q=>e_ _ q,λ_=>DP,λy hy=>absurd rfl hy⟩
def Bf{prog:gN}{w:ml}{env:Env}{e:Expr}{f:Str}{a:Pos}{s:ej}{Q:cX->ej->Prop}(b:A6 e f env (eval e env)=eval e env)
  (h:gV (kw prog w) A (eval e env) (λo s₁=>gV (kw prog w) A (getAttr o f true) Q E s₁) E s):gV (kw prog w) A (eval (.Attribute e f a) env) Q E s :=
 Attribute_any_ h (by rw[arm_eval_Attribute,b])
end
def Fs(K:Frag)(ta:TE)(f:Str):TE:=λσ H Q=>ta σ H λx H1=>∃ a C dx fs v,x=.ref a/\H1 a=some (.ins C dx fs)/\Cls K C/\NoAttr K C f/\fs.lookup f=some v/\Q v H1
def Fg(K:Frag)(ta tv:TE)(f:Str):TS:=λD σ H=>tv σ H λy H1=>ta σ H1 λx H2=>∃ a C dx fs,x=.ref a/\H2 a=some (.ins C dx fs)/\Cls K C/\NoAttr K C f/\fs.length<1000 /\
 D.nx σ (upd H2 a (.ins C dx (iU f y fs)))
section
variable {X:Cx}{o e value:Expr}{f:Str}{pos pos':Pos}{ta tv:TE}
def cZ(w:PE X e ta)(r:A6 e f X.env (eval e X.env)=eval e X.env):PE X (.Attribute e f pos) (Fs X.K ta f):=by
 intro b s p H Q I h;refine Bf r (thn (w b s p H _ I h) λu A ⟨x,i,k,o,a,C,y,B,v,m,j,c,n,l,q⟩=>?_);subst m;obtain rfl:u=mr a:=o
 exact ul k j c n l λD E g d=>⟨v,i,g,d,q⟩
def m3(m:PE X o ta)(i:PE X value tv)(r:He value (some (.Attribute o f pos')) pos.line X.env=pure false):PS X (.Assign [.Attribute o f pos'] value pos) (Fg X.K ta tv f):=by
 intro b s d H D I h;refine plainObj_wpAny_Assign_Attribute (thn (i b s d H _ I h) λu j ⟨y,k,p,g,q⟩=>thn (m b j d k _ p q) λov s2 ⟨x,H2,I2,rx,a,C,dx,fs,ex,ea,c,n,l,q2⟩=>?_) r;subst ex;obtain rfl:ov=mr a:=rx
 exact tR I2 ea c n l g λv e=>⟨d,_,e,q2⟩
end
section
variable {H:Hp}
inductive TyOf(K:Frag)(H:Hp):V->cX->Prop where
 | non:TyOf K H .non (.type "NoneType")
 | bl (x:Bool):TyOf K H (.bl x) (.type "bool")
 | int (i:Int):TyOf K H (.int i) (.type "int")
 | str (x:Str):TyOf K H (.str x) (.type "str")
 | flt (x:UInt64):TyOf K H (.flt x) (.type "float")
 | lst {a:Addr}{xs:List V}(e:H a=some (.lst xs)):TyOf K H (.ref a) (.type "list")
 | frz {a:Addr}{o:Obj}{xs:List V}(e:H a=some (.frz o (.lst xs))):TyOf K H (.ref a) (.type "list")
 | tup {a:Addr}{xs:List V}(e:H a=some (.tup xs)):TyOf K H (.ref a) (.type "tuple")
 | dK {a:Addr}{kvs:List (Key×V)}(e:H a=some (.dK kvs)):TyOf K H (.ref a) (.type "dict")
 | dT {a:Addr}{kvs:List (List Key×V)}(e:H a=some (.dT kvs)):TyOf K H (.ref a) (.type "dict")
 | ins {a C dx:Addr}{fs:List (Str×V)}(e:H a=some (.ins C dx fs)) (cl:Cls K C) (ha:Ht K (.ref C) "__class__" = some (some (.builtin "object.__class__")))
   (hn:PySem.W.specialIn K (.builtin "object.__class__") "__get__" = some (some (.builtin "getset_descriptor.__get__"))) (htk:PySem.W.takesIn K (.builtin "object.__class__")=some true)
   (hm:mroIn K C (.type "object")=some true):TyOf K H (.ref a) (.ref C)
end
structure Room(k:Nat)(A:o3):Prop where
 hd:A.handled=none
 dp:A.depth+3*k+5<LQ
 un:A.units+16*k+200<G8
def Room.mono{j k:Nat}{A:o3}(r:Room k A)(h:j<=k):Room j A:=⟨r.hd,by have:=r.dp;lia,by have:=r.un;lia⟩
def Room.deeper{k:Nat}{A:o3}(r:Room (k+1) A)(env:Env):Room k (A.deeper env) :=
 ⟨r.hd,by have:=r.dp;show A.depth+1+3*k+5<_;lia,by have:=r.un;show A.units+3+16*k+200<_;lia⟩
def uu{A:o3}{C:Addr}{us:List cX}{a:List (Str×cX)}:(A.under (.builtin "type.__call__" ⟨.ref C::us,a⟩)).depth=A.depth+1:=by
 first | rfl | simp[Jf,Code.weight,Code.isCreation,Code.isGuard,Code.isCaller,Code.frames,Jv,guardIds]
def ua{A:o3}{C:Addr}{us:List cX}{a:List (Str×cX)}:(A.under (.builtin "type.__call__" ⟨.ref C::us,a⟩)).units=A.units+1:=by
 first | rfl | simp[Jf,Code.cUnits,Code.frames,Jv]
def Room.make{k:Nat}{A:o3}(r:Room (k+1) A)(C:Addr)(us:List cX)(a:List (Str×cX)):Room k (A.under (.builtin "type.__call__" ⟨.ref C::us,a⟩)) :=
 ⟨r.hd,by have:=r.dp;rw[uu];lia,by have:=r.un;rw[ua];lia⟩
def Room.depth{k:Nat}{A:o3}(r:Room k A):A.depth<LQ:=by have:=r.dp;lia
def Room.units{k:Nat}{A:o3}(r:Room k A):A.units+64<G8:=by have:=r.un;lia
def Ei:TA:=λ_ H Q=>Q [] H
def Cc(ta:TE)(tr:TA):TA:=λσ H Q=>ta σ H λx H1=>tr σ H1 λxs H2=>Q (x::xs) H2
section
variable {X:Cx}{e:Expr}{es:List Expr}{te:TE}{t:TA}{pos:Pos}
def ae:PA X [] Ei:=λ_ _ _ _ H Q I h=>HS ⟨[],H,I,.nil,h⟩
def aa(o:PE X e te)(f:PA X es t)(v:fI (e::es) X.env=(false,eval e X.env)::fI es X.env:=by rfl):PA X (e::es) (Cc te t):=by
 intro b a s c H Q I h;rw[v];show gV _ _ (spliced ((false,eval e X.env)::tp b (fI es X.env))) _ _ s;refine GI (thn (o a s c H _ I h) λu i ⟨x,k,p,l,j⟩=>?_)
 exact thn (f b a i c k _ p j) λy A ⟨r,w,d,g,m⟩=>⟨x::r,w,d,.cons l g,m⟩
def FK(t:TA):TE:=λσ H Q=>t σ H λxs H1=>xs.length<=sizeLine/\∀ p,H1 p=none->Q (.ref p) (upd H1 p (.tup xs))
def FM(t:TA):TE:=λσ H Q=>t σ H λxs H1=>xs.length<=sizeLine/\∀ p,H1 p=none->Q (.ref p) (upd H1 p (.lst xs))
def aG{x1}(h:PA X es t):PE X (.Tuple es x1 pos) (FK t):=by
 intro a s l H Q I j;refine wpAny_Tuple_spliced (thn (h pos a s l H _ I j) λi c ⟨k,d,f,r,z,q⟩=>⟨by rw[<- r.length];exact z,?_⟩);have g:d c.heap.objs.size=none:=f.hok.fresh (d_ _);refine⟨.ref c.heap.objs.size,upd d c.heap.objs.size (.tup k),f.laid (t':=c.toks) (λb u e=>e_ _ e) (d_ _) ?_,rfl,q _ g⟩;exact⟨z,i,r,⟨_,h_ _ rfl,rfl,_,rfl⟩⟩
def bn(h:PA X es t):PE X (.List es pos) (FM t):=by
 intro a s l H Q I j;refine wpAny_List_spliced (thn (h pos a s l H _ I j) λi c ⟨k,d,f,r,z,q⟩=>⟨by rw[<- r.length];exact z,?_⟩);have g:d c.heap.objs.size=none:=f.hok.fresh (d_ _);refine⟨.ref c.heap.objs.size,upd d c.heap.objs.size (.lst k),f.laid (t':=c.toks) (λb u e=>e_ _ e) (d_ _) ?_,rfl,q _ g⟩;exact⟨z,i,0,r,h_ _ rfl⟩
end
abbrev Sp:=List V->Hp->VK->XK->Prop
abbrev CXT:=List Env->Hp->ej->XK->cX->ej->Prop
structure Env0(P:gN)(w:ml)(K:Frag)(mg:Str->Option cX)(base:Heap)(A:o3)(outer:List Env)(s:ej)(H:Hp):Prop where
 frames:A.frames=some outer
 mod:Mod K mg base
 bs:∀ b o,base.get? b=some o->s.heap.get? b=some o/\H b=none
 bsz:base.objs.size<=s.heap.objs.size
 funs:s.heap.FunFrames base outer
 frf:∀ b∈frs outer,H b=none
 hok:HOk P w H s.heap
 bare:GQ s.gens
def CE(outer:List Env)(P:gN)(w:ml)(H:Hp)(s:ej)(Q:VK)(u:cX)(s':ej):Prop :=
 ∃ v H',s'.os=s.os/\GQ s'.gens/\Un (frs outer) [] H H' s.heap s'.heap/\HOk P w H' s'.heap/\RelV v u/\Q v H'
def CR(CX:CXT)(outer:List Env)(P:gN)(w:ml)(H:Hp)(s:ej)(Q:VK)(E:XK)(r:Lb)(s':ej):Prop :=
 match r with
 | .ok (.ret u)=>CE outer P w H s Q u s'
 | .ok _=>False
 | .error e=>CX outer H s E e s'
structure FnOk(P:gN)(w:ml)(K:Frag)(mg:Str->Option cX)(base:Heap)(CX:CXT)(k:Nat)(f:Addr)(fd:ri)(ps:List Str)(sp:Sp):Prop where
 len:∀ vs H Q E,sp vs H Q E->vs.length=ps.length
 run:∀(A:o3) (outer:List Env) (s:ej) (H:Hp) (args:Args) (us:List cX) (vs:List V) (Q:VK) (E:XK),Room k A->Env0 P w K mg base A outer s H->Ka s fd args (ps.zip us)->Vals vs us->sp vs H Q E ->
  GG (kw P w) A (.call (.ref f) args) (CR CX outer P w H s Q E) s
def FnOk.mono{P:gN}{w:ml}{K:Frag}{mg:Str->Option cX}{a:Heap}{CX:CXT}{j k:Nat}{f:Addr}{d:ri}{ps:List Str}{sp:Sp}(F:FnOk P w K mg a CX j f d ps sp)(h:j<=k) :
  FnOk P w K mg a CX k f d ps sp:=⟨F.len,λA b s H c i e Q E g=>F.run A b s H c i e Q E (g.mono h)⟩
def Env0.make{P:gN}{w:ml}{K:Frag}{mg:Str->Option cX}{b:Heap}{A:o3}{a:List Env}{s:ej}{H:Hp}(e:Env0 P w K mg b A a s H)(C:Addr)(us:List cX)(c:List (Str×cX)) :
  Env0 P w K mg b (A.under (.builtin "type.__call__" ⟨.ref C::us,c⟩)) a s H:=⟨by first | exact e.frames | (simpa[Jf,Code.envs,Jv,pushEnvs] using e.frames),e.mod,e.bs,e.bsz,e.funs,e.frf,e.hok,e.bare⟩
section
variable {X:Cx}{pins:List (Addr×Obj)}{σ:St}{H:Hp}{s s':ej}
def Inv.env0(I:Inv X pins σ H s):Env0 X.prog X.w X.K X.mg X.base X.A X.stack s H :=
 ⟨I.ok.frames,I.ok.mod,I.bs,mu I.ok.bsz I.sz,I.stack,I.stkFree,I.hok,I.bare⟩
def Inv.after{Q:VK}{u:cX}(I:Inv X pins σ H s)(h:CE X.stack X.prog X.w H s Q u s'):EP X pins σ Q u s':=by
 obtain⟨v,j,k,a,i,e,r,q⟩:=h;obtain⟨f,g,d,t,c⟩:=s';obtain rfl:c=s.os:=k;exact⟨v,j,I.call (h':=f) (g':=g) (d':=d) (t':=t) (ch:=[]) i e a (λb z=>absurd z (by simp)),r,q⟩
end
def uT(sp:Sp)(dvs:List V)(E:XK)(t:TA):TE:=λσ H Q=>t σ H λvs H1=>sp (vs++dvs) H1 Q E
def BT(C:Addr)(m:Str)(sp:Sp)(dvs:List V)(E:XK)(ta:TE)(t:TA):TE:=λσ H Q=>ta σ H λx H1=>∃ a dx fs,x=.ref a/\H1 a=some (.ins C dx fs)/\fs.lookup m=none /\
 t σ H1 λvs H2=>sp (x::(vs++dvs)) H2 Q E
def Et(C:Addr)(sp:Sp)(dvs:List V)(E:XK)(t:TA):TE:=λσ H Q=>t σ H λvs H1=>∀ x dx,H1 x=none->H1 dx=none->dx≠x ->
 sp (.ref x::(vs++dvs)) (upd (upd H1 dx (.own x)) x (.ins C dx [])) (λv H2=>v=.non/\Q (.ref x) H2) E
def Binds(K:Frag)(fd:ri)(ps:List Str)(ds:List cX):Prop :=
 ∀(s:ej) (us:List cX),K.In s.heap->(us++ds).length=ps.length->Ka s fd ⟨us,[]⟩ (ps.zip (us++ds))
def Binds.all{K:Frag}{b:ri}{ps:List Str}(h:∀ us:List cX,us.length=ps.length->IG b ⟨us,[]⟩=pure (ps.zip us)):Binds K b ps []:=λs us _ a=>by
 rw[y_]at a ⊢;exact .of_eq (h us a)
def iI(CX:CXT)(X:Cx)(E:XK):Prop:=∀(pins:List (Addr×Obj)) (σ:St) (H:Hp) (s:ej) (e:cX) (s':ej),Inv X pins σ H s->CX X.stack H s E e s'->X.xe e s'
section
variable {X:Cx}{CX:CXT}{k:Nat}{f C:Addr}{fd:ri}{ps:List Str}{sp:Sp}{dvs:List V}{ds:List cX}{E:XK}{x m:Str}{p pos apos:Pos}{e o:Expr}{es:List Expr}{ta:TE}{t:TA}
def qr{a:List (Addr×Obj)}{c:St}{H:Hp}{s:ej}{Q:VK}{us:List cX}{vs:List V}(F:FnOk X.prog X.w X.K X.mg X.base CX k f fd ps sp)(g:Room k X.A)(o:Binds X.K fd ps ds)(l:Vals dvs ds)(m:iI CX X E)
  (I:Inv X a c H s) (r:Vals vs us) (h:sp (vs++dvs) H Q E):gV (kw X.prog X.w) X.A (call (.ref f) us) (EP X a c Q) X.xe s:=by
 have d:Vals (vs++dvs) (us++ds):=r.append l;have j:(us++ds).length=ps.length:=by rw[<- d.length];exact F.len _ _ _ _ h
 refine Iw (Gv (F.run X.A X.stack s H ⟨us,[]⟩ (us++ds) (vs++dvs) Q E g I.env0 (o s us I.kIn j) d h) λr i b=>?_);cases r with
 | error e=>exact m a c H s e i I b
 | ok fl =>
  cases fl with
  | ret u=>exact I.after b
  | next=>exact mM b
  | brk=>exact mM b
  | cont=>exact mM b
def mf(F:FnOk X.prog X.w X.K X.mg X.base CX k f fd ps sp)(i:Room k X.A)(j:Gl X x)(g:X.mg x=some (.ref f))(l:HR X.K (.ref f)=true)(y:Binds X.K fd ps ds)(o:Vals dvs ds)(w:iI CX X E)
  (m:PA X (e::es) t) (b:(x == ("__debug__" : Str))=false:=by decide) (A:fI (e::es) X.env=(false,eval e X.env)::fI es X.env:=by rfl) (c:(tp pos (fI es X.env)).any (·.1)=false:=by rfl) :
  PE X (.Call (.Name x p) (e::es) [] pos) (uT sp dvs E t):=by
 intro a s v H Q I h;refine oI (jU I j g ?_ b);refine Hu (h₀:=X.base) I.ok.mod.kin l (thn (m pos a s v H _ I h) λG C ⟨B,D,d,r,q⟩=>⟨d.kIn,?_⟩) A c;exact qr F i y o w d r q
def cD{pl:Sem Bool}(D:PE X o ta)(c:Cls X.K C)(i:Meth X.K C m f)(F:FnOk X.prog X.w X.K X.mg X.base CX k f fd ps sp)(G:Room k X.A)(P:Binds X.K fd ps ds)(B:Vals dvs ds)(O:iI CX X E)(M:PA X (e::es) t)
  (d:fI (e::es) X.env=(false,eval e X.env)::fI es X.env:=by rfl) (g:(tp pos (fI es X.env)).any (·.1)=false:=by rfl)
  (J:eval (.Call (.Attribute o m apos) (e::es) [] pos) X.env=(do
   let ov <- eval o X.env
   Ju apos.atName
   let (f,first) <- Hr [ov] (JY ov m pl)
   callWith pos f first (tp pos (fI (e::es) X.env)) (GJ pos (E3 [] X.env))):=by rfl) :
  PE X (.Call (.Attribute o m apos) (e::es) [] pos) (BT C m sp dvs E ta t):=by
 intro b s j H Q I h;refine methodCall_KW (pl:=pl) (thn (D b s j H _ I h) λu y ⟨x,A,p,w,a,T,R,N,K,l,q⟩=>?_) J;subst N;obtain rfl:u=mr a:=w;refine nE p K c i l ?_;refine Hu (first:=[.ref a]) (h₀:=X.base) I.ok.mod.kin i.kp (thn (M pos b y j A _ p q) λus S ⟨vs,W,v,r,L⟩=>⟨v.kIn,?_⟩) d g;exact qr (us:=.ref a::us) (vs:=.ref a::vs) F G P B O v (.cons rfl r) L
def bM{pl:Sem Bool}(B:PE X o ta)(c:Cls X.K C)(e:Meth X.K C m f)(F:FnOk X.prog X.w X.K X.mg X.base CX k f fd ps sp)(g:Room k X.A)(A:Binds X.K fd ps ds)(i:Vals dvs ds)(y:iI CX X E)
  (j:eval (.Call (.Attribute o m apos) [] [] pos) X.env=(do
   let ov <- eval o X.env
   Ju apos.atName
   let (f,first) <- Hr [ov] (JY ov m pl)
   callWith pos f first (tp pos (fI [] X.env)) (GJ pos (E3 [] X.env))):=by rfl) :
  PE X (.Call (.Attribute o m apos) [] [] pos) (BT C m sp dvs E ta Ei):=by
 intro b s w H Q I h;refine methodCall_KW (pl:=pl) (thn (B b s w H _ I h) λu G ⟨x,J,d,v,a,D,K,r,p,l,q⟩=>?_) j;subst r;obtain rfl:u=mr a:=v;refine nE d p c e l ?_;exact PySem.W.callWith_K0 (first:=[.ref a]) d.kIn e.kp (qr (us:=[.ref a]) (vs:=[.ref a]) F g A i y d (.cons rfl .nil) q)
structure Mk(K:Frag)(C f:Addr):Prop where
 makes:makesIn K C=true
 init:Ht K (.ref C) "__init__" = some (some (.ref f))
 fn:isFn K (.ref f)=true
 kp:HR K (.ref C)=true
def yf{a:List (Addr×Obj)}{d:St}{H:Hp}{s:ej}{Q:VK}{us:List cX}{vs:List V}(M:Mk X.K C f)(F:FnOk X.prog X.w X.K X.mg X.base CX k f fd ps sp)(m:Room (k+1) X.A)(D:Binds X.K fd ps ds)(A:Vals dvs ds)
  (B:iI CX X E) (I:Inv X a d H s) (r:Vals vs us)
  (h:∀ x dx,H x=none->H dx=none->dx≠x->sp (.ref x::(vs++dvs)) (upd (upd H dx (.own x)) x (.ins C dx [])) (λv H2=>v=.non/\Q (.ref x) H2) E) :
  gV (kw X.prog X.w) X.A (call (.ref C) us) (EP X a d Q) X.xe s:=by
 have i:=h (s.heap.objs.size+1) s.heap.objs.size (I.hok.fresh (GT _)) (I.hok.fresh (d_ _)) (nl (G3 _));have c:=Inv.made (C:=C) I;have g:Vals (V.ref (s.heap.objs.size+1)::(vs++dvs)) (mr (s.heap.objs.size+1)::(us++ds)):=.cons rfl (r.append A)
 have w:(mr (s.heap.objs.size+1)::us++ds).length=ps.length:=by
  have e:=g.length;rw[F.len _ _ _ _ i]at e;exact e.symm
 refine Iw (w9 (f:=f) I.kIn M.makes M.init (beq_iff_eq.mp M.fn) (Gv (F.run _ X.stack _ _ ⟨mr (s.heap.objs.size+1)::us,[]⟩ (mr (s.heap.objs.size+1)::(us++ds)) _ _ E (m.make C us [])
  (c.env0.make C us []) (D _ (mr (s.heap.objs.size+1)::us) c.kIn w) g i) λr o b=>?_))
 cases r with
 | error e=>exact B a d _ _ e o c b
 | ok fl =>
  cases fl with
  | ret u =>
   obtain⟨v,y,j,G,p,l⟩:=c.after b;subst p;exact⟨G,⟨V.ref (s.heap.objs.size+1),y,j,rfl,l⟩⟩
  | next=>exact mM b
  | brk=>exact mM b
  | cont=>exact mM b
def cI(M:Mk X.K C f)(F:FnOk X.prog X.w X.K X.mg X.base CX k f fd ps sp)(i:Room (k+1) X.A)(j:Gl X x)(g:X.mg x=some (.ref C))(w:Binds X.K fd ps ds)(m:Vals dvs ds)(v:iI CX X E)
  (l:PA X (e::es) t) (b:(x == ("__debug__" : Str))=false:=by decide) (y:fI (e::es) X.env=(false,eval e X.env)::fI es X.env:=by rfl) (c:(tp pos (fI es X.env)).any (·.1)=false:=by rfl) :
  PE X (.Call (.Name x p) (e::es) [] pos) (Et C sp dvs E t):=by
 intro a s o H Q I h;refine oI (jU I j g ?_ b);refine Hu (h₀:=X.base) I.ok.mod.kin M.kp (thn (l pos a s o H _ I h) λG B ⟨A,D,d,r,q⟩=>⟨d.kIn,?_⟩) y c;exact yf M F i w m v d r q
end
structure FnScope(N P:List Str)(sc:E2):Prop where
 kind:sc.kind=.function
 co:sc.isCoroutine=false
 gen:sc.isGenerator=false
 nd:N.Nodup
 pre:N.take P.length=P
 par:∀ x ∈ P,sc.names.lookup x = some .local\/sc.names.lookup x = some .cell
 nofree:∀ y∈sc.names,y.2≠.free
theorem pi{a:Str->Option A_}{x:Str}:∀{binds:List (Str×cX)}{m:Str->Option cX},(∀ v,(x,v) ∉ binds)->JZ a binds m x=m x
 | [],_,_=>rfl
 | (n,v)::r,m,h=>by
  unfold JZ;rw[pi λw b=>h w (fy _ b)]
  split
  .have:x≠n:=by rintro rfl;exact h v ft
   simp[this]
  .rfl
theorem o7{a:Str->Option A_}{x:Str}:∀{binds:List (Str×cX)}{m:Str->Option cX},(∀ v,(x,v) ∉ binds)->J1 a binds m x=m x
 | [],_,_=>rfl
 | (n,v)::r,m,h=>by
  unfold J1;rw[o7 λw b=>h w (fy _ b)]
  split
  .rfl
  .have:x≠n:=by rintro rfl;exact h v ft
   simp[this]
theorem pL{a:Str->Option A_}{x:Str}{v:cX}:∀{P:List Str}{vs:List cX}{i:Nat}{m:Str->Option cX},P.Nodup->P[i]? = some x->vs[i]? = some v->a x = some .local ->
  JZ a (P.zip vs) m x=some v
 | [],_,_,_,_,h,_,_=>by simp at h
 | _::_,[],_,_,_,_,h,_=>by simp at h
 | p::P,w::vs,0,m,nd,h1,h2,hk=>by
  simp at h1 h2;subst h1;subst h2;show JZ a ((p,w)::P.zip vs) m p=_;unfold JZ;rw[pi λv b=>(t_.mp nd).1 (GB b).1,if_pos hk];simp
 | p::P,w::vs,i+1,m,nd,h1,h2,hk=>by
  show JZ a ((p,w)::P.zip vs) m x=_;unfold JZ;exact pL (i:=i) (t_.mp nd).2 (by simpa using h1) (by simpa using h2) hk
theorem pq{a:Str->Option A_}{x:Str}{v:cX}:∀{P:List Str}{vs:List cX}{i:Nat}{m:Str->Option cX},P.Nodup->P[i]? = some x->vs[i]? = some v->a x≠some .local ->
  J1 a (P.zip vs) m x=some v
 | [],_,_,_,_,h,_,_=>by simp at h
 | _::_,[],_,_,_,_,h,_=>by simp at h
 | p::P,w::vs,0,m,nd,h1,h2,hk=>by
  simp at h1 h2;subst h1;subst h2;show J1 a ((p,w)::P.zip vs) m p=_;unfold J1;rw[o7 λv b=>(t_.mp nd).1 (GB b).1,if_neg hk];simp
 | p::P,w::vs,i+1,m,nd,h1,h2,hk=>by
  show J1 a ((p,w)::P.zip vs) m x=_;unfold J1;exact pq (i:=i) (t_.mp nd).2 (by simpa using h1) (by simpa using h2) hk
def start(N:List Str)(vs:List V):St:=vs.map some++l4 (N.length - vs.length) none
def cL(CX:CXT)(P:gN)(w:ml)(K:Frag)(mg:Str->Option cX)(base:Heap)(N:List Str)(qual:Str)(scope:E2)(f:Addr)(cd:cX)(A:o3)(outer:List Env)(s:ej)(H:Hp)(E:XK):Cx where
 prog:=P
 w:=w
 K:=K
 mg:=mg
 base:=base
 A:=A.deeper (envOfC qual scope s.heap.objs.size f cd)
 N:=N
 s₀:=s
 H₀:=H
 env:=envOfC qual scope s.heap.objs.size f cd
 outer:=outer
 stack:=envOfC qual scope s.heap.objs.size f cd::outer
 ex:=[]
 calm:=true
 fn:=λ_=>true
 pn:=[]
 xe:=λe s'=>gV (kw P w) (A.deeper (envOfC qual scope s.heap.objs.size f cd)) (leaving (envOfC qual scope s.heap.objs.size f cd) e) (λ_ s''=>CX outer H s E e s'') (λe' s''=>CX outer H s E e' s'') s'
def sU{a:E2}{n:Nat}{x:Str}(h:a.names.lookup x=some .cell):∃ c,(C_ n a.names []).lookup x=some c:=by
 have q:=HU a.names n [] (.inl h);exact IT.mp q
def ke{CX:CXT}{P:gN}{w:ml}{K:Frag}{mg:Str->Option cX}{l:Heap}{N ps:List Str}{g:Str}{scope:E2}{f:Addr}{G:cX}{A:o3}{d:List Env}{s L:ej}{H:Hp}{E:XK}{us:List cX}{vs:List V}
  (S:FnScope N ps scope) (O:A.handled=none) (m:Env0 P w K mg l A d s H) (W:vs.length=ps.length) (r:Vals vs us)
  (x:InCallC s s.heap.objs.size (JZ (envOfC g scope s.heap.objs.size f G).kindOf (ps.zip us) λ_=>none) (C_ (s.heap.objs.size+1) scope.names []) (J1 (envOfC g scope s.heap.objs.size f G).kindOf (ps.zip us) λ_=>none) L) :
  Inv (cL CX P w K mg l N g scope f G A d s H E) [] (start N vs) H L:=by
 have R:ps.length<=N.length:=by have:=congrArg Hm S.pre;rw[ki]at this;lia
 obtain⟨D,T,rfl,I⟩:=x.done;have o:∀ b:Addr,b ∉ (cL CX P w K mg l N g scope f G A d s H E).ex:=λb z=>absurd (show b∈([]:List Addr) from z) (by simp)
 refine⟨⟨m.mod,S.kind,rfl,rfl,d_ _,λy z c D j=>?_,λy hy=>?_,λy c _ h=>?_,λ_=>O,Jw m.frames,.inr ⟨rfl,rfl⟩,λb z=>absurd z (o b),m.bs,m.bsz,λb _ _=>o b,λb z=>absurd z (o b),m.funs,m.frf⟩,
  rfl,m.bare,Un.kept I,⟨_,x.toInCall.ns,λi y v D j X=>?_⟩,λy c h=>⟨_,x.cell y c h⟩,m.hok.fresh (d_ _),λy c h=>?_,λp B=>absurd (show p∈([]:List (Addr×Obj)) from B) (by simp),m.hok.kept I,?_⟩
 .exact name_of_addr x.apart (F5 D) (F5 j)
 .have hy:scope.names.lookup y=some .cell\/scope.names.lookup y=some .free:=hy
  rcases hy with hy | hy
  .exact sU hy
  .exact absurd rfl (S.nofree _ (F5 hy))
 .exact Gj (x.above y c (F5 h))
 .have F:i<vs.length:=by
   unfold start at j
   by_cases F:i<vs.length
   .exact F
   .rw[rn (by simpa using F)]at j
    rw[GY]at j
    split at j <;> cases j
  have Q:vs[i]? = some v:=by
   unfold start at j;rw[oN (by simpa using F),fb]at j;cases e:vs[i]? with
   | none=>rw[e]at j;cases j
   | some a=>rw[e]at j;cases j;rfl
  obtain⟨u,J,M⟩:=r.get Q
  have B:ps[i]? = some y:=by
   rw[<- S.pre,Jg (by lia)];exact D
  have C:ps.Nodup:=by rw[<- S.pre];exact S.nd.sublist (Kb _ _)
  refine⟨u,M,?_⟩
  rcases S.par y (eH B) with k | k
  .exact .inl ⟨k,pL C B J k⟩
  .obtain⟨c,e⟩:=sU (n:=s.heap.objs.size+1) k
   refine .inr ⟨.inl k,c,e,?_⟩;have q:=x.cell y c e;rw[pq C B J (by show scope.names.lookup y≠_;rw[k];decide)]at q;exact q
 .exact m.hok.fresh (Gj (x.above y c (F5 h)))
 .unfold start
  show _=N.length;rw[ir,a_,qi];lia
def Ec{CX:CXT}{P:gN}{w:ml}{K:Frag}{mg:Str->Option cX}{d:Heap}{k:Nat}{f:Addr}{name a:Str}{g:LJ}{body:List Stmt}{scope:E2}{dV W D X c T oc:cX}{Y od:Option Addr}
  {G:Array (Option cX)}{N ps:List Str}{sp:Sp}(lk:K.lookup f=some ⟨oc,od,.func (fnOf name a g body scope dV W D X Y c T),G⟩) (R:Lc K c a=true) (S:FnScope N ps scope)
  (B:∀ vs H Q E,sp vs H Q E->vs.length=ps.length)
  (j:∀(A:o3) (outer:List Env) (s:ej) (H:Hp) (vs:List V) (Q:VK) (E:XK),Room k (A.deeper (envOfC a scope s.heap.objs.size f c))->sp vs H Q E ->
   ∃ t,PSs (cL CX P w K mg d N a scope f c A outer s H E) body t/\t { nx:=λ_ H'=>Q .non H',rt:=Q } (start N vs) H) :
  FnOk P w K mg d CX (k+1) f (fnOf name a g body scope dV W D X Y c T) ps sp:=by
 refine⟨B,λA outer s H ab us vs Q E M p hb r m=>?_⟩;have hl:=B _ _ _ _ m;have KX:K.In s.heap:=p.mod.kin.keeps λb o e=>(p.bs b o e).1
 have L:s.heap.NoLimit:=p.mod.nolimit.keeps λb o e=>(p.bs b o e).1
 have i:∀ y ∈ ps.zip us,scope.names.lookup y.1 = some .local\/(scope.names.lookup y.1 = some .cell/\((C_ (s.heap.objs.size + 1) scope.names []).lookup y.1).isSome = true):=λ⟨n,v⟩ hy=>by
  rcases S.par n (GB hy).1 with q | q
  .exact .inl q
  .exact .inr ⟨q,HU _ _ _ (.inl q)⟩
 refine HK M.depth (KX _ _ lk) rfl S.co S.gen rfl (Ld KX R) (hb _ _ _ _ ?_);refine GW S.kind i λad he Z x=>?_
 subst he;refine⟨L.keeps x.toInCall.keep,Kc ?_⟩;obtain⟨t,ht,hq⟩:=j A outer s H vs Q E (M.deeper _) m;have I:Inv (cL CX P w K mg d N a scope f c A outer s H E) [] (start N vs) H Z:=ke S M.hd p hl r x;refine tW (ht [] Z (start N vs) H _ I hq) (λfl O l=>?_) λe O l=>l
 have C:∀{h:St}{H':Hp}{v:V}{u:cX},Inv (cL CX P w K mg d N a scope f c A outer s H E) [] h H' O->RelV v u->Q v H'->CE outer P w H s Q u O :=
  λ{h H' v u} J F q=>⟨v,H',J.os,J.bare,J.base,J.hok,F,q⟩
 cases fl with
 | ret u =>
  obtain⟨v,h,H',J,F,q⟩:=l;exact C J F q
 | next =>
  obtain⟨h,H',J,q⟩:=l;exact C (v:=V.non) (u:=F_) J rfl q
 | brk =>
  obtain⟨_,_,_,q⟩:=l;exact mM q
 | cont =>
  obtain⟨_,_,_,q⟩:=l;exact mM q
section
variable {X:Cx}{x:Str}{p pos:Pos}{e:Expr}{es:List Expr}{t:TA}{id T:String}{r:List V->Hp->VK->Prop}
def tCB(r:List V->Hp->VK->Prop)(t:TA):TE:=λσ H Q=>t σ H λvs H1=>r vs H1 Q
def ak(m:CallR X (.builtin id) r)(i:Gl X x)(g:X.mg x=none)(j:nv x=some (.builtin id))(A:PA X (e::es) t)(k:x ≠ "__name__" := by decide)(b:(x == ("__debug__" : Str))=false:=by decide)
  (C:fI (e::es) X.env=(false,eval e X.env)::fI es X.env:=by rfl) (c:(tp pos (fI es X.env)).any (·.1)=false:=by rfl):PE X (.Call (.Name x p) (e::es) [] pos) (tCB r t):=by
 intro a s d H Q I h;refine oI (ib I i g j ?_ k b);exact PyProof.Rows.callWith_builtin1 (thn (A pos a s d H _ I h) λw l ⟨f,v,B,y,o⟩=>m a l d v f w Q B y o) C c
def bi(m:CallR X (.type T) r)(i:Gl X x)(g:X.mg x=none)(j:nv x=some (.type T))(A:PA X (e::es) t)(k:x ≠ "__name__" := by decide)(b:(x == ("__debug__" : Str))=false:=by decide)
  (C:fI (e::es) X.env=(false,eval e X.env)::fI es X.env:=by rfl) (c:(tp pos (fI es X.env)).any (·.1)=false:=by rfl):PE X (.Call (.Name x p) (e::es) [] pos) (tCB r t):=by
 intro a s d H Q I h;refine oI (ib I i g j ?_ k b);exact r_ (thn (A pos a s d H _ I h) λw l ⟨f,v,B,y,o⟩=>m a l d v f w Q B y o) C c
end
end L2
namespace HT
open PySem PyProof.Rows
section
variable {prog:gN}{w:ml}{A:o3}{E:cX->ej->Prop}{s:ej}
def sIx(n d:Nat):Option Int->Nat
 | none=>d
 | some v=>if v<0 then (v+(n:Int)).toNat else min v.toNat n
def sIx_none(n d:Nat):sIx n d none=d:=rfl
def sIx_nat(n d k:Nat):sIx n d (some (k:Int))=min k n:=by
 show(if (k:Int)<0 then ((k:Int)+(n:Int)).toNat else min (k:Int).toNat n)=min k n;rw[if_neg (by lia),GU]
def sIx_le(n d:Nat)(a:d<=n)(o:Option Int):sIx n d o<=n:=by
 cases o with
 | none=>exact a
 | some v =>
  show(if v<0 then (v+(n:Int)).toNat else min v.toNat n)<=n
  by_cases hv:v<0
  .rw[if_pos hv];lia
  .rw[if_neg hv];exact G4 _ _
def uZ(v:Int)(n d:Nat):(if v<0 then max (v+(n:Int)) 0 else min v (n:Int))=((sIx n d (some v):Nat):Int):=by
 show(if v<0 then max (v+(n:Int)) 0 else min v (n:Int))=(((if v<0 then (v+(n:Int)).toNat else min v.toNat n):Nat):Int)
 by_cases hv:v<0
 .simp only[if_pos hv];lia
 .simp only[if_neg hv];lia
def tT(lo a:Option Int)(n:Nat):Gw lo a 1 (n:Int)=(((sIx n 0 lo:Nat):Int),((sIx n n a:Nat):Int)):=by
 have b:¬((1:Int)<0):=by lia
 unfold Gw;simp only[b,if_false];refine Prod.ext ?_ ?_
 .cases lo with
  | none=>rfl
  | some v=>exact uZ v n 0
 .cases a with
  | none=>rfl
  | some v=>exact uZ v n n
def uD(i j:Nat):E1 (i:Int) (j:Int) 1=j - i:=by
 unfold E1;have a:(1:Int) > 0:=by lia
 simp only[a,if_true,Int.ediv_one]
 split <;> lia
def nG{v:cX}{o:Option Int}{Q:Option Int->ej->Prop}(p:IX v o)(h:Q o s):gV (kw prog w) A (Builtin.Slice.slicePartIndex v) Q E s:=by
 cases p with
 | none=>exact LR h
 | int i t=>exact slicePart_int h
def kr{f:Addr}{e d:cX}{lo c:Option Int}{n:Nat}{Q:Int×Int×Nat->ej->Prop}(j:s.heap.IsSliceOf f e d .none)(pl:IX e lo)(i:IX d c)
  (h:Q (((sIx n 0 lo:Nat):Int),1,sIx n n c - sIx n 0 lo) s):gV (kw prog w) A (HL (.ref f) (pure (n:Int))) Q E s:=by
 obtain⟨k,a,g,b⟩:=id j;unfold HL Builtin.Slice.sliceFields;refine cn (cn (F7 a b (x:=e) rfl (cn (F7 a b (x:=d) rfl (cn (F7 a b (x:=.none) rfl (eB ?_)))))));refine cn (LR ?_);show gV _ _ (if ((1:Int) == 0)=true then _ else _) _ _ s;rw[if_neg (by decide)];refine cn (nG pl (cn (nG i (cn (eB ?_)))));show gV _ _ (match Gw lo c 1 (n:Int) with | (lo,c)=>pure (lo,(1:Int),E1 lo c 1)) _ _ s;rw[tT lo c n];show gV _ _ (pure (((sIx n 0 lo:Nat):Int),(1:Int),E1 ((sIx n 0 lo:Nat):Int) ((sIx n n c:Nat):Int) 1)) _ _ s;rw[uD];exact eB h
def yG(xs:Array cX)(i k:Nat):((g0 k).filterMap λ(m:Nat)=>xs[((i:Int)+(m:Int)*1).toNat]?).toArray=((xs.toList.drop i).take k).toArray:=by
 have e:(λ(m:Nat)=>xs[((i:Int)+(m:Int)*1).toNat]?)=λm=>xs[i+m]?:=by
  funext m
  have:((i:Int)+(m:Int)*1).toNat=i+m:=by lia
  rw[this]
 rw[e];have:=LS xs i k;rw[List.filterMap_map]at this;have a:((λx=>xs[x]?) ∘ λx=>i+x)=λm=>xs[i+m]?:=rfl
 rw[a]at this;rw[this]
def getItem_tuple_cut{t i:Addr}{items:Array cX}{l j:cX}{lo b:Option Int}{Q:cX->ej->Prop}(c:IsTup s.heap t items)(k:s.heap.IsSliceOf i l j .none)(pl:IX l lo)(r:IX j b)
  (o:¬(sIx items.size 0 lo=0/\sIx items.size items.size b=items.size))
  (h:Q (.ref s.heap.objs.size) { s with heap:=s.heap.push { cls:=.type "tuple",data:=.seq ((items.toList.drop (sIx items.size 0 lo)).take (sIx items.size items.size b - sIx items.size 0 lo)).toArray } })
  (hsz:items.size<=sizeLine):gV (kw prog w) A (Hs (.ref t) (.ref i)) Q E s:=by
 have a:sizeOk (.seq ((items.toList.drop (sIx items.size 0 lo)).take (sIx items.size items.size b - sIx items.size 0 lo)).toArray):=by
  show((items.toList.drop (sIx items.size 0 lo)).take (sIx items.size items.size b - sIx items.size 0 lo)).toArray.size<=sizeLine;rw[l5,ki,Jh,CZ];lia
 have x:sIx items.size items.size b<=items.size:=sIx_le _ _ (d_ _) b;obtain⟨v,e,f,p⟩:=id k;have g:s.TypeIs (.ref i) "slice" := ⟨v,e,f⟩;unfold Hs
 try with_reducible refine xi ?_
 first | refine cn (eB ?_) | skip
 refine cn (wpAny_sequenceKey c.typeIs (by decide) ?_)
 refine cn (x_ (name:=s_ "__getitem__") c.typeIs Hf
  (D_ Hf c.typeIs entry_tuple_getitem ?_ (args_tuple_getitem _ _)))
 show gV _ _ (Builtin.Tuple.tupleItemsOf (.ref t) >>= _) _ _ s;refine cn (tupleItemsOf_ c ?_);refine cn (Kd g ?_);rw[if_pos (by decide)];refine cn (kr k pl r ?_)
 have d:¬((((sIx items.size 0 lo:Nat):Int) == 0 && (1:Int) == 1 && (sIx items.size items.size b - sIx items.size 0 lo) == items.size)=true):=by
  intro q;rw[p_,p_]at q;have y:((sIx items.size 0 lo:Nat):Int)=0:=eq_of_beq q.1.1;have B:sIx items.size items.size b - sIx items.size 0 lo=items.size:=eq_of_beq q.2;exact o ⟨by lia,by lia⟩
 show gV _ _ (if (((sIx items.size 0 lo:Nat):Int) == 0 && (1:Int) == 1 && (sIx items.size items.size b - sIx items.size 0 lo) == items.size)=true then _ else _) _ _ s;rw[if_neg d,yG]
 first
  | exact cn (m:=Ff _) (uS (eB ⟨_,rfl,eB h⟩) a)
  | exact cn (m:=Ff _) (uS (cn (eB (eB ⟨_,rfl,eB h⟩))) a)
  | exact cn (cn (m:=Ff _) (uS (eB (eB ⟨_,rfl,eB h⟩)) a))
  | exact cn (cn (m:=Ff _) (uS (eB ⟨_,rfl,eB h⟩) a))
end
end HT
namespace L2
open PySem PySem.Spec PyProof.Rows
abbrev TO:=St->Hp->(Option Int->Hp->Prop)->Prop
def PO(X:Cx)(e:Option Expr)(t:TO):Prop :=
 ∀(pins:List (Addr×Obj)) (s:ej) (σ:St) (H:Hp) (Q:Option Int->Hp->Prop),Inv X pins σ H s->t σ H Q ->
  gV (kw X.prog X.w) X.A (evalPart e X.env) (λu s'=>∃ o H',Inv X pins σ H' s'/\IX u o/\Q o H') X.xe s
def zU:TO:=λ_ H Q=>Q none H
def DT(t:TE):TO:=λσ H Q=>t σ H λx H1=>∃ i,x=.int i/\Q (some i) H1
section
variable {X:Cx}{e:Expr}{te:TE}{lo hi:Option Expr}{tl th:TO}{pos p2:Pos}
def fq:PO X none zU:=by
 intro a s b H Q I h;rw[evalPart_none];exact eB ⟨none,H,I,.none,h⟩
def fe(h:PE X e te):PO X (some e) (DT te):=by
 intro a s j H Q I b;rw[evalPart_some];refine thn (h a s j H _ I b) λu k ⟨x,d,g,f,c⟩=>?_
 obtain⟨i,rfl,q⟩:=c;obtain⟨t,rfl⟩:=f;exact⟨some i,d,g,.int i t,q⟩
def SlR(X:Cx)(r:V->Option Int->Option Int->Hp->VK->Prop):Prop :=
 ∀(pins:List (Addr×Obj)) (s:ej) (σ:St) (H:Hp) (x:V) (v vl vu:cX) (lo hi:Option Int) (sl:Addr) (Q:VK),Inv X pins σ H s->RelV x v->s.heap.IsSliceOf sl vl vu .none->IX vl lo->IX vu hi->r x lo hi H Q ->
  ∃ T id,Jy (.type T) "__getitem__" = pure (some (.builtin id))/\s.TypeIs v T/\gV (kw X.prog X.w) X.A (Hs v (.ref sl)) (EP X pins σ Q) X.xe s
def SlR.or{r b:V->Option Int->Option Int->Hp->VK->Prop}(h:SlR X r)(h':SlR X b):SlR X (λx lo hi H Q=>r x lo hi H Q\/b x lo hi H Q):=by
 intro a s g H x v k d lo hi j Q I f i c e q
 rcases q with q | q
 .exact h a s g H x v k d lo hi j Q I f i c e q
 .exact h' a s g H x v k d lo hi j Q I f i c e q
def tSl(r:V->Option Int->Option Int->Hp->VK->Prop)(te:TE)(tl th:TO):TE:=λσ H Q=>te σ H λx H1=>tl σ H1 λl H2=>th σ H2 λu H3=>r x l u H3 Q
def dL{r:V->Option Int->Option Int->Hp->VK->Prop}(E:SlR X r)(B:PE X e te)(y:PO X lo tl)(g:PO X hi th):PE X (.Subscript e (.Slice lo hi none p2) pos) (tSl r te tl th):=by
 intro a s c H Q I h;refine Le (thn (B a s c H _ I h) λv p ⟨x,w,A,m,k⟩=>?_);refine wpAny_Slice (thn (y a p c w _ A k) λd j ⟨l,J,C,o,G⟩=>thn (g a j c J _ C G) λvu s3 ⟨u,H3,I3,pu,q3⟩=>?_);rw[evalPart_none];refine eB ?_;have f:Inv X a c H3 { s3 with heap:=s3.heap.push { cls:=.type "slice",data:=.fields #[d,vu,.none] } }:=I3.kept (t':=s3.toks) λb L q=>e_ _ q
 obtain⟨T,K,i,F,D⟩:=E a { s3 with heap:=s3.heap.push { cls:=.type "slice",data:=.fields #[d,vu,.none] } } c H3 x v d vu l u s3.heap.objs.size Q f m (Heap.IsSliceOf.new ..) o pu q3;show gV (kw X.prog X.w) X.A (JN e (.Slice lo hi none p2) v (.ref s3.heap.objs.size)) (EP X a c Q) X.xe { s3 with heap:=s3.heap.push { cls:=.type "slice",data:=.fields #[d,vu,.none] } };exact tail_any (ops:=[.ref s3.heap.objs.size,v]) F i D (by with_unfolding_all rfl)
def cQ(xs:List V)(lo hi:Option Int):List V:=(xs.drop (HT.sIx xs.length 0 lo)).take (HT.sIx xs.length xs.length hi - HT.sIx xs.length 0 lo)
def kP(xs:List V)(lo a:Option Int):(cQ xs lo a).length<=xs.length:=by
 unfold cQ;rw[ki,Jh];lia
def FR(K:Frag):V->Option Int->Option Int->Hp->VK->Prop:=λx lo hi H Q=>∃ a xs,x=.ref a/\SqT K H a xs /\
 ¬(HT.sIx xs.length 0 lo=0/\HT.sIx xs.length xs.length hi=xs.length)/\∀ p,H p=none->Q (.ref p) (upd H p (.tup (cQ xs lo hi)))
def sl_tup:SlR X (FR X.K):=by
 intro k s C H x v F E e g B Q I l m w y h;obtain⟨a,d,rfl,A,p,q⟩:=h;cases l;obtain⟨f,r,j,i⟩:=I.tuple A;have c:f.toArray.size=d.length:=by rw[l5];exact r.length.symm
 refine⟨"tuple",_,PyProof.Rows.slot_tuple_getitem.lookup,j.typeIs,?_⟩;refine HT.getItem_tuple_cut j m w y (by rw[c];exact p) ?_ (by rw[c];exact i);rw[c];refine⟨.ref s.heap.objs.size,_,I.laid (t':=s.toks) (o:=.tup (cQ d e g)) (λb D q=>e_ _ q) (d_ _) ?_,rfl,q _ (I.hok.fresh (d_ _))⟩;exact⟨mu (kP d e g) i,_,(r.drop (HT.sIx d.length 0 e)).take (HT.sIx d.length d.length g - HT.sIx d.length 0 e),J9 _ _⟩
end
def ixN(n:Nat)(i:Int):Option Nat:=if 0<=i then (if i<n then some i.toNat else none) else if -(n:Int)<=i then some (i+n).toNat else none
def atI{α:Type}(xs:List α)(i:Int):Option α:=(ixN xs.length i).bind λj=>xs[j]?
def vh{n:Nat}{i:Int}{j:Nat}(h:ixN n i=some j):IY i n=some j/\j<n/\-(n:Int)<=i/\i<n:=by
 unfold ixN at h
 by_cases h0:0<=i
 .rw[if_pos h0]at h
  by_cases h1:i<n
  .rw[if_pos h1]at h
   have e:i.toNat=j:=ll h;exact⟨by rw[Ji h0 h1,e],by lia,by lia,h1⟩
  .rw[if_neg h1]at h;cases h
 .rw[if_neg h0]at h
  by_cases h1:-(n:Int)<=i
  .rw[if_pos h1]at h
   have e:(i+n).toNat=j:=ll h;exact⟨by rw[Ke (by lia) h1,e],by lia,h1,by lia⟩
  .rw[if_neg h1]at h;cases h
def l6{a:Type}{xs:List a}{i:Int}{v:a}(h:atI xs i=some v):∃ j,IY i xs.length=some j/\xs[j]? = some v/\j<xs.length/\-(xs.length:Int)<=i/\i<xs.length:=by
 unfold atI at h;cases e:ixN xs.length i with
 | none=>rw[e]at h;cases h
 | some j =>
  rw[e]at h;obtain⟨c,d,b,f⟩:=vh e;exact⟨j,c,h,d,b,f⟩
def aZ{a:Type}{xs:List a}{j:Nat}{v:a}(h:xs[j]? = some v):atI xs (j:Int)=some v:=by
 have b:j<xs.length:=(b_.mp h).1
 have e:ixN xs.length (j:Int)=some j:=by
  unfold ixN;rw[if_pos (by lia),if_pos (by lia)];simp
 unfold atI;rw[e];exact h
def yU{a:Type}(xs:List a)(v:a):atI (xs++[v]) (-1)=some v:=by
 have b:(xs++[v]).length=xs.length+1:=by simp
 have e:ixN (xs++[v]).length (-1)=some xs.length:=by
  unfold ixN;rw[b,if_neg (by decide),if_pos (by lia)]
  congr 1
  lia
 unfold atI;rw[e];show(xs++[v])[xs.length]? = some v;simp
def qv(b:Expr):Prop:=∀ o i,Jj b false o i=operate [o,i] (Hs o i)
def IxR(X:Cx)(r:R2):Prop :=
 ∀(value slice:Expr) (pins:List (Addr×Obj)) (s:ej) (σ:St) (H:Hp) (x y:V) (v u:cX) (Q:VK),Inv X pins σ H s->RelV x v->RelV y u->r x y H Q ->
  Jj slice false v u=operate [v,u] (Hs v u)->gV (kw X.prog X.w) X.A (JN value slice v u) (EP X pins σ Q) X.xe s
def MtR(X:Cx)(id:String)(r:V->List V->Hp->VK->Prop):Prop :=
 ∀(pins:List (Addr×Obj)) (s:ej) (σ:St) (H:Hp) (x:V) (xs:List V) (v:cX) (us:List cX) (Q:VK),Inv X pins σ H s->RelV x v->Vals xs us->r x xs H Q ->
  gV (kw X.prog X.w) X.A (call (.builtin id) (v::us)) (EP X pins σ Q) X.xe s
section
variable {X:Cx}{a b:Expr}{ta tb:TE}{pos:Pos}
def IxR.or{r e:R2}(h:IxR X r)(h':IxR X e):IxR X (λx y H Q=>r x y H Q\/e x y H Q):=by
 intro a b c s g H x y v u Q I f d q i
 rcases q with q | q
 .exact h a b c s g H x y v u Q I f d q i
 .exact h' a b c s g H x y v u Q I f d q i
def Ci{r:R2}(f:IxR X r)(g:PE X a ta)(l:PE X b tb)(k:qv b):PE X (.Subscript a b pos) (tOp r ta tb):=by
 intro c s j H Q I h;exact Le (De g l I h λv u o x y m e i d q=>f a b c o j m x y v u Q e i d q (k _ _))
inductive rIxL(K:Frag)(x y:V)(H:Hp)(Q:VK):Prop
 | mk(p:Addr)(xs:List V)(i:Int)(v:V)(h0:x=.ref p)(h1:y=.int i)(h2:SqL K H p xs)(h3:atI xs i=some v)(h4:Q v H):rIxL K x y H Q
inductive rIxT(K:Frag)(x y:V)(H:Hp)(Q:VK):Prop
 | mk(p:Addr)(xs:List V)(i:Int)(v:V)(h0:x=.ref p)(h1:y=.int i)(h2:SqT K H p xs)(h3:atI xs i=some v)(h4:Q v H):rIxT K x y H Q
def Eg:R2:=λx y H Q=>∃ z i c,x=.str z/\y=.int i/\z.length<=sizeLine/\atI z.cps.toList i=some c/\Q (.str ⟨#[c]⟩) H
def ix_list:IxR X (rIxL X.K):=by
 intro f g a s A H x y v u Q I C B h m;obtain⟨p,P,i,z,rfl,rfl,J,F,q⟩:=h;cases C;obtain⟨t,rfl⟩:=B;obtain⟨d,r,k,M⟩:=I.list J;obtain⟨j,c,E,O,L,K⟩:=l6 F;obtain⟨w,o,l⟩:=r.get E;have D:=r.length;have N:=g7
 have b:EP X a A Q w s:=⟨z,H,I,l,q⟩
 by_cases h0:0<=i
 .have e:i.toNat=j:=by
   rw[Ji h0 K]at c;exact ll c
  exact item_listR k.isList h0 (by lia) (by rw[e];simpa using o) b m
 .have e:(i+(d.toArray.size:Int)).toNat=j:=by
   rw[Ke (by lia) L]at c;rw[l5,<- D];exact ll c
  exact Kf (x:=w) k.isList.typeIs slot_list_getitem.lookup
   (wpAny_getItem_list_neg (Q:=λr G=>r=w/\EP X a A Q r G) k.isList (by lia) (by rw[l5] <;> lia) (by lia) (by rw[e];simpa using o) ⟨rfl,b⟩) m
def ix_tup:IxR X (rIxT X.K):=by
 intro b c a s f H x y v u Q I o k h A;obtain⟨p,M,i,z,rfl,rfl,G,E,q⟩:=h;cases o;obtain⟨t,rfl⟩:=k;obtain⟨l,r,g,J⟩:=I.tuple G;obtain⟨j,m,D,L,O,N⟩:=l6 E;obtain⟨w,B,e⟩:=r.get D;have C:=r.length;have K:=g7
 have d:EP X a f Q w s:=⟨z,H,I,e,q⟩
 exact Kf (x:=w) g.typeIs slot_tuple_getitem.lookup
  (getItem_tuple (j:=j) (Q:=λr F=>r=w/\EP X a f Q r F) g (by lia) (by lia) (by rw[l5,<- C];exact m) (by simpa using B) ⟨rfl,d⟩) A
def C7:IxR X Eg:=by
 intro a b e s D H x y v u Q I g f h k;obtain⟨z,i,c,rfl,rfl,C,r,q⟩:=h;obtain⟨t,rfl⟩:=g;obtain⟨B,rfl⟩:=f;obtain⟨j,d,o,F,A,w⟩:=l6 r;have l:z.cps.toList.length=z.length:=by simp[Str.length]
 rw[l]at d A w;have E:=g7
 exact tail_any (Lg s z t) slot_str_getitem.lookup (getItem_str (c:=c) (by
  have m:decide (i < -(2 ^ 63:Int))=false:=decide_eq_false (by lia);have p:decide (i >= 2 ^ 63)=false:=decide_eq_false (by lia)
  rw[m,p,Bool.or_false]) (by rw[d];simpa using o) ⟨.str ⟨#[c]⟩,H,I.tok _,⟨_,rfl⟩,q⟩) k
def rIx(K:Frag):R2:=λx y H Q=>rIxL K x y H Q\/rIxT K x y H Q\/Eg x y H Q
def zr:IxR X (rIx X.K):=ix_list.or (ix_tup.or C7)
def ud(its:List cX)(n j:Nat)(u:cX):r0 (·.setIfInBounds j u) { cls:=.type "list",data:=.seq its.toArray n }={ cls:=.type "list",data:=.seq (its.set j u).toArray n }:=by
 simp[r0]
def Inv.lst{a:List (Addr×Obj)}{b:St}{H:Hp}{s:ej}{p:Addr}{xs:List V}(I:Inv X a b H s)(h:H p=some (.lst xs)) :
  ∃(its:List cX) (n:Nat),Vals xs its/\s.heap.get? p=some { cls:=.type "list",data:=.seq its.toArray n }/\xs.length<=sizeLine:=by
 obtain⟨z,its,n,r,e⟩:=I.hok p _ h;exact⟨its,n,r,e,z⟩
def Inv.lstUpd{a:List (Addr×Obj)}{g:St}{H:Hp}{s:ej}{p:Addr}{xs ys:List V}{its its':List cX}{n c:Nat}{f:Obj->Obj}(I:Inv X a g H s)(h:H p=some (.lst xs))
  (i:s.heap.get? p=some { cls:=.type "list",data:=.seq its.toArray n }) (d:f { cls:=.type "list",data:=.seq its.toArray n }={ cls:=.type "list",data:=.seq its'.toArray c }) (r:Vals ys its') (k:ys.length<=sizeLine) (t:Nat) :
  Inv X a g (upd H p (.lst ys)) { s with heap:=s.heap.update p f,toks:=t }:=by
 have e:(s.heap.update p f).get? p=some { cls:=.type "list",data:=.seq its'.toArray c }:=by
  rw[Gs f i (by rw[d] <;> rfl),d]
 refine I.write (x:=p) (e:=p) (by rw[h];trivial) (.inl rfl) (λb u j q=>(qk _ _ (FZ j)).trans q) ⟨_,e⟩ ?_;exact⟨k,its',c,r,e⟩
def ES:V->V->V->Hp->(Hp->Prop)->Prop:=λo i v H Q=>∃ p xs k j,o=.ref p/\i=.int k/\H p=some (.lst xs)/\ixN xs.length k=some j/\Q (upd H p (.lst (xs.set j v)))
def m6:CL X ES:=by
 intro b s B H o i v K F u Q I D y C h;obtain⟨p,E,k,j,rfl,rfl,l,A,q⟩:=h;cases D;obtain⟨t,rfl⟩:=y;obtain⟨a,n,r,e,x⟩:=I.lst l;obtain⟨c,G,m,w⟩:=vh A;have f:=r.length;have J:=g7
 have g:Inv X b B (upd H p (.lst (E.set j v))) { s with heap:=s.heap.update p (r0 (·.setIfInBounds j u)) } :=
  I.lstUpd l e (ud a n j u) (r.set C j) (by rw[KE];exact x) s.toks
 by_cases h0:0<=k
 .have d:k.toNat=j:=by
   rw[Ji h0 w]at c;exact ll c
  exact PySem.W.ki_setAt e h0 (by lia) (by rw[l5,<- f];exact w) (by rw[d];exact⟨_,g,q⟩)
 .have d:(k+(a.toArray.size:Int)).toNat=j:=by
   rw[Ke (by lia) m]at c;rw[l5,<- f];exact ll c
  exact PySem.W.ki_setBack e (by lia) (by rw[l5,<- f];exact m) (by lia) (by rw[d];exact⟨_,g,q⟩)
def qL(lo a:Option Int)(n:Nat):(GK lo a none n).1=((HT.sIx n 0 lo:Nat):Int)/\(GK lo a none n).2.1=((HT.sIx n n a:Nat):Int)/\(GK lo a none n).2.2=1:=by
 refine⟨?_,?_,rfl⟩
 .cases lo with
  | none=>simp[GK,HT.sIx]
  | some i =>
   simp only[GK,HT.sIx,J3,show(1:Int) > 0 by decide,if_true]
   by_cases h:i<0
   .simp only[h,if_true] <;> lia
   .simp only[h,if_false] <;> lia
 .cases a with
  | none=>simp[GK,HT.sIx]
  | some i =>
   simp only[GK,HT.sIx,J3,show(1:Int) > 0 by decide,if_true]
   by_cases h:i<0
   .simp only[h,if_true] <;> lia
   .simp only[h,if_false] <;> lia
def oo(its:List cX)(lo a:Option Int):slicePick its.toArray lo a none=((its.drop (HT.sIx its.length 0 lo)).take (HT.sIx its.length its.length a - HT.sIx its.length 0 lo)).toArray:=by
 obtain⟨d,c,b⟩:=qL lo a its.toArray.size;unfold slicePick;rw[d,c,b]
 simp only[LU,LS,l5] <;> rfl
def FN(K:Frag):V->Option Int->Option Int->Hp->VK->Prop:=λx lo hi H Q=>∃ a xs,x=.ref a/\SqL K H a xs/\∀ p,H p=none->Q (.ref p) (upd H p (.lst (cQ xs lo hi)))
def sl_list:SlR X (FN X.K):=by
 intro g s D H x v B C e f E Q I p w j m h;obtain⟨a,c,rfl,l,q⟩:=h;cases p;obtain⟨k,r,i,y⟩:=I.list l;have d:=r.length;refine⟨"list",_,slot_list_getitem.lookup,i.isList.typeIs,?_⟩;refine wpAny_getItem_list_slice i.isList w j m .none (by simp) ?_ (by rw[l5] <;> lia);rw[oo,<- d];refine⟨.ref s.heap.objs.size,_,I.laid (t':=s.toks) (o:=.lst (cQ c e f)) (λb A q=>e_ _ q) (d_ _) ?_,rfl,q _ (I.hok.fresh (d_ _))⟩;exact⟨mu (kP c e f) y,_,0,(r.drop (HT.sIx c.length 0 e)).take (HT.sIx c.length c.length f - HT.sIx c.length 0 e),h_ _ rfl⟩
def iA:V->Bool
 | .non=>true
 | .bl _=>true
 | .int _=>true
 | .str _=>true
 | _=>false
def eqV:V->V->Bool
 | .non,.non=>true
 | .bl a,.bl b=>a == b
 | .bl a,.int b=>(if a then 1 else 0) == b
 | .int a,.bl b=>a == (if b then 1 else 0)
 | .int a,.int b=>a == b
 | .str a,.str b=>a == b
 | _,_=>false
def CB{A:o3}{s:ej}{y x:V}{u v:cX}(e:RelV y u)(c:RelV x v)(g:iA y=true)(f:iA x=true):LK A s u v (eqV y x):=by
 cases y with
 | non =>
  cases e;cases x with
  | non=>cases c;exact SeqAt.EqAt.same _
  | bl b=>cases c;exact SeqAt.EqAt.none_bool b
  | int b=>obtain⟨t,rfl⟩:=c;exact SeqAt.EqAt.none_int b t
  | str b=>obtain⟨t,rfl⟩:=c;exact SeqAt.EqAt.none_str b t
  | _=>exact absurd (show false=true from f) fx
 | bl a =>
  cases e;cases x with
  | non=>cases c;exact SeqAt.EqAt.bool_none a
  | bl b=>cases c;exact SeqAt.EqAt.bool_bool a b
  | int b=>obtain⟨t,rfl⟩:=c;exact SeqAt.EqAt.bool_int a b t
  | str b=>obtain⟨t,rfl⟩:=c;exact SeqAt.EqAt.bool_str a b t
  | _=>exact absurd (show false=true from f) fx
 | int a =>
  obtain⟨d,rfl⟩:=e;cases x with
  | non=>cases c;exact SeqAt.EqAt.int_none a d
  | bl b=>cases c;exact SeqAt.EqAt.int_bool a d b
  | int b=>obtain⟨t,rfl⟩:=c;exact SeqAt.EqAt.int_int a d b t
  | str b=>obtain⟨t,rfl⟩:=c;exact Jd a d b t
  | _=>exact absurd (show false=true from f) fx
 | str a =>
  obtain⟨d,rfl⟩:=e;cases x with
  | non=>cases c;exact SeqAt.EqAt.str_none a d
  | bl b=>cases c;exact SeqAt.EqAt.str_bool a d b
  | int b=>obtain⟨t,rfl⟩:=c;exact Je a d b t
  | str b=>obtain⟨t,rfl⟩:=c;exact SeqAt.EqAt.str_str a d b t
  | _=>exact absurd (show false=true from f) fx
 | _=>exact absurd (show false=true from g) fx
def eqU(x:V)(u:cX):Bool:=match u with
 | .none=>eqV .non x
 | .bool b=>eqV (.bl b) x
 | .int i _=>eqV (.int i) x
 | .str z _=>eqV (.str z) x
 | _=>false
def xk{x y:V}{u:cX}(r:RelV y u)(f:iA y=true):eqU x u=eqV y x:=by
 cases y with
 | non=>cases r;rfl
 | bl b=>cases r;rfl
 | int i=>obtain⟨t,rfl⟩:=r;rfl
 | str z=>obtain⟨t,rfl⟩:=r;rfl
 | _=>exact absurd (show false=true from f) fx
theorem jw{x:V}:∀{xs:List V}{us:List cX},Vals xs us->xs.all iA=true->us.any (eqU x)=xs.any λy=>eqV y x
 | _,_,.nil,_=>rfl
 | y::xs,u::us,.cons r t,f=>by
  rw[KF,p_]at f;rw[HV,HV,xk r f.1,jw t f.2]
theorem im{A:o3}{s:ej}{x:V}{v:cX}(b:RelV x v)(a:iA x=true):∀{xs:List V}{us:List cX},Vals xs us->xs.all iA=true->∀ u∈us,LK A s u v (eqU x u)
 | _,_,.nil,_=>λu hu=>by cases hu
 | y::xs,u::us,.cons r t,f=>λc hu=>by
  rw[KF,p_]at f
  rcases i_.mp hu with rfl | hu
  .rw[xk r f.1];exact CB r b f.1 a
  .exact im b a t f.2 c hu
def inV(x:V)(xs:List V):Bool:=xs.any λy=>eqV y x
inductive rIn(K:Frag)(neg:Bool)(x y:V)(H:Hp)(Q:VK):Prop
 | mk(p:Addr)(xs:List V)(h0:y=.ref p)(h1:SqL K H p xs\/SqT K H p xs)(h2:iA x=true)(h3:xs.all iA=true)(h4:Q (.bl (if neg then !inV x xs else inV x xs)) H):rIn K neg x y H Q
def km:OpR X (nf .In) (rIn X.K false):=by
 intro f s l H x y v u Q I g i h;obtain⟨p,k,rfl,hq,e,b,q⟩:=h;cases i
 rcases hq with hq | hq
 .obtain⟨a,r,d,j⟩:=I.list hq
  refine SeqAt.in_listAt (eqU x) d.isList (λw c=>im g e r b w (by simpa using c)) ⟨.bl _,H,I,rfl,?_⟩;rw[show a.toArray.any (eqU x)=a.any (eqU x) by simp,jw r b];exact q
 .obtain⟨a,r,d,j⟩:=I.tuple hq
  refine SeqAt.in_tupleAt (eqU x) d (λw c=>im g e r b w (by simpa using c)) ⟨.bl _,H,I,rfl,?_⟩;rw[show a.toArray.any (eqU x)=a.any (eqU x) by simp,jw r b];exact q
def gw:OpR X (nf .NotIn) (rIn X.K true):=by
 intro f s l H x y v u Q I g i h;obtain⟨p,k,rfl,hq,e,b,q⟩:=h;cases i
 rcases hq with hq | hq
 .obtain⟨a,r,d,j⟩:=I.list hq
  refine SeqAt.notIn_listAt (eqU x) d.isList (λw c=>im g e r b w (by simpa using c)) ⟨.bl _,H,I,rfl,?_⟩;rw[show a.toArray.any (eqU x)=a.any (eqU x) by simp,jw r b];exact q
 .obtain⟨a,r,d,j⟩:=I.tuple hq
  refine SeqAt.notIn_tupleAt (eqU x) d (λw c=>im g e r b w (by simpa using c)) ⟨.bl _,H,I,rfl,?_⟩;rw[show a.toArray.any (eqU x)=a.any (eqU x) by simp,jw r b];exact q
def pX:CallR X (.builtin "len") (λxs H Q=>∃ p ys,xs=[.ref p]/\(SqL X.K H p ys\/SqT X.K H p ys)/\Q (.int ys.length) H):=by
 intro e s k H xs j Q I r h;obtain⟨p,ys,rfl,hq,q⟩:=h;obtain⟨u,rfl,f⟩:=dW r;cases f;have i:=g7
 rcases hq with hq | hq
 .obtain⟨d,b,c,g⟩:=I.list hq
  have a:=b.length;exact Calls.call_len_list c.isList (by simp only[l5] <;> lia) ⟨.int ys.length,H,I.tok _,⟨s.toks+1,by rw[l5,a]⟩,q⟩
 .obtain⟨d,b,c,g⟩:=I.tuple hq
  have a:=b.length;exact len_tuple c (by simp only[l5] <;> lia) ⟨.int ys.length,H,I.tok _,⟨s.toks+1,by rw[l5,a]⟩,q⟩
def call_len_str:CallR X (.builtin "len") (λxs H Q=>∃ z,xs=[.str z]/\z.length<=sizeLine/\Q (.int z.length) H):=by
 intro a s d H xs c Q I r h;obtain⟨z,rfl,e,q⟩:=h;obtain⟨u,rfl,t,rfl⟩:=dW r;have b:=g7;exact len_str (by lia) ⟨.int z.length,H,I.tok _,⟨_,rfl⟩,q⟩
def CallR.or{f:cX}{r b:List V->Hp->VK->Prop}(h:CallR X f r)(h':CallR X f b):CallR X f (λxs H Q=>r xs H Q\/b xs H Q):=by
 intro a s d H xs c Q I e q
 rcases q with q | q
 .exact h a s d H xs c Q I e q
 .exact h' a s d H xs c Q I e q
inductive rListOf(K:Frag)(xs:List V)(H:Hp)(Q:VK):Prop
 | mk(p:Addr)(ys:List V)(h0:xs=[.ref p])(h1:SqL K H p ys\/SqT K H p ys)(h2:∀ l,H l=none->Q (.ref l) (upd H l (.lst ys))):rListOf K xs H Q
def ei:CallR X (.type "list") (rListOf X.K):=by
 intro g s B H D C Q I r h;obtain⟨p,v,rfl,hq,q⟩:=h;obtain⟨u,rfl,A⟩:=dW r;cases A
 have j:∀(a:List cX),Vals v a->v.length<=sizeLine->∀(c:Heap) (f:Nat),(∀ b o',s.heap.get? b=some o'->c.get? b=some o') ->
   c.get? s.heap.objs.size=some { cls:=.type "list",dict:=none,data:=.seq a.toArray f,slots:=#[] }->EP X g B Q (.ref s.heap.objs.size) { s with heap:=c }:=λa d l c f k e =>
  ⟨.ref s.heap.objs.size,_,I.laid (t':=s.toks) k (d_ _) (show ObjOk X.prog X.w _ c _ (.lst v) from⟨l,a,f,d,e⟩),rfl,q _ (I.hok.fresh (d_ _))⟩
 rcases hq with hq | hq
 .obtain⟨a,d,w,l⟩:=I.list hq
  have i:=d.length;obtain⟨o,m,y,n,x⟩:=w.isList;exact call_list_seq p (.inl rfl) m y x (λc f k e=>j a d l c f k e) (by simp only[l5] <;> lia)
 .obtain⟨a,d,w,l⟩:=I.tuple hq
  have i:=d.length;obtain⟨o,m,y,n,x⟩:=w;exact call_list_seq p (.inr rfl) m y x (λc f k e=>j a d l c f k e) (by simp only[l5] <;> lia)
def og:CallR X (.type "tuple") (λxs H Q=>∃ p ys,xs=[.ref p]/\((SqL X.K H p ys/\∀ l,H l=none->Q (.ref l) (upd H l (.tup ys)))\/(SqT X.K H p ys/\Q (.ref p) H))):=by
 intro a s m H xs A Q I r h;obtain⟨p,ys,rfl,h⟩:=h;obtain⟨u,rfl,y⟩:=dW r;cases y
 rcases h with⟨i,q⟩ | ⟨i,q⟩
 .obtain⟨c,f,g,v⟩:=I.list i
  have j:=f.length;refine call_tuple_list g.isList (λd x=>?_) (by simp only[l5] <;> lia);have k:Inv X a m H { s with heap:=d }:=I.kept (t':=s.toks) x
  have w:Inv X a m (upd H d.objs.size (.tup ys)) { s with heap:=d.push { cls:=.type "tuple",data:=.seq c.toArray } } :=
   k.laid (t':=s.toks) (λb o e=>e_ _ e) (d_ _) (show ObjOk X.prog X.w _ _ _ (.tup ys) from⟨v,c,f,J9 _ _⟩)
  exact⟨.ref d.objs.size,_,w,rfl,q _ (k.hok.fresh (d_ _))⟩
 .obtain⟨c,f,g,v⟩:=I.tuple i
  exact call_tuple_same g ⟨.ref p,H,I,rfl,q⟩
def tyV(K:Frag)(T:String)(x:V)(H:Hp):Prop:=match x with
 | .str _=>T = "str"
 | .int _=>T = "int"
 | .ref p=>(T = "list" /\ ∃ xs,SqL K H p xs)\/(T = "tuple" /\ ∃ o,K.lookup p=some o/\o.cls=.type "tuple" /\ o.dict=none) \/
   (T = "dict" /\ ((∃ kvs,H p=some (.dK kvs))\/∃ kvs,H p=some (.dT kvs)))\/(T = "set" /\ ∃ S n,H p=some (.set S n))
 | _=>False
def Cu{f:List (Addr×Obj)}{y:St}{H:Hp}{s:ej}{T:String}{x:V}{v:cX}(I:Inv X f y H s)(r:RelV x v)(ty:tyV X.K T x H) :
  s.TypeIs v T/\∀ a,v=.ref a->∃ ob,s.heap.get? a=some ob/\ob.dict=none:=by
 cases x with
 | str z =>
  obtain⟨t,rfl⟩:=r;cases(show T = "str" from ty);exact⟨Lg s z t,λ_ e=>nomatch e⟩
 | int i =>
  obtain⟨t,rfl⟩:=r;cases(show T = "int" from ty);exact⟨typeIs_int s i t,λ_ e=>nomatch e⟩
 | ref p =>
  cases r
  rcases ty with⟨rfl,A,w⟩ | ⟨rfl,o,b,m,h⟩ | ⟨rfl,b⟩ | ⟨rfl,S,n,b⟩
  .obtain⟨l,_,k,_⟩:=I.list w
   refine⟨k.isList.typeIs,λa e=>?_⟩;cases e;obtain⟨o,n,e,c,h,_⟩:=k;exact⟨o,e,h⟩
  .refine⟨⟨o,I.kIn p o b,m⟩,λa e=>?_⟩
   cases e;exact⟨o,I.kIn _ o b,h⟩
  .have z:∃ o,s.heap.get? p=some o/\o.ExactDict:=by
    rcases b with⟨g,b⟩ | ⟨g,b⟩
    .obtain⟨_,_,_,_,o,_,_,e,d,_⟩:=I.hok p _ b
     exact⟨o,e,d⟩
    .obtain⟨_,_,_,_,o,_,_,e,d,_⟩:=I.hok p _ b
     exact⟨o,e,d⟩
   obtain⟨o,e,d⟩:=z;refine⟨⟨o,e,d.1⟩,λa j=>?_⟩;cases j;exact⟨o,e,d.2.1⟩
  .obtain⟨o,_,_,_,e,d,_⟩:=I.hok p _ b
   refine⟨⟨o,e,d.1⟩,λa j=>?_⟩;cases j;exact⟨o,e,d.2.1⟩
 | _=>exact mM ty
def tBM(K:Frag)(T:String)(r:V->List V->Hp->VK->Prop)(to:TE)(t:TA):TE:=λσ H Q=>to σ H λx H1=>tyV K T x H1/\t σ H1 λxs H2=>r x xs H2 Q
variable {o e:Expr}{es:List Expr}{to:TE}{t:TA}{name:Str}{apos cpos:Pos}{T id:String}{r:V->List V->Hp->VK->Prop}
def tF(K:PlainAttrs T)(f:Slot T name id)(j:typeOf (.builtin id)=pure (.type "method_descriptor"))(w:MtR X id r)(D:PE X o to)(P:PA X (e::es) t)
  (d:A6 o name X.env (eval o X.env)=eval o X.env:=by rfl)
  (g:((tp cpos (fI (e::es) X.env)).all (λx=>!x.1) && (GJ cpos (E3 [] X.env)).all (λx=>x.1.isSome)
   && decide ((e::es).length+([]:List F4).length+(if ([]:List F4).isEmpty then 0 else 1)<30))=true:=by rfl)
  (c:(apos.endLine == cpos.line)=true:=by rfl) (A:fI (e::es) X.env=(false,eval e X.env)::fI es X.env:=by rfl) (b:(tp cpos (fI es X.env)).any (·.1)=false:=by rfl) :
  PE X (.Call (.Attribute o name apos) (e::es) [] cpos) (tBM X.K T r to t):=by
 intro a s i H Q I h;refine wpAny_Call_method_late d g c rfl (thn (D a s i H _ I h) λv G ⟨x,J,m,l,E,C⟩=>?_);obtain⟨y,L⟩:=Cu m l E;refine⟨T,id,K,f,j,y,L,?_⟩;have k:=P cpos a G i J _ m C;rw[A]at k ⊢;refine Jp (by show(false || (tp cpos (fI es X.env)).any (·.1))=false;rw[b] <;> rfl) (Jz ?_);exact thn k λN B ⟨p,R,M,F,O⟩=>w a B i R x p v N Q M l F O
end
def MtM(X:Cx)(id:String)(r:V->List V->Hp->VK->Prop):Prop :=
 ∀(pins:List (Addr×Obj)) (s:ej) (σ:St) (H:Hp) (x:V) (xs:List V) (v:cX) (us:List cX) (Q:VK),Inv X pins σ H s->RelV x v->Vals xs us->r x xs H Q ->
  gV (kw X.prog X.w) X.A (call (.builtin id) (v::us)) (EP X pins σ Q) X.xe s
def Vals.one:∀{x:V}{us:List cX},Vals [x] us->∃ u,us=[u]/\RelV x u
 | _,_,.cons r .nil=>⟨_,rfl,r⟩
def Vals.two:∀{x y:V}{us:List cX},Vals [x,y] us->∃ u v,us=[u,v]/\RelV x u/\RelV y v
 | _,_,_,.cons r (.cons q .nil)=>⟨_,_,rfl,r,q⟩
theorem Vals.eraseIdx:∀{xs:List V}{us:List cX}(i:Nat),Vals xs us->Vals (xs.eraseIdx i) (us.eraseIdx i)
 | _,_,_,.nil=>.nil
 | _,_,0,.cons _ t=>t
 | _,_,i+1,.cons r t=>.cons r (Vals.eraseIdx i t)
theorem oP{a:Type}:∀(l:List a) (i:Nat),(l.eraseIdx i).length<=l.length
 | [],_=>d_ _
 | _::_,0=>GT _
 | _::r,i+1=>Nat.succ_le_succ (oP r i)
section
variable {X:Cx}{pins:List (Addr×Obj)}{σ:St}{H:Hp}{s:ej}{l b:Addr}{xs ys:List V}
def Inv.lset{its its':List cX}{n:Nat}{f:Array cX->Array cX}{t':Nat}(I:Inv X pins σ H s)(c:H l=some (.lst xs))
  (e:s.heap.get? l=some { cls:=.type "list",data:=.seq its.toArray n }) (a:f its.toArray=its'.toArray) (b:Vals ys its') (h:ys.length<=sizeLine) :
  Inv X pins σ (upd H l (.lst ys)) { s with heap:=s.heap.update l (r0 f),toks:=t' }:=by
 have q:=PySem.IsL.update e f;rw[a]at q;refine I.write (x:=l) (e:=l) (by rw[c];exact trivial) (.inl rfl) (λi u g d=>(qk s.heap (r0 f) (FZ g)).trans d) ⟨_,q⟩ ?_;exact⟨h,its',_,b,q⟩
def Inv.lnew{its:List cX}{t':Nat}(I:Inv X pins σ H s)(a:Vals ys its)(b:ys.length<=sizeLine) :
  Inv X pins σ (upd H s.heap.objs.size (.lst ys)) { s with heap:=s.heap.push { cls:=.type "list",data:=.seq its.toArray },toks:=t' } :=
 I.laid (λ_ _ q=>e_ _ q) (d_ _) ⟨b,its,0,a,h_ _ rfl⟩
def Inv.fresh(I:Inv X pins σ H s):H s.heap.objs.size=none:=I.hok.fresh (d_ _)
def Inv.lstM(I:Inv X pins σ H s)(a:H l=some (.lst xs)):xs.length<=sizeLine/\∃(its:List cX) (n:Nat),Vals xs its/\xs.length=its.length/\s.heap.get? l=some { cls:=.type "list",data:=.seq its.toArray n }:=by
 obtain⟨z,its,n,r,e⟩:=I.hok l _ a;exact⟨z,its,n,r,r.length,e⟩
end
section
variable {X:Cx}
inductive rAppend(x:V)(vs:List V)(H:Hp)(Q:VK):Prop
 | mk(l:Addr)(xs:List V)(y:V)(h0:x=.ref l)(h1:vs=[y])(h2:H l=some (.lst xs))(h3:xs.length<sizeLine)(h4:Q .non (upd H l (.lst (xs++[y])))):rAppend x vs H Q
def o6:MtM X "list.append" rAppend:=by
 intro b s o H x i v k Q I f g h;obtain⟨l,m,y,rfl,rfl,c,p,q⟩:=h;cases f;obtain⟨u,rfl,d⟩:=g.one;obtain⟨z,a,n,r,j,e⟩:=I.lstM c;refine JA KG ⟨_,e,rfl⟩ F.entry_list_append (F.args_list_append_2 _ _) (PySem.list_append l a.toArray n u (by rw[l5];lia)) ⟨e,?_⟩;refine⟨.non,_,I.lset (its':=a++[u]) c e (by simp) (r.append (.cons d .nil)) ?_,rfl,q⟩;rw[ir,Ga];lia
def yq:V->List V->Hp->VK->Prop:=λx vs H Q=>∃ l xs i k y,x=.ref l/\vs=[.int i]/\H l=some (.lst xs)/\-(2 ^ 63)<=i/\i<2 ^ 63/\IY i xs.length=some k/\xs[k]? = some y/\Q y (upd H l (.lst (xs.eraseIdx k)))
def xN:MtM X "list.pop" yq:=by
 intro c s J H x E v G Q I B D h;obtain⟨l,A,i,k,y,rfl,rfl,d,o,p,j,C,q⟩:=h;cases B;obtain⟨u,rfl,g⟩:=D.one;obtain⟨t,rfl⟩:=g;obtain⟨z,a,n,r,m,e⟩:=I.lstM d;obtain⟨w,f,b⟩:=r.get C
 refine JA Ly ⟨_,e,rfl⟩ F.entry_list_pop (F.args_list_pop_2 _ _)
  (MeetsSeq.list_pop_at l a.toArray n i t k w (LV o p) (by rw[l5,<- m];exact j) (by rw[<- Array.getElem?_toList];exact f) (by rw[l5];lia)) ⟨e,?_⟩
 refine⟨y,_,I.lset (its':=a.eraseIdx k) d e ?_ (r.eraseIdx k) ?_,b,q⟩
 .show a.toArray.eraseIdxIfInBounds k=(a.eraseIdx k).toArray
  rw[List.eraseIdxIfInBounds_toArray]
 .have:=oP A k
  lia
inductive rCat(x y:V)(H:Hp)(Q:VK):Prop
 | mk(l b:Addr)(xs zs:List V)(h0:x=.ref l)(h1:y=.ref b)(h2:H l=some (.lst xs))(h3:H b=some (.lst zs))(h4:xs.length+zs.length<=sizeLine)(h5:∀ p,H p=none->Q (.ref p) (upd H p (.lst (xs++zs)))):rCat x y H Q
def gt:OpR X (D0 .Add) rCat:=by
 intro d s E H x y v u Q I m f h;obtain⟨l,b,C,D,rfl,rfl,i,j,F,q⟩:=h;cases m;cases f;obtain⟨z,c,n,r,A,e⟩:=I.lstM i;obtain⟨B,a,w,g,p,o⟩:=I.lstM j;refine PySem.P.add_list e o ?_ (by rw[l5,l5];lia);have k:c.toArray++a.toArray=(c++a).toArray:=by simp
 rw[k];exact⟨.ref _,_,I.lnew (t':=s.toks) (r.append g) (by rw[ir];lia),rfl,q _ I.fresh⟩
end
section
set_option maxRecDepth 100000 in
end
end L2
namespace Att
open PySem PySem.W PySem.Calls PyProof.Rows
def lO{P:Params}{h:Heap}:∀(ns:List Int) (vs:List cX),WellAll P h vs (ns.map WData.int)->Hv vs ns:=by
 intro ns
 induction ns with
 | nil =>
  intro vs w;rw[Lz]at w;cases w;exact .nil
 | cons n ns ih =>
  intro vs w;rw[l_]at w;cases w with
  | cons a b =>
   cases a;exact .cons _ _ (ih _ b)
def v6{l:OpenLaw}{n:Nat}(m:l.most=some n){P:Params}{h:Heap}{args:List WData}{c:List cX}
  (b:l.row.toRowW.claim.pre args=true) (i:WellAll P h c args) :
  ∃ a vs ns,c=[mr a]/\args=[WData.list (ns.map WData.int)]/\h.get? a=some { cls:=.type "list",data:=.seq vs.toArray }/\Hv vs ns/\ns.length<=n:=by
 have j:WShape.hasAll [] args [.list .int]=true:=(pre_splitW b).1;have k:l.pre.holds [] { args:=args }=true:=(pre_splitW b).2;obtain⟨d,r,rfl,s,p⟩:=hasAllW_cons j;obtain rfl:=hasAllW_nil p;obtain⟨w,rfl,o⟩:=hasW_list s;obtain⟨ns,rfl⟩:=items_int o
 have e:ns.length<=n:=by
  unfold OpenLaw.pre at k
  have g:(WTm.not (.lt (.lit (.int (n:Int))) (.len (.arg 0)))).holds [] { args:=[.list (ns.map .int)] }=true:=by
   have g:=(holds_andW k).1;rw[m]at g;exact g
  have f:=condW_of g (w_not (w_lt w_lit (w_len_list (w_arg rfl))));rw[a_]at f;refine Nat.le_of_not_lt λq=>?_
  have v:(n:Int)<((ns.length:Nat):Int):=by lia
  first
   | (rw[decide_eq_true v]at f;exact absurd f (by decide))
   | (simp at f;lia)
 cases i with
 | cons w1 w2 =>
  cases w2;cases w1 with
  | list ho hall=>exact⟨_,_,ns,rfl,rfl,ho,lO ns _ hall,e⟩
def v8(l:OpenLaw)(args:List WData):l.row.toRowW.claim.post args (.bool true) args=true :=
 postW_of (r:=l.row.toRowW) (X:=(true == true))
  (show WShape.has [] (.bool true) .bool=true by first | rfl | decide | simp[WShape.has,WShape.arms,WShape.armsAll])
  (show(WTm.eq .res (.lit (.bool true))).value [] { args:=args,res:=some (.bool true),after:=args }=some (.bool (true == true)) from w_eq_bool (w_res rfl) w_lit) rfl
def attach_call{l:OpenLaw}{n:Nat}{q:gN}{b:List Str}{s:(Str->Option cX)->Heap->Prop}{x:ml->Heap->Prop}{d:DefRec}
  (K:l.most=some n) (k:d.params.defaults=[])
  (g:∀(w:ml) (s₀ s₁:ej) (mg mb:Str->Option cX) (fa:Addr) (o:Obj) (pm cd doc:cX) (a:Addr) (vs:List cX) (ns:List Int),
   Ground q b [] s w s₀ mg mb s₁.heap->x w s₁.heap ->
   s₁.heap.get? fa=some o->o.data=.func (docDef d.name d.params d.body d.scope pm cd doc)->s₁.heap.CodeRec cd d.name->mg d.name=some (.ref fa) ->
   s₁.heap.get? a=some { cls:=.type "list",data:=.seq vs.toArray }->Hv vs ns->ns.length<=n->s₁.gens = #[] ->
   GG (kw l.prog w) IH (.call (.ref fa) ⟨[.ref a],[]⟩) (λr s'=>r=.ok (.ret (.bool true))/\OldK s₁.heap s'.heap/\s'.os=s₁.os/\GQ s'.gens) s₁) :
  WalkO q b s x l.row.toRowW d [] (λf vs=>PySem.call f vs):=by
 intro w s₀ s₁ mg mb G Y fa o pm cd doc M C D F p A m J B y P i v E j H;obtain rfl:M=.none:=Dflts.none A k;obtain rfl:C=.none:=Dflts.noKw A;obtain⟨a,vs,ns,rfl,rfl,h,c,e⟩:=v6 K i j;refine enter_call (Gv (g w s₀ s₁ mg mb fa o pm cd doc a vs ns G Y D (fd_plain F) p m h c e J) λr s' N=>?_);obtain⟨rfl,I,L,O⟩:=N;exact⟨.inl ⟨.bool true,.bool true,[],rfl,λ_=>rfl,.bool true,v8 l _,λ_=>⟨List.Pairwise.nil,λ_ hm=>(nomatch hm)⟩⟩,I,L,O⟩
end Att
namespace L2
open PySem PySem.Spec PyProof.Rows
theorem pH:∀{vs:List cX}{ns:List Int},Hv vs ns->Vals (ns.map V.int) vs
 | _,_,.nil=>.nil
 | _,_,.cons n t h=>.cons ⟨t,rfl⟩ (pH h)
abbrev KOf{K:Frag}{h:Heap}(_:K.In h):Frag:=K
def be(s:Stmt)(j:Nat):Stmt:=match s with
 | .ClassDef _ _ _ body _ _ _ _ _ _ _=>body.getD j (.Pass ⟨0,0,0,0⟩)
 | _=>.Pass ⟨0,0,0,0⟩
def jP(s:Stmt):LJ:=match s with
 | .FunctionDef _ a _ _ _ _ _ _ _ _=>a
 | _=>{ posonlyargs:=[],args:=[],vararg:=none,kwonlyargs:=[],kw_defaults:=[],kwarg:=none,defaults:=[] }
def dz(s:Stmt):List Stmt:=match s with
 | .FunctionDef _ _ b _ _ _ _ _ _ _=>b
 | _=>[]
def aH(s:Stmt):E2:=match s with
 | .FunctionDef _ _ _ _ _ _ sc _ _ _=>sc
 | _=>{ kind:=.function,names:=[],isGenerator:=false,isCoroutine:=false }
abbrev CX0:CXT:=λ_ _ _ _ _ _=>False
abbrev E0:XK:=λ_ _ _=>False
def aT{X:Cx}:iI CX0 X E0:=λ_ _ _ _ _ _ _ h=>h.elim
structure Fun(K:Frag)(x qual:Str)(st:Stmt)(f:Addr)(fd:ri):Prop where
 ex:∃(oc:cX) (od:Option Addr) (kV doc pm:cX) (an:Option Addr) (cdv ct:cX) (osl:Array (Option cX)),
  fd=fnOf x qual (jP st) (dz st) (aH st) .none kV doc pm an cdv ct/\K.lookup f=some ⟨oc,od,.func fd,osl⟩/\Lc K cdv qual=true
 kp:HR K (.ref f)=true
section
variable {P:gN}{w:ml}{K:Frag}{mg:Str->Option cX}{base:Heap}
def Fun.ok{x a:Str}{st:Stmt}{f:Addr}{g:ri}{N ps:List Str}{k:Nat}{sp:Sp}(F:Fun K x a st f g)(S:FnScope N ps (aH st))(d:∀ vs H Q E,sp vs H Q E->vs.length=ps.length)
  (b:∀(cdv:cX) (A:o3) (outer:List Env) (s:ej) (H:Hp) (vs:List V) (Q:VK) (E:XK),Room k (A.deeper (envOfC a (aH st) s.heap.objs.size f cdv))->sp vs H Q E ->
   ∃ t,PSs (cL CX0 P w K mg base N a (aH st) f cdv A outer s H E).nox (dz st) t/\t { nx:=λ_ H'=>Q .non H',rt:=Q } (start N vs) H):FnOk P w K mg base CX0 (k+1) f g ps sp:=by
 obtain⟨y,p,v,l,B,r,cdv,o,i,rfl,m,c⟩:=F.ex;refine Ec m c S d λA outer s H vs Q E j e=>?_
 obtain⟨t,h,q⟩:=b cdv A outer s H vs Q E j e;exact⟨t,h.nox,q⟩
def Fun.binds{x a:Str}{st:Stmt}{f:Addr}{b:ri}{ps:List Str}(F:Fun K x a st f b)
  (h:∀(kV doc pm:cX) (an:Option Addr) (cdv ct:cX) (us:List cX),us.length=ps.length->IG (fnOf x a (jP st) (dz st) (aH st) .none kV doc pm an cdv ct) ⟨us,[]⟩=pure (ps.zip us)):Binds K b ps []:=by
 obtain⟨g,e,kV,doc,pm,an,cdv,ct,c,rfl,i,d⟩:=F.ex;exact .all (h kV doc pm an cdv ct)
def qY{x a:Str}{st:Stmt}{f:Addr}{o:cX}{m i:Option Addr}{e:Array (Option cX)}{h d j b g:cX}(l:K.lookup f=some ⟨o,m,.func (fnOf x a (jP st) (dz st) (aH st) .none h d j i b g),e⟩)
  (c:Lc K b a=true) (k:HR K (.ref f)=true):Fun K x a st f (fnOf x a (jP st) (dz st) (aH st) .none h d j i b g):=⟨⟨o,m,h,d,j,i,b,g,e,rfl,l,c⟩,k⟩
end
def eJ{A:o3}{k:Nat}(a:Room k A):A.units+1<G8:=na (Nat.add_le_add_left (by decide:1<=64) _) a.units
section
variable {X:Cx}
def pv(i:Nat){x:Str}{a:Pos}(e:X.N[i]? = some x:=by rfl)(c:Vis X.env.scope x:=by first | exact m_ rfl | exact GZ (m_ rfl) | exact GZ (GZ rfl))(d:(x == ("__debug__" : Str))=false:=by decide)
  (b:(x == ("__classdict__" : Str))=false:=by decide):PE X (.Name x a) (E4 i):=wO e c d b
end
def FI{A B:Prop}(h:B):if false=true then A else B:=by
 rw[if_neg fx];exact h
def Es{c A B:Prop}[Decidable c](b:c->A)(a:¬c->B):if c then A else B:=by
 by_cases h:c
 .rw[if_pos h]
  exact b h
 .rw[if_neg h]
  exact a h
def vA{c A B:Prop}[Decidable c](a:c)(h:B):if (!decide c)=true then A else B:=by
 rw[decide_eq_true a];exact FI h
def Same(H H':Hp):Prop:=∀ b o,H b=some o->H' b=some o
def Same.refl(H:Hp):Same H H:=λ_ _ h=>h
def Same.trans{H e d:Hp}(a:Same H e)(b:Same e d):Same H d:=λc o h=>b c o (a c o h)
def Same.free{H a:Hp}(e:Same H a){l:Addr}(h:a l=x0):H l=x0:=by
 cases q:H l with
 | none=>rfl
 | some o =>
  rw[e l o q]at h;cases h
def Same.seq{K:Frag}{H b:Hp}{a:Addr}{xs:List V}(e:Same H b)(h:SqL K H a xs):SqL K b a xs:=by
 rcases h with(h | ⟨o,h⟩) | h
 .exact .inl (.inl (e _ _ h))
 .exact .inl (.inr ⟨o,e _ _ h⟩)
 .exact .inr h
end L2
set_option maxHeartbeats 4000000
namespace L2
open PySem PySem.Spec PyProof.Rows
def Its(x:Str):It:=⟨λi _=>i<x.cps.size,λi H y H'=>H'=H/\∃ c,x.cps[i]? = some c/\y=.str ⟨#[c]⟩,λi _=>x.cps.size<=i⟩
def rH{P:gN}{w:ml}{K:Frag}{tg:Expr}(x:Str)(p:Addr){ty:String}{t:Tok}(m:ty = "str_ascii_iterator" \/ ty = "str_iterator") :
  Turn P w K tg (Its x) [p] p (λi h=>h.IsStrIter p ty x t i) where
 mem:=by simp
 obj:=λi h f b a=>by
  have e:b=p:=by simpa using a
  subst e;obtain⟨o,e,c,d⟩:=f;exact⟨o,e,λv z=>by rw[d]at z;cases z⟩
 keep:=λi h l f k=>by
  obtain⟨o,e,r⟩:=f;exact⟨o,k p (by simp) o e,r⟩
 item:=by
  intro X R J O M i j s N H E I B f S;subst R J O;have y:i<x.cps.size:=S;obtain⟨C,A,W,F,D,G⟩:=B p (by simp)
  rcases m with rfl | rfl
  .refine wpAny_pyNext_ascii_item f (c:=x.cps[i]) (by simp[y]) λl g T=>?_
   have Q:Inv X j N H { s with heap:=l,toks:=s.toks+1 }:=I.turned (λb o a e=>(T.2 b a).trans e) C A F D G;obtain⟨o,e,c,d⟩:=id g;exact⟨_,rfl,oG (s:={ s with heap:=l,toks:=s.toks+1 }) e c d (by decide) ⟨.str ⟨#[x.cps[i]]⟩,H,Q,⟨_,rfl⟩,⟨rfl,x.cps[i],by simp[y],rfl⟩,g,λb a=>(B b a).1⟩⟩
  .refine wpAny_pyNext_wide_item f (c:=x.cps[i]) (by simp[y]) λl g T=>?_
   have Q:Inv X j N H { s with heap:=l,toks:=s.toks+1 }:=I.turned (λb o a e=>(T.2 b a).trans e) C A F D G;obtain⟨o,e,c,d⟩:=id g;exact⟨_,rfl,oG (s:={ s with heap:=l,toks:=s.toks+1 }) e c d (by decide) ⟨.str ⟨#[x.cps[i]]⟩,H,Q,⟨_,rfl⟩,⟨rfl,x.cps[i],by simp[y],rfl⟩,g,λb a=>(B b a).1⟩⟩
 done:=by
  intro X R J O M i j s N H E I B f S;subst R J O;have y:x.cps.size<=i:=S;obtain⟨C,A,W,F,D,G⟩:=B p (by simp)
  rcases m with rfl | rfl
  .exact wpAny_pyNext_ascii_end (I.ok.hd M) f (by simp[y]) λl L=>⟨rfl,I.turned (t':=s.toks) (λb o a e=>L b o a e) C A F D G⟩
  .exact wpAny_pyNext_wide_end (I.ok.hd M) f (by simp[y]) λl L=>⟨rfl,I.turned (t':=s.toks) (λb o a e=>L b o a e) C A F D G⟩
 self:=λ_ _ _ _ _ f h=>by
  rcases m with rfl | rfl
  .exact wpAny_pyIter_striter_ascii f h
  .exact wpAny_pyIter_striter_wide f h
def Fl(tl:TE):TI:=λσ H R=>tl σ H λx H1=>∃ z,x=.str z/\R (Its z) H1
def Ct{X:Cx}{tg l:Expr}{tl:TE}(i:PE X l tl):PI X tg l (Fl tl):=by
 intro a s k H R I h;refine thn (i a s k H _ I h) λv c ⟨x,g,d,j,f⟩=>?_
 obtain⟨z,e,q⟩:=f;subst e;obtain⟨t,rfl⟩:=j;refine LA ?_;refine⟨c.heap.objs.size,[c.heap.objs.size],_,_,g,rfl,d.kept (t':=c.toks) λb o e=>e_ _ e,rH (ty:=Jk z) (t:=t) z _ ?_,⟨_,h_ _ rfl,rfl,rfl⟩,λb hb=>?_,q⟩
 .unfold Jk
  split
  .exact .inl rfl
  .exact .inr rfl
 .have e:b=c.heap.objs.size:=by simpa using hb
  subst e;exact d.fpOk (d_ _) (d.hok.fresh (d_ _))
def Wk:St->St->Prop
 | [],[]=>True
 | x0::r,_::q=>Wk r q
 | some a::r,b::q=>b=some a/\Wk r q
 | _,_=>False
theorem Wk.len:∀{a b:St},Wk a b->a.length=b.length
 | [],[],_=>rfl
 | x0::r,_::q,h=>congrArg (· + 1) (Wk.len (a:=r) (b:=q) h)
 | some _::r,_::q,h=>congrArg (· + 1) (Wk.len (a:=r) (b:=q) h.2)
 | [],_::_,h=>h.elim
 | x0::_,[],h=>h.elim
 | some _::_,[],h=>h.elim
theorem Wk.get:∀{a b:St},Wk a b->∀(i:Nat) v,a[i]? = some (some v)->b[i]? = some (some v)
 | [],[],_,i,v,e=>by simp at e
 | x0::r,y::q,h,0,v,e=>by simp at e
 | x0::r,y::q,h,i+1,v,e=>by simpa using Wk.get (a:=r) (b:=q) h i v (by simpa using e)
 | some x::r,y::q,h,0,v,e=>by
  have c:x=v:=by simpa using e
  rw[h.1,c] <;> simp
 | some x::r,y::q,h,i+1,v,e=>by simpa using Wk.get (a:=r) (b:=q) h.2 i v (by simpa using e)
 | [],_::_,h,_,_,_=>h.elim
 | x0::_,[],h,_,_,_=>h.elim
 | some _::_,[],h,_,_,_=>h.elim
def eY(cells:List (Str×Addr)):List (Str×A_)->List (Str×Addr)->List (Str×Addr)
 | [],acc=>acc
 | (n,k)::r,acc=>if k == .free then eY cells r ((n,(cells.lookup n).getD 0)::acc) else eY cells r acc
def gL{d:E2}{env:Env}(h:∀ y∈d.names,y.2=.free->∃ c,env.cells.lookup y.1=some c):Lh d env=pure (eY env.cells d.names []):=by
 unfold Lh
 have e:∀(l:List (Str×A_)) (b:List (Str×Addr)),(∀ y∈l,y.2=.free->∃ c,env.cells.lookup y.1=some c) ->
   (forIn l b λx r=>match x with | (name,kind)=>if (kind == .free)=true then do let a <- Li env name;pure (Aa ((name,a)::r)) else pure (Aa r):Sem (List (Str×Addr)))=pure (eY env.cells l b):=by
  intro l
  induction l with
  | nil=>intro b _;rfl
  | cons y r ih =>
   intro b m;obtain⟨n,k⟩:=y;have g:∀ y∈r,y.2=.free->∃ c,env.cells.lookup y.1=some c:=λy o=>m y (fy _ o)
   rw[Lj]
   by_cases hk:k=.free
   .subst hk
    obtain⟨c,i⟩:=m (n,.free) ft rfl;have p:Li env n=pure c:=by unfold Li;rw[i]
    have f:eY env.cells ((n,.free)::r) b=eY env.cells r ((n,c)::b):=by
     show(if (pa == pa)=true then eY env.cells r ((n,(env.cells.lookup n).getD 0)::b) else eY env.cells r b)=_;rw[if_pos (by decide),i];rfl
    rw[f,<- ih ((n,c)::b) g];show(do let x <- (if (pa == pa)=true then do let a <- Li env n;pure (Aa ((n,a)::b)) else pure (Aa b):Sem _);_)=_;rw[if_pos (by decide),p];rfl
   .have j:(k == pa)=false:=by simpa using hk
    have f:eY env.cells ((n,k)::r) b=eY env.cells r b:=by
     show(if (k == pa)=true then eY env.cells r ((n,(env.cells.lookup n).getD 0)::b) else eY env.cells r b)=_;rw[j];rfl
    rw[f,<- ih b g];show(do let x <- (if (k == pa)=true then do let a <- Li env n;pure (Aa ((n,a)::b)) else pure (Aa b):Sem _);_)=_;rw[j];rfl
 have:=e d.names [] h
 first | exact this | (rw[this];rfl) | simpa using this
theorem fg{a:List (Str×Addr)}:∀{l:List (Str×A_)}{acc:List (Str×Addr)}{n:Str}{c:Addr},(∀ y∈l,y.2=.free->∃ c,a.lookup y.1=some c)->(∀ n c,acc.lookup n=some c->a.lookup n=some c) ->
  (eY a l acc).lookup n=some c->a.lookup n=some c
 | [],acc,n,c,_,ha,e=>ha n c e
 | (m,k)::r,acc,n,c,hl,ha,e=>by
  have h:∀ y∈r,y.2=.free->∃ c,a.lookup y.1=some c:=λy i=>hl y (fy _ i)
  have b:(if (k == pa)=true then eY a r ((m,(a.lookup m).getD 0)::acc) else eY a r acc).lookup n=some c:=e
  by_cases hk:(k == pa)=true
  .rw[if_pos hk]at b
   refine fg h (λn c z=>?_) b;obtain⟨d,j⟩:=hl (m,k) ft (by simpa using hk);rw[HW]at z
   by_cases hn:(n == m)=true
   .rw[hn]at z
    have:n=m:=by simpa using hn
    subst this;have g:a.lookup n=some d:=j;rw[g]at z ⊢;simpa using z
   .have f:(n == m)=false:=by simpa using hn
    rw[f]at z;exact ha n c z
  .rw[if_neg hk]at b
   exact fg h ha b
theorem iN{b:List (Str×Addr)}:∀{l:List (Str×A_)}{acc:List (Str×Addr)}{n:Str},((n,pa)∈l\/∃ c,acc.lookup n=some c)->∃ c,(eY b l acc).lookup n=some c
 | [],acc,n,h=>by
  rcases h with h | h
  .cases h
  .exact h
 | (m,k)::r,acc,n,h=>by
  show ∃ c,(if (k == pa)=true then eY b r ((m,(b.lookup m).getD 0)::acc) else eY b r acc).lookup n=some c
  have d:∀ a,n=m\/(∃ c,acc.lookup n=some c)->∃ c,((m,a)::acc).lookup n=some c:=λa z=>by
   rw[HW]
   by_cases hn:(n == m)=true
   .rw[hn];exact⟨_,rfl⟩
   .have f:(n == m)=false:=by simpa using hn
    rw[f]
    rcases z with z | z
    .exact absurd (by simpa using z) hn
    .exact z
  by_cases hk:(k == pa)=true
  .rw[if_pos hk]
   refine iN ?_
   rcases h with h | h
   .rcases i_.mp h with e | h
    .exact .inr (d _ (.inl (congrArg Prod.fst e)))
    .exact .inl h
   .exact .inr (d _ (.inr h))
  .rw[if_neg hk]
   refine iN ?_
   rcases h with h | h
   .rcases i_.mp h with e | h
    .have:k=.free:=(congrArg Prod.snd e).symm
     rw[this]at hk;exact absurd (by decide) hk
    .exact .inl h
   .exact .inr h
def rlb(env:Env)(p:Str×A_):Str×A_:=if (p.2 == pa && env.scope.kind == ScopeKind.function && env.kindOf p.1 == some IA)=true then (p.1,IA) else p
def oa(a:E2)(env:Env):(II a env).names=a.names.map (rlb env):=rfl
def Ai(env:Env)(p:Str×A_):(rlb env p).1=p.1:=by
 unfold rlb
 split <;> rfl
def yo{env:Env}{p:Str×A_}(h:p.2≠.cell)(h2:(rlb env p).2=.cell\/(rlb env p).2=.free):p.2=.free:=by
 unfold rlb at h2
 split at h2
 .rename_i q
  rw[p_,p_]at q;simpa using q.1.1
 .rcases h2 with h2 | h2
  .exact absurd h2 h
  .exact h2
theorem iX{env:Env}:∀{names:List (Str×A_)}{x:Str}{k:A_},(∀ y∈names,y.2≠.cell)->(k=.cell\/k=.free)->(names.map (rlb env)).lookup x=some k->(x,pa)∈names
 | [],x,k,_,_,e=>by simp at e
 | p::r,x,k,hc,hk,e=>by
  have c:∀ y∈r,y.2≠.cell:=λy b=>hc y (fy _ b)
  have f:rlb env p=(p.1,(rlb env p).2):=by rw[<- Ai env p]
  rw[l_,f,HW]at e
  by_cases hx:x=p.1
  .have a:(x == p.1)=true:=by simpa using hx
   rw[a]at e;have g:(rlb env p).2=k:=ll e;have d:=yo (env:=env) (hc p ft) (by rw[g];exact hk);have:(x,pa)=p:=by rw[hx,<- d]
   rw[this];exact ft
  .have a:(x == p.1)=false:=by simpa using hx
   rw[a]at e;exact fy _ (iX c hk e)
def gm{env:Env}{a:E2}{x:Str}{k:A_}(b:∀ y∈a.names,y.2≠.cell)(c:k=.cell\/k=.free)(e:(II a env).names.lookup x=some k):(x,pa)∈a.names :=
 iX (env:=env) b c (by rw[<- oa];exact e)
def wv(ix:List (Option Nat))(σ:St):St:=ix.map λo=>o.bind λi=>(σ[i]?).join
def fk(env:Env)(y:Str):A_:=if env.kindOf y == some pa then .free else .cell
def D6(env:Env)(y:Str):fk env y=.cell\/fk env y=.free:=by unfold fk;split <;> simp
def FreeOkF(XN:List Str)(env:Env)(sc:E2):List Str->List (Option Nat)->Prop
 | [],[]=>True
 | _::N,x0::ix=>FreeOkF XN env sc N ix
 | y::N,some i::ix=>XN[i]? = some y/\env.kindOf y=some (fk env y)/\(II sc env).names.lookup y=some (fk env y)/\FreeOkF XN env sc N ix
 | _,_=>False
theorem FreeOkF.len{b:List Str}{env:Env}{a:E2}:∀{N:List Str}{ix:List (Option Nat)},FreeOkF b env a N ix->ix.length=N.length
 | [],[],_=>rfl
 | _::N,x0::ix,h=>congrArg (· + 1) (FreeOkF.len (N:=N) (ix:=ix) h)
 | _::N,some _::ix,h=>congrArg (· + 1) (FreeOkF.len (N:=N) (ix:=ix) h.2.2.2)
 | [],_::_,h=>h.elim
 | _::_,[],h=>h.elim
theorem FreeOkF.get{c:List Str}{env:Env}{b:E2}:∀{N:List Str}{ix:List (Option Nat)},FreeOkF c env b N ix->∀(j:Nat) (y:Str) (i:Nat),N[j]? = some y->ix[j]? = some (some i) ->
  c[i]? = some y/\env.kindOf y=some (fk env y)/\(II b env).names.lookup y=some (fk env y)
 | [],[],_,j,y,i,e,_=>by simp at e
 | _::N,x0::ix,h,0,y,i,e,e2=>by simp at e2
 | _::N,x0::ix,h,j+1,y,i,e,e2=>FreeOkF.get (N:=N) (ix:=ix) h j y i (by simpa using e) (by simpa using e2)
 | z::N,some k::ix,h,0,y,i,e,e2=>by
  have d:z=y:=by simpa using e
  have a:k=i:=by simpa using e2
  subst d;subst a;exact⟨h.1,h.2.1,h.2.2.1⟩
 | _::N,some _::ix,h,j+1,y,i,e,e2=>FreeOkF.get (N:=N) (ix:=ix) h.2.2.2 j y i (by simpa using e) (by simpa using e2)
 | [],_::_,h,_,_,_,_,_=>h.elim
 | _::_,[],h,_,_,_,_,_=>h.elim
def cxB(X:Cx)(sc:E2)(C:Addr)(N:List Str)(s₀:ej)(H₀:Hp)(fp:List Addr):Cx :=
 { X with N:=N,s₀:=s₀,H₀:=H₀,env:=compEnvC sc (eY X.env.cells sc.names []) C X.env,outer:=X.stack,ex:=fp,fn:=λ_=>false,pn:=[],xe:=λ_ _=>False }
structure CompOk(X:Cx)(sc:E2)(N:List Str)(ix:List (Option Nat)):Prop where
 kind:sc.kind=.function
 nocell:(sc.names.all λy=>y.2 != .cell)=true
 names:(sc.names.all λy=>y.2 != .local || sc.names.lookup y.1 == some .local) = true
 free:(sc.names.all λy=>y.2 != .free || (X.env.scope.names.lookup y.1 == some .cell || X.env.scope.names.lookup y.1 == some .free))=true
 fr:FreeOkF X.N X.env sc N ix
section
variable {X:Cx}{sc:E2}{N:List Str}{ix:List (Option Nat)}{pins:List (Addr×Obj)}{σ:St}{H:Hp}{s:ej}
def CompOk.cells(c:CompOk X sc N ix)(a:X.Ok):∀ y∈sc.names,y.2=.free->∃ c,X.env.cells.lookup y.1=some c:=λy b e=>by
 have h:=F8.mp c.free y b;rw[e]at h;have d:X.env.scope.names.lookup y.1=some .cell\/X.env.scope.names.lookup y.1=some .free:=by simpa using h
 exact a.has y.1 d
def CompOk.nc(c:CompOk X sc N ix):∀ y∈sc.names,y.2≠.cell:=λy a=>by simpa using F8.mp c.nocell y a
def CompOk.nm(c:CompOk X sc N ix):∀ y ∈ sc.names,y.2 = .local->sc.names.lookup y.1 = some .local:=λy a e=>by
 have h:=F8.mp c.names y a;rw[e]at h;simpa using h
def wB{C:Addr}{G:List Addr}{h₁:Heap}{t':Nat}(c:CompOk X sc N ix)(I:Inv X pins σ H s)(D:∀ b∈G,FpOk X pins H b)(J:∀ b∈G,b<s.heap.objs.size)(F:s.heap.objs.size<=C)
  (W:h₁.Ns C (λ_=>none)) (g:∀ b o,s.heap.get? b=some o->h₁.get? b=some o):Inv (cxB X sc C N s H G) [] (wv ix σ) H { s with heap:=h₁,toks:=t' }:=by
 have f:=c.cells I.ok;have a:∀ n c,(eY X.env.cells sc.names []).lookup n=some c->X.env.cells.lookup n=some c:=λn c e=>fg f (λn c z=>by simp at z) e
 refine⟨⟨I.ok.mod,c.kind,I.ok.glob,I.ok.blt,F,λx y d M S=>I.ok.inj x y d (a x d M) (a y d S),λx hx=>?_,λx d z=>absurd z (by simp[cxB]),I.ok.hd,I.ok.frames,.inl rfl,λb hb=>⟨?_,λx d e=>?_⟩,I.bs,mu I.ok.bsz I.sz,λb o e hb=>?_,λb hb hs=>?_,I.stack,I.stkFree⟩,
  rfl,I.bare,Un.kept g,⟨_,W,λj y v R A e3=>?_⟩,λx d e=>?_,I.hok.fresh F,λx d e=>I.freeC x d (a x d e),λp hp=>absurd (show p∈([]:List (Addr×Obj)) from hp) (by simp),I.hok.kept g,?_⟩
 .refine iN (.inl ?_)
  rcases hx with hx | hx
  .exact gm c.nc (.inl rfl) (show(II sc X.env).names.lookup x=some .cell from hx)
  .exact gm c.nc (.inr rfl) (show(II sc X.env).names.lookup x=some .free from hx)
 .exact nl (jb (J b hb) F)
 .exact(D b hb).2.2.2.2.1 x d (a x d e)
 .rcases(D b hb).2.2.2.1 with z | z
  .exact I.ok.noex b o e z
  .exact absurd (jb (fR e) (mu I.ok.bsz z)) (pw _)
 .rcases i_.mp (I.stkSub b hs) with z | z
  .exact(D b hb).2.1 z
  .exact(D b hb).2.2.1 z
 .have O:∃ i,ix[j]? = some (some i)/\σ[i]? = some (some v):=by
   unfold wv at A;rw[fb]at A;cases q:ix[j]? with
   | none=>rw[q]at A;cases A
   | some o =>
    rw[q]at A;cases o with
    | none=>cases A
    | some i =>
     refine⟨i,rfl,?_⟩;have h:(σ[i]?).join=some v:=ll A;cases q2:σ[i]? with
     | none=>rw[q2]at h;cases h
     | some w=>rw[q2]at h;exact congrArg some h
  obtain⟨i,Y,T⟩:=O;obtain⟨L,K,B⟩:=c.fr.get j y i R Y;obtain⟨m,Z,P⟩:=I.loc;have E:=D6 X.env y;have k9:X.env.kindOf y=some .cell\/X.env.kindOf y=some .free:=E.imp (λz=>by rw[<- z];exact K) λz=>by rw[<- z];exact K
  obtain⟨u,r,l⟩:=P i y v L T (.inr k9);refine⟨u,r,?_⟩
  rcases l with⟨z,_⟩ | ⟨_,d,Q,k⟩
  .rcases k9 with k9 | k9 <;> (rw[k9]at z;cases z)
  .obtain⟨d',hd'⟩:∃ d',(eY X.env.cells sc.names []).lookup y=some d':=iN (.inl (gm c.nc E B))
   have:=a y d' hd';rw[Q]at this;cases this;exact .inr ⟨E.imp (λz=>(by rw[z]at B;exact B)) (λz=>(by rw[z]at B;exact B)),d,hd',k.keeps g⟩
 .obtain⟨v,z⟩:=I.cell x d (a x d e)
  exact⟨v,z.keeps g⟩
 .show(wv ix σ).length=N.length
  unfold wv;rw[a_,c.fr.len]
def sX{C:Addr}{d:List Addr}{a:List (Addr×Obj)}{c:St}{f:Hp}{e:ej}(I:Inv X pins σ H s)(g:∀ b∈d,FpOk X pins H b)(J:Inv (cxB X sc C N s H d) a c f e):Inv X pins σ f e:=by
 refine I.call' (ch:=d) J.os J.base J.hok J.bare λb l=>?_
 obtain⟨m,i,o,k,j,h⟩:=g b l;exact⟨k,i,j,h⟩
end
def PTs(X:Cx)(ifs:List Expr)(t:TT):Prop :=
 ∀(pins:List (Addr×Obj)) (s:ej) (σ:St) (H:Hp) (Q:Bool->Hp->Prop),Inv X pins σ H s->t σ H Q ->
  gV (kw X.prog X.w) X.A (forIn ifs true λc r=>if r=true then do let ok <- J8 c X.env (eval c X.env);pure (Aa ok) else pure (Aa r)) (TP X pins σ Q) X.xe s
def FO:TT:=λ_ H Q=>Q true H
def aM{X:Cx}:PTs X [] FO:=λ_ _ _ H _ I h=>wpAny_tests_nil ⟨H,I,h⟩
def cv{X:Cx}{c:Expr}{t:TT}(h:PT X c t):PTs X [c] t:=λa s d H Q I b=>wpAny_tests_one (h a s d H Q I b)
def j4(J:It)(D:Addr)(σb:St)(g:TG)(tt:TT)(te:TE)(Q:Hp->List V->Prop)(W:Nat->Nat->List V->Hp->Prop):Prop :=
 ∀ i m ys H,W i m ys H->H D=some (.lst ys)/\((J.stop i H/\Q H ys)\/(J.go i H/\∀ x H3,J.yld i H x H3->g x σb H3 λσ4 H4=>Wk σb σ4/\tt σ4 H4 λb H5 =>
  if b=true then te σ4 H5 λy H6=>H6 D=some (.lst ys)/\ys.length<sizeLine/\∃ m',m'<m/\W (i+1) m' (ys++[y]) (upd H6 D (.lst (ys++[y]))) else ∃ m',m'<m/\W (i+1) m' ys H5))
def Cj(ix:List (Option Nat))(wi:TI)(g:TG)(tt:TT)(te:TE):TE:=λσ H Q=>wi σ H λJ H1=>∀ D,H1 D=none->∃ W,(∃ m,W 0 m [] (upd H1 D (.lst [])))/\j4 J D (wv ix σ) g tt te (λH _=>Q (.ref D) H) W
section
variable {X:Cx}{sc:E2}{N:List Str}{ix:List (Option Nat)}{elt tg iter:Expr}{ifs:List Expr}{pos:Pos}{wi:TI}{g:TG}{tt:TT}{te:TE}
structure Blk(X:Cx)(sc:E2)(N:List Str)(tg elt:Expr)(ifs:List Expr)(g:TG)(tt:TT)(te:TE):Prop where
 tg:∀ C s H fp,PG (cxB X sc C N s H fp) tg g
 tests:∀ C s H fp,PTs (cxB X sc C N s H fp) ifs tt
 elt:∀ C s H fp,PE (cxB X sc C N s H fp) elt te
def wf{J:It}{j:List Addr}{it D:Addr}{F:Nat->Heap->Prop}{a:St}{Q:Hp->List V->Prop}{R:Lb->ej->Prop}{W:Nat->Nat->List V->Hp->Prop}
  (hc:X.calm=true) (ah:X.xe=λ_ _=>False) (T:Turn X.prog X.w X.K tg J j it F) (hg:PG X tg g) (ht:PTs X ifs tt) (he:PE X elt te) (p:j4 J D a g tt te Q W)
  (c:∀{H':Hp},(∀ b∈j,H' b=none)->∀ b∈j,FpOk X [] H' b)
  (ad:∀{σ':St}{H':Hp}{s':ej}{ys:List V},Inv X [] σ' H' s'->Q H' ys->R (.ok .next) s')
  {m0 i0:Nat}{C:List V}{H0:Hp}{s0:ej}(I0:Inv X [] a H0 s0) (N:F i0 s0.heap) (al:∀ b∈j,H0 b=none) (w0:W i0 m0 C H0) :
  GG (kw X.prog X.w) X.A (.compLoop (.ListComp elt [⟨tg,iter,ifs,0⟩] sc pos) 0 (.ref it) (.ref D) X.env) R s0:=by
 have f:∀{E':cX->ej->Prop}(e:cX) (s':ej),X.xe e s'->E' e s':=λ{E'} e s' z=>by rw[ah]at z;exact z.elim
 refine codeAny_loop rfl (λn s'=>∃ i ys H',Inv X [] a H' s'/\F i s'.heap/\(∀ b∈j,H' b=none)/\W i n ys H') ?_ m0 ⟨i0,C,H0,I0,N,al,w0⟩;rintro n O ⟨i,ys,Z,I3,s,B,w3⟩;show gV _ X.A ((compTurn (.ListComp elt [⟨tg,iter,ifs,0⟩] sc pos) 0 (.ref it) (.ref D) X.env).onRaise (λx=>do noteFrame x X.env;theTreesLotGoes x)) _ _ O;refine wpAny_noted ?_;rw[compTurn_list];refine cn (Ip (cn ?_));obtain⟨am,next⟩:=p i n ys Z w3
 rcases next with⟨A,q⟩ | ⟨go,E⟩
 .refine thn (T.done X rfl rfl rfl hc i [] O a Z _ I3 (c B) s A) λr s4 ⟨hr,I4⟩=>?_
  subst hr;exact eB (ad I4 q)
 .refine thn (T.item X rfl rfl rfl hc i [] O a Z _ I3 (c B) s go) λr s4 ⟨u,hr,h4⟩=>?_
  subst hr;refine cn (thn h4 λ_ s5 ⟨x,H5,I5,r5,y5,k,P⟩=>?_);have I:=I5.pinned (c P) (T.obj _ _ k)
  have h:∀{σ':St}{H':Hp}{s':ej},Inv X ([]++mC j s5.heap) σ' H' s'->Wk a σ'->Inv X [] a H' s'/\F (i+1) s'.heap/\∀ b∈j,H' b=none:=λ{σ' H' s'} m w=>by
   refine⟨(m.unpinned).weak w.len w.get,T.keep _ _ _ k λb G o e=>(m.pin (b,o) (pf _ (pf _ (gr G e)))).1,λb G=>?_⟩;obtain⟨o,e,d⟩:=T.obj _ _ k b G;exact(m.pin (b,o) (pf _ (pf _ (gr G e)))).2.1
  refine cn (tW (hg _ s5 a H5 x u _ I r5 (E x H5 y5)) (λ_ s6 ⟨l,H6,I6,w,q6⟩=>?_) f);refine cn (tW (ht _ s6 l H6 _ I6 q6) (λok s7 ⟨H7,m,q7⟩=>?_) f);cases ok with
  | false =>
   obtain⟨S,H,w7⟩:=q7;obtain⟨K,Y,M⟩:=h m w;exact eB ⟨rfl,S,H,i+1,ys,H7,K,Y,M,w7⟩
  | true =>
   refine cn (cn (tW (he _ s7 l H7 _ m q7) (λv s8 ⟨y,H8,I8,r8,ab,L,S,H,w8⟩=>?_) f));refine cn (tW (o6 _ s8 l H8 (.ref D) [y] (.ref D) [v] (λ_ H9=>H9=upd H8 D (.lst (ys++[y]))) I8 rfl (.cons r8 .nil) ⟨D,ys,y,rfl,rfl,ab,L,rfl⟩) (λ_ s9 ⟨z,H9,I9,_,e9⟩=>?_) f);subst e9;obtain⟨K,Y,M⟩:=h I9 w;exact eB (eB ⟨rfl,S,H,i+1,ys++[y],_,K,Y,M,w8⟩)
def oK{a:List (Addr×Obj)}{M:St}{H:Hp}{s:ej}{E:cX->ej->Prop}{RR:cX->Addr->Lb->ej->Prop}{Z:Addr}{i:List Addr}{v:Nat->Heap->Prop}{J:It}{Q:Addr->Hp->List V->Prop}
  (hc:X.calm=true) (c:CompOk X sc N ix) (B:Blk X sc N tg elt ifs g tt te) (I:Inv X a M H s) (T:Turn X.prog X.w X.K tg J i Z v) (st:v 0 s.heap) (hf:∀ b∈i,FpOk X a H b)
  (h:∀ D,H D=none->∃ W,(∃ m,W 0 m [] (upd H D (.lst [])))/\j4 J D (wv ix M) g tt te (Q D) W)
  (hR:∀ D C H' s' ys,Inv X a M H' s'->FpOk X a H' C->(∃ m,s'.heap.Ns C m)->Q D H' ys->RR (.ref D) C (.ok .next) s') :
  gV (kw X.prog X.w) X.A (newList []) (λacc s₃=>gV (kw X.prog X.w) X.A (newFunctionEnv sc X.env.globals (eY X.env.cells sc.names []) [] X.env.qual none .none (some X.env)) (λcenv s₄ =>
   GG (kw X.prog X.w) X.A (.compStart (.ListComp elt [⟨tg,iter,ifs,0⟩] sc pos) 0 (.ref Z) acc { cenv with scope:=II sc X.env }) (RR acc cenv.locals) s₄) E s₃) E s:=by
 have P:∀ b∈i,b<s.heap.objs.size:=λb f=>let ⟨o,e,_⟩:=T.obj _ _ st b f;fR e
 refine uS ?_ (by show 0<=sizeLine;exact ey _);have hD:H s.heap.objs.size=none:=I.hok.fresh (d_ _);obtain⟨W,⟨m0,w0⟩,w⟩:=h s.heap.objs.size hD;have G:Inv X a M (upd H s.heap.objs.size (.lst [])) { s with heap:=s.heap.push { cls:=.type "list",data:=.seq ([]:List cX).toArray } }:=I.lnew (t':=s.toks) (its:=[]) .nil (ey _);have k1:∀ b o,s.heap.get? b=some o->(s.heap.push { cls:=.type "list",data:=.seq ([]:List cX).toArray }).get? b=some o:=λb o e=>e_ _ e
 have R:∀ b∈i,b≠s.heap.objs.size:=λb f=>nl (P b f)
 have j:∀ b∈i,FpOk X a (upd H s.heap.objs.size (.lst [])) b:=λb f=>⟨by rw[aq (R b f)];exact(hf b f).1,(hf b f).2⟩
 have L:v 0 (s.heap.push { cls:=.type "list",data:=.seq ([]:List cX).toArray }):=T.keep _ _ _ st λb _ o e=>k1 b o e
 generalize hs1:({ s with heap:=s.heap.push { cls:=.type "list",data:=.seq ([]:List cX).toArray } }:ej)=s1 at G;have r:s1.heap=s.heap.push { cls:=.type "list",data:=.seq ([]:List cX).toArray }:=by rw[<- hs1]
 generalize hDe:s.heap.objs.size=D at *;show gV _ _ _ _ _ s1;refine KH c.nc (by intro y hy;simp at hy) (λh₁ hns₁ hsb₁=>?_) c.kind;have K:∀ b o,s1.heap.get? b=some o->h₁.get? b=some o:=λb o e=>(hsb₁.2 b (nl (fR e))).trans (e_ _ e)
 have k:∀ b∈i,b<s1.heap.objs.size:=λb f=>by
  obtain⟨o,e,_⟩:=T.obj _ _ L b f;rw[r];exact fR e
 have J0:=wB (h₁:=h₁) (t':=s1.toks+([]:List (Str×cX)).length) c G j k (d_ _) (by simpa using hns₁) K;have F:v 0 h₁:=T.keep _ _ _ (by rw[r];exact L:v 0 s1.heap) λb _ o e=>K b o e
 have O:∀{H':Hp},(∀ b∈i,H' b=none)->∀ b∈i,FpOk (cxB X sc s1.heap.objs.size N s1 (upd H D (.lst [])) i) [] H' b:=λ{H'} Y b f=>by
  obtain⟨f0,f1,f2,f3,f4,f5⟩:=j b f;refine⟨Y b f,nl (k b f),?_,.inl f,λx d e=>f4 x d (fg (c.cells I.ok) (λn c z=>by simp at z) e),λp hp=>absurd (show p∈([]:List (Addr×Obj)) from hp) (by simp)⟩;intro z
  rcases i_.mp (G.stkSub b z) with q | q
  .exact f1 q
  .exact f2 q
 have S:∀{A:St}{H':Hp}{s':ej}{ys:List V},Inv (cxB X sc s1.heap.objs.size N s1 (upd H D (.lst [])) i) [] A H' s'->Q D H' ys->RR (.ref D) s1.heap.objs.size (.ok .next) s':=λ{A H' s' ys} J q =>
  hR D _ H' s' ys (sX G j J) (G.fpOk (d_ _) J.free) (let ⟨m,Y,_⟩:=J.loc;⟨m,Y⟩) q
 have l:GG (kw X.prog X.w) X.A (.compLoop (.ListComp elt [⟨tg,iter,ifs,0⟩] sc pos) 0 (.ref Z) (.ref D) (cxB X sc s1.heap.objs.size N s1 (upd H D (.lst [])) i).env) (RR (.ref D) s1.heap.objs.size) { s1 with heap:=h₁,toks:=s1.toks+([]:List (Str×cX)).length } :=
  wf (X:=cxB X sc s1.heap.objs.size N s1 (upd H D (.lst [])) i) hc rfl T (B.tg _ _ _ _) (B.tests _ _ _ _) (B.elt _ _ _ _) w O S J0 F (λb f=>(j b f).1) w0
 exact codeAny_compStart_list l (T.self _ 0 _ _ _ F l)
def aN(w:X.calm=true)(c:CompOk X sc N ix)(K:PI X tg iter wi)(B:Blk X sc N tg elt ifs g tt te)(p:∀ x,IE iter X.env x=pure x:=by intro _;rfl):PE X (.ListComp elt [⟨tg,iter,ifs,0⟩] sc pos) (Cj ix wi g tt te):=by
 intro a s l H Q I h;rw[eval_ListComp];refine JO (use:=none) rfl p (gL (c.cells I.ok)) c.kind c.nm (thn (K a s l H _ I h) λxv j d=>thn d λitv s₂ h₂=>?_);obtain⟨it,Z,W,J,H2,e,L,T,i,k,P⟩:=h₂;subst e;refine oK (RR:=λf C=>compPost (kw X.prog X.w) X.A X.xe none (EP X a l Q) f C) (Q:=λD H _=>Q (.ref D) H) w c B L T i k P ?_;intro D C E M Y r G m q;refine⟨_,m.choose_spec,λh' R=>⟨.ref D,E,?_,rfl,q⟩⟩;obtain⟨y,v,k,F,A,O⟩:=G;exact r.turned (t':=M.toks) (λb o S e=>(R.2 b S).trans e) y v F A O
def b7{i:Nat}{y:Str}{j f:Pos}(Z:X.calm = true)(hN:X.N.Nodup)(hy:X.N[i]? = some y)(P:X.env.scope.names.lookup y = some .local)
  (w:He (.ListComp elt [⟨tg,iter,ifs,0⟩] sc pos) (some (.Name y j)) f.line X.env=pure true)
  (c:CompOk X sc N ix) (hi:PI X tg iter wi) (B:Blk X sc N tg elt ifs g tt te) (S:∀ x,IE iter X.env x=pure x:=by intro _;rfl) :
  PS X (.Assign [.Name y j] (.ListComp elt [⟨tg,iter,ifs,0⟩] sc pos) f) (yN (Cj ix wi g tt te) (iK i)):=by
 intro d s M H p I h;rw[exec_Assign_Name_used _ _ _ _ w];refine cn (Ip (cn ?_));show gV _ X.A (do let _ <- comprehension (.ListComp elt [⟨tg,iter,ifs,0⟩] sc pos) sc X.env _ (newList []) false (eval iter X.env) (some (IW (.Name y j) X.env))) _ _ s
 refine cn (tW (JO (use:=some (IW (.Name y j) X.env)) (Q:=λ_ l=>SP X d p .next l) rfl S (gL (c.cells I.ok)) c.kind c.nm
  (thn (hi d s M H _ I h) λxv G k=>thn k λitv s₂ h₂=>?_)) (λ_ l hq=>eB (eB hq)) λ_ _ e=>e)
 obtain⟨it,fp,tn,J,H2,e,I2,T,E,K,q2⟩:=h₂;subst e;refine oK (RR:=λA C=>compPost (kw X.prog X.w) X.A X.xe (some (IW (.Name y j) X.env)) (λ_ l=>SP X d p .next l) A C) (Q:=λD H _=>p.nx (M.set i (some (.ref D))) H) Z c B I2 T E K q2 ?_;intro D C H' l ys Y fC R q;show gV _ X.A (IW (.Name y j) X.env (.ref D)) _ _ _;obtain⟨f0,L,K,f3,O,f5⟩:=fC;refine Lw (pB Y hN hy (.inl P) (v:=.ref D) rfl (λW J2 ⟨a,sb,ha⟩=>?_) (.inr P));obtain⟨m,hn⟩:=R
 have r:C≠a:=by
  rcases ha with z | z
  .rw[z];exact L
  .exact λe=>O y a z e.symm
 refine⟨m,hn.sameBut sb r,λh3 F=>⟨_,H',?_,q⟩⟩;exact J2.turned (t':=W.toks) (λb o hb e=>(F.2 b hb).trans e) f0 L f3 O f5
end
section
variable {κ:Type}[DecidableEq κ]
def dG(kvs:List (κ×V))(k:κ):Option V:=(kvs.find? λkv=>decide (kv.1=k)).map (·.2)
def dR(kvs:List (κ×V))(k:κ)(v:V):List (κ×V) :=
 if (kvs.any λkv=>decide (kv.1=k))=true then kvs.map (λkv=>if kv.1=k then (kv.1,v) else kv) else kvs++[(k,v)]
def cf{p:κ×V}{r:List (κ×V)}{k:κ}(e:p.1=k):dG (p::r) k=some p.2:=by simp[dG,Gb,e]
def cg{p:κ×V}{r:List (κ×V)}{k:κ}(e:¬p.1=k):dG (p::r) k=dG r k:=by simp[dG,Gb,e]
theorem jL(k:κ):∀ kvs:List (κ×V),(kvs.any λkv=>decide (kv.1=k))=(dG kvs k).isSome
 | []=>rfl
 | p::r=>by
  rw[HV]
  by_cases e:p.1=k
  .simp only[cf e,decide_eq_true e,Bool.true_or,Option.isSome_some]
  .rw[cg e,decide_eq_false e,Bool.false_or];exact jL k r
theorem r9(k j:κ)(y:V):∀ kvs:List (κ×V),dG (kvs.map λkv=>if kv.1=k then (kv.1,y) else kv) j=(dG kvs j).map λx=>if j=k then y else x
 | []=>rfl
 | p::r=>by
  have a:=r9 k j y r;rw[l_]
  by_cases h:p.1=k
  .rw[if_pos h]
   by_cases e:p.1=j
   .rw[cf (p:=(p.1,y)) e,cf e,G5,if_pos (e.symm.trans h)]
   .rw[cg (p:=(p.1,y)) e,cg e,a]
  .rw[if_neg h]
   by_cases e:p.1=j
   .rw[cf (p:=p) e,cf e,G5,if_neg (λz=>h (e.trans z))]
   .rw[cg (p:=p) e,cg e,a]
theorem pj(k j:κ)(y:V):∀ kvs:List (κ×V),dG kvs k=none->dG (kvs++[(k,y)]) j=if j=k then some y else dG kvs j
 | [],_=>by
  by_cases e:k=j
  .rw[if_pos e.symm];exact cf (p:=(k,y)) e
  .rw[if_neg (λz=>e z.symm)];exact cg (p:=(k,y)) e
 | p::r,hn=>by
  rw[HX];have a:¬p.1=k:=λz=>by rw[cf z]at hn;cases hn
  rw[cg a]at hn;have b:=pj k j y r hn
  by_cases e:p.1=j
  .rw[cf e,cf e,if_neg (λz=>a (e.trans z))]
  .rw[cg e,cg e,b]
def rQ(kvs:List (κ×V))(k j:κ)(y:V):dG (dR kvs k y) j=if j=k then some y else dG kvs j:=by
 unfold dR
 by_cases a:(kvs.any λb=>decide (b.1=k))=true
 .rw[if_pos a,r9]
  rw[jL]at a
  by_cases e:j=k
  .obtain⟨x,c⟩:=IT.mp a
   rw[if_pos e,e,c,G5,if_pos rfl]
  .rw[if_neg e]
   cases dG kvs j with
   | none=>rfl
   | some x=>rw[G5,if_neg e]
 .rw[if_neg a]
  refine pj k j y kvs ?_;rw[jL]at a;cases q:dG kvs k with
  | none=>rfl
  | some x=>rw[q]at a;exact(a rfl).elim
def eZ(kvs:List (κ×V))(k:κ)(v:V):(dR kvs k v).length<=kvs.length+1:=by
 unfold dR
 split
 .rw[a_];lia
 .rw[ir,f_,Hw];lia
def RelO.isSome_eq{o:Option V}{u:Option cX}(r:RelO o u):o.isSome=u.isSome:=by
 cases o with
 | none=>cases u with
  | none=>rfl
  | some _=>exact(show False from r).elim
 | some _=>cases u with
  | none=>exact(show False from r).elim
  | some _=>rfl
def RelO.getD{o:Option V}{u:Option cX}{d:V}{d':cX}(r:RelO o u)(a:RelV d d'):RelV (o.getD d) (u.getD d'):=by
 cases o with
 | none=>cases u with
  | none=>exact a
  | some _=>exact(show False from r).elim
 | some _=>cases u with
  | none=>exact(show False from r).elim
  | some _=>exact r
def KV.val{kvs:List (κ×V)}{vs:List (κ×cX)}(r:KV kvs vs)(k:κ):RelO (dG kvs k) (IJ vs k):=by
 unfold KV at r
 induction r with
 | nil=>exact DP
 | @cons p q ps qs h t ih =>
  obtain⟨c,d⟩:=h
  by_cases e:p.1=k
  .have a:q.1=k:=c.symm.trans e
   have b:IJ (q::qs) k=some q.2:=by simp[IJ,Gb,a]
   rw[cf e,b];exact d
  .have a:¬q.1=k:=λz=>e (c.trans z)
   have b:IJ (q::qs) k=IJ qs k:=by simp[IJ,Gb,a]
   rw[cg e,b];exact ih
def KV.any{kvs:List (κ×V)}{vs:List (κ×cX)}(r:KV kvs vs)(k:κ):(kvs.any λkv=>decide (kv.1=k))=vs.any λkv=>decide (kv.1=k):=by
 unfold KV at r
 induction r with
 | nil=>rfl
 | cons h t ih=>rw[HV,HV,ih,h.1]
def KV.repl{kvs:List (κ×V)}{vs:List (κ×cX)}(r:KV kvs vs)(k:κ){y:V}{u:cX}(c:RelV y u) :
  KV (kvs.map λkv=>if kv.1=k then (kv.1,y) else kv) (vs.map λkv=>if kv.1=k then (kv.1,u) else kv):=by
 unfold KV at r ⊢
 induction r with
 | nil=>exact .nil
 | @cons p q ps qs h t ih =>
  rw[l_,l_];refine .cons ?_ ih;obtain⟨a,b⟩:=h
  by_cases e:p.1=k
  .rw[if_pos e,if_pos (a.symm.trans e)];exact⟨a,c⟩
  .rw[if_neg e,if_neg (λz=>e (a.trans z))];exact⟨a,b⟩
def KV.put{kvs:List (κ×V)}{vs:List (κ×cX)}(r:KV kvs vs)(k:κ){y:V}{u:cX}(a:RelV y u):KV (dR kvs k y) (stored vs k u):=by
 unfold dR stored;rw[r.any k]
 by_cases e:(vs.any λb=>decide (b.1=k))=true
 .rw[if_pos e,if_pos e];exact r.repl k a
 .rw[if_neg e,if_neg e];exact Paired.snoc r ⟨rfl,a⟩
def KV.length{kvs:List (κ×V)}{vs:List (κ×cX)}(r:KV kvs vs):kvs.length=vs.length:=gp r
end
def rP{P:gN}{w:ml}{k:Key}{u:cX}(r:RelV (kV k) u):(bH P w).is k u=true:=by
 cases k with
 | inl i=>obtain⟨t,e⟩:=(show ∃ t,u=Hl i t from r);subst e;exact rJ P w i t
 | inr x=>obtain⟨t,e⟩:=(show ∃ t,u=Ik x t from r);subst e;exact sj P w x t
theorem pA{P:gN}{w:ml}:∀{ks:List Key}{us:List cX},Vals (ks.map kV) us->ItemsAre (bH P w) ks us
 | [],_,r=>by rw[Lz]at r;cases r;exact .nil
 | k::ks,_,r=>by
  rw[l_]at r;cases r with
  | cons h t=>exact .cons (rP h) (pA t)
abbrev KT(H:Hp):List (List Key×V)->List (List Key×Addr×cX)->Prop:=Paired λp q=>p.1=q.1/\H q.2.1=some (.tup (p.1.map kV))/\RelV p.2 q.2.2
def KT.val{H:Hp}{kvs:List (List Key×V)}{xs:List (List Key×Addr×cX)}(r:KT H kvs xs)(k:List Key):RelO (dG kvs k) ((JB xs k).map (·.2)):=by
 induction r with
 | nil=>exact DP
 | @cons p q ps qs h t ih =>
  obtain⟨c,_,d⟩:=h
  by_cases e:p.1=k
  .have a:q.1=k:=c.symm.trans e
   have b:JB (q::qs) k=some q.2:=by simp[JB,Gb,a]
   rw[cf e,b];exact d
  .have a:¬q.1=k:=λz=>e (c.trans z)
   have b:JB (q::qs) k=JB qs k:=by simp[JB,Gb,a]
   rw[cg e,b];exact ih
def KT.repl{H:Hp}{kvs:List (List Key×V)}{xs:List (List Key×Addr×cX)}(r:KT H kvs xs)(k:List Key){y:V}{u:cX}(d:RelV y u) :
  KT H (kvs.map λkv=>if kv.1=k then (kv.1,y) else kv) (xs.map (putAt k u)):=by
 induction r with
 | nil=>exact .nil
 | @cons p q ps qs h t ih =>
  rw[l_,l_];refine .cons ?_ ih;obtain⟨a,b,c⟩:=h;unfold putAt
  by_cases e:p.1=k
  .rw[if_pos e,if_pos (a.symm.trans e)];exact⟨a,b,d⟩
  .rw[if_neg e,if_neg (λz=>e (a.trans z))];exact⟨a,b,c⟩
def KT.put{H:Hp}{kvs:List (List Key×V)}{xs:List (List Key×Addr×cX)}(r:KT H kvs xs)(k:List Key){b:Addr}{y:V}{u:cX}(d:H b=some (.tup (k.map kV)))(a:RelV y u) :
  KT H (dR kvs k y) (storedH xs k b u):=by
 have e:(kvs.any λc=>decide (c.1=k))=(JB xs k).isSome:=by
  rw[jL,(r.val k).isSome_eq,Gd]
 unfold dR storedH;rw[e]
 by_cases q:(JB xs k).isSome=true
 .rw[if_pos q,if_pos q];exact r.repl k a
 .rw[if_neg q,if_neg q];exact Paired.snoc r ⟨rfl,d,a⟩
def KT.keeps{H a:Hp}{kvs:List (List Key×V)}{xs:List (List Key×Addr×cX)}(r:KT H kvs xs)(c:∀ b ys,H b=some (.tup ys)->a b=some (.tup ys)):KT a kvs xs :=
 Paired.mapP r λ_ _ z=>⟨z.1,c _ _ z.2.1,z.2.2⟩
section
variable {P:gN}{w:ml}{H:Hp}{h:Heap}{a:Addr}
def Bx{u:HO}(b:HOk P w H h)(e:Rd H a u):ObjOk P w H h a u:=e.ok b
def pO{kvs:List (Key×V)}(b:HOk P w H h)(e:Rd H a (.dK kvs)):kvs.length<=sizeLine/\(a == uF)=false/\∃ vs,KV kvs vs/\h.DictOf (bH P w) a vs :=
 show ObjOk P w H h a (.dK kvs) from Bx b e
def Fc{kvs:List (Key×V)}(b:HOk P w H h)(e:H a=some (.dK kvs)):kvs.length<=sizeLine/\(a == uF)=false/\∃ vs,KV kvs vs/\h.DictOf (bH P w) a vs:=pO b (.inl e)
def nN{b:List Key}(g:HOk P w H h)(e:H a=some (.tup (b.map kV))):(GS (bH P w)).is h b a:=by
 obtain⟨_,c,r,o,f,i,n,d⟩:=(show ObjOk P w H h a (.tup (b.map kV)) from g a _ e)
 exact⟨o,c.toArray,n,f,i,d,by simpa using pA r⟩
def pd{kvs:List (List Key×V)}(c:HOk P w H h)(e:Rd H a (.dT kvs)):kvs.length<=sizeLine/\(a == uF)=false /\
  ∃ xs,KT H kvs xs/\h.DictOfH (GS (bH P w)) a xs:=by
 obtain⟨z,y,xs,r,o,g,d,i,k,f,s,j⟩:=(show ObjOk P w H h a (.dT kvs) from Bx c e)
 refine⟨z,y,xs,r,o,g,d,i,k,f,s,λx hx=>?_,j⟩
 have b:∀{l:List (List Key×V)}{m:List (List Key×Addr×cX)},KT H l m->∀ x∈m,(GS (bH P w)).is h x.1 x.2.1:=by
  intro l m q
  induction q with
  | nil=>intro x hx;exact nomatch hx
  | @cons p q ps qs hq t ih =>
   intro x hx
   rcases i_.mp hx with e | hx
   .subst e
    exact nN c (by rw[<- hq.1];exact hq.2.1)
   .exact ih x hx
 exact b r x hx
def EC{kvs:List (List Key×V)}(b:HOk P w H h)(e:H a=some (.dT kvs)):kvs.length<=sizeLine/\(a == uF)=false /\
  ∃ xs,KT H kvs xs/\h.DictOfH (GS (bH P w)) a xs:=pd b (.inl e)
end
def DGet(H:Hp)(a:Addr)(y:V)(r:Option V):Prop :=
 (∃ kvs k,Rd H a (.dK kvs)/\y=kV k/\r=dG kvs k)\/∃ kvs k b,Rd H a (.dT kvs)/\y=.ref b/\H b=some (.tup (k.map kV))/\r=dG kvs k
def DPut(H:Hp)(a:Addr)(y v:V)(H':Hp):Prop :=
 (∃ kvs k,H a=some (.dK kvs)/\y=kV k/\kvs.length<sizeLine/\H'=upd H a (.dK (dR kvs k v))) \/
 ∃ kvs k b,H a=some (.dT kvs)/\y=.ref b/\H b=some (.tup (k.map kV))/\kvs.length<sizeLine/\H'=upd H a (.dT (dR kvs k v))
def DGet.t{H:Hp}{a b:Addr}{kvs:List (List Key×V)}{k:List Key}(e:H a=some (.dT kvs))(c:H b=some (.tup (k.map kV))):DGet H a (.ref b) (dG kvs k):=.inr ⟨kvs,k,b,.inl e,rfl,c,rfl⟩
def DPut.t{H:Hp}{a b:Addr}{kvs:List (List Key×V)}{k:List Key}{v:V}(e:H a=some (.dT kvs))(c:H b=some (.tup (k.map kV)))(d:kvs.length<sizeLine) :
  DPut H a (.ref b) v (upd H a (.dT (dR kvs k v))):=.inr ⟨kvs,k,b,e,rfl,c,d,rfl⟩
section
variable {X:Cx}{pins:List (Addr×Obj)}{σ:St}{H:Hp}{s:ej}{a:Addr}{y v:V}{u r:cX}{o:Option V}{A:o3}{E:cX->ej->Prop}
def Inv.big(I:Inv X pins σ H s):uF<s.heap.objs.size:=by
 have h:xj<s.heap.objs.size:=(I.mod.glob.keeps I.bk).lt;exact Nat.lt_trans (by decide) h
def wK{Q:cX->ej->Prop}(D:A.units+1<G8)(I:Inv X pins σ H s)(g:DGet H a y (some v))(w:RelV y u)(h:∀ w' s',Inv X pins σ H s'->RelV v w'->Q w' s') :
  gV (kw X.prog X.w) A (Hs (.ref a) u) Q E s:=by
 rcases g with⟨j,k,e,m,l⟩ | ⟨j,k,b,e,m,B,l⟩
 .subst m
  obtain⟨z,G,x,d,i⟩:=pO I.hok e;obtain⟨w',f,c⟩:=RelO.some_of (v:=v) (o:=IJ x k) (by rw[l];exact d.val k);exact wpAny_getItem_of (rP w) i.mapOf f (h w' _ (I.tok _) c)
 .subst m
  cases(show u=mr b from w);obtain⟨z,G,F,d,i⟩:=pd I.hok e;obtain⟨w',f,c⟩:=RelO.some_of (v:=v) (o:=(JB F k).map (·.2)) (by rw[l];exact d.val k);obtain⟨p,C,r⟩:=Option.map_eq_some_iff.mp f;refine wpAny_getItem_heap (GX D) (nN I.hok B) i C ?_;rw[r];exact h w' _ (I.tok _) c
def Aq{Q:cX->ej->Prop}(r:A.units+1<G8)(I:Inv X pins σ H s)(g:DGet H a y o)(m:RelV y u)(h:∀ s',Inv X pins σ H s'->Q (.bool (!o.isSome)) s') :
  gV (kw X.prog X.w) A (nf .NotIn u (.ref a)) Q E s:=by
 rcases g with⟨i,k,e,f,l⟩ | ⟨i,k,b,e,f,p,l⟩
 .subst f
  obtain⟨z,j,v,c,d⟩:=pO I.hok e;refine wpAny_notIn_of (rP m) j d.mapOf ?_;rw[<- (c.val k).isSome_eq,<- l];exact h _ (I.tok _)
 .subst f
  cases(show u=mr b from m);obtain⟨z,j,w,c,d⟩:=pd I.hok e;refine wpAny_notIn_heap (GX r) (nN I.hok p) j d ?_;have q:=(c.val k).isSome_eq;rw[Gd]at q;rw[<- q,<- l];exact h _ (I.tok _)
def uL{h':Heap}{t':Nat}{c:HO}(I:Inv X pins σ H s)(f:Mut (H a))(g:GF a s.heap h')(i:∃ q,h'.get? a=some q)(d:ObjOk X.prog X.w (upd H a c) h' a c) :
  Inv X pins σ (upd H a c) { s with heap:=h',toks:=t' } :=
 I.write (x:=a) (e:=a) f (.inl rfl) (λb q h z=>(g.2 b h).trans z) i d
def CT{P:gN}{w:ml}{c:Hp}{h':Heap}{kvs:List (Key×V)}{vs:List (Key×cX)}(z:kvs.length<=sizeLine)(e:(a == uF)=false)(b:KV kvs vs)(d:h'.DictOf (bH P w) a vs) :
  ObjOk P w c h' a (.dK kvs):=⟨z,e,vs,b,d⟩
def ww{K:Hp}{Q:Unit->ej->Prop}(M:A.units+1<G8)(I:Inv X pins σ H s)(g:DPut H a y v K)(D:RelV y u)(J:RelV v r)(h:∀ s',Inv X pins σ K s'->Q () s') :
  gV (kw X.prog X.w) A (Lv (.ref a) u r) Q E s:=by
 rcases g with⟨d,k,e,w,l,x⟩ | ⟨d,k,b,e,w,F,l,x⟩
 .subst w x
  obtain⟨z,C,L,f,m⟩:=Fc I.hok e;have p:L.length<=sizeLine:=by rw[<- f.length];exact z
  have B:(dR d k v).length<=sizeLine:=by have:=eZ d k v;lia
  refine wpAny_setItem_pairs (hsz:=p) (rP D) m λG i o=>h _ ?_
  have P:∃ q,G.get? a=some q:=let ⟨q,_,_,j,_⟩:=i;⟨q,j⟩;exact uL I (by rw[e];exact DP) o P (CT B C (f.put k J) i)
 .subst w x
  cases(show u=mr b from D);obtain⟨z,C,T,f,m⟩:=EC I.hok e;have p:T.length<=sizeLine:=by rw[<- gp f];exact z
  have B:(dR d k v).length<=sizeLine:=by have:=eZ d k v;lia
  refine wpAny_setItem_heap (hsz:=p) (GX M) (nN I.hok F) m λG i o=>h _ ?_
  obtain⟨q,N,R,j,O,S,Y,_,W⟩:=i;refine uL I (by rw[e];exact DP) o ⟨q,j⟩ ⟨B,C,_,(f.put k F J).keeps λc ys ec=>?_,q,N,R,j,O,S,Y,W⟩;rw[aq (BY ec e (λz=>nomatch z))];exact ec
end
def EE(i:Expr):Prop:=∀ ov iv,Jj i false ov iv=operate [ov,iv] (Hs ov iv)
def Aw{prog:gN}{w:ml}{A:o3}{E:cX->ej->Prop}{s:ej}{env:Env}{b a:Expr}{j:Pos}{T m:String}{Q:cX->ej->Prop}
  (l:Jy (.type T) "__getitem__" = pure (some (.builtin m))) (p:EE a)
  (h:gV (kw prog w) A (eval b env) (λo s₁=>gV (kw prog w) A (eval a env) (λi s₂=>s₂.TypeIs o T/\gV (kw prog w) A (Hs o i) Q E s₂) E s₁) E s) :
  gV (kw prog w) A (eval (.Subscript b a j) env) Q E s:=by
 refine Le (tW h (λo s₁ g=>tW g (λi s₂ c=>?_) λ_ _ x=>x) λ_ _ x=>x);obtain⟨k,c⟩:=c;unfold JN;refine cn ?_;rw[getitemInPython_of_ne k.not_modules];refine cn (GN k l ?_)
 have e:gV (kw prog w) A (Jj a false o i) (λr d=>gV (kw prog w) A (letTemporaryGo b o r >>= λ_=>pure r) Q E d) E s₂:=by
  rw[p o i];exact wpAny_operating (tW c (λr d f=>cn (wpAny_letTemporaryGo (eB f))) λ_ _ x=>x)
 first
  | exact eB (cn e)
  | exact cn (eB (cn e))
  | exact cn e
def sS{X:Cx}{c:List (Addr×Obj)}{h:St}{H:Hp}{s:ej}{a:Addr}{y:V}{o:Option V}(I:Inv X c h H s)(g:DGet H a y o):s.TypeIs (.ref a) "dict" := by
 rcases g with⟨f,k,e,_,_⟩ | ⟨f,k,b,e,_,_,_⟩
 .obtain⟨_,_,i,_,d⟩:=pO I.hok e
  exact d.typeIs
 .obtain⟨_,_,j,_,d⟩:=pd I.hok e
  exact d.typeIs
inductive rDGet(x y:V)(H:Hp)(Q:VK):Prop
 | mk(a:Addr)(v:V)(h0:x=.ref a)(h1:DGet H a y (some v))(h2:Q v H):rDGet x y H Q
def DW(td ty:TE):TE:=λσ H Q=>td σ H λx H1=>ty σ H1 λy H2=>rDGet x y H2 Q
def zV(ty td:TE):TE:=λσ H Q=>ty σ H λy H1=>td σ H1 λx H2=>∃ a o,x=.ref a/\DGet H2 a y o/\Q (.bl (!o.isSome)) H2
def EN(td ty tv:TE):TS:=λD σ H=>tv σ H λv H1=>td σ H1 λx H2=>ty σ H2 λy H3=>∃ a H4,x=.ref a/\DPut H3 a y v H4/\D.nx σ H4
section
variable {X:Cx}{o i e value:Expr}{pos pos':Pos}{td ty tv:TE}
def gz(m:X.A.units+1<G8)(f:PE X o td)(A:PE X i ty)(w:EE i):PE X (.Subscript o i pos) (DW td ty):=by
 intro b s d H Q I h;refine Aw PySem.F.slot_dict_getitem.lookup w (thn (f b s d H _ I h) λu j ⟨x,l,p,r,k⟩=>thn (A b j d l _ p k) λiv s2 ⟨y,H2,I2,ry,a,v,ex,g,q2⟩=>?_);subst ex;obtain rfl:u=mr a:=r;exact⟨sS I2 g,wK m I2 g ry λB C e c=>⟨v,H2,e,c,q2⟩⟩
def wx(m:X.A.units+1<G8)(r:PE X i ty)(f:PE X o td):PC X .NotIn i o (zV ty td):=by
 intro b s c H Q I h;refine thn (r b s c H _ I h) λv j ⟨y,l,p,e,k⟩=>thn (f b j c l _ p k) λu s2 ⟨x,H2,I2,rx,a,ov,ex,g,q2⟩=>?_
 subst ex;obtain rfl:u=mr a:=rx
 exact Aq m I2 g e λw d=>⟨.bl (!ov.isSome),H2,d,rfl,q2⟩
def iS(m:X.A.units+1<G8)(d:PE X o td)(A:PE X i ty)(e:PE X value tv)(w:He value (some (.Subscript o i pos')) pos.line X.env=pure false) :
  PS X (.Assign [.Subscript o i pos'] value pos) (EN td ty tv):=by
 intro b s c H D I h;refine wpAny_Assign_Subscript (thn (e b s c H _ I h) λr f ⟨v,k,p,B,j⟩=>thn (d b f c k _ p j) λu s2 ⟨x,H2,I2,rx,q2⟩=>thn (A b s2 c H2 _ I2 q2) λiv s3 ⟨y,H3,I3,ry,a,H4,ex,g,q3⟩=>?_) w;subst ex;obtain rfl:u=mr a:=rx
 exact ww m I3 g ry B λC l=>⟨c,H4,l,q3⟩
end
def xb{P:gN}{w:ml}{H:Hp}(h:Heap)(a:uF<h.objs.size):ObjOk P w H (h.push { cls:=.type "dict",data:=.dict #[] }) h.objs.size (.dT []) :=
 ⟨ey _,beq_eq_false_iff_ne.mpr (FZ (nl a)),[],.nil,_,#[],0,h_ _ rfl,⟨rfl,rfl,rfl⟩,rfl,rfl,GV⟩
def C4:TE:=λ_ H Q=>∀ p,H p=none->Q (.ref p) (upd H p (.dT []))
section
variable {X:Cx}{pos:Pos}
def nH:PE X (.Dict [] [] pos) C4:=λb s c H Q I h =>
 wpAny_Dict_empty ⟨.ref s.heap.objs.size,_,I.laid (a:=s.heap.objs.size) (o:=.dT []) (t':=s.toks) (λ_ _ q=>e_ _ q) (d_ _) (xb s.heap I.big),rfl,h _ (I.hok.fresh (d_ _))⟩
end
structure M2(X:Cx)(o:Expr)(m:Str)(apos:Pos)(e f:Expr)(cpos:Pos):Prop where
 base:A6 o m X.env (eval o X.env)=eval o X.env
 few:((tp cpos (fI [e,f] X.env)).all (λx=>!x.1) && (GJ cpos (E3 [] X.env)).all (λx=>x.1.isSome)
  && decide (([e,f]:List Expr).length+([]:List F4).length+(if ([]:List F4).isEmpty then 0 else 1)<30))=true
 line:(apos.endLine == cpos.line)=true
 trees:tp cpos (fI [e,f] X.env)=[(false,eval e X.env),(false,eval f X.env)]
def IsD(H:Hp)(a:Addr):Prop:=(∃ kvs,Rd H a (.dK kvs))\/∃ kvs,Rd H a (.dT kvs)
def DA{X:Cx}{f:List (Addr×Obj)}{k:St}{H:Hp}{s:ej}{a:Addr}(I:Inv X f k H s)(d:IsD H a) :
  s.TypeIs (.ref a) "dict" /\ (∀ b,mr a=.ref b->∃ ob,s.heap.get? b=some ob/\ob.dict=none)/\(a == uF)=false:=by
 rcases d with⟨g,e⟩ | ⟨g,e⟩
 .obtain⟨_,h,l,_,c⟩:=pO I.hok e
  refine⟨c.typeIs,λb q=>?_,h⟩;cases q;obtain⟨ob,_,_,i,j,_⟩:=c;exact⟨ob,i,j.2.1⟩
 .obtain⟨_,h,m,_,c⟩:=pd I.hok e
  refine⟨c.typeIs,λb q=>?_,h⟩;cases q;obtain⟨ob,_,_,i,j,_⟩:=c;exact⟨ob,i,j.2.1⟩
section
variable {X:Cx}{pins:List (Addr×Obj)}{σ:St}{H:Hp}{s:ej}{a:Addr}{y d:V}{u r:cX}{o:Option V}{A:o3}{E:cX->ej->Prop}
def Dd{Q:cX->ej->Prop}(B:A.units+1<G8)(I:Inv X pins σ H s)(g:DGet H a y o)(p:RelV y u)(v:RelV d r)(h:∀ w' s',Inv X pins σ H s'->RelV (o.getD d) w'->Q w' s') :
  gV (kw X.prog X.w) A (call (.builtin "dict.get") [.ref a,u,r]) Q E s:=by
 rcases g with⟨i,k,e,j,l⟩ | ⟨i,k,b,e,j,w,l⟩
 .subst j
  obtain⟨z,m,C,c,f⟩:=pO I.hok e;refine Kg G6 f.typeIs IZ (IU _ _ _) (meets_dict_get_default (bH X.prog X.w) a (rP p) m r) ⟨_,f.mapOf,h _ _ (I.tok _) ?_⟩;rw[l];exact(c.val k).getD v
 .subst j
  cases(show u=mr b from p);obtain⟨z,m,x,c,f⟩:=pd I.hok e;refine Kg G6 f.typeIs IZ (IU _ _ _) (meetsH_dict_get_default (GS (bH X.prog X.w)) a b m r) ⟨GX B,k,x,nN I.hok w,f,h _ _ (I.tok _) ?_⟩;rw[l];exact(c.val k).getD v
end
def Dj(td ty tx:TE):TE:=λσ H Q=>td σ H λx H1=>∃ a,x=.ref a/\IsD H1 a/\ty σ H1 λy H2=>tx σ H2 λz H3=>∃ o,DGet H3 a y o/\Q (o.getD z) H3
section
variable {X:Cx}{o e f:Expr}{apos cpos:Pos}{td ty tx:TE}
def zw(p:X.A.units+1<G8)(C:PE X o td)(J:PE X e ty)(D:PE X f tx)(m:M2 X o "get" apos e f cpos):PE X (.Call (.Attribute o "get" apos) [e,f] [] cpos) (Dj td ty tx):=by
 intro b s c H Q I h;refine wpAny_Call_method m.base m.few m.line PySem.F.plainAttrs_dict G6 PySem.F.type_dict_get (thn (C b s c H _ I h) λu E ⟨x,G,j,r,a,P,d,B⟩=>?_);subst P;obtain rfl:u=mr a:=r;obtain⟨N,A,_⟩:=DA j d;refine⟨N,A,?_⟩;rw[m.trees]
 refine Jp rfl (Jz (GI (thn (J b E c G _ j B) λT v ⟨y,R,L,k,O⟩ =>
  GI (thn (D b v c R _ L O) λZ S ⟨z,F,K,w,ov,g,M⟩=>HS ?_))))
 exact Dd p K g k w λW Y l i=>⟨_,F,l,i,M⟩
end
def OpR.imp{X:Cx}{f:cX->cX->Sem cX}{r b:R2}(h:OpR X f r)(i:∀ x y H Q,b x y H Q->r x y H Q):OpR X f b :=
 λa s e H x y v u Q I d c q=>h a s e H x y v u Q I d c (i x y H Q q)
def CallR.imp{X:Cx}{f:cX}{r b:List V->Hp->VK->Prop}(h:CallR X f r)(i:∀ xs H Q,b xs H Q->r xs H Q):CallR X f b :=
 λa s d H xs c Q I e q=>h a s d H xs c Q I e (i xs H Q q)
def tV(i:Nat):TE:=λσ H Q=>match σ[i]? with
 | some (some v)=>Q v H
 | _=>False
def vr{X:Cx}(i:Nat){x:Str}{b:Pos}(j:X.N[i]? = some x:=by rfl)(d:Vis X.env.scope x:=by first | exact m_ rfl | exact GZ (m_ rfl) | exact GZ (GZ rfl))(f:(x == ("__debug__" : Str))=false:=by decide)
  (c:(x == ("__classdict__" : Str))=false:=by decide):PE X (.Name x b) (tV i):=λa s g H Q I h=>by
 refine wO j d f c a s g H Q I ?_;unfold tV at h
 split at h
 .rename_i v e
  exact⟨v,e,h⟩
 .exact h.elim
def rI2(g:Int->Int->V):R2:=λx y H Q=>match x,y with
 | .int i,.int j=>Q (g i j) H
 | _,_=>False
def rIC(C:Int->Int->Prop)(g:Int->Int->V):R2:=λx y H Q=>match x,y with
 | .int i,.int j=>C i j/\Q (g i j) H
 | _,_=>False
def OpR.i2{X:Cx}{f:cX->cX->Sem cX}{g:Int->Int->V}(h:OpR X f (rI0 g)):OpR X f (rI2 g):=h.imp λx y H Q q=>by
 cases x <;> cases y <;> first | exact⟨_,_,rfl,rfl,q⟩ | exact(show False from q).elim
def OpR.ic{X:Cx}{f:cX->cX->Sem cX}{C:Int->Int->Prop}{g:Int->Int->V}(h:OpR X f (rI C g)):OpR X f (rIC C g):=h.imp λx y H Q q=>by
 cases x <;> cases y <;> first | exact⟨_,_,rfl,rfl,q.1,q.2⟩ | exact(show False from q).elim
section
variable {X:Cx}
def Ew:R2:=λx y H Q=>match x,y with
 | .int i,.int j=>Q (.int (i+j)) H
 | .str i,.str j=>i.length+j.length<=sizeLine/\Q (.str (i++j)) H
 | _,_=>False
def cK:OpR X (D0 .Add) Ew:=(op_add.or uG).imp λx y H Q q=>by
 cases x <;> cases y <;> first | exact .inl ⟨_,_,rfl,rfl,q⟩ | exact .inr ⟨_,_,rfl,rfl,q.1,q.2⟩ | exact(show False from q).elim
def bZ:OpR X (D0 .Sub) (rI2 λi j=>.int (i - j)):=op_sub.i2
def EX(i j:Int):Prop:=0<j
def cp{i j:Int}(h:0<j:=by decide):EX i j:=h
def cd{i j:Int}(h:0<j:=by decide)(a:j<1073741824:=by decide):FJ i j:=⟨h,a⟩
def cw{i j:Int}(h:0<=j:=by decide)(b:j<=1000000:=by decide)(a:i.natAbs<2 ^ 64:=by decide):Dh i j:=⟨h,b,a⟩
def cl{i j:Int}(h:-(2 ^ 64)<i:=by decide)(a:i<2 ^ 64:=by decide):CMul i j:=.inl ⟨h,a⟩
def cr{i j:Int}(h:-(2 ^ 64)<j:=by decide)(a:j<2 ^ 64:=by decide):CMul i j:=.inr ⟨h,a⟩
def cJ:OpR X (D0 .Mod) (rIC EX λi j=>.int (i % j)):=op_mod.ic
def xn:OpR X (D0 .Pow) (rIC Dh λi j=>.int (i ^ j.toNat)):=op_pow.ic
def wn:OpR X (nf .LtE) (λx y H Q=>∃ i j,x=.str i/\y=.str j/\Q (.bl (!decide (j.cps.toList<i.cps.toList))) H):=by
 intro a s e H x y v u Q I c b h;obtain⟨i,j,rfl,rfl,q⟩:=h;obtain⟨t,rfl⟩:=c;obtain⟨d,rfl⟩:=b;exact PySem.P.le_str (aS I q rfl)
def BF(f:Int->Int->Bool)(g:Str->Str->Bool):R2:=λx y H Q=>match x,y with
 | .int i,.int j=>Q (.bl (f i j)) H
 | .str i,.str j=>Q (.bl (g i j)) H
 | _,_=>False
def oy:OpR X (nf .Lt) (BF (λi j=>decide (i<j)) λi j=>decide (i.cps.toList<j.cps.toList)):=(op_lt.or vY).imp λx y H Q q=>by
 cases x <;> cases y <;> first | exact .inl ⟨_,_,rfl,rfl,q⟩ | exact .inr ⟨_,_,rfl,rfl,q⟩ | exact(show False from q).elim
def jt:OpR X (nf .LtE) (BF (λi j=>decide (i<=j)) λi j=>!decide (j.cps.toList<i.cps.toList)):=(op_le.or wn).imp λx y H Q q=>by
 cases x <;> cases y <;> first | exact .inl ⟨_,_,rfl,rfl,q⟩ | exact .inr ⟨_,_,rfl,rfl,q⟩ | exact(show False from q).elim
def yx:OpR X (nf .Gt) (rI2 λi j=>.bl (decide (j<i))):=op_gt.i2
def EG:OpR X (nf .GtE) (rI2 λi j=>.bl (decide (j<=i))):=op_ge.i2
def DU(neg:Bool):R2:=λx y H Q=>match x,y with
 | .int i,.int j=>Q (.bl (if neg then !decide (i=j) else decide (i=j))) H
 | .str i,.str j=>Q (.bl (if neg then !decide (i=j) else decide (i=j))) H
 | .bl i,.bl j=>Q (.bl (if neg then !decide (i=j) else decide (i=j))) H
 | .non,.non=>Q (.bl (!neg)) H
 | .non,.int _=>Q (.bl neg) H
 | .non,.str _=>Q (.bl neg) H
 | .non,.bl _=>Q (.bl neg) H
 | .int _,.non=>Q (.bl neg) H
 | .str _,.non=>Q (.bl neg) H
 | .bl _,.non=>Q (.bl neg) H
 | .int _,.str _=>Q (.bl neg) H
 | .str _,.int _=>Q (.bl neg) H
 | _,_=>False
def dJ:OpR X (nf .Eq) (DU false):=op_eq.imp λx y H Q q=>by
 cases x <;> cases y <;> first | exact(show False from q).elim | exact⟨rfl,q⟩ | exact⟨rfl,by rw[l7];exact q⟩ | exact⟨rfl,by rw[qy];exact q⟩ | exact⟨rfl,by rw[lZ];exact q⟩
def CM:OpR X (nf .NotEq) (DU true):=op_ne.imp λx y H Q q=>by
 cases x <;> cases y <;> first | exact(show False from q).elim | exact⟨rfl,q⟩ | exact⟨rfl,by rw[l7];exact q⟩ | exact⟨rfl,by rw[qy];exact q⟩ | exact⟨rfl,by rw[lZ];exact q⟩
def rU1(g:Int->V):V->Hp->VK->Prop:=λx H Q=>match x with
 | .int i=>Q (g i) H
 | _=>False
def mZ:UnR X (unaryOp .USub) (rU1 λi=>.int (-i)):=λa s b H x v Q I r q=>Dr a s b H x v Q I r (by
 cases x <;> first | exact⟨_,rfl,q⟩ | exact(show False from q).elim)
def FV:OpR X (nf .Is) (λx y H Q=>match y with | .non=>Q (.bl (decide (x=.non))) H | _=>False):=op_isN.imp λx y H Q q=>by
 cases y <;> first | exact⟨rfl,q⟩ | exact(show False from q).elim
def lY:OpR X (nf .IsNot) (λx y H Q=>match y with | .non=>Q (.bl (!decide (x=.non))) H | _=>False):=op_notN.imp λx y H Q q=>by
 cases y <;> first | exact⟨rfl,q⟩ | exact(show False from q).elim
def FG(neg:Bool):R2:=λx y H Q=>match x,y with
 | .str i,.str j=>Q (.bl (if neg then (rc j i 0 j.length 1).isEmpty else !(rc j i 0 j.length 1).isEmpty)) H
 | _,_=>False
def EM:OpR X (nf .In) (FG false):=op_in_str.imp λx y H Q q=>by
 cases x <;> cases y <;> first | exact⟨_,_,rfl,rfl,q⟩ | exact(show False from q).elim
def mB(Q:Bool->Hp->Prop):VK:=λx H=>match x with
 | .bl c=>Q c H
 | _=>False
variable {a b c:Expr}{ta tb tc:TE}{pos:Pos}{rest:List Expr}
def Fm(ta tb:TE):TE:=λσ H Q=>ta σ H (mB λc H1=>if c=true then tb σ H1 Q else Q (.bl false) H1)
def mOr(ta tb:TE):TE:=λσ H Q=>ta σ H (mB λc H1=>if c=true then Q (.bl true) H1 else tb σ H1 Q)
def Fp(ta:TE):TE:=λσ H Q=>ta σ H (mB λc H1=>Q (.bl (!c)) H1)
def iy{Q:Bool->Hp->Prop}{x:V}{H:Hp}(h:mB Q x H):∃ c,x=.bl c/\Q c H:=by
 cases x <;> first | exact⟨_,rfl,h⟩ | exact(show False from h).elim
def bE(l:PE X a ta)(m:PE X (.BoolOp .And (b::rest) pos) tb):PE X (.BoolOp .And (a::b::rest) pos) (Fm ta tb):=by
 intro d s i H Q I h;refine BoolOp_and (thn (l d s i H _ I h) λv j ⟨x,f,g,k,e⟩=>?_);obtain⟨c,rfl,e⟩:=iy e;cases k;refine qj ?_;cases c with
 | true=>exact m d j i f Q g e
 | false=>exact⟨.bl false,f,g,rfl,e⟩
def Do(l:PE X a ta)(m:PE X (.BoolOp .Or (b::rest) pos) tb):PE X (.BoolOp .Or (a::b::rest) pos) (mOr ta tb):=by
 intro d s i H Q I h;refine BoolOp_or (thn (l d s i H _ I h) λv j ⟨x,f,g,k,e⟩=>?_);obtain⟨c,rfl,e⟩:=iy e;cases k;refine qj ?_;cases c with
 | false=>exact m d j i f Q g e
 | true=>exact⟨.bl true,f,g,rfl,e⟩
def BM(g:PE X a ta):PE X (.UnaryOp .Not a pos) (Fp ta):=by
 intro b s j H Q I h;refine LO (thn (g b s j H _ I h) λv k ⟨x,e,i,f,d⟩=>?_);obtain⟨c,rfl,d⟩:=iy d;cases f;exact not_of (qj ⟨.bl (!c),e,i,rfl,d⟩)
def mT(t:TE):TT:=λσ H Q=>t σ H (mB Q)
def bK(h:PE X a ta)(k:∀ whole,J8 a X.env whole=(do let v <- whole;Ju a.pos;Hr [v] (J_ v)):=by intro _;rfl):PT X a (mT ta):=by
 intro b s j H Q I c;refine IF (thn (h b s j H _ I c) λv l ⟨x,f,i,g,e⟩=>?_) (k _);obtain⟨d,rfl,q⟩:=iy e;cases g;exact qj ⟨f,i,q⟩
def aO{f:JW}{r:R2}(j:OpR X (nf f) r)(C:PE X a ta)(E:PE X b tb)(i:Gf f b=false):PT X (.Compare a [f] [b] pos) (mT (tOp r ta tb)):=by
 intro d s g H Q I h
 refine Kq (thn (C d s g H _ I h) λv w ⟨x,A,D,B,p⟩=>thn (E d w g A _ D p) λu s2 ⟨y,H2,I2,r2,q2⟩ =>
  thn (j d s2 g H2 x y v u _ I2 B r2 q2) λc F ⟨z,o,l,m,e⟩=>?_) i
 obtain⟨k,rfl,e⟩:=iy e;cases m;exact qj ⟨o,l,e⟩
def yC(r r':R2)(ta tb tc:TE):TE:=λσ H Q=>ta σ H λx H1=>tb σ H1 λy H2=>r x y H2 (mB λk H3=>if k=true then tc σ H3 λw' H4=>r' y w' H4 Q else Q (.bl false) H3)
def md{l f:JW}{r m:R2}(M:OpR X (nf l) r)(j:OpR X (nf f) m)(T:PE X a ta)(W:PE X b tb)(F:PE X c tc)
  (w:lastMarks [l,f] [b,c]=false:=by with_unfolding_all rfl):PE X (.Compare a [l,f] [b,c] pos) (yC r m ta tb tc):=by
 intro e s g H Q I h
 refine Compare_chain (thn (T e s g H _ I h) λv O ⟨x,P,R,G,E⟩=>chain_link (thn (W e O g P _ R E) λu s2 ⟨y,H2,I2,r2,q2⟩ =>
  thn (M e s2 g H2 x y v u _ I2 G r2 q2) λd J ⟨z,o,p,A,i⟩=>?_)) w
 obtain⟨k,rfl,i⟩:=iy i;cases A;refine qj ?_;cases k with
 | false=>exact ite_ff ⟨.bl false,o,p,rfl,i⟩
 | true=>exact ite_tt (chain_last (thn (F e J g o _ p i) λN S ⟨C,K,B,D,L⟩=>j e S g K y C u N Q B r2 D L))
def vH{m f:JW}{r o:R2}(N:OpR X (nf m) r)(l:OpR X (nf f) o)(W:PE X a ta)(Y:PE X b tb)(G:PE X c tc)
  (A:lastMarks [m,f] [b,c]=false:=by with_unfolding_all rfl):PT X (.Compare a [m,f] [b,c] pos) (mT (yC r o ta tb tc)):=by
 intro e s g H Q I h
 refine isTrue_chain (thn (W e s g H _ I h) λv P ⟨x,R,S,J,F⟩=>test_link (thn (Y e P g R _ S F) λu s2 ⟨y,H2,I2,r2,q2⟩ =>
  thn (N e s2 g H2 x y v u _ I2 J r2 q2) λd K ⟨z,p,w,B,i⟩=>?_)) A
 obtain⟨k,rfl,i⟩:=iy i;cases B;refine qj ?_;cases k with
 | false=>exact ite_ff ⟨p,w,i⟩
 | true =>
  refine ite_tt (test_last (thn (G e K g p _ w i) λO T ⟨D,L,C,E,M⟩=>thn (l e T g L y D u O _ C r2 E M) λd' s5 ⟨z2,H5,I5,r5,j⟩=>?_));obtain⟨Z,rfl,j⟩:=iy j;cases r5;exact qj ⟨H5,I5,j⟩
open PySem.W in
def yZ{e:List (Addr×Obj)}{j:St}{H:Hp}{s:ej}{x:V}{u t:cX}(I:Inv X e j H s)(b:RelV x u)(ty:TyOf X.K H x t) :
  ∃ Hh:Heap->Prop,KitX X.K u t Hh/\Hh s.heap/\u≠.builtin "__main__.__loader__#opaque" := by
 cases ty with
 | non=>cases(show u=F_ from b);exact⟨_,PySem.W.kitx_none,DP,λz=>nomatch z⟩
 | bl y=>cases(show u=HI y from b);exact⟨_,PySem.W.kitx_bool,DP,λz=>nomatch z⟩
 | int i=>obtain⟨t,q⟩:=(show ∃ t,u=Hl i t from b);cases q;exact⟨_,PySem.W.kitx_int,DP,λz=>nomatch z⟩
 | str y=>obtain⟨t,q⟩:=(show ∃ t,u=Ik y t from b);cases q;exact⟨_,PySem.W.kitx_str,DP,λz=>nomatch z⟩
 | flt y=>obtain⟨t,q⟩:=(show ∃ t,u=Jx y t from b);cases q;exact⟨_,PySem.W.kitx_float,DP,λz=>nomatch z⟩
 | @lst a d ea =>
  cases(show u=mr a from b)
  obtain⟨_,_,n,_,c⟩:=(show ObjOk X.prog X.w H s.heap a (.lst d) from I.hok a _ ea)
  exact⟨_,kitx_list,⟨_,c,rfl⟩,λz=>nomatch z⟩
 | @frz a ob d ea =>
  cases(show u=mr a from b)
  obtain⟨_,_,_,n,_,c⟩:=(show ObjOk X.prog X.w H s.heap a (.frz ob (.lst d)) from I.hok a _ ea)
  exact⟨_,kitx_list,⟨_,c,rfl⟩,λz=>nomatch z⟩
 | @tup a d ea =>
  cases(show u=mr a from b)
  obtain⟨_,_,_,p⟩:=(show ObjOk X.prog X.w H s.heap a (.tup d) from I.hok a _ ea)
  obtain⟨o,c,f,_⟩:=p;exact⟨_,kitx_tuple,⟨o,c,f⟩,λz=>nomatch z⟩
 | @dK a kvs ea =>
  cases(show u=mr a from b)
  obtain⟨_,_,k,_,p⟩:=(show ObjOk X.prog X.w H s.heap a (.dK kvs) from I.hok a _ ea)
  obtain⟨o,h,g,c,f,_⟩:=p;exact⟨_,kitx_dict,⟨o,c,f.1⟩,λz=>nomatch z⟩
 | @dT a kvs ea =>
  cases(show u=mr a from b)
  obtain⟨_,_,d,_,o,h,g,c,f,_⟩:=(show ObjOk X.prog X.w H s.heap a (.dT kvs) from I.hok a _ ea)
  exact⟨_,kitx_dict,⟨o,c,f.1⟩,λz=>nomatch z⟩
 | @ins a C dx fs ea cl ha hn htk hm =>
  cases(show u=mr a from b);obtain⟨l,O,_⟩:=lV I.hok ea;obtain⟨m,J,_⟩:=O.look;exact⟨_,PySem.W.kitx_own (cl.get _) cl.hd ha hn htk hm,J,λz=>nomatch z⟩
def DX:V->cX
 | .ty n=>.type n
 | .ref a=>.ref a
 | _=>.none
def BZ:V->Bool
 | .ty _=>true
 | .ref _=>true
 | _=>false
def Aj{c:V}{u:cX}(h:BZ c=true)(r:RelV c u):u=DX c:=by
 cases c <;> first | exact r | exact absurd (show false=true from h) fx
inductive rIsi(K:Frag)(xs:List V)(H:Hp)(Q:VK):Prop
 | mk(x c:V)(t:_)(b:Bool)(h0:xs=[x,c])(h1:BZ c=true)(h2:TyOf K H x t)(h3:kitOne K t (DX c)=some b)(h4:Q (.bl b) H):rIsi K xs H Q
def bB:CallR X (.builtin "isinstance") (rIsi X.K):=by
 intro a s w H v o Q I r h;obtain⟨x,c,t,b,rfl,f,d,e,q⟩:=h;obtain⟨u,m,rfl,j,g⟩:=sk r;cases Aj f g;obtain⟨l,Z,p,k⟩:=yZ I j d
 exact PySem.W.kia_one Z I.kIn p e k λi=>⟨.bl b,H,I.tok i,rfl,q⟩
def gg(w:X.calm=true):CallR X (.builtin "all") (λxs H Q=>∃(p:Addr) (ys:List V) (bs:List Bool),xs=[.ref p]/\SqL X.K H p ys/\ys=bs.map V.bl/\Q (.bl (bs.all id)) H):=by
 intro m s F H xs K Q I r h;obtain⟨p,ys,bs,rfl,C,rfl,q⟩:=h;obtain⟨u,rfl,o⟩:=dW r;cases o;obtain⟨a,d,f,E⟩:=I.list C;have c:p<s.heap.objs.size:=by obtain⟨_,_,e,_⟩:=f;exact fR e
 refine call_all_walk (LB f.isList ?_)
 refine⟨s.heap.objs.size,[s.heap.objs.size,p],[s.heap.objs.size],a.toArray.size,_,_,λi=>(bs[i]?).getD true,rfl,Walks.list (A:=X.A.in1) (I.ok.hd w) _ p (nl c) a.toArray,
  ⟨⟨_,h_ _ rfl,rfl,rfl⟩,f.isList.push _⟩,λi v J G D B k=>?_,λh' tk hk=>?_⟩
 .have l:a[i]? = some v:=by simpa using B
  have g:i<(bs.map V.bl).length:=by rw[d.length];exact(b_.mp l).1
  obtain⟨b,hb⟩:∃ b,bs[i]? = some b:=⟨bs[i]'(by simpa using g),by simp at g;simp[g]⟩
  obtain⟨u,j,y⟩:=d.get (i:=i) (x:=V.bl b) (by rw[fb,hb];rfl);rw[l]at j;cases j;cases y;simp only[hb,Option.getD_some]at k;exact qj k
 .have e:((g0 a.toArray.size).all λi=>(bs[i]?).getD true)=bs.all id:=by
   rw[l5,<- d.length,a_];exact LSm.range_all bs
  rw[e];exact⟨.bl _,H,I.kept (LSm.kept_iter hk),rfl,q⟩
end
def zg{Q:V->Prop}{p r:Prop}[Decidable p][Decidable r](q:Q (.bl (decide (p/\r)))):if decide p=true then Q (.bl (decide r)) else Q (.bl false):=by
 by_cases h:p
 .rw[if_pos (decide_eq_true h)]
  have e:decide (p/\r)=decide r:=by by_cases z:r <;> simp[h,z]
  rw[<- e];exact q
 .rw[if_neg (λz=>h (of_decide_eq_true z))]
  have e:decide (p/\r)=false:=decide_eq_false λz=>h z.1
  rw[<- e];exact q
def ifP{c:Prop}[Decidable c]{A B:Prop}(a:c)(h:A):if decide c=true then A else B:=by rw[if_pos (decide_eq_true a)];exact h
def ifN{c:Prop}[Decidable c]{A B:Prop}(a:¬c)(h:B):if decide c=true then A else B:=by rw[if_neg (λz=>a (of_decide_eq_true z))];exact h
def ifC{c:Prop}[Decidable c]{A B:Prop}(b:c->A)(a:¬c->B):if decide c=true then A else B:=by
 by_cases h:c
 .exact ifP h (b h)
 .exact ifN h (a h)
def ifB{b:Bool}{A B:Prop}(c:b=true->A)(a:b=false->B):if b=true then A else B:=by
 cases b with
 | true=>rw[if_pos rfl];exact c rfl
 | false=>rw[if_neg fx];exact a rfl
def DK{b:Type}{xs:List b}{i:Int}(d:0<=i)(f:i<xs.length):∃ c,c∈xs/\atI xs i=some c:=by
 have a:i.toNat<xs.length:=by lia
 refine⟨xs[i.toNat],E_ a,?_⟩;have e:((i.toNat:Nat):Int)=i:=by lia
 have:=aZ (xs:=xs) (j:=i.toNat) (v:=xs[i.toNat]) (by simp[a]);rwa [e]at this
def aK:nv "len" = some (.builtin "len"):=by decide +kernel
def aI:nv "isinstance" = some (.builtin "isinstance"):=by decide +kernel
def mw:nv "all" = some (.builtin "all"):=by decide +kernel
def jq:nv "min" = some (.builtin "min"):=by decide +kernel
def xS:nv "max" = some (.builtin "max"):=by decide +kernel
def pW:nv "enumerate" = some (.type "enumerate"):=by decide +kernel
def ya:nv "zip" = some (.type "zip"):=by decide +kernel
def jG:nv "range" = some (.type "range"):=by decide +kernel
def Dg:nv "str" = some (.type "str"):=by decide +kernel
def mF:nv "int" = some (.type "int"):=by decide +kernel
def uW:nv "bool" = some (.type "bool"):=by decide +kernel
def cc:nv "list" = some (.type "list"):=by decide +kernel
def fV:nv "tuple" = some (.type "tuple"):=by decide +kernel
def aU{X:Cx}{x:Str}{v:V}{a:Pos}(b:Gl X x)(h:∃ u,X.mg x=some u/\RelV v u)(c:(x == ("__debug__" : Str))=false:=by decide):PE X (.Name x a) (tC v) :=
 let ⟨_,e,r⟩:=h
 Au b e r c
def FE(K:Frag)(tl:TE):TI:=λσ H R=>tl σ H λx H1=>match x with
 | .str z=>R (Its z) H1
 | .ref a=>((∃ xs,SqL K H1 a xs)/\R (Itl K a) H1)\/((∃ xs,SqT K H1 a xs)/\R (Itt K a) H1)
 | _=>False
def aL{X:Cx}{tg l:Expr}{tl:TE}(m:PE X l tl):PI X tg l (FE X.K tl):=by
 intro g s A H R I h;have w:PE X l tl:=m;refine thn (m g s A H _ I h) λv c ⟨x,j,d,r,i⟩=>?_
 cases x with
 | str z =>
  have:=Ct (X:=X) (tg:=tg) (l:=l) (tl:=tC (.str z));obtain⟨t,rfl⟩:=r;refine LA ?_;refine⟨c.heap.objs.size,[c.heap.objs.size],_,_,j,rfl,d.kept (t':=c.toks) λb o e=>e_ _ e,rH (ty:=Jk z) (t:=t) z _ ?_,⟨_,h_ _ rfl,rfl,rfl⟩,λb hb=>?_,i⟩
  .unfold Jk
   split
   .exact .inl rfl
   .exact .inr rfl
  .have e:b=c.heap.objs.size:=by simpa using hb
   subst e;exact d.fpOk (d_ _) (d.hok.fresh (d_ _))
 | ref a =>
  cases r
  rcases i with⟨⟨y,k⟩,q⟩ | ⟨⟨y,k⟩,q⟩
  .obtain⟨f,B,p,C⟩:=d.list k
   refine LB p.isList ?_;refine⟨c.heap.objs.size,[c.heap.objs.size],_,_,j,rfl,d.kept (t':=c.toks) λb o e=>e_ _ e,wu a _,⟨_,h_ _ rfl,rfl,rfl⟩,λb hb=>?_,q⟩;have e:b=c.heap.objs.size:=by simpa using hb
   subst e;exact d.fpOk (d_ _) (d.hok.fresh (d_ _))
  .obtain⟨f,B,p,C⟩:=d.tuple k
   refine wpAny_pyIter_tuple (show c.heap.IsTuple a f.toArray from p) ?_;refine⟨c.heap.objs.size,[c.heap.objs.size],_,_,j,rfl,d.kept (t':=c.toks) λb o e=>e_ _ e,tI a _,⟨_,h_ _ rfl,rfl,rfl⟩,λb hb=>?_,q⟩;have e:b=c.heap.objs.size:=by simpa using hb
   subst e;exact d.fpOk (d_ _) (d.hok.fresh (d_ _))
 | _=>exact(show False from i).elim
inductive rLenSq(K:Frag)(p:Addr)(H:Hp)(Q:VK):Prop
 | mk(ys:List V)(h0:SqL K H p ys\/SqT K H p ys)(h1:Q (.int ys.length) H):rLenSq K p H Q
def aw{X:Cx}:CallR X (.builtin "len") (λxs H Q=>match xs with
  | [.str z]=>z.length<=sizeLine/\Q (.int z.length) H
  | [.ref p]=>rLenSq X.K p H Q
  | _=>False):=(call_len_str.or pX).imp λxs H Q q=>by
 match xs,q with
 | [.str z],q=>exact .inl ⟨z,rfl,q.1,q.2⟩
 | [.ref p],q=>obtain⟨a,h,q⟩:=q;exact .inr ⟨p,a,rfl,h,q⟩
section
variable {D:Addr}{σb:St}{g:TG}{tt:TT}{te:TE}{Q:Hp->List V->Prop}{H:Hp}{K:Frag}
def oS(D:Addr)(σb:St)(g:TG)(tt:TT)(te:TE)(x:V)(ys:List V)(H:Hp)(P:List V->Hp->Prop):Prop :=
 g x σb H λσ4 H4=>Wk σb σ4/\tt σ4 H4 λb H5=>if b=true then te σ4 H5 λy H6=>H6 D=some (.lst ys)/\ys.length<sizeLine/\P (ys++[y]) (upd H6 D (.lst (ys++[y]))) else P ys H5
def yQ{z:Str}(d:Nat->List V->Hp->Prop)(k:d 0 [] H)(h:∀ i ys H,d i ys H->H D=some (.lst ys))
  (l:∀(i c:Nat) ys H P,z.cps[i]? = some c->d i ys H->(∀ a b,d (i+1) a b->P a b)->oS D σb g tt te (.str ⟨#[c]⟩) ys H P) (j:∀ ys H,d z.cps.size ys H->Q H ys):∃ W,(∃ m,W 0 m [] H)/\j4 (Its z) D σb g tt te Q W:=by
 refine⟨λi m ys H=>m=z.cps.size - i/\i<=z.cps.size/\d i ys H,⟨_,rfl,ey _,k⟩,?_⟩;rintro i m ys H ⟨rfl,r,p⟩;refine⟨h i ys H p,?_⟩
 by_cases hlt:i<z.cps.size
 .refine .inr ⟨hlt,λx o y=>?_⟩
  obtain⟨rfl,c,f,rfl⟩:=y;exact l i c ys _ (λa b=>∃ m',m'<z.cps.size - i/\m'=z.cps.size - (i+1)/\i+1<=z.cps.size/\d (i+1) a b) f p (λa b q=>⟨z.cps.size - (i+1),by lia,rfl,hlt,q⟩)
 .have e:i=z.cps.size:=by lia
  subst e;exact .inl ⟨d_ _,j ys H p⟩
def aD{a:Addr}{xs:List V}(c:Nat->List V->Hp->Prop)(j:c 0 [] H)(f:∀ i ys H,c i ys H->SqL K H a xs)(d:∀ i ys H,c i ys H->H D=some (.lst ys))
  (k:∀(i:Nat) x ys H P,xs[i]? = some x->c i ys H->(∀ a b,c (i+1) a b->P a b)->oS D σb g tt te x ys H P) (h:∀ ys H,c xs.length ys H->Q H ys):∃ W,(∃ m,W 0 m [] H)/\j4 (Itl K a) D σb g tt te Q W:=by
 refine⟨λi m ys H=>m=xs.length - i/\i<=xs.length/\c i ys H,⟨_,rfl,ey _,j⟩,?_⟩;rintro i m ys H ⟨rfl,o,p⟩;refine⟨d i ys H p,?_⟩;have q:=f i ys H p
 by_cases hlt:i<xs.length
 .refine .inr ⟨⟨xs,xs[i],q,by simp[hlt]⟩,λx l y=>?_⟩
  obtain⟨rfl,y⟩:=y;exact k i x ys _ (λa b=>∃ m',m'<xs.length - i/\m'=xs.length - (i+1)/\i+1<=xs.length/\c (i+1) a b) (y xs q) p (λa b q=>⟨xs.length - (i+1),by lia,rfl,hlt,q⟩)
 .have e:i=xs.length:=by lia
  subst e;exact .inl ⟨⟨xs,q,d_ _⟩,h ys H p⟩
def nj{a:Addr}{xs:List V}(c:Nat->List V->Hp->Prop)(j:c 0 [] H)(f:∀ i ys H,c i ys H->SqT K H a xs)(d:∀ i ys H,c i ys H->H D=some (.lst ys))
  (k:∀(i:Nat) x ys H P,xs[i]? = some x->c i ys H->(∀ a b,c (i+1) a b->P a b)->oS D σb g tt te x ys H P) (h:∀ ys H,c xs.length ys H->Q H ys):∃ W,(∃ m,W 0 m [] H)/\j4 (Itt K a) D σb g tt te Q W:=by
 refine⟨λi m ys H=>m=xs.length - i/\i<=xs.length/\c i ys H,⟨_,rfl,ey _,j⟩,?_⟩;rintro i m ys H ⟨rfl,o,p⟩;refine⟨d i ys H p,?_⟩;have q:=f i ys H p
 by_cases hlt:i<xs.length
 .refine .inr ⟨⟨xs,xs[i],q,by simp[hlt]⟩,λx l y=>?_⟩
  obtain⟨rfl,y⟩:=y;exact k i x ys _ (λa b=>∃ m',m'<xs.length - i/\m'=xs.length - (i+1)/\i+1<=xs.length/\c (i+1) a b) (y xs q) p (λa b q=>⟨xs.length - (i+1),by lia,rfl,hlt,q⟩)
 .have e:i=xs.length:=by lia
  subst e;exact .inl ⟨⟨xs,q,d_ _⟩,h ys H p⟩
def iC{lo:Int}{n:Nat}(c:Nat->List V->Hp->Prop)(h:c 0 [] H)(d:∀ i ys H,c i ys H->H D=some (.lst ys))
  (j:∀(i:Nat) ys H P,i<n->c i ys H->(∀ a b,c (i+1) a b->P a b)->oS D σb g tt te (.int (lo+i)) ys H P) (f:∀ ys H,c n ys H->Q H ys):∃ W,(∃ m,W 0 m [] H)/\j4 (Itr lo n) D σb g tt te Q W:=by
 refine⟨λi m ys H=>m=n - i/\i<=n/\c i ys H,⟨_,rfl,ey _,h⟩,?_⟩;rintro i m ys H ⟨rfl,l,p⟩;refine⟨d i ys H p,?_⟩
 by_cases hlt:i<n
 .refine .inr ⟨hlt,λx k y=>?_⟩
  obtain⟨rfl,rfl⟩:=y;exact j i ys _ (λa b=>∃ m',m'<n - i/\m'=n - (i+1)/\i+1<=n/\c (i+1) a b) hlt p (λa b q=>⟨n - (i+1),by lia,rfl,hlt,q⟩)
 .have e:i=n:=by lia
  subst e;exact .inl ⟨d_ _,f ys H p⟩
end
def Same.new{H:Hp}{p:Addr}{o:HO}(h:H p=none):Same H (upd H p o):=λb u e=>by rw[aq (ar e h)];exact e
mutual
def DV(K:Frag)(H:Hp):HY->V->Prop
 | .none,x=>x=.non
 | .bool b,x=>x=.bl b
 | .int i,x=>x=.int i
 | .str z,x=>x=.str z
 | .list ds,x=>∃ a xs,x=.ref a/\SqL K H a xs/\DVs K H ds xs
 | .tuple ds,x=>∃ a xs,x=.ref a/\SqT K H a xs/\DVs K H ds xs
 | .dict _,_=>False
def DVs(K:Frag)(H:Hp):List HY->List V->Prop
 | [],xs=>xs=[]
 | d::ds,xs=>∃ y ys,xs=y::ys/\DV K H d y/\DVs K H ds ys
end
section
variable {X:Cx}{pins:List (Addr×Obj)}{σ:St}{H:Hp}{s:ej}
mutual
theorem DV.reads(I:Inv X pins σ H s):∀{d:HY}{x:V}{u:cX},DV X.K H d x->RelV x u->∃ as,Reads s.heap u d as
 | .none,x,u,h,r=>by
  rw[DV]at h;subst h;cases r;exact⟨_,.none⟩
 | .bool b,x,u,h,r=>by
  rw[DV]at h;subst h;cases r;exact⟨_,.bool b⟩
 | .int i,x,u,h,r=>by
  rw[DV]at h;subst h;obtain⟨t,rfl⟩:=r;exact⟨_,.int i t⟩
 | .str z,x,u,h,r=>by
  rw[DV]at h;subst h;obtain⟨t,rfl⟩:=r;exact⟨_,.str z t⟩
 | .list ds,x,u,h,r=>by
  rw[DV]at h;obtain⟨a,l,rfl,j,f⟩:=h;cases r;obtain⟨g,k,⟨o,n,e,c,_,d⟩,_⟩:=I.list j;obtain⟨as,q⟩:=DVs.reads I f k;exact⟨_,.list e c d (by simpa using q)⟩
 | .tuple ds,x,u,h,r=>by
  rw[DV]at h;obtain⟨a,l,rfl,j,f⟩:=h;cases r;obtain⟨g,k,⟨o,e,c,n,d⟩,_⟩:=I.tuple j;obtain⟨as,q⟩:=DVs.reads I f k;exact⟨_,.tuple e c d (by simpa using q)⟩
 | .dict _,x,u,h,r=>by rw[DV]at h;exact h.elim
theorem DVs.reads(I:Inv X pins σ H s):∀{ds:List HY}{xs:List V}{us:List cX},DVs X.K H ds xs->Vals xs us->∃ as,ReadsAll s.heap us ds as
 | [],xs,us,h,r=>by
  rw[DVs]at h;subst h;cases r;exact⟨_,.nil⟩
 | d::ds,xs,us,h,r=>by
  rw[DVs]at h;obtain⟨y,e,rfl,b,a⟩:=h;cases r with
  | cons r rs =>
   obtain⟨as,q⟩:=DV.reads I b r;obtain⟨c,p⟩:=DVs.reads I a rs;exact⟨_,.cons q p⟩
end
end
inductive rEqD(K:Frag)(neg:Bool)(x y:V)(H:Hp)(Q:VK):Prop
 | mk(d e:HY)(h0:DV K H d x)(h1:DV K H e y)(h2:DB d=true)(h3:DB e=true)(h4:Q (.bl (if neg then !sN d e else sN d e)) H):rEqD K neg x y H Q
def lB{X:Cx}(i:X.A.units+64<G8):OpR X (nf .Eq) (rEqD X.K false):=by
 intro a s r H x y v u Q I j b h;obtain⟨d,e,g,k,f,m,q⟩:=h;obtain⟨o,c⟩:=g.reads I j;obtain⟨p,l⟩:=k.reads I b;exact eq_dataH c l f m i ⟨.bl _,H,I,rfl,q⟩
def rj{X:Cx}(i:X.A.units+64<G8):OpR X (nf .NotEq) (rEqD X.K true):=by
 intro a s r H x y v u Q I j b h;obtain⟨d,e,g,k,f,m,q⟩:=h;obtain⟨o,c⟩:=g.reads I j;obtain⟨p,l⟩:=k.reads I b;exact ne_dataH c l f m i ⟨.bl _,H,I,rfl,q⟩
def yF(z:Str)(lo hi:Option Int):Str:=⟨((z.cps.toList.drop (HT.sIx z.cps.size 0 lo)).take (HT.sIx z.cps.size z.cps.size hi - HT.sIx z.cps.size 0 lo)).toArray⟩
def Br(n d:Nat)(v:Option Int):(match v with | none=>(d:Int) | some i=>max 0 (min (if i<0 then i+(n:Int) else i) (n:Int)))=((HT.sIx n d v:Nat):Int):=by
 cases v with
 | none=>rfl
 | some i =>
  show max 0 (min (if i<0 then i+(n:Int) else i) (n:Int))=(((if i<0 then (i+(n:Int)).toNat else min i.toNat n):Nat):Int)
  split <;> lia
def wZ(lo a:Option Int)(n:Nat):v_ lo a 1 n=(g0 (HT.sIx n n a - HT.sIx n 0 lo)).map (HT.sIx n 0 lo + ·):=by
 have e:v_ lo a 1 n=sliceRange ((HT.sIx n 0 lo:Nat):Int) ((HT.sIx n n a:Nat):Int) 1:=by
  rw[<- Br n 0 lo,<- Br n n a];unfold v_;simp only[show(1:Int) > 0 by decide,if_true]
  cases lo <;> cases a <;> rfl
 rw[e,LU]
def wa(z:Str)(lo a:Option Int):KI z lo a=yF z lo a:=by
 have e:((v_ lo a 1 z.length).filterMap (z.cps[·]?))=(z.cps.toList.drop (HT.sIx z.cps.size 0 lo)).take (HT.sIx z.cps.size z.cps.size a - HT.sIx z.cps.size 0 lo):=by
  rw[wZ];exact LS z.cps _ _
 unfold KI
 split
 .rename_i h
  have c:(v_ lo a 1 z.length).length=z.cps.size:=by
   rw[p_]at h;exact eq_of_beq h.2
  rw[wZ,a_,py]at c;have g:=HT.sIx_le z.cps.size z.cps.size (d_ _) a;have b:HT.sIx z.cps.size z.cps.size a - HT.sIx z.cps.size 0 lo=z.cps.size:=c;unfold yF
  by_cases h0:z.cps.size=0
  .refine ext_toList ?_
   have f:z.cps.toList=[]:=Gk.mp (by simpa using h0);show z.cps.toList=_;rw[f];simp
  .have d:HT.sIx z.cps.size 0 lo=0:=by lia
   rw[b,d,KS,ga (by simp)]
 .rw[e]
  rfl
section
variable {X:Cx}
def Fo:V->Option Int->Option Int->Hp->VK->Prop:=λx lo hi H Q=>∃ z,x=.str z/\z.length<=sizeLine/\Q (.str (yF z lo hi)) H
def DO:SlR X Fo:=by
 intro b s o H x v w y m r A Q I p c g e h;obtain⟨z,rfl,d,q⟩:=h;obtain⟨t,rfl⟩:=p;refine⟨"str",_,F.slot_str_getitem.lookup,Lg _ _ _,?_⟩;rw[<- wa]at q
 have a:∀ f k,EP X b o Q (.str (KI z m r) f) { s with toks:=k }:=λf k=>⟨.str _,H,I.tok _,⟨_,rfl⟩,q⟩
 cases g with
 | none =>
  cases e with
  | none=>exact Gp (l:=none) (u:=none) (st:=none) c rfl (HG ⟨mu (Im z _ _) d,a⟩)
  | int j uj=>exact Gp (l:=none) (u:=some (j,uj)) (st:=none) c rfl (HG ⟨mu (Im z _ _) d,a⟩)
 | int i ui =>
  cases e with
  | none=>exact Gp (l:=some (i,ui)) (u:=none) (st:=none) c rfl (HG ⟨mu (Im z _ _) d,a⟩)
  | int j uj=>exact Gp (l:=some (i,ui)) (u:=some (j,uj)) (st:=none) c rfl (HG ⟨mu (Im z _ _) d,a⟩)
def SlR.imp{r b:V->Option Int->Option Int->Hp->VK->Prop}(h:SlR X r)(i:∀ x lo hi H Q,b x lo hi H Q->r x lo hi H Q):SlR X b :=
 λa s g H x v l d lo hi k Q I f j c e q=>h a s g H x v l d lo hi k Q I f j c e (i x lo hi H Q q)
def g9:SlR X (λx lo hi H Q=>match x with
  | .str z=>z.length<=sizeLine/\Q (.str (yF z lo hi)) H
  | .ref a=>(∃ xs,SqL X.K H a xs/\∀ p,H p=none->Q (.ref p) (upd H p (.lst (cQ xs lo hi)))) \/
    ∃ xs,SqT X.K H a xs/\¬(HT.sIx xs.length 0 lo=0/\HT.sIx xs.length xs.length hi=xs.length)/\∀ p,H p=none->Q (.ref p) (upd H p (.tup (cQ xs lo hi)))
  | _=>False):=(sl_list.or (sl_tup.or DO)).imp λx lo hi H Q q=>by
 cases x with
 | str z=>exact .inr (.inr ⟨z,rfl,q.1,q.2⟩)
 | ref a =>
  rcases q with⟨xs,c,b⟩ | ⟨xs,c,b,d⟩
  .exact .inl ⟨a,xs,rfl,c,b⟩
  .exact .inr (.inl ⟨a,xs,rfl,c,b,d⟩)
 | _=>exact(show False from q).elim
def qt:V->List V->Hp->VK->Prop:=λx xs H Q=>match x,xs with
 | .str z,[.str y]=>∃ i rest,rc z y 0 z.length 1=i::rest/\Q (.int (i:Nat)) H
 | _,_=>False
def vZ:MtR X "str.index" qt:=by
 intro b s j H x c v g Q I d f q
 match x,c,q with
 | .str z,[.str y],q =>
  obtain⟨i,a,e,q⟩:=q;obtain⟨t,rfl⟩:=d;obtain⟨u,rfl,h,rfl⟩:=dW f;exact SC.index e ⟨.int _,H,I.tok _,⟨_,rfl⟩,q⟩
variable {o e:Expr}{es:List Expr}{to:TE}{t:TA}{apos cpos:Pos}
def pe_m.indexS(f:PE X o to)(g:PA X (e::es) t)
  (c:A6 o "index" X.env (eval o X.env)=eval o X.env:=by rfl)
  (d:((tp cpos (fI (e::es) X.env)).all (λx=>!x.1) && (GJ cpos (E3 [] X.env)).all (λx=>x.1.isSome)
   && decide ((e::es).length+([]:List F4).length+(if ([]:List F4).isEmpty then 0 else 1)<30))=true:=by rfl)
  (b:(apos.endLine == cpos.line)=true:=by rfl) (h:fI (e::es) X.env=(false,eval e X.env)::fI es X.env:=by rfl) (a:(tp cpos (fI es X.env)).any (·.1)=false:=by rfl) :
  PE X (.Call (.Attribute o "index" apos) (e::es) [] cpos) (tBM X.K "str" qt to t):=tF F.plainAttrs_str F.slot_str_index F.type_str_index vZ f g c d b h a
end
section
variable {X:Cx}{st:Stmt}{rest:List Stmt}{t u:TS}{e:Expr}
def Ee(t u:TS):TS:=λD σ H=>∃ M:St->Hp->Prop,t { D with nx:=M } σ H/\∀ σ' H',M σ' H'->u D σ' H'
def oX(g:PS X st t)(k:PSs X rest u):PSs X (st::rest) (Ee t u):=by
 intro a s j H D I h;obtain⟨M,h,c⟩:=h;refine A8 (thn (g a s j H { D with nx:=M } I h) λf e q=>?_);cases f with
 | next =>
  obtain⟨b,i,d,q⟩:=q;exact k a e b i D d (c _ _ q)
 | ret v=>exact q
 | brk=>exact q
 | cont=>exact q
end
end L2
namespace L2
abbrev PvS:=Nat->St->Hp->Prop
abbrev PvL:=Nat->List V->Hp->Prop
def fc{c b:TS}{D:Ends}{a:St}{H:Hp}:(let B2:TS:=b;bj c B2 D a H)->bj c b D a H:=λh=>h
def fQ{d b c:TS}{D:Ends}{a:St}{H:Hp}:(let B3:TS:=c;let B2:TS:=bj b B3;bj d B2 D a H)->bj d (bj b c) D a H:=λh=>h
def mH{c b e a:TS}{D:Ends}{d:St}{H:Hp}:(let B4:TS:=a;let B3:TS:=bj e B4;let B2:TS:=bj b B3;bj c B2 D d H)->bj c (bj b (bj e a)) D d H:=λh=>h
def rf{c b f a e:TS}{D:Ends}{d:St}{H:Hp}:(let B5:TS:=e;let B4:TS:=bj a B5;let B3:TS:=bj f B4;let B2:TS:=bj b B3;bj c B2 D d H)->bj c (bj b (bj f (bj a e))) D d H:=λh=>h
def rL{d c g a f b:TS}{D:Ends}{e:St}{H:Hp}:(let B6:TS:=b;let B5:TS:=bj f B6;let B4:TS:=bj a B5;let B3:TS:=bj g B4;let B2:TS:=bj c B3;bj d B2 D e H)->bj d (bj c (bj g (bj a (bj f b)))) D e H:=λh=>h
def EL{e d i a g b c:TS}{D:Ends}{f:St}{H:Hp}:(let B7:TS:=c;let B6:TS:=bj b B7;let B5:TS:=bj g B6;let B4:TS:=bj a B5;let B3:TS:=bj i B4;let B2:TS:=bj d B3;bj e B2 D f H)->bj e (bj d (bj i (bj a (bj g (bj b c))))) D f H:=λh=>h
def Ej{f d j a i b c e:TS}{D:Ends}{g:St}{H:Hp}:(let B8:TS:=e;let B7:TS:=bj c B8;let B6:TS:=bj b B7;let B5:TS:=bj i B6;let B4:TS:=bj a B5;let B3:TS:=bj j B4;let B2:TS:=bj d B3;bj f B2 D g H)->bj f (bj d (bj j (bj a (bj i (bj b (bj c e)))))) D g H:=λh=>h
end L2
namespace L2
open PySem PySem.Spec PyProof.Rows
section
variable {X:Cx}{pins:List (Addr×Obj)}{σ:St}{H:Hp}{s:ej}{h':Heap}
def Inv.turnedNew{t':Nat}{ch:List Addr}{a:Addr}{o:HO}(I:Inv X pins σ H s)(k:∀ b u,b ∉ ch->s.heap.get? b=some u->h'.get? b=some u)(i:∀ b∈ch,FpOk X pins H b)
  (x:s.heap.objs.size<=a) (l:ObjOk X.prog X.w (upd H a o) h' a o):Inv X pins σ (upd H a o) { s with heap:=h',toks:=t' }:=by
 have p:H a=none:=I.hok.fresh x
 have g:∀ b u,H b=some u->b ∉ ch:=λb u e z=>by
  rw[(i b z).1]at e;cases e
 have d:∀ b u,H b=some u->b≠a:=λb u e z=>by
  rw[z,p]at e;cases e
 have j:∀ b u,s.heap.get? b=some u->b≠a:=λb u e=>nl (jb (fR e) x)
 refine I.step (g':=s.gens) (d':=s.drawn) (ch:=ch) (λb h=>?_) (λb u _ _ f e _=>k b u f e) (λb u _ _ f e _=>⟨u.slots,k b u f e⟩) (λb u _ e n=>?_) (λb u f e=>⟨u,k b u f e⟩)
  (λb F e=>?_) (λb u v e=>?_) (λb ps e=>⟨#[],?_⟩) (λm hm=>?_) (λb u e=>?_) I.bare
 .obtain⟨_,C,_,G,D,B⟩:=i b h
  exact⟨G,C,D,B⟩
 .rw[aq (j b u e)];exact n
 .rw[aq (d b _ e)];exact e
 .rw[aq (d b _ e)];exact e
 .rw[aq (d b _ e),e];simp
 .obtain⟨w,E,A,y,r⟩:=hm
  exact⟨w,E,A,k _ w (λz=>(i _ z).2.1 rfl) y,r⟩
 .by_cases h:b=a
  .subst h
   rw[ac]at e;cases e;exact l
  .rw[aq h]at e
   refine(I.hok b u e).stay (λc v f q=>k c v ?_ q) (λc q=>?_) λc F q=>?_
   .rcases f with z | z
    .rw[z];exact g b u e
    .exact g c _ z
   .rw[aq (d c _ q)];exact q
   .rw[aq (d c _ q)];exact q
def Inv.turnedN{t':Nat}{ch:List Addr}(I:Inv X pins σ H s)(k:∀ b u,b ∉ ch->s.heap.get? b=some u->h'.get? b=some u)(f:∀ b∈ch,FpOk X pins H b):Inv X pins σ H { s with heap:=h',toks:=t' }:=by
 have d:∀ b u,H b=some u->b ∉ ch:=λb u e z=>by
  rw[(f b z).1]at e;cases e
 refine I.step (g':=s.gens) (d':=s.drawn) (ch:=ch) (λb y=>?_) (λb u _ _ a e _=>k b u a e) (λb u _ _ a e _=>⟨u.slots,k b u a e⟩) (λb u _ e n=>n) (λb u a e=>⟨u,k b u a e⟩)
  (λb w e=>e) (λb u v e=>e) (λb ps e=>⟨#[],by rw[e];simp⟩) (λm hm=>?_) (λb u e=>?_) I.bare
 .obtain⟨_,l,_,x,o,j⟩:=f b y
  exact⟨x,l,o,j⟩
 .obtain⟨g,p,i,h,r⟩:=hm
  exact⟨g,p,i,k _ g (λz=>(f _ z).2.1 rfl) h,r⟩
 .refine(I.hok b u e).stay (λc v a q=>k c v ?_ q) (λc q=>q) λc w q=>q
  rcases a with z | z
  .rw[z];exact d b u e
  .exact d c _ z
end
def Ite(a:Addr):It:=⟨λi H=>∃ xs x,H a=some (.lst xs)/\xs[i]? = some x,
 λi H x H'=>∃ p y,H p=none/\x=.ref p/\(∀ xs,H a=some (.lst xs)->xs[i]? = some y)/\H'=upd H p (.tup [.int (i:Nat),y]),λi H=>∃ xs,H a=some (.lst xs)/\xs.length<=i⟩
def wH{P:gN}{w:ml}{K:Frag}{es:List Expr}{k:Nat}{G:Pos}(a e c:Addr)(A:e≠c) :
  Turn P w K (.Tuple es k G) (Ite a) [e,c] e (λi h=>(∃ old,IsEnum h e c i old)/\h.IsListIter c a i) where
 mem:=by simp
 obj:=λi h f b hb=>by
  obtain⟨⟨old,d⟩,o,y,F,h3⟩:=f
  rcases i_.mp hb with rfl | hb
  .exact⟨_,d,λv z=>by cases z⟩
  .rw[k_.mp hb]
   exact⟨o,y,λv z=>by rw[h3]at z;cases z⟩
 keep:=λi h h' f kp=>by
  obtain⟨⟨old,d⟩,o,y,r⟩:=f;exact⟨⟨old,kp e (by simp) _ d⟩,o,kp c (by simp) o y,r⟩
 item:=by
  intro X T N S hc i j s σ H E I C f W;subst T N S;obtain⟨⟨old,d⟩,g⟩:=f;obtain⟨xs,x,D,hx⟩:=W;obtain⟨z,l,n,r,p,Q⟩:=I.lstM D;obtain⟨u,hu,ru⟩:=Vals.get r hx
  have m:s.heap.IsList a l.toArray:=⟨_,Q,rfl,_,rfl⟩
  refine wpAny_pyNext_enum_item d g m (x:=u) (by simpa using hu) A λy e1 e2 e3 e4 e5=>?_
  refine⟨_,rfl,wpAny_letOwnedTupleGo_enum e1 λF e6 Y=>?_⟩;have B:s.heap.objs.size≠e:=λq=>absurd (fR d) (by rw[<- q];exact pw _)
  have L:s.heap.objs.size≠c:=λq=>by
   obtain⟨o,R,_⟩:=g;exact absurd (fR R) (by rw[<- q];exact pw _)
  have hn:H s.heap.objs.size=none:=I.hok.fresh (d_ _);have O:F.get? s.heap.objs.size=some { cls:=.type "tuple",data:=.seq #[.int i s.toks,u] }:=(Y.2 _ B).trans e3
  have J:Inv X j σ (upd H s.heap.objs.size (.tup [.int (i:Nat),x])) { s with heap:=F,toks:=s.toks+1 }:=by
   refine I.turnedNew (ch:=[e,c]) (λb o hb q=>?_) C (d_ _) ⟨by rw[fE];show 2<=16777216;decide,[.int i s.toks,u],.cons ⟨_,rfl⟩ (.cons ru .nil),_,O,rfl,0,rfl⟩;have b1:b≠e:=λz=>hb (by simp[z])
   have b2:b≠c:=λz=>hb (by simp[z])
   exact(Y.2 b b1).trans (e5 b o b1 b2 q)
  refine⟨.ref s.heap.objs.size,_,J,rfl,⟨s.heap.objs.size,x,hn,rfl,λys hy=>?_,rfl⟩,⟨⟨u,?_⟩,?_⟩,λb hb=>?_⟩
  .rw[D]at hy
   cases hy;exact hx
  .have Z:IsEnum F e c ((i:Int)+1) u:=e6
   have e7:((i+1:Nat):Int)=(i:Int)+1:=by lia
   rw[e7];exact Z
  .obtain⟨o,R,r⟩:=e2
   exact⟨o,(Y.2 c (FZ A)).trans R,r⟩
  .have M:b≠s.heap.objs.size:=by
    rcases i_.mp hb with rfl | hb
    .exact B.symm
    .rw[k_.mp hb];exact L.symm
   rw[aq M];exact(C b hb).1
 done:=by
  intro X T N S hc i j s σ H E I C f W;subst T N S;obtain⟨⟨old,d⟩,g⟩:=f;obtain⟨xs,D,hx⟩:=W;obtain⟨z,l,n,r,p,Q⟩:=I.lstM D
  have m:s.heap.IsList a l.toArray:=⟨_,Q,rfl,_,rfl⟩
  refine wpAny_pyNext_enum_end (I.ok.hd hc) d g m (by simp;lia) λy eb=>⟨rfl,I.turnedN (ch:=[e,c]) (t':=s.toks) (λb o hb q=>eb b o (λz=>hb (by simp[z])) q) C⟩
 self:=λ_ _ _ _ _ f h=>by
  obtain⟨⟨old,d⟩,_⟩:=f;exact LC d h
def EI(ta:TA):TI:=λσ H R=>ta σ H λvs H1=>∃ a xs,vs=[.ref a]/\H1 a=some (.lst xs)/\R (Ite a) H1
def fo{X:Cx}{es:List Expr}{k:Nat}{g:Pos}{e:Expr}{v:TA}{p f:Pos}(M:Gl X "enumerate")(y:X.mg "enumerate" = none)(N:PA X [e] v)(B:fI [e] X.env=[(false,eval e X.env)]:=by rfl) :
  PI X (.Tuple es k g) (.Call (.Name "enumerate" p) [e] [] f) (EI v):=by
 intro d s w H R I h;refine oI (ib I M y pW ?_ (by decide) (by decide));refine r_ (thn (N f d s w H _ I h) λQ c ⟨O,x,j,D,a,S,l,G,q⟩=>?_) B rfl;subst l;obtain⟨u,rfl,F⟩:=dW D;cases F;obtain⟨z,A,n,r,o,E⟩:=j.lstM G;refine call_enumerate_1 (n:=n) E λJ l K P C=>?_
 have L:Inv X d w x { c with heap:=J }:=j.kept (t':=c.toks) C;have m:c.heap.objs.size+1≠c.heap.objs.size:=Nat.succ_ne_self _;refine LC l ?_;refine⟨c.heap.objs.size+1,[c.heap.objs.size+1,c.heap.objs.size],_,_,x,rfl,L,wH a _ _ m,⟨⟨_,l⟩,K⟩,λb hb=>?_,q⟩
 have i:c.heap.objs.size<=b:=by
  rcases i_.mp hb with rfl | hb
  .lia
  .rw[k_.mp hb]
   exact d_ _
 exact j.fpOk i (j.hok.fresh i)
def iL{a:Addr}{xs:List V}{g:TG}{f:TS}{D:Ends}{c:St}{H:Hp}(d:Nat->St->Hp->Prop)(r:d 0 c H)(k:∀ i c H,d i c H->H a=some (.lst xs))
  (s:∀(i:Nat) x c H p,xs[i]? = some x->d i c H->H p=none->g (.ref p) c (upd H p (.tup [.int (i:Nat),x])) λσ2 H2=>f { D with nx:=d (i+1),ct:=d (i+1),bk:=D.nx } σ2 H2) (o:∀ c H,d xs.length c H->D.nx c H) :
  ∃ W:Nat->Nat->St->Hp->Prop,(∃ m,W 0 m c H)/\∀ i m c H,W i m c H ->
   ((Ite a).stop i H/\D.nx c H)\/((Ite a).go i H/\∃ N:St->Hp->Prop,(∀ σ' H',N σ' H'->∃ m',m'<m/\W (i+1) m' σ' H')/\∀ x H',(Ite a).yld i H x H'->g x c H' λσ2 H2=>f { D with nx:=N,ct:=N,bk:=D.nx } σ2 H2):=by
 refine⟨λi m c H=>m=xs.length - i/\i<=xs.length/\d i c H,⟨_,rfl,ey _,r⟩,?_⟩;rintro i m c H ⟨rfl,w,p⟩;have q:=k i c H p
 by_cases hlt:i<xs.length
 .refine .inr ⟨⟨xs,xs[i],q,by simp[hlt]⟩,d (i+1),λσ' H' j=>⟨_,by lia,rfl,hlt,j⟩,λx H' y=>?_⟩
  obtain⟨b,v,l,rfl,h,rfl⟩:=y;exact s i v c H b (h xs q) p l
 .have e:i=xs.length:=by lia
  subst e;exact .inl ⟨⟨xs,q,d_ _⟩,o c H p⟩
def kJ{D:Addr}{d:St}{g:TG}{h:TT}{f:TE}{Q:Hp->List V->Prop}{H:Hp}{a:Addr}{xs:List V}(c:Nat->List V->Hp->Prop)(w:c 0 [] H)(o:∀ i ys H,c i ys H->H a=some (.lst xs))(k:∀ i ys H,c i ys H->H D=some (.lst ys))
  (A:∀(i:Nat) x ys H p P,xs[i]? = some x->c i ys H->H p=none->(∀ a b,c (i+1) a b->P a b)->oS D d g h f (.ref p) ys (upd H p (.tup [.int (i:Nat),x])) P) (s:∀ ys H,c xs.length ys H->Q H ys):∃ W,(∃ m,W 0 m [] H)/\j4 (Ite a) D d g h f Q W:=by
 refine⟨λi m ys H=>m=xs.length - i/\i<=xs.length/\c i ys H,⟨_,rfl,ey _,w⟩,?_⟩;rintro i m ys H ⟨rfl,C,p⟩;refine⟨k i ys H p,?_⟩;have q:=o i ys H p
 by_cases hlt:i<xs.length
 .refine .inr ⟨⟨xs,xs[i],q,by simp[hlt]⟩,λx B y=>?_⟩
  obtain⟨b,v,l,rfl,j,rfl⟩:=y
  exact A i v ys H b (λa b=>∃ m',m'<xs.length - i/\m'=xs.length - (i+1)/\i+1<=xs.length/\c (i+1) a b) (j xs q) p l λa b r=>⟨_,by lia,rfl,hlt,r⟩
 .have e:i=xs.length:=by lia
  subst e;exact .inl ⟨⟨xs,q,d_ _⟩,s ys H p⟩
def Itz(a b:Addr):It:=⟨λi H=>∃ xs ys x y,H a=some (.lst xs)/\H b=some (.lst ys)/\xs[i]? = some x/\ys[i]? = some y,
 λi H v H'=>∃ p x y,H p=none/\v=.ref p/\(∀ xs,H a=some (.lst xs)->xs[i]? = some x)/\(∀ ys,H b=some (.lst ys)->ys[i]? = some y)/\H'=upd H p (.tup [x,y]),
 λi H=>∃ xs ys,H a=some (.lst xs)/\H b=some (.lst ys)/\(xs.length<=i\/ys.length<=i)⟩
def xM{P:gN}{w:ml}{K:Frag}{es:List Expr}{k:Nat}{ad:Pos}(a b z l g f j:Addr)(G:[z,l,g,f,j].Nodup) :
  Turn P w K (.Tuple es k ad) (Itz a b) [z,l,g,f,j] z (λi h=>IsZip h z l g .none/\I7 h l (.ref f) (.ref j)/\(∃ u v,I7 h g u v)/\h.IsListIter f a i/\h.IsListIter j b i):=by
 have n1:l≠z:=λe=>by simp[e]at G
 have n2:g≠z:=λe=>by simp[e]at G
 have n3:f≠z:=λe=>by simp[e]at G
 have n4:j≠z:=λe=>by simp[e]at G
 have n5:l≠g:=λe=>by simp[e]at G
 have n6:l≠f:=λe=>by simp[e]at G
 have n7:l≠j:=λe=>by simp[e]at G
 have n8:g≠f:=λe=>by simp[e]at G
 have n9:g≠j:=λe=>by simp[e]at G
 have n0:f≠j:=λe=>by simp[e]at G
 have B:∀{H:Hp}{xs ys:List V},(∀ c∈[z,l,g,f,j],H c=none)->H a=some (.lst xs)->H b=some (.lst ys)->Hg z l g f j a b:=λ{H xs ys} p C D =>
  ⟨n1,n2,n3,n4,n5,n6,n7,n8,n9,n0,ar C (p z (by simp)),ar C (p g (by simp)),ar C (p f (by simp)),ar C (p j (by simp)),
   ar D (p z (by simp)),ar D (p g (by simp)),ar D (p f (by simp)),ar D (p j (by simp))⟩
 refine { mem:=by simp,obj:=?_,keep:=?_,item:=?_,done:=?_,self:=?_ }
 .rintro i h ⟨N,M,⟨u,v,O⟩,⟨o4,L,_,d4⟩,⟨o5,F,_,d5⟩⟩ c d
  simp only[i_,xo,or_false]at d
  rcases d with rfl | rfl | rfl | rfl | rfl
  .exact⟨_,N,λv z=>by cases z⟩
  .exact⟨_,M,λv z=>by cases z⟩
  .exact⟨_,O,λv z=>by cases z⟩
  .exact⟨_,L,λv z=>by rw[d4]at z;cases z⟩
  .exact⟨_,F,λv z=>by rw[d5]at z;cases z⟩
 .rintro i h h' ⟨N,M,⟨u,v,O⟩,⟨o4,L,r4⟩,⟨o5,F,r5⟩⟩ kp
  exact⟨kp z (by simp) _ N,kp l (by simp) _ M,⟨u,v,kp g (by simp) _ O⟩,⟨o4,kp f (by simp) _ L,r4⟩,⟨o5,kp j (by simp) _ F,r5⟩⟩
 .intro X hP hw hK d i Q s σ H E I p Y hg
  subst hP hw hK;obtain⟨N,M,⟨u,v,O⟩,L,F⟩:=Y;obtain⟨xs,ys,x,y,C,D,hx,hy⟩:=hg;obtain⟨_,R,n,r,Z,eo⟩:=I.lstM C;obtain⟨_,A,m,r2,S,T⟩:=I.lstM D;obtain⟨ux,al,am⟩:=Vals.get r hx;obtain⟨uy,ah,an⟩:=Vals.get r2 hy;have hn:H s.heap.objs.size=none:=I.hok.fresh (d_ _)
  have ab:∀ c∈[z,l,g,f,j],c≠s.heap.objs.size:=λc d q=>by
   have:∃ o,s.heap.get? c=some o:=by
    simp only[i_,xo,or_false]at d;obtain⟨o4,L,_⟩:=L;obtain⟨o5,F,_⟩:=F
    rcases d with rfl | rfl | rfl | rfl | rfl
    .exact⟨_,N⟩
    .exact⟨_,M⟩
    .exact⟨_,O⟩
    .exact⟨_,L⟩
    .exact⟨_,F⟩
   obtain⟨o,ho⟩:=this;exact absurd (fR ho) (by rw[q];exact pw _)
  refine Kr (B (λc d=>(p c d).1) C D) N M O L F (xs:=R.toArray) (ys:=A.toArray) ⟨_,eo,rfl,_,rfl⟩ ⟨_,T,rfl,_,rfl⟩ (x:=ux) (y:=uy) (by simpa using al) (by simpa using ah)
   λh6 e1 e2 e3 e4 e5 e6 e7=>?_
  refine⟨_,rfl,wpAny_letOwnedTupleGo_zip e1 λh7 e8 W=>?_⟩
  have J:Inv X Q σ (upd H s.heap.objs.size (.tup [x,y])) { s with heap:=h7 }:=by
   refine I.turnedNew (t':=s.toks) (ch:=[z,l,g,f,j]) (λc o d q=>?_) p (d_ _) ⟨by rw[fE];show 2<=16777216;decide,[ux,uy],.cons am (.cons an .nil),_,(W.2 _ (ab z (by simp)).symm).trans e5,rfl,0,rfl⟩;have c1:c≠z:=λw=>d (by simp[w])
   exact(W.2 c c1).trans (e7 c o c1 (λw=>d (by simp[w])) (λw=>d (by simp[w])) (λw=>d (by simp[w])) q)
  refine⟨.ref s.heap.objs.size,_,J,rfl,⟨s.heap.objs.size,x,y,hn,rfl,λas h=>by rw[C]at h;cases h;exact hx,λys' h=>by rw[D]at h;cases h;exact hy,rfl⟩,⟨e8,?_,⟨ux,uy,?_⟩,?_,?_⟩,λc d=>?_⟩
  .exact(W.2 l n1).trans (e7 l _ n1 n5 n6 n7 M)
  .exact(W.2 g n2).trans e2
  .obtain⟨o,ho,q⟩:=e3
   exact⟨o,(W.2 f n3).trans ho,q⟩
  .obtain⟨o,ho,q⟩:=e4
   exact⟨o,(W.2 j n4).trans ho,q⟩
  .rw[aq (ab c d)]
   exact(p c d).1
 .intro X hP hw hK d i Q s σ H E I p Y hg
  subst hP hw hK;obtain⟨N,M,⟨u,v,O⟩,L,F⟩:=Y;obtain⟨xs,ys,C,D,hx⟩:=hg;obtain⟨_,R,n,r,Z,eo⟩:=I.lstM C;obtain⟨_,A,m,r2,S,T⟩:=I.lstM D;refine KJ (I.ok.hd d) (B (λc d=>(p c d).1) C D) N M O L F (xs:=R.toArray) (ys:=A.toArray) ⟨_,eo,rfl,_,rfl⟩ ⟨_,T,rfl,_,rfl⟩ (by simp;lia) λh6 e7=>?_
  exact⟨rfl,I.turnedN (t':=s.toks) (ch:=[z,l,g,f,j]) (λc o d q=>e7 c o (λw=>d (by simp[w])) (λw=>d (by simp[w])) (λw=>d (by simp[w])) (λw=>d (by simp[w])) q) p⟩
 .exact λ_ _ _ _ _ Y h=>I_ Y.1 h
def FH(ta:TA):TI:=λσ H R=>ta σ H λvs H1=>∃ a b xs ys,vs=[.ref a,.ref b]/\H1 a=some (.lst xs)/\H1 b=some (.lst ys)/\R (Itz a b) H1
def qp{X:Cx}{es:List Expr}{k:Nat}{l:Pos}{e f:Expr}{G:TA}{p i:Pos}(hg:Gl X "zip")(L:X.mg "zip" = none)(ha:PA X [e,f] G)(N:fI [e,f] X.env=(false,eval e X.env)::fI [f] X.env:=by rfl)
  (D:(tp i (fI [f] X.env)).any (·.1)=false:=by rfl):PI X (.Tuple es k l) (.Call (.Name "zip" p) [e,f] [] i) (FH G):=by
 intro g s J H R I h;refine oI (ib I hg L ya ?_ (by decide) (by decide));refine r_ (thn (ha i g s J H _ I h) λus d ⟨vs,K,w,P,a,b,xs,ys,x,Y,B,q⟩=>?_) N D;subst x;obtain⟨u,v,rfl,W,T⟩:=sk P;cases W;cases T;obtain⟨_,y,n,r,E,S⟩:=w.lstM Y;obtain⟨_,o,m,r2,A,C⟩:=w.lstM B;refine call_zip_2 (xs:=y.toArray) (ys:=o.toArray) ⟨_,S,rfl,_,rfl⟩ ⟨_,C,rfl,_,rfl⟩ λZ x e2 e3 O Q e6 M=>?_
 have I2:Inv X g J K { d with heap:=Z }:=w.kept (t':=d.toks) M;refine I_ x ?_;refine⟨d.heap.objs.size+4,[d.heap.objs.size+4,d.heap.objs.size+2,d.heap.objs.size+3,d.heap.objs.size,d.heap.objs.size+1],_,_,K,rfl,I2,xM a b _ _ _ _ _ (by simp),⟨x,e2,⟨_,_,e3⟩,O,Q⟩,λc F=>?_,q⟩
 have j:d.heap.objs.size<=c:=by
  simp only[i_,xo,or_false]at F
  rcases F with z | z | z | z | z <;> rw[z] <;> first | exact d_ _ | exact Nat.le_add_right _ _
 exact w.fpOk j (w.hok.fresh j)
def qF{a b:Addr}{xs ys:List V}{g:TG}{k:TS}{D:Ends}{d:St}{H:Hp}(E:xs.length=ys.length)(f:Nat->St->Hp->Prop)(A:f 0 d H)(r:∀ i d H,f i d H->H a=some (.lst xs)/\H b=some (.lst ys))
  (B:∀(i:Nat) x y d H p,xs[i]? = some x->ys[i]? = some y->f i d H->H p=none->g (.ref p) d (upd H p (.tup [x,y])) λσ2 H2=>k { D with nx:=f (i+1),ct:=f (i+1),bk:=D.nx } σ2 H2) (w:∀ d H,f xs.length d H->D.nx d H) :
  ∃ W:Nat->Nat->St->Hp->Prop,(∃ m,W 0 m d H)/\∀ i m d H,W i m d H ->
   ((Itz a b).stop i H/\D.nx d H)\/((Itz a b).go i H/\∃ N:St->Hp->Prop,(∀ σ' H',N σ' H'->∃ m',m'<m/\W (i+1) m' σ' H')/\∀ x H',(Itz a b).yld i H x H'->g x d H' λσ2 H2=>k { D with nx:=N,ct:=N,bk:=D.nx } σ2 H2):=by
 refine⟨λi m d H=>m=xs.length - i/\i<=xs.length/\f i d H,⟨_,rfl,ey _,A⟩,?_⟩;rintro i m d H ⟨rfl,F,p⟩;obtain⟨h,j⟩:=r i d H p
 by_cases hlt:i<xs.length
 .refine .inr ⟨⟨xs,ys,xs[i],ys[i]'(by lia),h,j,by simp[hlt],by simp[show i<ys.length by lia]⟩,f (i+1),λσ' H' l=>⟨_,by lia,rfl,hlt,l⟩,λv H' y=>?_⟩
  obtain⟨c,x,y,o,rfl,s,C,rfl⟩:=y;exact B i x y d H c (s xs h) (C ys j) p o
 .have e:i=xs.length:=by lia
  subst e;exact .inl ⟨⟨xs,ys,h,j,.inl (d_ _)⟩,w d H p⟩
def kY(t S:Str)(m:Int):Bool:=decide (1<=(t.cps.size:Int)/\(t.cps.size:Int)<=m) && t.cps.toList.all λc=>decide (c∈S.cps.toList)
def jc(c:Nat):c∈("abcdefghijklmnopqrstuvwxyz" : Str).cps.toList↔97<=c/\c<=122:=by
 have e:("abcdefghijklmnopqrstuvwxyz" : Str).cps.toList=List.range' 97 26:=by decide +kernel
 rw[e,List.mem_range'_1];omega
section
variable {X:Cx}
def AQ{a:Expr}{f:TE}{d:Pos}(j:PE X a f):PE X (.UnaryOp .Not a d) (λσ H Q=>f σ H λx H1=>∃ k,CH X.K x H1 k/\Q (.bl (!k)) H1):=by
 intro c s σ H Q I h;refine LO (thn (j c s σ H _ I h) λv g ⟨x,H1,l,i,k,m,q⟩=>?_);exact not_of (thn (ze c g σ H1 x v (λb e=>Q (.bl (!b)) e) l i ⟨k,m,q⟩) λb s2 ⟨e,I2,q2⟩=>⟨.bl (!b),e,I2,rfl,q2⟩)
variable {o e:Expr}{es:List Expr}{to:TE}{t:TA}{apos cpos:Pos}
def pe_m.append(f:PE X o to)(g:PA X (e::es) t)(c:A6 o "append" X.env (eval o X.env)=eval o X.env:=by rfl)
  (d:((tp cpos (fI (e::es) X.env)).all (λx=>!x.1) && (GJ cpos (E3 [] X.env)).all (λx=>x.1.isSome) && decide ((e::es).length+([]:List F4).length+(if ([]:List F4).isEmpty then 0 else 1)<30))=true:=by rfl)
  (b:(apos.endLine == cpos.line)=true:=by rfl) (h:fI (e::es) X.env=(false,eval e X.env)::fI es X.env:=by rfl) (a:(tp cpos (fI es X.env)).any (·.1)=false:=by rfl) :
  PE X (.Call (.Attribute o "append" apos) (e::es) [] cpos) (tBM X.K "list" rAppend to t):=tF G0 KG F.type_list_append o6 f g c d b h a
def pe_m.popAt(f:PE X o to)(g:PA X (e::es) t)(c:A6 o "pop" X.env (eval o X.env)=eval o X.env:=by rfl)
  (d:((tp cpos (fI (e::es) X.env)).all (λx=>!x.1) && (GJ cpos (E3 [] X.env)).all (λx=>x.1.isSome) && decide ((e::es).length+([]:List F4).length+(if ([]:List F4).isEmpty then 0 else 1)<30))=true:=by rfl)
  (b:(apos.endLine == cpos.line)=true:=by rfl) (h:fI (e::es) X.env=(false,eval e X.env)::fI es X.env:=by rfl) (a:(tp cpos (fI es X.env)).any (·.1)=false:=by rfl) :
  PE X (.Call (.Attribute o "pop" apos) (e::es) [] cpos) (tBM X.K "list" yq to t):=tF G0 Ly F.type_list_pop xN f g c d b h a
end
def TK(H H':Hp):Prop:=∀ b xs,H b=some (.tup xs)->H' b=some (.tup xs)
def TK.trans{H e d:Hp}(a:TK H e)(b:TK e d):TK H d:=λc o h=>b c o (a c o h)
def Same.tk{H a:Hp}(e:Same H a):TK H a:=λb c h=>e b _ h
def TK.lst{H:Hp}{l:Addr}{xs ys:List V}(h:H l=some (.lst xs)):TK H (upd H l (.lst ys)):=λb a e=>by
 rw[aq (BY e h (by intro z;cases z))];exact e
def Same.put{H a:Hp}{D:Addr}{o:HO}(e:Same H a)(h:H D=none):Same H (upd a D o):=λb u q=>by
 rw[aq (ar q h)];exact e b u q
def ao{a:Type}{xs:List a}{i:Int}{v:a}(k:Nat)(b:(k:Int)=i)(h:xs[k]? = some v):atI xs i=some v:=by rw[<- b];exact aZ h
def pJ(xs:List V)(k:Nat)(h:k<=xs.length):cQ xs none (some (k:Int))=xs.take k:=by
 unfold cQ;rw[HT.sIx_nat,HT.sIx_none,KS,Nat.sub_zero,KU h]
def iR(xs:List V)(k:Nat):cQ xs (some (k:Int)) none=xs.drop k:=by
 unfold cQ;rw[HT.sIx_nat,HT.sIx_none]
 by_cases h:k<=xs.length
 .rw[KU h,ga (by simp)]
 .rw[Nat.min_eq_right (by lia),JC,Hi,List.drop_of_length_le (by lia)]
theorem sf(n:Str):∀ ts:List Str,inV (.str n) (ts.map V.str)=decide (n∈ts)
 | []=>rfl
 | t::ts=>by
  have a:=sf n ts;unfold inV at a ⊢;rw[l_,HV,a]
  by_cases h:t=n
  .have e:eqV (V.str t) (V.str n)=true:=by rw[h];simp only[eqV,beq_self_eq_true]
   rw[e,Bool.true_or,decide_eq_true (by rw[h];exact ft)]
  .have e:eqV (V.str t) (V.str n)=false:=by simp only[eqV];exact beq_false_of_ne h
   rw[e,Bool.false_or,ue,decide_eq_true_eq,decide_eq_true_eq,i_];exact⟨.inr,λz=>z.elim (λq=>absurd q.symm h) id⟩
theorem pk:∀ ts:List Str,(ts.map V.str).all iA=true
 | []=>rfl
 | t::ts=>by rw[l_,KF,pk ts];rfl
def iw(t:Str):Bool:=kY t "abcdefghijklmnopqrstuvwxyz" 8
structure U where
 name:Str
 value:Int
 size:Int
 path:List Str
def uV(p:Addr)(u:U):List V:=[.str u.name,.int u.value,.int u.size,.ref p]
def IsU(H:Hp)(u:U)(x:V):Prop:=∃ a p,x=.ref a/\H a=some (.tup (uV p u))/\H p=some (.tup (u.path.map V.str))
def IsU.tk{H b:Hp}{u:U}{x:V}(k:TK H b)(h:IsU H u x):IsU b u x:=let ⟨a,p,h1,h2,h3⟩:=h;⟨a,p,h1,k a _ h2,k p _ h3⟩
abbrev AllU(H:Hp):List U->List V->Prop:=Paired (IsU H)
theorem AllU.tk{H a:Hp}(k:TK H a):∀{us:List U}{xs:List V},AllU H us xs->AllU a us xs
 | _,_,.nil=>.nil
 | _,_,.cons r t=>.cons (r.tk k) (AllU.tk k t)
def AllU.len{H:Hp}{us:List U}{xs:List V}(h:AllU H us xs):us.length=xs.length:=gp h
theorem AllU.get{H:Hp}:∀{us:List U}{xs:List V}{i:Nat}{x:V},AllU H us xs->xs[i]? = some x->∃ u,us[i]? = some u/\IsU H u x
 | _,_,_,_,.nil,h=>by cases h
 | _,_,0,_,.cons r _,h=>⟨_,rfl,by cases h;exact r⟩
 | _,_,i+1,_,.cons _ t,h=>AllU.get (i:=i) t h
theorem AllU.take{H:Hp}:∀{us:List U}{xs:List V}(k:Nat),AllU H us xs->AllU H (us.take k) (xs.take k)
 | _,_,0,_=>by rw[Hi,Hi];exact .nil
 | _,_,_+1,.nil=>.nil
 | _,_,k+1,.cons r t=>.cons r (AllU.take k t)
theorem AllU.snoc{H:Hp}{u:U}{x:V}(r:IsU H u x):∀{us:List U}{xs:List V},AllU H us xs->AllU H (us++[u]) (xs++[x])
 | _,_,.nil=>.cons r .nil
 | _,_,.cons q t=>.cons q (AllU.snoc r t)
structure GoodU(u:U):Prop where
 nm:iw u.name=true
 v0:-1000000000<=u.value
 v1:u.value<=1000000000
 s0:1<=u.size
 s1:u.size<=1000000
 pl:u.path.length<=3
 pn:∀ n∈u.path,iw n=true
structure GoodL(us:List U):Prop where
 l1:1<=us.length
 l2:us.length<=24
 each:∀ u∈us,GoodU u
 nd:(us.map U.name).Nodup
 pth:∀ u∈us,∀ v∈us,u.path.length=v.path.length
def tG{t:Str}(h:iw t=true):1<=t.cps.size/\t.cps.size<=8/\∀ c∈t.cps.toList,97<=c/\c<=122:=by
 unfold iw kY at h;rw[p_,decide_eq_true_eq,F8]at h;refine⟨by lia,by lia,λc a=>?_⟩;exact(jc c).mp (of_decide_eq_true (h.2 c a))
def rR{t:Str}(e:1<=t.cps.size)(d:t.cps.size<=8)(a:∀ c∈t.cps.toList,97<=c/\c<=122):iw t=true:=by
 unfold iw kY;rw[p_,decide_eq_true_eq,F8];exact⟨by lia,λc b=>decide_eq_true ((jc c).mpr (a c b))⟩
def tO{t:Str}(h:iw t=true):t.length<=sizeLine:=by
 have:=(tG h).2.1;have e:sizeLine=16777216:=fE;show t.cps.size<=sizeLine;lia
section
variable {X:Cx}{K:Frag}
def bf(h:X.K=K):IxR X (rIx K):=h ▸ zr
def AZ(h:X.K=K):SlR X (λx lo hi H Q=>match x with
  | .str z=>z.length<=sizeLine/\Q (.str (yF z lo hi)) H
  | .ref a=>(∃ xs,SqL K H a xs/\∀ p,H p=none->Q (.ref p) (upd H p (.lst (cQ xs lo hi)))) \/
    ∃ xs,SqT K H a xs/\¬(HT.sIx xs.length 0 lo=0/\HT.sIx xs.length xs.length hi=xs.length)/\∀ p,H p=none->Q (.ref p) (upd H p (.tup (cQ xs lo hi)))
  | _=>False):=h ▸ g9
def mV(h:X.K=K):OpR X (nf .In) (rIn K false):=h ▸ km
def bT(h:X.K=K){es:List Expr}{k:Nat}{t:TGs}{n:Nat}{a:Pos}(d:X.calm=true)(e:PGs X es t)(c:(Gz es X.env).length=n:=by rfl)(b:(Gz es X.env).findIdx? (·.1)=none:=by rfl) :
  PG X (.Tuple es k a) (gTup K n t):=h ▸ bF d e c b
end
section
variable {D:Addr}{cd:ClassData}{K:Frag}{name:Str}
end
theorem vW:∀{xs:List V}{us:List cX},xs.length=us.length->(∀(i:Nat) x u,xs[i]? = some x->us[i]? = some u->RelV x u)->Vals xs us
 | [],[],_,_=>.nil
 | x::xs,u::us,h,r=>.cons (r 0 x u rfl rfl) (vW (by simpa using h) λi y w b a=>r (i+1) y w (by simpa using b) (by simpa using a))
 | [],_::_,h,_=>by cases h
 | _::_,[],h,_=>by cases h
section
variable {X:Cx}
def iT:CallR X (.type "range") (λxs H Q=>∃ b,xs=[.int b]/\∀ p,H p=none->Q (.ref p) (upd H p (.rng 0 b))):=by
 intro a s c H xs d Q I r h;obtain⟨b,rfl,q⟩:=h;obtain⟨u,rfl,⟨t,rfl⟩⟩:=dW r;refine call_range_1 ?_;exact⟨.ref s.heap.objs.size,_,I.laid (o:=.rng 0 b) (λb o e=>e_ _ e) (d_ _) ⟨_,_,_,h_ _ rfl⟩,rfl,q _ (I.hok.fresh (d_ _))⟩
end
def pU(H:Hp)(x:Addr):Hp:=λb=>if b=x then none else H b
def jY{H:Hp}{x b:Addr}(h:b≠x):pU H x b=H b:=by unfold pU;rw[if_neg h]
def kB{H:Hp}{x:Addr}:pU H x x=none:=by unfold pU;rw[if_pos rfl]
end L2
namespace FrM
def xG(x y:Int):n_ y (x % y)=n_ x y:=by
 have e:x=x % y+y*(x/y):=(Int.emod_add_mul_ediv x y).symm;rw[Int.gcd_comm x y]
 conv=>rhs;rw[e]
 rw[Int.gcd_add_mul_left_right]
def Bt(n:Nat)(i:Int):Prop:=i.natAbs<2 ^ n
def Bt.mono{m n:Nat}{i:Int}(h:Bt m i)(l:m<=n):Bt n i:=jb h (Hy (by decide) l)
def Bt.le{n:Nat}{i j:Int}(h:Bt n i)(l:j.natAbs<=i.natAbs):Bt n j:=na l h
def Bt.mul{m n:Nat}{i j:Int}(h:Bt m i)(h':Bt n j):Bt (m+n) (i*j):=by
 unfold Bt at *;rw[wh,Nat.pow_add];exact Nat.mul_lt_mul_of_le_of_lt (Gj h) h' (na (ey _) h)
def Bt.add{n:Nat}{i j:Int}(h:Bt n i)(h':Bt n j):Bt (n+1) (i+j):=by
 unfold Bt at *;rw[JD];omega
def Bt.sub{n:Nat}{i j:Int}(h:Bt n i)(h':Bt n j):Bt (n+1) (i - j):=by
 unfold Bt at *;rw[JD];omega
structure Low(T B t b:Int):Prop where
 pos:1<=b
 cop:n_ t b=1
 eq:t*B=T*b
def low(t b:Int)(g:0<b):0<(n_ t b:Int)/\(n_ t b:Int)<=b/\Low t b (t/(n_ t b:Int)) (b/(n_ t b:Int))/\(t/(n_ t b:Int)).natAbs<=t.natAbs/\(b/(n_ t b:Int)).natAbs<=b.natAbs:=by
 have c:0<n_ t b:=Int.gcd_pos_iff.mpr (.inr (by omega));have e:0<(n_ t b:Int):=by omega
 have f:=Ix t b;have a:=Ks t b;have h:=HM f;have i:=HM a;have d:(n_ t b:Int)<=b:=Gy g a;refine⟨e,d,⟨?_,Int.gcd_ediv_gcd_ediv_gcd c,?_⟩,?_,?_⟩
 .have:=Int.ediv_pos_of_pos_of_dvd g (by omega) a
  omega
 .rw[<- Kh _ a,oD,<- Kh _ f,oD]
 .have:=congrArg Ki h
  rw[wh]at this;rw[<- this];exact G7 _ (by simpa using c)
 .have:=congrArg Ki i
  rw[wh]at this;rw[<- this];exact G7 _ (by simpa using c)
def jx{b t a:Int}(c:n_ t b=1)(h:b ∣ t*a):b ∣ a:=by
 rw[<- Int.natAbs_dvd_natAbs]at *;rw[wh]at h;exact Nat.Coprime.dvd_of_dvd_mul_left (by rw[Nat.coprime_comm];exact c) h
def Low.uniq{T B t b t' a:Int}(f:B≠0)(h:Low T B t b)(h':Low T B t' a):t=t'/\b=a:=by
 have e:t*a=t'*b:=by
  have:(t*a)*B=(t'*b)*B:=by
   rw[uc,oD a B,<- uc,h.eq,uc t' b B,oD b B,<- uc,h'.eq,uc,uc,oD b a]
  exact A4 f this
 have d:b ∣ a:=by
  have:b ∣ t*a:=⟨t',by rw[e,oD]⟩
  exact jx h.cop this
 have g:a ∣ b:=by
  have:a ∣ t'*b:=⟨t,by rw[<- e,oD]⟩
  exact jx h'.cop this
 have c:b=a:=Int.dvd_antisymm (by have:=h.pos;omega) (by have:=h'.pos;omega) d g;refine⟨?_,c⟩;rw[c]at e;exact A4 (by have:=h'.pos;omega) e
end FrM
namespace L2
open PySem PySem.Spec PyProof.Rows FrM
section
variable {X:Cx}
def CMulB(i j:Int):Prop:=(Bt 8000 i/\Bt 8000 j)\/CMul i j
def CMulB.ok{i j:Int}(h:CMulB i j):IntMulOk i j:=by
 rcases h with⟨b,a⟩ | h
 .exact IntMulOk.of_le (m:=8000) (n:=8000) (LW.mpr b) (LW.mpr a) (by decide)
 .exact h.ok
def CDivB(i j:Int):Prop:=0<j/\Bt 8000 j
def CDivB.no{i j:Int}(h:CDivB i j):Builtin.divisionGoesByPylong i j=false:=by
 refine PyProof.noPylong_of_log2 ?_;have a:j.natAbs<2 ^ 8000:=h.2
 by_cases h0:j.natAbs=0
 .rw[h0];decide +kernel
 .have:j.natAbs.log2<8000:=(Nat.log2_lt h0).mpr a
  lia
def op_mulB:OpR X (D0 .Mult) (rI CMulB λi j=>.int (i*j)):=opI λ_ _ _ _ _ _ _ a q=>mul_int q a.ok
def op_fdivB:OpR X (D0 .FloorDiv) (rI CDivB λi j=>.int (i/j)):=opI λi j _ _ _ _ _ a q=>by
 have b:(0:Int)<j:=a.1;exact floordiv_int (by lia) (by rw[Int.fdiv_eq_ediv_of_nonneg i (by lia)];exact q) (.inl a.no)
def aR:OpR X (D0 .Mult) (rIC CMulB λi j=>.int (i*j)):=op_mulB.ic
def dk:OpR X (D0 .FloorDiv) (rIC CDivB λi j=>.int (i/j)):=op_fdivB.ic
def cmB{i j:Int}{m n:Nat}(h:Bt m i)(h':Bt n j)(a:m<=8000:=by decide)(b:n<=8000:=by decide):CMulB i j:=.inl ⟨h.mono a,h'.mono b⟩
def clB{i j:Int}(h:-(2 ^ 64)<i:=by decide)(a:i<2 ^ 64:=by decide):CMulB i j:=.inr (cl h a)
def crB{i j:Int}(h:-(2 ^ 64)<j:=by decide)(a:j<2 ^ 64:=by decide):CMulB i j:=.inr (cr h a)
def cdB{i j:Int}{n:Nat}(h:0<j)(h':Bt n j)(a:n<=8000:=by decide):CDivB i j:=⟨h,h'.mono a⟩
def C6:nv "abs" = some (.builtin "abs"):=by decide +kernel
end
end L2
namespace L2
open PySem PySem.Spec PyProof.Rows
def EA:Expr->Bool
 | .Starred ..=>true
 | _=>false
def wF{e:Expr}{es:List Expr}{env:Env}(h:EA e=false):fI (e::es) env=(false,eval e env)::fI es env:=by
 cases e <;> first | rfl | cases h
def f9{X:Cx}{e:Expr}{es:List Expr}{a:TE}{t:TA}(b:PE X e a)(c:PA X es t)(h:EA e=false:=by rfl):PA X (e::es) (Cc a t):=aa b c (wF h)
@[irreducible] def PSq(X:Cx)(sts:List Stmt)(t:TS):Prop:=PSs X sts t
def FnOk.or{P:gN}{w:ml}{K:Frag}{mg:Str->Option cX}{a:Heap}{CX:CXT}{k:Nat}{f:Addr}{c:ri}{ps:List Str}{sp b:Sp}(F:FnOk P w K mg a CX k f c ps sp)(d:FnOk P w K mg a CX k f c ps b) :
  FnOk P w K mg a CX k f c ps (λvs H Q E=>sp vs H Q E\/b vs H Q E) :=
 ⟨λvs H Q E h=>h.elim (F.len vs H Q E) (d.len vs H Q E),λA outer s H args us vs Q E hr he hb hv hs=>hs.elim (F.run A outer s H args us vs Q E hr he hb hv) (d.run A outer s H args us vs Q E hr he hb hv)⟩
structure LamD where
 qual:Str
 params:LJ
 body:Expr
 scope:E2
def kG(f:Addr)(d:LamD)(clos:List (Str×Addr))(c:Addr):Heap->Prop:=λh=>∃ pm ctv,h.get? f=some (kla_obj "<lambda>" d.qual d.params d.body d.scope clos pm c ctv)
def dC(c:Addr)(v:V):Heap->Prop:=λh=>∃ o u,h.get? c=some o/\o.data=.cell (some u)/\RelV v u
def ii(c:Addr)(q:Str):Heap->Prop:=λh=>∃ o vs t,h.get? c=some o/\o.data=.fields vs/\vs[1]? = some (.str q t)
section
variable {P:gN}{w:ml}{H:Hp}{h:Heap}
def vE{f:Addr}{d:LamD}{b:List (Str×Addr)}{c:Addr}{g a:cX}(e:h.get? f=some (kla_obj "<lambda>" d.qual d.params d.body d.scope b g c a)):ObjOk P w H h f (.ext (kG f d b c)) :=
 ⟨⟨g,a,e⟩,⟨_,e⟩,λl j ⟨g,a,i⟩ k=>⟨g,a,k _ i⟩⟩
def rg{c:Addr}{v:V}(x:dC c v h):ObjOk P w H h c (.ext (dC c v)) :=
 ⟨x,let ⟨o,_,e,_⟩:=x;⟨o,e⟩,λd b ⟨o,u,a,r⟩ k=>⟨o,u,k _ a,r⟩⟩
def zm{c:Addr}{q:Str}(x:ii c q h):ObjOk P w H h c (.ext (ii c q)) :=
 ⟨x,let ⟨o,_,_,e,_⟩:=x;⟨o,e⟩,λf d ⟨o,a,t,b,r⟩ k=>⟨o,a,t,k _ b,r⟩⟩
end
def AS(a:Addr)(o:Obj)(b:o.data≠.freed):∃ h:Heap,h.get? a=some o:=by
 refine⟨{ objs:=Array.replicate (a+1) o },?_⟩;obtain⟨c,d,e,f⟩:=o
 cases e <;> first | exact absurd rfl b | simp[Heap.get?]
def p4{c:Addr}{q:Str}{v:V}:HO.ext (ii c q)≠HO.ext (dC c v):=λe=>by
 injection e with e
 obtain⟨h,b⟩:=AS c { cls:=.none,data:=.fields #[.none,.str q 0] } (by intro z;cases z);have y:dC c v h:=by rw[<- e];exact⟨_,_,_,b,rfl,rfl⟩
 obtain⟨o,u,a,d,_⟩:=y;rw[b]at a;cases a;cases d
def DS:HO->Bool
 | .tbl _=>false
 | _=>true
def SameT(H H':Hp):Prop:=∀ b o,H b=some o->(DS o=true->H' b=some o)/\∃ o',H' b=some o'
def SameT.refl{H:Hp}:SameT H H:=λb o e=>⟨λ_=>e,o,e⟩
def SameT.trans{H d h:Hp}(a:SameT H d)(b:SameT d h):SameT H h:=λc o e=>by
 obtain⟨f,k,i⟩:=a c o e;obtain⟨g,j,l⟩:=b c k i;exact⟨λn=>(b c o (f n)).1 n,j,l⟩
def Same.t{H a:Hp}(s:Same H a):SameT H a:=λb o e=>⟨λ_=>s b o e,o,s b o e⟩
def SameT.at{H b:Hp}(s:SameT H b){a:Addr}{o:HO}(e:H a=some o)(n:DS o=true:=by rfl):b a=some o:=(s a o e).1 n
def SameT.free{H c:Hp}(s:SameT H c){a:Addr}(e:c a=none):H a=none:=by
 cases q:H a with
 | none=>rfl
 | some o=>obtain⟨_,d,b⟩:=s a o q;rw[e]at b;cases b
def SameT.put{H c:Hp}(s:SameT H c){a:Addr}{o:HO}(e:H a=none):SameT H (upd c a o):=λb u q=>by
 have n:b≠a:=λz=>by rw[z,e]at q;cases q
 rw[aq n];exact s b u q
def DR(H:Hp)(P:Addr)(ls:List (Pos×Str)):Prop:=∃ ps,H P=some (.tbl ps)/\Hj ps.toList/\∀ l∈ls,Ig l.1 ps.toList=none\/∃ c,Ig l.1 ps.toList=some (.ref c)/\H c=some (.ext (ii c l.2))
abbrev tP:=List (Addr×List (Pos×Str))
def TabsOk(tabs:tP)(H:Hp):Prop:=∀ q∈tabs,DR H q.1 q.2
def TabsOk.same{d:tP}{H e:Hp}(t:TabsOk d H)(s:Same H e):TabsOk d e:=λq h=>by
 obtain⟨f,i,j,k⟩:=t q h;exact⟨f,s _ _ i,j,λl g=>(k l g).imp id λ⟨c,a,b⟩=>⟨c,a,s _ _ b⟩⟩
def TabsOk.put{d:tP}{H:Hp}{r:Addr}{o:HO}(t:TabsOk d H)(g:∀ ps,H r≠some (.tbl ps))(i:∀ φ,H r≠some (.ext φ)):TabsOk d (upd H r o):=λq h=>by
 obtain⟨ps,e,j,k⟩:=t q h;refine⟨ps,?_,j,λl f=>(k l f).imp id λ⟨c,a,b⟩=>⟨c,a,?_⟩⟩
 .rw[aq λz=>g ps (by rw[<- z];exact e)];exact e
 .rw[aq λz=>i _ (by rw[<- z];exact b)];exact b
def sg{p d:Pos}{c:cX}(l:List cX)(h:Hj l)(e:¬(p.line=d.line/\p.col=d.col)):Ig d (l++[A2 p.line,A2 p.col,c])=Ig d l:=by
 fun_induction Hj l with
 | case1 =>
  simp only[List.nil_append,Ig,A2];rw[if_neg];intro z;rw[p_,beq_iff_eq,beq_iff_eq]at z;exact e ⟨by lia,by lia⟩
 | case2 a t b u x rest ih =>
  simp only[HX,Ig];rw[ih h]
 | case3=>exact h.elim
def pV{p:Pos}{c:cX}(l:List cX)(h:Hj l):Hj (l++[A2 p.line,A2 p.col,c]):=by
 fun_induction Hj l with
 | case1=>simp[Hj,A2]
 | case2 a t b u x rest ih=>exact ih h
 | case3=>exact h.elim
def Bm(mg:Str->Option cX)(base:Heap):Prop:=∃ bm ob,mg "__builtins__" = some (.ref bm)/\base.get? bm=some ob/\ob.cls=.type "module" /\ ob.dict=some Hq/\ob.data=.plain
def FQ(tabs:tP)(d:LamD)(clos:List (Str×Addr)):TE:=λσ H Q=>TabsOk tabs H/\∀ f c H1,SameT H H1->TabsOk tabs H1->H f=none->H1 f=some (.ext (kG f d clos c))->H1 c=some (.ext (ii c d.qual))->Q (.ref f) H1
theorem qE{b c:Type}:∀{l:List (b×c)},(l.map (·.1)).Nodup->∀ x∈l,∀ y∈l,x.1=y.1->x=y
 | [],_,x,hx,_,_,_=>by cases hx
 | a::r,nd,x,hx,y,hy,e=>by
  rw[l_,t_]at nd
  rcases i_.mp hx with rfl | hx' <;> rcases i_.mp hy with rfl | hy'
  .rfl
  .exact absurd (lz.mpr ⟨y,hy',e.symm⟩) nd.1
  .exact absurd (lz.mpr ⟨x,hx',e⟩) nd.1
  .exact qE nd.2 x hx' y hy' e
theorem vb:∀{l:List (Pos×Str)},(l.Pairwise λx y=>¬(x.1.line=y.1.line/\x.1.col=y.1.col))->∀ x∈l,∀ y∈l,(x.1.line=y.1.line/\x.1.col=y.1.col)->x=y
 | [],_,x,hx,_,_,_=>by cases hx
 | a::r,nd,x,hx,y,hy,e=>by
  rw[J4]at nd
  rcases i_.mp hx with rfl | hx' <;> rcases i_.mp hy with rfl | hy'
  .rfl
  .exact absurd e (nd.1 y hy')
  .exact absurd ⟨e.1.symm,e.2.symm⟩ (nd.1 x hx')
  .exact vb nd.2 x hx' y hy' e
section
variable {X:Cx}{tabs:tP}{P c:Addr}{ls:List (Pos×Str)}{d:LamD}{clos:List (Str×Addr)}{pos:Pos}
def eQ(L:X.env.code=.ref c)(hC:F9 X.K c P=true)(hB:Bm X.mg X.base)(hq:X.env.qual ++ "<lambda>" = d.qual)(W:Lh d.scope X.env=pure clos)(Z:defaultsOf d.params X.env=([],[]))
  (hm:(P,ls)∈tabs) (hl:(pos,d.qual)∈ls) (an:(tabs.map (·.1)).Nodup) (a3:ls.Pairwise λx y=>¬(x.1.line=y.1.line/\x.1.col=y.1.col)):PE X (.Lambda d.params d.body d.scope pos) (FQ tabs d clos):=by
 intro bd s σ H Q I h;obtain⟨hT,hQ⟩:=h;refine PySem.W.kla_eval Z ?_;rw[hq];obtain⟨F,r,l,T⟩:=hT _ hm;have p:s.heap.Ns xj X.mg:=I.mod.glob.keeps I.bk;have C:CodeHd s.heap c P:=codeHd_of_K I.kIn hC;have w:s.heap.get? P=some (Lk F):=I.hok P _ r
 have am:xj≠P:=λq=>by
  obtain⟨o,es,ep,e,S,_⟩:=p;rw[q,w]at e;cases e;cases S
 obtain⟨bm,ob,b1,b2,b3,b4,b5⟩:=hB;have N:=I.bk _ _ b2
 have a7:bm≠P:=λq=>by
  rw[q,w]at N;cases N;cases b3
 have a5:bm≠xj:=λq=>by
  obtain⟨o,es,ep,e,S,_⟩:=p;rw[q,e]at N;cases N;rw[S]at b5;cases b5
 have a6:bm≠Hq:=λq=>by
  obtain⟨mb,⟨o,es,ep,e,S,_⟩,_⟩:=I.mod.blt;rw[q,e]at b2;cases b2;rw[S]at b5;cases b5
 have BA:s.heap.BuiltinsAt X.mg P:=⟨bm,ob,b1,a6,a5,a7,N,b3,b4,b5⟩
 rcases T _ hl with hn | ⟨i,hc,as⟩
 .refine PySem.W.kla_makeFunction (mg:=X.mg) W I.ok.glob p L C w l hn am BA λi Y h' tk hx v E M al=>?_
  have ab:H i=none:=I.hok.fresh v;have j:H h'.objs.size=none:=I.hok.fresh (mu v (Gj E));have R:i≠h'.objs.size:=nl E;have ah:P≠i:=ar r ab;have O:P≠h'.objs.size:=ar r j
  obtain⟨f,hf⟩:∃ f,f=h'.objs.size:=⟨_,rfl⟩
  obtain⟨ob',hob⟩:∃ o,o=kla_obj "<lambda>" d.qual d.params d.body d.scope clos ((X.mg "__name__").getD .none) i Y:=⟨_,rfl⟩
  have a0:(h'.push ob').get? f=some ob':=by rw[hf,hob];exact h_ _ rfl
  have k:∀ b o,b≠P->s.heap.get? b=some o->(h'.push ob').get? b=some o:=λb o n e=>e_ _ (hx b o n e)
  have A:(h'.push ob').get? P=some (Lk (F ++ #[A2 pos.line,A2 pos.col,.ref i])):=e_ _ al
  have a1:ii i d.qual (h'.push ob'):=by
   obtain⟨B,oc,vs,t,e2,a',a4,hv⟩:=M;cases e2;exact⟨oc,vs,t,e_ _ a',a4,hv⟩
  rw[<- hf]at j R O ⊢;rw[<- hob]
  obtain⟨H1,hH1⟩:∃ H1,H1=upd (upd (upd H P (.tbl (F ++ #[A2 pos.line,A2 pos.col,.ref i]))) i (.ext (ii i d.qual))) f (.ext (kG f d clos i)):=⟨_,rfl⟩
  have gf:H1 f=some (.ext (kG f d clos i)):=by rw[hH1];exact ac
  have gc:H1 i=some (.ext (ii i d.qual)):=by rw[hH1,aq R];exact ac
  have gP:H1 P=some (.tbl (F ++ #[A2 pos.line,A2 pos.col,.ref i])):=by rw[hH1,aq O,aq ah];exact ac
  have go:∀ b,b≠P->b≠i->b≠f->H1 b=H b:=λb h1 h2 K=>by rw[hH1,aq K,aq h2,aq h1]
  have g:∀ b o,b≠P->H b=some o->H1 b=some o:=λb o n e=>by rw[go b n (ar e ab) (ar e j)];exact e
  have D:∀ b o,H b=some o->(∀ qs,o≠.tbl qs)->b≠P:=λb o e n z=>by rw[z,r]at e;cases e;exact n F rfl
  have un:Un X.fs [] H H1 s.heap (h'.push ob'):=by
   refine⟨λb o e n _ _=>k b o (λz=>by rw[z,r]at n;cases n) e,λb o e n _ _=>⟨o.slots,k b o (λz=>by rw[z,r]at n;cases n) e⟩,λb o e n _=>?_,λb o e _=>?_,λb xs e=>g b _ (D b _ e λ_ z=>nomatch z) e,λb o u e=>g b _ (D b _ e λ_ z=>nomatch z) e,λb qs e=>?_⟩
   .have hb:b<s.heap.objs.size:=fR e
    rw[go b (λz=>by rw[z,r]at n;cases n) (nl (jb hb v)) (by rw[hf];exact nl (jb hb (mu v (Gj E))))];exact n
   .by_cases hb:b=P
    .rw[hb];exact⟨_,A⟩
    .exact⟨o,k b o hb e⟩
   .by_cases hb:b=P
    .rw[hb,r]at e
     cases e;rw[hb];exact⟨_,gP⟩
    .exact⟨#[],by rw[g b _ hb e];simp⟩
  have a2:HOk X.prog X.w H1 (h'.push ob'):=λa o e=>by
   by_cases h1:a=f
   .subst h1;rw[gf]at e;cases e;exact vE (by rw[a0,hob])
   by_cases h2:a=i
   .subst h2;rw[gc]at e;cases e;exact zm a1
   by_cases K:a=P
   .subst K;rw[gP]at e;cases e;exact A
   rw[go a K h2 h1]at e;refine(I.hok a o e).stay (λb u hb q=>k b u ?_ q) (λb q=>g b _ (D b _ q λ_ z=>nomatch z) q) λb xs q=>g b _ (D b _ q λ_ z=>nomatch z) q
   rcases hb with rfl | hb
   .exact K
   .exact D b _ hb λ_ z=>nomatch z
  refine⟨.ref f,H1,I.un (h':=h'.push ob') (t':=tk) un a2,rfl,hQ f i H1 (λb o e=>?_) (λq hq'=>?_) j gf gc⟩
  .by_cases hb:b=P
   .subst hb
    rw[r]at e;cases e;exact⟨λz=>(fx z).elim,_,gP⟩
   .exact⟨λ_=>g b o hb e,o,g b o hb e⟩
  .by_cases hqP:q.1=P
   .have a8:q=(P,ls):=qE an q hq' (P,ls) hm hqP
    subst a8;refine⟨_,gP,by rw[JK];exact pV _ l,λG m=>?_⟩;rw[JK]
    by_cases hp:pos.line=G.1.line/\pos.col=G.1.col
    .have:=vb a3 (pos,d.qual) hl G m hp
     subst this;exact .inr ⟨i,codeAmong_snoc _ l hn,gc⟩
    .have eo:=sg (c:=.ref i) F.toList l hp
     rcases T G m with z | ⟨B,z1,J⟩
     .exact .inl (eo.trans z)
     .exact .inr ⟨B,eo.trans z1,g B _ (D B _ J λ_ z=>nomatch z) J⟩
   .obtain⟨qs,e1,e2,e3⟩:=hT q hq'
    exact⟨qs,g _ _ hqP e1,e2,λG m=>(e3 G m).imp id λ⟨B,z1,J⟩=>⟨B,z1,g B _ (D B _ J λ_ z=>nomatch z) J⟩⟩
 .refine PySem.W.kla_makeFunctionHit (mg:=X.mg) W I.ok.glob p L C w l hc BA λY h' tk hk ad=>?_
  have j:H h'.objs.size=none:=I.hok.fresh ad;have sm:Same H (upd H h'.objs.size (.ext (kG h'.objs.size d clos i))):=Same.new j;refine⟨.ref h'.objs.size,_,I.laid (a:=h'.objs.size) (o:=.ext (kG h'.objs.size d clos i)) (t':=tk) (λb u e=>e_ _ (hk b u e)) ad (vE (h_ _ rfl)),rfl,hQ _ i _ sm.t (hT.same sm) j ac (sm _ _ as)⟩
end
def untrs(H:Hp)(cs:List Addr):Hp:=λb=>if b∈cs then none else H b
def gj{H:Hp}{a:List Addr}{b:Addr}(h:b∈a):untrs H a b=none:=by unfold untrs;rw[if_pos h]
def bI{H:Hp}{a:List Addr}{b:Addr}(h:b ∉ a):untrs H a b=H b:=by unfold untrs;rw[if_neg h]
def dr{H:Hp}{a:List Addr}{b:Addr}(h:H b=none):untrs H a b=none:=by unfold untrs;split <;> first | rfl | exact h
abbrev CellsAt(H:Hp):List (Str×Addr)->List V->Prop:=Paired λ(p:Str×Addr) (v:V)=>H p.2=some (.ext (dC p.2 v))
theorem CellsAt.mem{H:Hp}:∀{clos:List (Str×Addr)}{vals:List V},CellsAt H clos vals->∀ p∈clos,∃ v,H p.2=some (.ext (dC p.2 v))
 | _,_,.nil,p,h=>by cases h
 | _,_,.cons r t,p,h=>by
  rcases i_.mp h with rfl | h
  .exact⟨_,r⟩
  .exact CellsAt.mem t p h
theorem CellsAt.get{H:Hp}:∀{clos:List (Str×Addr)}{vals:List V}{i:Nat}{v:V},CellsAt H clos vals->vals[i]? = some v->∃ p,clos[i]? = some p/\H p.2=some (.ext (dC p.2 v))
 | _,_,_,_,.nil,h=>by cases h
 | _,_,0,_,.cons r t,h=>by cases h;exact⟨_,rfl,r⟩
 | _,_,i+1,_,.cons r t,h=>CellsAt.get (i:=i) t h
def CellsAt.at{H:Hp}{a:List (Str×Addr)}{c:List V}(e:CellsAt H a c){b:Addr}(f:b∈a.map (·.2)):∃ v,H b=some (.ext (dC b v)):=by
 obtain⟨p,d,rfl⟩:=lz.mp f;exact e.mem p d
def bC{H:Hp}{a:List (Str×Addr)}{c:List V}{b:Addr}{o:HO}(d:CellsAt H a c)(h:H b=some o)(n:∀ v,o≠.ext (dC b v)):untrs H (a.map (·.2)) b=some o:=by
 rw[bI λz=>?_]
 .exact h
 .obtain⟨v,e⟩:=d.at z
  rw[h]at e;exact n v (ll e)
theorem dA{a:Type}:∀{l:List (Str×a)}{x:Str}{u:a},(l.map (·.1)).Nodup->(x,u)∈l->l.lookup x=some u
 | [],_,_,_,h=>by cases h
 | (y,w)::r,x,u,nd,h=>by
  rw[l_,t_]at nd
  rcases i_.mp h with e | h
  .cases e;simp[Gc]
  .have:x≠y:=λz=>nd.1 (lz.mpr ⟨(x,u),h,z⟩)
   rw[HW,beq_eq_false_iff_ne.mpr this];exact dA nd.2 h
def wc{a:Type}{l:List a}(h:l.Nodup):l.reverse.Nodup:=by
 unfold List.Nodup at h ⊢;rw[List.pairwise_reverse];exact h.imp λn z=>n z.symm
def kK(d:LamD)(L f c:Addr)(clos:List (Str×Addr)):Env:={ scope:=d.scope,locals:=L,globals:=xj,cells:=clos,qual:=d.qual ++ ".<locals>.",func:=some f,code:=.ref c,frame:=some L,builtins:=Hq }
def cxL(P:gN)(w:ml)(K:Frag)(mg:Str->Option cX)(base:Heap)(N:List Str)(d:LamD)(clos:List (Str×Addr))(f c:Addr)(A:o3)(outer:List Env)(s:ej)(H:Hp):Cx where
 prog:=P
 w:=w
 K:=K
 mg:=mg
 base:=base
 A:=A.deeper (kK d s.heap.objs.size f c clos)
 N:=N
 s₀:=s
 H₀:=untrs H (clos.map (·.2))
 env:=kK d s.heap.objs.size f c clos
 outer:=outer
 stack:=kK d s.heap.objs.size f c clos::outer
 ex:=[]
 calm:=true
 fn:=λ_=>false
 pn:=[]
 xe:=λ_ _=>False
def qc(P:gN)(w:ml)(K:Frag)(mg:Str->Option cX)(base:Heap)(k:Nat)(d:LamD)(fv ps:List Str)(sp:List (Str×Addr)->List V->Sp):Prop :=
 ∀(A:o3) (outer:List Env) (s:ej) (H:Hp) (f c:Addr) (clos:List (Str×Addr)) (us:List cX) (vs vals:List V) (Q:VK) (E:XK),Room k A->Env0 P w K mg base A outer s H->H f=some (.ext (kG f d clos c))->H c=some (.ext (ii c d.qual)) ->
  clos.map (·.1)=fv->(clos.map (·.2)).Nodup->CellsAt H clos vals->Vals vs us->sp clos vals vs H Q E->GG (kw P w) A (.call (.ref f) ⟨us,[]⟩) (CR CX0 outer P w H s Q E) s
def LamOk(P:gN)(w:ml)(K:Frag)(mg:Str->Option cX)(base:Heap)(k:Nat)(d:LamD)(fv ps:List Str)(sp:List V->Sp):Prop:=qc P w K mg base k d fv ps λ_=>sp
structure LamScope(d:LamD)(fv ps:List Str):Prop where
 kind:d.scope.kind=.function
 co:d.scope.isCoroutine=false
 gen:d.scope.isGenerator=false
 nocell:∀ x∈d.scope.names,x.2≠.cell
 par:∀ x ∈ ps,d.scope.names.lookup x = some .local
 free:∀ x∈d.scope.names,x.2=.free->x.1∈fv
 fr:∀ x∈fv,d.scope.names.lookup x=some .free
 nd:(ps++fv).Nodup
theorem cy{a b:Type}[BEq a][LawfulBEq a]:∀{l:List (a×b)}{x:a}{u:b},l.lookup x=some u->(x,u)∈l
 | [],_,_,h=>by cases h
 | (y,w)::r,x,u,h=>by
  rw[HW]at h;cases e:x == y with
  | true=>rw[e]at h;cases h;rw[eq_of_beq e];exact ft ..
  | false=>rw[e]at h;exact fy _ (cy h)
def um{P:gN}{w:ml}{K:Frag}{mg:Str->Option cX}{D:Heap}{d:LamD}{J ps:List Str}{a:List (Str×Addr)}{f c:Addr}{A:o3}{j:List Env}{s:ej}{H:Hp}{us:List cX}{vs g:List V}{F:Heap}{tk:Nat}
  (S:LamScope d J ps) (hd:A.handled=none) (C:Env0 P w K mg D A j s H) (hl:vs.length=ps.length) (r:Vals vs us) (B:a.map (·.1)=J) (R:(a.map (·.2)).Nodup) (O:CellsAt H a g)
  (ab:F.Ns s.heap.objs.size (λx=>(ps.zip us).reverse.lookup x)) (T:∀ b o,s.heap.get? b=some o->F.get? b=some o) :
  Inv (cxL P w K mg D (ps++J) d a f c A j s H) [] ((vs++g).map some) (untrs H (a.map (·.2))) { s with heap:=F,toks:=tk }:=by
 have Q:(a.map (·.1)).Nodup:=by rw[B];exact(Hz.mp S.nd).2.1
 have W:ps.Nodup:=(Hz.mp S.nd).1;have ad:us.length=ps.length:=by rw[<- r.length];exact hl
 have N:∀ x l,a.lookup x=some l->l∈a.map (·.2):=λx l e=>lz.mpr ⟨(x,l),cy e,rfl⟩
 have k:∀ b v,H b=some (.ext (dC b v))->∃ u,RelV v u/\F.IsCell b (some u):=λb v e=>by
  obtain⟨⟨o,u,E,m,g3⟩,_⟩:=C.hok b _ e;exact⟨u,g3,o,T _ _ E,m⟩
 have L:∀ b:Addr,b ∉ (cxL P w K mg D (ps++J) d a f c A j s H).ex:=λb z=>absurd (show b∈([]:List Addr) from z) (by simp)
 have ah:a.length=J.length:=by rw[<- B,a_]
 have al:g.length=a.length:=(gp O).symm
 refine⟨⟨C.mod,S.kind,rfl,rfl,d_ _,λy z l F h2=>?_,λy hy=>?_,λy l h=>(fx h).elim,λ_=>hd,Jw C.frames,.inr ⟨rfl,rfl⟩,λb z=>absurd z (L b),λb o e=>⟨(C.bs b o e).1,dr (C.bs b o e).2⟩,C.bsz,λb _ _=>L b,λb z=>absurd z (L b),C.funs,λb hb=>dr (C.frf b hb)⟩,
  rfl,C.bare,Un.kept T,⟨_,ab,λi y v E m g3=>?_⟩,λy l h=>?_,dr (C.hok.fresh (d_ _)),λy l h=>gj (N y l h),λp M=>absurd (show p∈([]:List (Addr×Obj)) from M) (by simp),λb u e=>?_,?_⟩
 .have F:a.lookup y=some l:=F
  have h2:a.lookup z=some l:=h2;have e1:=cy F;have e2:=cy h2;have X:((a.map λp=>(p.2,p.1)).map (·.1)).Nodup:=by rw[map_map];exact R
  have:=qE X (l,y) (lz.mpr ⟨_,e1,rfl⟩) (l,z) (lz.mpr ⟨_,e2,rfl⟩) rfl;exact congrArg Prod.snd this
 .have hy:d.scope.names.lookup y=some .cell\/d.scope.names.lookup y=some .free:=hy
  rcases hy with hy | hy
  .exact absurd rfl (S.nocell _ (cy hy))
  .have:=S.free _ (cy hy) rfl
   rw[<- B]at this;obtain⟨p,M,e⟩:=lz.mp this;have e':p.1=y:=e;exact⟨p.2,dA Q (by show(y,p.2)∈a;rw[<- e'];exact M)⟩
 .have E:(ps++J)[i]? = some y:=E
  by_cases hi:i<ps.length
  .rw[oN hi]at E
   rw[fb,oN (by lia)]at m
   have I:vs[i]? = some v:=by
    cases q:vs[i]? with
    | none=>rw[q]at m;cases m
    | some x=>rw[q]at m;cases m;rfl
   obtain⟨u,hu,Y⟩:=r.get I;refine⟨u,Y,.inl ⟨S.par y (eH E),?_⟩⟩;have Z:(y,u)∈ps.zip us:=eH (i:=i) (by rw[List.getElem?_zip_eq_some];exact⟨E,hu⟩);refine dA ?_ (List.mem_reverse.mpr Z);rw[List.map_reverse];refine wc ?_;have:(ps.zip us).map (·.1)=ps:=by rw[List.map_fst_zip];lia
   rw[this];exact W
  .rw[rn (by lia)]at E
   rw[fb,rn (by lia)]at m
   have I:g[i - ps.length]? = some v:=by
    rw[hl]at m;cases q:g[i - ps.length]? with
    | none=>rw[q]at m;cases m
    | some x=>rw[q]at m;cases m;rfl
   obtain⟨p,M,e⟩:=O.get I;rw[<- B,fb,M]at E;cases E;obtain⟨u,Y,ic⟩:=k _ _ e;have G:=eH M;refine⟨u,Y,.inr ⟨.inr (S.fr p.1 ?_),p.2,dA Q G,ic⟩⟩;rw[<- B];exact lz.mpr ⟨p,G,rfl⟩
 .obtain⟨v,e⟩:=O.at (N y l h)
  obtain⟨u,_,ic⟩:=k _ _ e;exact⟨_,ic⟩
 .by_cases hb:b∈a.map (·.2)
  .rw[gj hb]at e;cases e
  .rw[bI hb]at e
   refine(C.hok b u e).stay (λb' u' _ q=>T b' u' q) (λb' q=>?_) λb' xs q=>?_
   .exact bC O q λv z=>nomatch z
   .exact bC O q λv z=>nomatch z
 .show((vs++g).map some).length=(ps++J).length
  rw[a_,ir,ir];lia
section
variable {P:gN}{w:ml}{K:Frag}{mg:Str->Option cX}{base:Heap}
def zY{d:LamD}{M ps:List Str}{k:Nat}{sp:List (Str×Addr)->List V->Sp}(S:LamScope d M ps)
  (x:∀(pm ctv:cX) (clos:List (Str×Addr)) (c:Addr) (us:List cX),us.length=ps.length->IG (kla_fn "<lambda>" d.qual d.params d.body d.scope clos pm (.ref c) ctv) ⟨us,[]⟩=pure (ps.zip us))
  (T:∀ clos vals vs H Q E,sp clos vals vs H Q E->vs.length=ps.length)
  (l:∀(A:o3) (outer:List Env) (s:ej) (H:Hp) (f c:Addr) (clos:List (Str×Addr)) (vals vs:List V) (Q:VK) (E:XK),Room k (A.deeper (kK d s.heap.objs.size f c clos))->clos.map (·.1)=M->CellsAt H clos vals->sp clos vals vs H Q E ->
   ∃ t,PE (cxL P w K mg base (ps++M) d clos f c A outer s H) d.body t/\t ((vs++vals).map some) (untrs H (clos.map (·.2))) (λv H'=>∀ H3,Same H' H3->(∀ p∈clos,H3 p.2=H p.2)->Q v H3)) :
  qc P w K mg base (k+1) d M ps sp:=by
 intro A outer s H f c clos us vs vals Q E Z i hf hc D N m r G;have hl:=T _ _ _ _ _ _ G;have O:us.length=ps.length:=by rw[<- r.length];exact hl
 obtain⟨⟨pm,ctv,ef⟩,_,_⟩:=i.hok f _ hf;obtain⟨⟨oc,W,ct,ec,ed,ev⟩,_,_⟩:=i.hok c _ hc;have Y:s.heap.NoLimit:=i.mod.nolimit.keeps λb o e=>(i.bs b o e).1
 obtain⟨t,ht,hq⟩:=l A outer s H f c clos vals vs Q E (Z.deeper _) D m G;refine PySem.W.kla_callFunE (body:=d.body) Z.depth ef rfl S.co S.gen rfl ⟨c,oc,W,ct,rfl,ec,ed,ev⟩ ?_;rw[x pm ctv clos c us O];refine eB (KH S.nocell (λy hy=>S.par y.1 (GB hy).1) (λh1 hns hsb=>?_) S.kind);have hk:∀ b o,s.heap.get? b=some o->h1.get? b=some o:=λb o e=>hsb.extBut b o (nl (fR e)) (e_ _ e)
 refine⟨Y.fresh _ hsb,?_⟩;show GG _ _ (.expr d.body (kK d s.heap.objs.size f c clos)) _ _;have I:=um (f:=f) (c:=c) (tk:=s.toks+(ps.zip us).length) S Z.hd i hl r D N m hns hk;refine PySem.W.kla_codeExpr (tW (ht [] _ _ _ _ I hq) (λu s' hs=>?_) λe s' z=>mM z);obtain⟨v,H',J,rv,q⟩:=hs
 obtain⟨cs,hcs⟩:∃ cs,cs=clos.map (·.2):=⟨_,rfl⟩
 have h:Un (frs outer) [] (untrs H (clos.map (·.2))) H' s.heap s'.heap:=J.base
 have B:∀ b,b∈clos.map (·.2)->∃ o v,s.heap.get? b=some o/\H b=some (.ext (dC b v)):=λb a=>by
  obtain⟨v,e⟩:=m.at a;obtain⟨⟨o,_,g,_⟩,_⟩:=i.hok b _ e;exact⟨o,v,g,e⟩
 have R:∀ b∈clos.map (·.2),H' b=none:=λb a=>by
  obtain⟨o,v,g,_⟩:=B b a;exact h.free b o g (gj a) (by simp)
 let H3:Hp:=λb=>if b∈clos.map (·.2) then H b else H' b
 have g1:∀ b,b∈clos.map (·.2)->H3 b=H b:=λb a=>if_pos a
 have X:∀ b,b ∉ clos.map (·.2)->H3 b=H' b:=λb a=>if_neg a
 have C:Same H' H3:=λb o e=>by
  rw[X b λz=>by rw[R b z]at e;cases e];exact e
 have up:∀ b o,H b=some o->(∀ v,o≠.ext (dC b v))->b ∉ clos.map (·.2):=λb o e n z=>by
  obtain⟨v,j⟩:=m.at z;rw[e]at j;exact n v (ll j)
 refine⟨v,H3,J.os,J.bare,⟨λb o e n a L=>h.keep b o e (dr n) a L,λb o e n a L=>h.slot b o e (dr n) a L,λb o e n L=>?_,h.there,λb xs e=>?_,λb o u e=>?_,λb ps' e=>?_⟩,λb o e=>?_,rv,q H3 C λp hp=>g1 p.2 (lz.mpr ⟨p,hp,rfl⟩)⟩
 .rw[X b λz=>by obtain⟨_,v,_,j⟩:=B b z;rw[n]at j;cases j]
  exact h.free b o e (dr n) L
 .exact C _ _ (h.tups b xs (bC m e λv z=>nomatch z))
 .exact C _ _ (h.frzs b o u (bC m e λv z=>nomatch z))
 .obtain⟨F,z⟩:=h.tbls b ps' (bC m e λv z=>nomatch z)
  exact⟨F,C _ _ z⟩
 .by_cases a:b∈clos.map (·.2)
  .rw[g1 b a]at e
   obtain⟨o',v',g,j⟩:=B b a;rw[e]at j;cases j;obtain⟨⟨o2,u2,k1,k2,k3⟩,_⟩:=i.hok b _ e;refine rg ⟨o2,u2,h.keep b o2 k1 (gj a) (λz=>?_) (by simp),k2,k3⟩;rw[i.frf b z]at e;cases e
  .rw[X b a]at e
   refine(J.hok b o e).stay (λb' u' _ q=>q) (λb' q=>C _ _ q) λb' xs q=>C _ _ q
def eP{d:LamD}{e ps:List Str}{k:Nat}{sp:List V->Sp}(S:LamScope d e ps)
  (a:∀(pm ctv:cX) (clos:List (Str×Addr)) (c:Addr) (us:List cX),us.length=ps.length->IG (kla_fn "<lambda>" d.qual d.params d.body d.scope clos pm (.ref c) ctv) ⟨us,[]⟩=pure (ps.zip us))
  (g:∀ vals vs H Q E,sp vals vs H Q E->vs.length=ps.length)
  (b:∀(A:o3) (outer:List Env) (s:ej) (H:Hp) (f c:Addr) (clos:List (Str×Addr)) (vals vs:List V) (Q:VK) (E:XK),Room k (A.deeper (kK d s.heap.objs.size f c clos))->clos.map (·.1)=e->CellsAt H clos vals->sp vals vs H Q E ->
   ∃ t,PE (cxL P w K mg base (ps++e) d clos f c A outer s H) d.body t/\t ((vs++vals).map some) (untrs H (clos.map (·.2))) (λv H'=>∀ H3,Same H' H3->(∀ p∈clos,H3 p.2=H p.2)->Q v H3)) :
  LamOk P w K mg base (k+1) d e ps sp:=zY (sp:=λ_=>sp) S a (λ_=>g) b
end
def PE.or{X:Cx}{e:Expr}{t t':TE}(h:PE X e t)(h':PE X e t'):PE X e (λσ H Q=>t σ H Q\/t' σ H Q):=λa s σ H Q I q=>q.elim (h a s σ H Q I) (h' a s σ H Q I)
def wQ(d:LamD)(fv:List Str)(sp:List (Str×Addr)->List V->Sp):V->List V->Hp->VK->Prop:=λv vs H Q=>∃ f c clos vals,v=.ref f/\H f=some (.ext (kG f d clos c))/\H c=some (.ext (ii c d.qual))/\clos.map (·.1)=fv/\(clos.map (·.2)).Nodup/\CellsAt H clos vals/\sp clos vals vs H Q λ_ _ _=>False
def qu(d:LamD)(fv:List Str)(sp:List V->Sp):V->List V->Hp->VK->Prop:=wQ d fv λ_=>sp
def CP(d:LamD)(fv:List Str)(sp:List V->Sp)(tf:TE)(t:TA):TE:=λσ H Q=>tf σ H λv H1=>(∃ f d' clos c,v=.ref f/\H1 f=some (.ext (kG f d' clos c)))/\t σ H1 λvs H2=>(∀ f d' clos c,v=.ref f->H1 f=some (.ext (kG f d' clos c))->H2 f=some (.ext (kG f d' clos c)))/\qu d fv sp v vs H2 Q
section
variable {X:Cx}{d:LamD}{fv ps:List Str}{k:Nat}{sp:List V->Sp}{x:Str}{p pos:Pos}{tf:TE}{t:TA}{e:Expr}{es:List Expr}
def vj{sp:List (Str×Addr)->List V->Sp}{a:List (Addr×Obj)}{j:St}{H:Hp}{s:ej}{Q:VK}{us:List cX}{vs:List V}{v:V}{u:cX}(L:qc X.prog X.w X.K X.mg X.base k d fv ps sp)(o:Room k X.A)(I:Inv X a j H s)(A:RelV v u)(r:Vals vs us)(h:wQ d fv sp v vs H Q) :
  gV (kw X.prog X.w) X.A (call u us) (EP X a j Q) X.xe s:=by
 obtain⟨f,c,b,i,rfl,m,w,y,x,p,l⟩:=h;obtain rfl:u=mr f:=A;refine Iw (Gv (L X.A X.stack s H f c b us vs i Q _ o I.env0 m w y x p r l) λr B g=>?_);cases r with
 | error e=>exact mM g
 | ok fl =>
  cases fl with
  | ret u=>exact I.after g
  | next=>exact mM g
  | brk=>exact mM g
  | cont=>exact mM g
def qC{H:Hp}{s:ej}{P:gN}{w:ml}{f c:Addr}{d:LamD}{a:List (Str×Addr)}(g:HOk P w H s.heap)(b:H f=some (.ext (kG f d a c))):FnAt f s.heap:=by
 obtain⟨⟨i,h,e⟩,_,_⟩:=g f _ b;exact⟨_,_,_,_,e⟩
def j5(E:PE X (.Name x p) tf)(L:LamOk X.prog X.w X.K X.mg X.base k d fv ps sp)(D:Room k X.A)(F:PA X (e::es) t)
  (C:fI (e::es) X.env=(false,eval e X.env)::fI es X.env:=by rfl) (b:(tp pos (fI es X.env)).any (·.1)=false:=by rfl):PE X (.Call (.Name x p) (e::es) [] pos) (CP d fv sp tf t):=by
 intro a s i H Q I h;refine oI (thn (E a s i H _ I h) λu A ⟨v,B,l,y,⟨f,M,g,c,w,j⟩,q⟩=>?_);subst w;obtain rfl:u=mr f:=y;refine PySem.W.callWith_F (qC l.hok j) (thn (F pos a A i B _ l q) λK J ⟨G,N,m,r,o⟩=>⟨qC m.hok (o.1 _ _ _ _ rfl j),?_⟩) C b;exact vj L D m (v:=.ref f) rfl r o.2
def tJ{sp:List (Str×Addr)->List V->Sp}(l:PE X (.Name x p) tf)(L:qc X.prog X.w X.K X.mg X.base k d fv ps sp)(j:Room k X.A):PE X (.Call (.Name x p) [] [] pos) (λσ H Q=>tf σ H λv H1=>wQ d fv sp v [] H1 Q):=by
 intro a s σ H Q I h;refine oI (thn (l a s σ H _ I h) λu r ⟨v,H1,e,o,q⟩=>?_);obtain⟨f,c,b,g,m,i,_⟩:=id q;subst m;obtain rfl:u=mr f:=o;exact PySem.W.callWith_F0 (qC e.hok i) (vj (us:=[]) L j e (v:=.ref f) rfl .nil q)
def bu(b:PE X (.Name x p) tf)(L:LamOk X.prog X.w X.K X.mg X.base k d fv ps sp)(a:Room k X.A):PE X (.Call (.Name x p) [] [] pos) (λσ H Q=>tf σ H λv H1=>qu d fv sp v [] H1 Q):=tJ b L a
end
abbrev TR:=VK->(V->St->Hp->Prop)->St->Hp->Prop
def PR(X:Cx)(sts:List Stmt)(t:TR):Prop :=
 ∀(pins:List (Addr×Obj)) (s:ej) (σ:St) (H:Hp) (R:VK) (Z:V->St->Hp->Prop),Inv X pins σ H s->t R Z σ H ->
  gV (kw X.prog X.w) X.A (execs sts X.env) (λf s'=>∃ u,f=.ret u/\((∃ v σ' H',Inv X pins σ' H' s'/\RelV v u/\(R v H'\/Z v σ' H'))\/∃ v H',s'.os=X.s₀.os/\GQ s'.gens/\Un X.fs X.ex X.H₀ H' X.s₀.heap s'.heap/\HOk X.prog X.w H' s'.heap/\RelV v u/\R v H')) X.xe s
section
variable {X:Cx}{e:Expr}{te:TE}{pos:Pos}{st:Stmt}{rest:List Stmt}{t:TS}{u:TR}
def qW(g:PE X e te):PR X [.Return (some e) pos] (λ_ Z σ H=>te σ H λv H'=>Z v σ H'):=by
 intro a s σ H R Z I h;refine A8 (ID (thn (g a s σ H _ I h) λv i ⟨x,c,f,d,b⟩=>?_));exact⟨v,rfl,.inl ⟨x,σ,c,f,d,.inr b⟩⟩
def cV(g:PS X st t)(i:PR X rest u):PR X (st::rest) (λR Z σ H=>t { nx:=u R Z,rt:=R } σ H):=by
 intro a s σ H R Z I h;refine A8 (thn (g a s σ H { nx:=u R Z,rt:=R } I h) λf e q=>?_);cases f with
 | next =>
  obtain⟨b,d,c,q⟩:=q;exact i a e b d R Z c q
 | ret v =>
  obtain⟨j,b,d,c,r,q⟩:=q;exact⟨v,rfl,.inl ⟨j,b,d,c,r,.inl q⟩⟩
 | brk=>obtain⟨_,_,_,q⟩:=q;exact mM q
 | cont=>obtain⟨_,_,_,q⟩:=q;exact mM q
end
def lU(cells:List (Str×Addr))(N:List Str)(σ:St)(H3:Hp):Prop:=∀(i:Nat) (y:Str) (v:V) (c:Addr),N[i]? = some y->σ[i]? = some (some v)->cells.lookup y=some c->H3 c=some (.ext (dC c v))
theorem kf{y:Str}{c:Addr}:∀(names:List (Str×A_)) (n:Nat) (acc:List (Str×Addr)),(y,c)∈C_ n names acc->(y,c)∈acc\/(y,IA)∈names
 | [],n,acc,h=>.inl h
 | (x,k)::r,n,acc,h=>by
  unfold C_ at h
  split at h
  .rename_i hk
   rcases kf r (n+1) ((x,n)::acc) h with z | z
   .rcases i_.mp z with e | z
    .cases e
     rw[eq_of_beq hk];exact .inr (ft ..)
    .exact .inl z
   .exact .inr (fy _ z)
  .rcases kf r n acc h with z | z
   .exact .inl z
   .exact .inr (fy _ z)
section
variable {P:gN}{w:ml}{K:Frag}{mg:Str->Option cX}{base:Heap}
def xX{CX:CXT}{N:List Str}{C:Str}{scope:E2}{f:Addr}{cd:cX}{A:o3}{a:List Env}{s O:ej}{H B:Hp}{E:XK}{X:St}(hN:N.Nodup)(Y:∀ p∈scope.names,p.2=.cell->scope.names.lookup p.1=some .cell)
  {Q:List (Addr×Obj)}(J:Inv (cL CX P w K mg base N C scope f cd A a s H E) Q X B O) :
  ∃ H3,Same B H3/\lU (C_ (s.heap.objs.size+1) scope.names []) N X H3/\(∀ b,B b=none->H3 b≠none->∃ y,(C_ (s.heap.objs.size+1) scope.names []).lookup y=some b)/\Un (frs a) [] H H3 s.heap O.heap/\HOk P w H3 O.heap:=by
 have x:∀ y c,(C_ (s.heap.objs.size+1) scope.names []).lookup y=some c->scope.names.lookup y=some .cell:=λy c e=>by
  rcases kf _ _ _ (cy e) with z | z
  .cases z
  .exact Y _ z rfl
 obtain⟨cells,hcells⟩:∃ l,l=C_ (s.heap.objs.size+1) scope.names []:=⟨_,rfl⟩
 rw[<- hcells]at x ⊢;have d:(cL CX P w K mg base N C scope f cd A a s H E).env.cells=cells:=hcells.symm
 let G:Addr->V->Prop:=λb v=>∃(i:Nat) (y:Str),N[i]? = some y/\X[i]? = some (some v)/\cells.lookup y=some b
 have G1:∀ b v T,G b v->G b T->v=T:=by
  rintro b v T ⟨i,y,I,M,g⟩ ⟨j,z,b1,b2,b3⟩;have:y=z:=J.ok.inj y z b (by rw[d];exact g) (by rw[d];exact b3);subst this;have:i=j:=ni hN I b1;subst this;rw[M]at b2;cases b2;rfl
 have W:∀ b v,G b v->B b=none/\s.heap.objs.size<=b/\dC b v O.heap:=by
  rintro b v ⟨i,y,I,M,g⟩;refine⟨J.freeC y b (by rw[d];exact g),J.ok.cab y b rfl (by rw[d];exact g),?_⟩;obtain⟨m,hn,hl⟩:=J.loc;obtain⟨u,r,l⟩:=hl i y v I M (.inr (.inl (x y b g)))
  rcases l with⟨k,_⟩ | ⟨k,c,e,o,ho,hd⟩
  .exfalso
   have k:scope.names.lookup y = some .local:=k;rw[x y b g]at k;cases k
  .have e:cells.lookup y=some c:=by rw[<- d];exact e
   rw[g]at e;cases e;exact⟨o,u,ho,hd,r⟩
 classical
 let H3:Hp:=λb=>if h:∃ v,G b v then some (.ext (dC b (JE h))) else B b
 have Z:∀ b v,G b v->H3 b=some (.ext (dC b v)):=λb v h=>by
  have S:∃ v,G b v:=⟨v,h⟩
  show(if h:∃ v,G b v then some (.ext (dC b (JE h))) else B b)=_;rw[dif_pos S,G1 b _ v (Classical.choose_spec S) h]
 have R:∀ b,(¬∃ v,G b v)->H3 b=B b:=λb h=>dif_neg h
 have F:Same B H3:=λb o e=>by
  rw[R b λ⟨v,z⟩=>by rw[(W b v z).1]at e;cases e];exact e
 have D:Un (frs a) [] H B s.heap O.heap:=J.base;refine⟨H3,F,λi y v c I M g=>Z c v ⟨i,y,I,M,g⟩,(λb n1 n2=>?_),⟨D.keep,D.slot,λb o e n S=>?_,D.there,λb xs e=>F _ _ (D.tups b xs e),λb o u e=>F _ _ (D.frzs b o u e),λb ps e=>?_⟩,λb o e=>?_⟩
 .by_cases h:∃ v,G b v
  .obtain⟨v,i,y,_,_,g⟩:=h
   exact⟨y,g⟩
  .rw[R b h]at n2
   exact absurd n1 n2
 .rw[R b λ⟨v,z⟩=>absurd (jb (fR e) (W b v z).2.1) (pw _)]
  exact D.free b o e n S
 .obtain⟨L,z⟩:=D.tbls b ps e
  exact⟨L,F _ _ z⟩
 .by_cases h:∃ v,G b v
  .obtain⟨v,h⟩:=h
   rw[Z b v h]at e;cases e;exact rg (W b v h).2.2
  .rw[R b h]at e
   exact(J.hok b o e).stay (λb' u' _ q=>q) (λb' q=>F _ _ q) λb' xs q=>F _ _ q
def qH{N:List Str}{c:Str}{scope:E2}{f:Addr}{j:cX}{A:o3}{a:List Env}{s:ej}{H:Hp}{E:XK}{k:Nat}{g:Addr}{fd:ri}{ps:List Str}{sp:Sp}{W:List cX}{B:List V}{x:Str}{p D rp:Pos}{e:Expr}{es:List Expr}{t:TA}
  (hN:N.Nodup) (al:∀ p∈scope.names,p.2=.cell->scope.names.lookup p.1=some .cell)
  (F:FnOk P w K mg base CX0 k g fd ps sp) (hr:Room k (cL CX0 P w K mg base N c scope f j A a s H E).nox.A) (hg:Gl (cL CX0 P w K mg base N c scope f j A a s H E).nox x) (hm:mg x=some (.ref g)) (hk:HR K (.ref g)=true) (l:Binds K fd ps W) (hd:Vals B W)
  (ha:PA (cL CX0 P w K mg base N c scope f j A a s H E).nox (e::es) t) (am:(x == ("__debug__" : Str))=false:=by decide)
  (he:fI (e::es) (cL CX0 P w K mg base N c scope f j A a s H E).nox.env=(false,eval e (cL CX0 P w K mg base N c scope f j A a s H E).nox.env)::fI es (cL CX0 P w K mg base N c scope f j A a s H E).nox.env:=by rfl)
  (as:(tp D (fI es (cL CX0 P w K mg base N c scope f j A a s H E).nox.env)).any (·.1)=false:=by rfl) :
  PR (cL CX0 P w K mg base N c scope f j A a s H E).nox [.Return (some (.Call (.Name x p) (e::es) [] D)) rp]
   (λR _ σ H'=>t σ H' λvs H1=>∀ H3,Same H1 H3->lU (C_ (s.heap.objs.size+1) scope.names []) N σ H3->sp (vs++B) H3 R λ_ _ _=>False):=by
 intro C s1 σ H1 R Z I h;refine A8 (ID ?_);refine oI (jU I hg hm ?_ am);refine Hu (h₀:=base) I.ok.mod.kin hk (thn (ha D C s1 σ H1 _ I h) λS X ⟨vs,H2,I2,r,q⟩=>⟨I2.kIn,?_⟩) he as;have J:Inv (cL CX0 P w K mg base N c scope f j A a s H E) C σ H2 X:=I2.unwish;obtain⟨H3,sm,hc,M,m,an⟩:=xX hN al J;have r2:Vals (vs++B) (S++W):=r.append hd;have q':=q H3 sm hc;have hl:(S++W).length=ps.length:=by rw[<- r2.length];exact F.len _ _ _ _ q'
 have hL:∀ b∈frs (envOfC c scope s.heap.objs.size f j::a),b=s.heap.objs.size\/b∈frs a:=λb l=>by
  have:b∈s.heap.objs.size::frs a:=l;exact i_.mp this
 have e0:Env0 P w K mg base (cL CX0 P w K mg base N c scope f j A a s H E).A (envOfC c scope s.heap.objs.size f j::a) X H3:=by
  have z:=J.env0;refine⟨z.frames,z.mod,λb o e=>⟨(z.bs b o e).1,m.free b o (J.ok.bs b o e).1 (J.ok.bs b o e).2 (by simp)⟩,z.bsz,z.funs,λb l=>?_,an,z.bare⟩;cases q3:H3 b with
  | none=>rfl
  | some o =>
   obtain⟨y,hy⟩:=M b (z.frf b l) (by rw[q3];simp)
   rcases hL b l with rfl | hb'
   .exact absurd rfl (J.cne y _ hy)
   .obtain⟨_,Y,ad,_⟩:=J.ok.funs.mem hb'
    have:=J.ok.cab y b rfl hy;exact absurd (jb (fR ad) this) (pw _)
 refine Iw (Gv (F.run _ _ X H3 ⟨S,[]⟩ (S++W) (vs++B) R _ hr e0 (l X S J.kIn hl) r2 q') λrr s' T=>?_);cases rr with
 | error e=>exact mM T
 | ok fl =>
  cases fl with
  | ret u =>
   obtain⟨v,H4,os,Q,d,O,rv,qq⟩:=T
   have L:∀ b o,s.heap.get? b=some o->b ∉ frs a->b ∉ frs (envOfC c scope s.heap.objs.size f j::a):=λb o e n z=>by
    rcases hL b z with rfl | z
    .exact absurd (fR e) (pw _)
    .exact n z
   have ah:∀ b,b∈frs a->b∈frs (envOfC c scope s.heap.objs.size f j::a):=λb z=>by
    show b∈s.heap.objs.size::frs a;exact fy _ z
   refine⟨u,rfl,.inr ⟨v,H4,os.trans J.os,Q,⟨λb o e n l i=>d.keep b o (m.keep b o e n l i) (m.free b o e n i) (L b o e l) i,λb o e n l i=>?_,λb o e n i=>?_,λb o e i=>?_,λb xs e=>d.tups b xs (m.tups b xs e),λb o u e=>d.frzs b o u (m.frzs b o u e),λb qs e=>?_⟩,O,rv,qq⟩⟩
   .obtain⟨sl,G⟩:=m.slot b o e n l i
    obtain⟨ab,e2⟩:=d.slot b _ G (m.free b o e n i) (ah b l) i;exact⟨ab,e2⟩
   .obtain⟨Y,G⟩:=m.there b o e i
    exact d.free b Y G (m.free b o e n i) i
   .obtain⟨Y,G⟩:=m.there b o e i
    exact d.there b Y G i
   .obtain⟨m1,G⟩:=m.tbls b qs e
    obtain⟨m2,e2⟩:=d.tbls b _ G;exact⟨m1++m2,by rw[e2,HJ]⟩
  | next=>exact mM T
  | brk=>exact mM T
  | cont=>exact mM T
def Fun.okL{x a:Str}{st:Stmt}{f c:Addr}{m:ri}{N ps:List Str}{k:Nat}{sp:Sp}(F:Fun K x a st f m)(hc:m.code=.ref c)(S:FnScope N ps (aH st))(C:∀ p∈(aH st).names,p.2=.cell->(aH st).names.lookup p.1=some .cell)
  (j:∀ vs H Q E,sp vs H Q E->vs.length=ps.length)
  (g:∀(A:o3) (outer:List Env) (s:ej) (H:Hp) (vs:List V) (Q:VK) (E:XK),Room k (A.deeper (envOfC a (aH st) s.heap.objs.size f (.ref c)))->sp vs H Q E ->
   ∃ t,PR (cL CX0 P w K mg base N a (aH st) f (.ref c) A outer s H E).nox (dz st) t/\t Q (λv σ H'=>∀ H3,Same H' H3->lU (C_ (s.heap.objs.size+1) (aH st).names []) N σ H3->Q v H3) (start N vs) H):FnOk P w K mg base CX0 (k+1) f m ps sp:=by
 obtain⟨oc,od,kV,ah,pm,an,D,ct,ab,rfl,Y,M⟩:=F.ex;obtain rfl:D=.ref c:=hc;refine⟨j,λA outer s H T us vs Q E L i hb r h=>?_⟩;have hl:=j _ _ _ _ h;have R:K.In s.heap:=i.mod.kin.keeps λb o e=>(i.bs b o e).1
 have G:s.heap.NoLimit:=i.mod.nolimit.keeps λb o e=>(i.bs b o e).1
 have d:∀ y ∈ ps.zip us,(aH st).names.lookup y.1 = some .local\/((aH st).names.lookup y.1 = some .cell/\((C_ (s.heap.objs.size + 1) (aH st).names []).lookup y.1).isSome = true):=λ⟨n,v⟩ hy=>by
  rcases S.par n (GB hy).1 with q | q
  .exact .inl q
  .exact .inr ⟨q,HU _ _ _ (.inl q)⟩
 refine HK L.depth (R _ _ Y) rfl S.co S.gen rfl (Ld R M) (hb _ _ _ _ ?_);refine GW S.kind d λad he O x=>?_
 subst he;refine⟨G.keeps x.toInCall.keep,Kc ?_⟩;obtain⟨t,ht,hq⟩:=g A outer s H vs Q E (L.deeper _) h;have I:Inv (cL CX0 P w K mg base N a (aH st) f (.ref c) A outer s H E) [] (start N vs) H O:=ke S L.hd i hl r x;refine tW (ht [] O (start N vs) H Q _ (I.wish _) hq) (λfl s' B=>?_) λe s' B=>mM B
 obtain⟨u,rfl,⟨v,Z,H',J,l,q⟩ | ⟨v,H',X,g2,g3,g4,l,q⟩⟩:=B
 .have J:=J.unwish
  rcases q with q | q
  .exact⟨v,H',J.os,J.bare,J.base,J.hok,l,q⟩
  .obtain⟨H3,W,h2,_,h3,h4⟩:=xX S.nd C J
   exact⟨v,H3,J.os,J.bare,h3,h4,l,q H3 W h2⟩
 .exact⟨v,H',X,g2,g3,g4,l,q⟩
end
def wM{P:gN}{w:ml}{K:Frag}{mg mb:Str->Option cX}{CX:CXT}{k:Nat}{fa a:Addr}{fd:ri}{x:Str}{sp:Sp}{f:ej}{vs:List cX}{I:List Int}{p:List Addr}
  (KX:K.In f.heap) (X:f.heap.Ns xj mg) (g:f.heap.Ns Hq mb) (an:∀ x:Str,x ≠ "__name__" -> mb x=nv x) (M:f.heap.NoLimit) (hg:f.gens = #[])
  (G:f.heap.get? a=some { cls:=.type "list",data:=.seq vs.toArray }) (hi:Hv vs I) (hl:I.length<=sizeLine) (hr:Room k IH) (a0:Bm mg f.heap)
  (l:∀ P∈p,f.heap.get? P=some (Lk #[])) (ab:∀ P∈p,∃ c,F9 K c P=true) (am:∀ P∈p,K.lookup P=none)
  (F:∀ base:Heap,K.In base->base.Ns xj mg->Bm mg base->FnOk P w K mg base CX k fa fd [x] sp) (E:∀(s:ej) (u:cX),Ka s fd ⟨[u],[]⟩ [(x,u)])
  (ad:∀ H:Hp,(∀ P∈p,H P=some (.tbl #[]))->SqL K H a (I.map V.int)->sp [.ref a] H (λv _=>v=.bl true) λ_ _ _=>False)
  (ah:∀ H e s',CX [] H f (λ_ _ _=>False) e s'->False) :
  GG (kw P w) IH (.call (.ref fa) ⟨[.ref a],[]⟩) (λr s'=>r=.ok (.ret (.bool true))/\OldK f.heap s'.heap/\s'.os=f.os/\GQ s'.gens) f:=by
 have rv:=pH hi;have Q:=hi.length;have W:a ∉ p:=λz=>by have:=l a z;rw[G]at this;cases this
 have D:∀ H:Hp,(∀ P∈p,H P=some (.tbl #[]))->SqL K H a (I.map V.int)->HOk P w H f.heap->(∀ b u,H b=some u->(b=a/\∃ o xs,u=.frz o (.lst xs))\/(b∈p/\u=.tbl #[]))->(H a≠none->K.lookup a=none) ->
   GG (kw P w) IH (.call (.ref fa) ⟨[.ref a],[]⟩) (λr s'=>r=.ok (.ret (.bool true))/\OldK f.heap s'.heap/\s'.os=f.os/\GQ s'.gens) f:=by
  intro H hT hS R Y hK;have j:∀{b:Addr}{o:Obj},f.heap.get? b=some o->H b=none->(nW f.heap H).get? b=some o:=λe n=>xO e n
  have a1:∀{b:Addr}{o:Obj},f.heap.get? b=some o->o.cls≠.none->(∀ J n,o.data≠.seq J n)->H b=none:=λ{b o} e d1 d2=>by
   cases q:H b with
   | none=>rfl
   | some u =>
    rcases Y b u q with⟨rfl,_⟩ | ⟨g,_⟩
    .rw[G]at e;cases e;exact(d2 _ _ rfl).elim
    .rw[l b g]at e;cases e;exact(d1 rfl).elim
  have as:∀{b:Addr}{o:Obj}{O:Array Hk}{S:Nat},f.heap.get? b=some o->o.data=.dict O S->H b=none:=λ{b o O S} e d=>by
   cases q:H b with
   | none=>rfl
   | some u =>
    rcases Y b u q with⟨rfl,_⟩ | ⟨g,_⟩
    .rw[G]at e;cases e
     have d':Data.seq vs.toArray _=Data.dict O S:=d;cases d'
    .rw[l b g]at e;cases e;cases d
  have y:∀{b:Addr}{m:Str->Option cX},f.heap.Ns b m->(nW f.heap H).Ns b m:=λ{b m} ⟨o,O,S,e,d,r⟩=>⟨o,O,S,j e (as e d),d,r⟩
  have N:K.In (nW f.heap H):=λb o e=>j (KX b o e) (by
   cases q:H b with
   | none=>rfl
   | some u =>
    rcases Y b u q with⟨rfl,_⟩ | ⟨g,_⟩
    .rw[hK (by rw[q];simp)]at e;cases e
    .rw[am b g]at e;cases e)
  have hM:Mod K mg (nW f.heap H):=⟨N,y X,⟨mb,y g,an⟩,let ⟨mc,h1,h2⟩:=M;⟨mc,y h1,h2⟩⟩
  have hB:Bm mg (nW f.heap H):=by
   obtain⟨bm,ob,b1,b2,b3,b4,b5⟩:=a0;exact⟨bm,ob,b1,j b2 (a1 b2 (by rw[b3];simp) (λJ n=>by rw[b5];intro z;cases z)),b3,b4,b5⟩
  have e0:Env0 P w K mg (nW f.heap H) IH [] f H:=⟨rfl,hM,λb o e=>AV e,Il (v7 _ _),trivial,λb g=>absurd (show b∈([]:List Addr) from g) (by simp),R,.of_eq hg⟩
  refine Gv ((F _ N (y X) hB).run IH [] f H ⟨[.ref a],[]⟩ [.ref a] [.ref a] _ _ hr e0 (E f (.ref a)) (.cons rfl .nil) (ad H hT hS)) λr s' h=>?_
  cases r with
  | error e=>exact(ah H e s' h).elim
  | ok fl =>
   cases fl with
   | next=>exact mM h
   | brk=>exact mM h
   | cont=>exact mM h
   | ret u =>
    obtain⟨v,H',os,L,un,B,r',q⟩:=h;have q':v=.bl true:=q;subst q';obtain rfl:u=HI true:=r';refine⟨rfl,⟨λb o e=>?_,λb o e=>un.there b o e (by simp)⟩,os,L⟩;cases q:H b with
    | none=>exact .inl (un.keep b o e q (by intro z;exact absurd (show b∈([]:List Addr) from z) (by simp)) (by simp))
    | some u =>
     rcases Y b u q with⟨_,ob,xs,rfl⟩ | ⟨g,rfl⟩
     .have z2:=un.frzs b ob _ q
      obtain⟨e1,_⟩:=R b _ q;obtain⟨e2,_⟩:=B b _ z2;rw[e]at e1;cases e1;exact .inl e2
     .obtain⟨c,hc⟩:=ab b g
      have C:=codeHd_of_K KX hc;obtain⟨A,z⟩:=un.tbls b _ q;have z2:s'.heap.get? b=some (Lk (#[]++A)):=B b _ z;rw[l b g]at e;cases e;exact .inr (.inl ⟨(C.tab (l b g)).isCodeTable,rfl,#[],A,rfl,z2⟩)
 let T:Hp:=λb=>if b∈p then some (.tbl #[]) else none
 cases hk:K.lookup a with
 | some o =>
  have e:=KX a o hk;rw[G]at e;cases e;refine D T (λP Z=>if_pos Z) (.inr ⟨_,vs.toArray,_,hk,rfl,rfl,rfl,by rw[l5,Q];exact hl,by simpa using rv⟩) (λb u z=>?_) (λb u z=>?_) λz=>absurd (if_neg W) z
  .by_cases g:b∈p
   .have i:=(if_pos g).symm.trans z
    cases i;exact l b g
   .have i:=(if_neg g).symm.trans z
    cases i
  .by_cases g:b∈p
   .have i:=(if_pos g).symm.trans z
    cases i;exact .inr ⟨g,rfl⟩
   .have i:=(if_neg g).symm.trans z
    cases i
 | none =>
  refine D (λb=>if b=a then some (.frz { cls:=.type "list",data:=.seq vs.toArray } (.lst (I.map V.int))) else T b) (λP Z=>?_) (.inl (.inr ⟨{ cls:=.type "list",data:=.seq vs.toArray },if_pos rfl⟩)) (λb u z=>?_) (λb u z=>?_) λ_=>hk
  .have al:P≠a:=λz=>W (by rw[<- z];exact Z)
   exact(if_neg al).trans (if_pos Z)
  .by_cases g:b=a
   .have i:=(if_pos g).symm.trans z
    cases i;subst g;exact⟨G,by rw[a_];exact hl,vs,_,rv,G⟩
   .have i:=(if_neg g).symm.trans z
    by_cases g:b∈p
    .have i:=(if_pos g).symm.trans i
     cases i;exact l b g
    .have i:=(if_neg g).symm.trans i
     cases i
  .by_cases g:b=a
   .have i:=(if_pos g).symm.trans z
    cases i;exact .inl ⟨g,_,_,rfl⟩
   .have i:=(if_neg g).symm.trans z
    by_cases g:b∈p
    .have i:=(if_pos g).symm.trans i
     cases i;exact .inr ⟨g,rfl⟩
    .have i:=(if_neg g).symm.trans i
     cases i
def walk_ofT{l:PySem.W.OpenLaw}{n k:Nat}{q:gN}{m:List Str}{N:(Str->Option cX)->Heap->Prop}{J:ml->Heap->Prop}{d:DefRec}{K:Params->Frag}{CX:CXT}{sp:Frag->List Addr->Sp}{x:Str}{i:List Addr}
  (X:l.most=some n) (I:n<=sizeLine) (C:d.params.defaults=[]) (Z:Room k IH)
  (O:∀(w:ml) (h:Heap),J w h->(K w.params).In h/\∀ P∈i,h.get? P=some (Lk #[]))
  (F:∀(ts':List Addr),ts'=i->∀(w:ml) (mg:Str->Option cX) (fa:Addr) (h:Heap),(K w.params).In h->h.Ns xj mg->mg d.name=some (.ref fa) ->
   ∃ fd:ri,(∀(s:ej) (u:cX),Ka s fd ⟨[u],[]⟩ [(x,u)])/\(∀ P∈i,∃ c,F9 (K w.params) c P=true)/\(∀ P∈i,(K w.params).lookup P=none) /\
    ∀ base:Heap,(K w.params).In base->base.Ns xj mg->Bm mg base->FnOk l.prog w (K w.params) mg base CX k fa fd [x] (sp (K w.params) i))
  (y:∀(K:Frag) (H:Hp) (a:Addr) (ns:List Int),ns.length<=n->(∀ P∈i,H P=some (.tbl #[]))->SqL K H a (ns.map V.int)->sp K i [.ref a] H (λv _=>v=.bl true) λ_ _ _=>False)
  (A:∀(H:Hp) (s:ej) (e:cX) (s':ej),CX [] H s (λ_ _ _=>False) e s'->False) :
  PySem.W.WalkO q m N J l.row.toRowW d [] (λf vs=>PySem.call f vs):=by
 refine Att.attach_call X C λw M g mg mb fa o pm cd ab a vs ns G Y ho hd ad E p j b T=>?_
 obtain⟨L,Q⟩:=O w _ Y;obtain⟨fd,hb,r,B,R⟩:=F i rfl w mg fa _ L G.T.g E;have D:Bm mg g.heap:=let ⟨bm,ob,b1,_,b3,b4,b5,b6⟩:=G.T.bmain;⟨bm,ob,b1,b3,b4,b5,b6⟩;exact wM L G.T.g G.T.b G.T.builtins G.T.nolimit T p j (mu b I) Z D Q r B R hb (λH S W=>y (K w.params) H a ns b S W) λH e s'=>A H g e s'
end L2
namespace FrM
def c5(t b:Int):Int×Int:=(t/(n_ t b:Int),b/(n_ t b:Int))
def jy{t b:Int}(a:0<b):Low t b (c5 t b).1 (c5 t b).2:=(low t b a).2.2.1
def DI{T B t b:Int}(a:0<B)(h:Low T B t b):(t,b)=c5 T B:=by
 obtain⟨c,d⟩:=h.uniq (by lia) (jy a);rw[c,d]
def sz(z:List Int)(k:Nat):Int:=z.getD k 0
def sumL(z:List Int)(l:List Nat):Int:=(l.map (sz z)).sum
def stay(z:List Int)(l:List Nat)(w:Int):List Nat:=l.filter λk=>decide (sz z k*w<sumL z l)
def jM(z:List Int)(l:List Nat)(w:Int):(stay z l w).length<=l.length:=nn _ _
def fin(z:List Int)(l:List Nat)(w:Int):List Nat×Int :=
 if (stay z l w).length=l.length then (l,w) else fin z (stay z l w) (w - ((l.length:Int) - ((stay z l w).length:Int)))
termination_by l.length
decreasing_by
 have:=jM z l w;lia
def j7{z:List Int}{l:List Nat}{w:Int}(h:(stay z l w).length=l.length):fin z l w=(l,w):=by
 rw[fin,if_pos h]
def qS{z:List Int}{l:List Nat}{w:Int}(h:(stay z l w).length≠l.length):fin z l w=fin z (stay z l w) (w - ((l.length:Int) - ((stay z l w).length:Int))):=by
 rw[fin,if_neg h]
theorem fF(z:List Int):∀(l:List Nat),(∀ k∈l,1<=sz z k)->(l.length:Int)<=sumL z l
 | [],_=>by simp[sumL]
 | a::l,h=>by
  have:=fF z l (λk b=>h k (fy _ b));have c:=h a ft;unfold sumL at *;rw[l_,BH,f_];lia
theorem ma(z:List Int)(M:Int):∀(l:List Nat),(∀ k∈l,sz z k<=M)->sumL z l<=(l.length:Int)*M
 | [],_=>by simp[sumL]
 | a::l,h=>by
  have:=ma z M l (λk b=>h k (fy _ b));have c:=h a ft;unfold sumL at *;rw[l_,BH,f_];have e:((l.length+1:Nat):Int)*M=(l.length:Int)*M+M:=by rw[GC,F3];simp
  rw[e];lia
theorem gq(z:List Int)(w S:Int):∀(l:List Nat),(∀ k∈l,S<=sz z k*w)->(l.length:Int)*S<=sumL z l*w
 | [],_=>by simp[sumL]
 | a::l,h=>by
  have:=gq z w S l (λk b=>h k (fy _ b));have c:=h a ft;unfold sumL at *;rw[l_,BH,f_,F3];have e:((l.length+1:Nat):Int)*S=(l.length:Int)*S+S:=by rw[GC,F3];simp
  rw[e];lia
def nJ{z:List Int}{l:List Nat}{w:Int}(f:∀ k∈l,1<=sz z k)(g:w<l.length)(i:0<l.length):0<(stay z l w).length:=by
 by_cases h:0<(stay z l w).length
 .exact h
 .exfalso
  have e:stay z l w=[]:=Gk.mp (by lia)
  have a:∀ k∈l,sumL z l<=sz z k*w:=λk c=>by
   have:=(List.filter_eq_nil_iff.mp e) k c;simp at this;exact this
  have b:=gq z w (sumL z l) l a;have j:=fF z l f;have d:0<sumL z l:=by lia
  rw[oD (sumL z l) w]at b;have:=Ja b d;lia
structure Rnd(z:List Int)(n:Nat)(m:Int)(l:List Nat)(w:Int):Prop where
 pos:0<l.length
 sub:∀ k∈l,k<n
 lt:w<l.length
 dif:w - l.length=m - n
 fil:l=(g0 n).filter λk=>decide (k∈l)
def Rnd.len{z:List Int}{n:Nat}{m:Int}{l:List Nat}{w:Int}(h:Rnd z n m l w):l.length<=n:=by
 have e:=congrArg Hm h.fil;have:=nn (λk=>decide (k∈l)) (g0 n);rw[py]at this;lia
def Rnd.start{z:List Int}{n:Nat}{m:Int}(b:0<n)(c:m<n):Rnd z n m (g0 n) m:=by
 refine⟨by rw[py];exact b,λk a=>vV.mp a,by rw[py];exact c,by rw[py],?_⟩;rw[JP.mpr];intro k a;exact decide_eq_true a
def Rnd.step{z:List Int}{n:Nat}{m:Int}{l:List Nat}{w:Int}(b:∀ k,k<n->1<=sz z k)(h:Rnd z n m l w):Rnd z n m (stay z l w) (w - ((l.length:Int) - ((stay z l w).length:Int))):=by
 have c:=nJ (λk a=>b k (h.sub k a)) h.lt h.pos;refine⟨c,λk a=>h.sub k (mN.mp a).1,by have:=h.lt;lia,by have:=h.dif;lia,?_⟩
 have e:(g0 n).filter (λk=>decide (k∈stay z l w))=((g0 n).filter λk=>decide (k∈l)).filter λk=>decide (sz z k*w<sumL z l):=by
  rw[List.filter_filter];refine List.filter_congr λk _=>?_
  rw[ue];simp[stay];exact And.comm
 rw[e,<- h.fil];rfl
theorem Rnd.fin{z:List Int}{n:Nat}{m:Int}(a:∀ k,k<n->1<=sz z k):∀(c:Nat) (l:List Nat) (w:Int),l.length<=c->Rnd z n m l w->Rnd z n m (fin z l w).1 (fin z l w).2
 | 0,l,w,hc,h=>absurd h.pos (by lia)
 | c+1,l,w,hc,h=>by
  by_cases e:(stay z l w).length=l.length
  .rw[j7 e];exact h
  .rw[qS e]
   have:=jM z l w;exact Rnd.fin a c _ _ (by lia) (h.step a)
theorem vG(q:Nat->Bool)(f:Nat->Int)(c:Int):∀ r:List Nat,(r.map λk=>if q k=true then f k else c).sum=((r.filter q).map f).sum+((r.length:Int) - ((r.filter q).length:Int))*c
 | []=>by simp
 | a::r=>by
  have b:=vG q f c r;rw[l_,BH,b]
  by_cases h:q a=true
  .rw[if_pos h,k6 h,l_,BH,f_,f_]
   have:((r.length+1:Nat):Int) - (((r.filter q).length+1:Nat):Int)=(r.length:Int) - ((r.filter q).length:Int):=by lia
   rw[this];lia
  .rw[if_neg h,g_ h,f_]
   have e:((r.length+1:Nat):Int) - ((r.filter q).length:Int)=(r.length:Int) - ((r.filter q).length:Int)+1:=by lia
   rw[e,F3];lia
theorem sy(f:Nat->Int)(w:Int):∀ r:List Nat,(r.map λk=>f k*w).sum=(r.map f).sum*w
 | []=>by simp
 | a::r=>by
  rw[l_,BH,sy f w r,l_,BH,F3]
structure Top(m:Int)(n:Nat)(S:Int)(N:Nat->Int):Prop where
 pos:0<S
 all:((g0 n).map N).sum=m*S
def Top.of_rnd{z:List Int}{n:Nat}{m:Int}{l:List Nat}{w:Int}(b:∀ k,k<n->1<=sz z k)(h:Rnd z n m l w):Top m n (sumL z l) λk=>if decide (k∈l)=true then sz z k*w else sumL z l:=by
 have c:=fF z l λk a=>b k (h.sub k a)
 refine⟨by have:=h.pos;lia,?_⟩;rw[vG,<- h.fil,sy,py];show sumL z l*w+((n:Int) - (l.length:Int))*sumL z l=m*sumL z l;have e:m=w+((n:Int) - (l.length:Int)):=by have:=h.dif;lia
 rw[e,F3,oD (sumL z l) w]
theorem kz(c:Int):∀ r:List Nat,(r.map λ_=>c).sum=(r.length:Int)*c
 | []=>by simp
 | a::r=>by
  rw[l_,BH,kz c r,f_];have:((r.length+1:Nat):Int)*c=(r.length:Int)*c+c:=by rw[GC,F3];simp
  rw[this];lia
def Dx{N S t b:Int}(f:0<S)(h:Low N S t b):b<=S/\t.natAbs<=N.natAbs:=by
 have j:=h.pos;have d:b ∣ S:=jx h.cop ⟨N,by rw[h.eq,oD]⟩;have a:=Gy f d;refine⟨a,?_⟩;have e:=congrArg Ki h.eq;rw[wh,wh]at e;have g:b.natAbs<=S.natAbs:=by lia
 have i:0<S.natAbs:=by lia
 have c:N.natAbs*b.natAbs<=N.natAbs*S.natAbs:=HN _ g;rw[<- e]at c;exact Nat.le_of_mul_le_mul_right c i
def due(z:List Int)(m:Int):List (Int×Int) :=
 if (z.length:Int)<=m then z.map λ_=>(1,1) else if m=0 then z.map λ_=>(0,1)
 else (g0 z.length).map λk=>if decide (k∈(fin z (g0 z.length) m).1)=true then c5 (sz z k*(fin z (g0 z.length) m).2) (sumL z (fin z (g0 z.length) m).1) else (1,1)
def bD(z:List Int)(m:Int):(due z m).length=z.length:=by
 unfold due
 split
 .simp
 .split <;> simp
def Bi{z:List Int}{m:Int}(e:∀ k,k<z.length->1<=sz z k)(f:∀ k,k<z.length->sz z k<=24000000)(s:z.length<=24)(r:0<=m)(o:m<=24):∃ S N,Top (if (z.length:Int)<=m then (z.length:Int) else m) z.length S N/\(∀ k p,(due z m)[k]? = some p->Low (N k) S p.1 p.2)/\S<=576000000/\∀ k,k<z.length->(N k).natAbs<=576000000:=by
 have d:Low 1 1 1 1:=⟨by decide,by decide,by decide⟩
 have c:Low 0 1 0 1:=⟨by decide,by decide,by decide⟩
 unfold due
 by_cases h1:(z.length:Int)<=m
 .rw[if_pos h1,if_pos h1]
  refine⟨1,λ_=>1,⟨by decide,by rw[kz,py]⟩,λk p a=>?_,by decide,λ_ _=>(by decide:(1:Nat)<=576000000)⟩;rw[fb]at a;cases b:z[k]? with
  | none=>rw[b]at a;cases a
  | some x=>rw[b]at a;cases a;exact d
 .rw[if_neg h1,if_neg h1]
  by_cases h2:m=0
  .rw[if_pos h2]
   refine⟨1,λ_=>0,⟨by decide,by rw[kz,h2];simp⟩,λk p a=>?_,by decide,λ_ _=>(by decide:(0:Nat)<=576000000)⟩;rw[fb]at a;cases b:z[k]? with
   | none=>rw[b]at a;cases a
   | some x=>rw[b]at a;cases a;exact c
  .rw[if_neg h2]
   have R:=Rnd.fin e _ _ _ (d_ _) (Rnd.start (z:=z) (n:=z.length) (m:=m) (by lia) (by lia));have T:=Top.of_rnd e R
   have i:sumL z (FrM.fin z (g0 z.length) m).1<=576000000:=by
    have j:=ma z 24000000 _ λk b=>f k (R.sub k b)
    have g:=R.len;lia
   refine⟨_,_,T,λk p a=>?_,i,λk b=>?_⟩
   .rw[fb]at a
    by_cases b:k<z.length
    .rw[GD b]at a
     cases a
     by_cases hd:decide (k∈(FrM.fin z (g0 z.length) m).1)=true
     .simp only[if_pos hd];exact jy T.pos
     .simp only[if_neg hd]
      exact⟨by decide,by decide,by lia⟩
    .rw[nr (by rw[py];lia)]at a
     cases a
   .have j:=R.dif
    have g:=R.lt;have v:=R.len;have l:(FrM.fin z (g0 z.length) m).2.natAbs<=24:=by lia
    have h:(sz z k).natAbs<=24000000:=by have:=e k b;have:=f k b;lia
    have w:=T.pos
    split
    .rw[wh]
     exact mu (Gm h l) (by decide)
    .lia
end FrM
namespace L2
open PySem PySem.Spec PyProof.Rows
def p9:List V->List cX->Bool
 | [],[]=>true
 | .int i::xs,.int j _::us=>decide (i=j) && p9 xs us
 | _,_=>false
theorem li:∀{xs:List V}{us:List cX},p9 xs us=true->Vals xs us
 | [],[],_=>.nil
 | .int i::xs,.int j t::us,h=>by
  have h:(decide (i=j) && p9 xs us)=true:=h;rw[p_]at h;have e:=of_decide_eq_true h.1;exact .cons ⟨t,by rw[e]⟩ (li h.2)
def pK(K:Frag)(a:Addr)(xs:List V):Bool :=
 match K.lookup a with
 | some o =>
  (match o.cls with
  | .type t=>t == "tuple"
  | _=>false) &&
  (match o.data with
  | .seq its _=>decide (its.size<=1000) && p9 xs its.toList
  | _=>false)
 | none=>false
def m4{K:Frag}{H:Hp}{a:Addr}{xs:List V}(h:pK K a xs=true):SqT K H a xs:=by
 unfold pK at h
 split at h
 .rename_i o e
  rw[p_]at h;obtain⟨c,b⟩:=h
  split at c
  .rename_i t ec
   split at b
   .rename_i its n ed
    rw[p_]at b;refine .inr ⟨o,its,n,e,by rw[ec,beq_iff_eq.mp c],ed,?_,li b.2⟩;have:=of_decide_eq_true b.1;have:sizeLine=16777216:=fE;lia
   .cases b
  .cases c
 .cases h
section
variable {X:Cx}
def gA:nv "sum" = some (.builtin "sum"):=by decide +kernel
theorem ip:∀{ns:List Int}{us:List cX},Vals (ns.map V.int) us->Hv us ns
 | [],_,.nil=>.nil
 | n::ns,_,.cons r t=>by
  obtain⟨a,rfl⟩:=r;exact .cons _ _ (ip t)
inductive rSumI(K:Frag)(xs:List V)(H:Hp)(Q:VK):Prop
 | mk(p:Addr)(ns:List Int)(h0:xs=[.ref p])(h1:SqL K H p (ns.map V.int))(h2:Q (.int ns.sum) H):rSumI K xs H Q
def cG(i:X.calm=true):CallR X (.builtin "sum") (rSumI X.K):=by
 intro d s A H xs B Q I r h;obtain⟨p,a,rfl,o,q⟩:=h;obtain⟨u,rfl,g⟩:=dW r;cases g;obtain⟨b,j,k,x⟩:=I.list o;have e:=ip j;obtain⟨xs,c⟩:=e.allInts.items;have l:(numsOf b)=a:=e.numsOf;refine sum_intListG (I.ok.hd i) (xs:=xs) (by rw[<- c];exact k.isList) λy v w f=>?_
 have m:preSum (numAt xs) xs.size=a.sum:=by
  rw[preSum_eq,ga (by simp),<- l,<- nums_intItems,<- c]
 rw[m];exact⟨.int a.sum,H,I.kept f,⟨_,rfl⟩,q⟩
def dX(w:X.calm=true):CallR X (.type "list") (λxs H Q=>∃(p:Addr) (n:Nat),xs=[.ref p]/\n<=1000/\H p=some (.rng 0 (n:Int))/\∀ l,H l=none->Q (.ref l) (upd H l (.lst ((g0 n).map λ(i:Nat)=>V.int (i:Int))))):=by
 intro f s J H xs L Q I r h;obtain⟨p,n,rfl,K,e,q⟩:=h;obtain⟨u,rfl,A⟩:=dW r;cases A
 obtain⟨t,F,M,B⟩:=(show ObjOk X.prog X.w H s.heap p (.rng 0 (n:Int)) from I.hok p _ e)
 refine call_list_range (n:=n) (I.ok.hd w) B (small_one (by decide) (by decide) (by lia) (by lia)) (by rw[rangeSize_one];split <;> lia) (by lia) λG v b c j D E=>?_
 refine⟨.ref s.heap.objs.size,_,I.laid (t':=v) (o:=.lst ((g0 n).map λ(i:Nat)=>V.int (i:Int))) j (d_ _) ?_,rfl,q _ (I.hok.fresh (d_ _))⟩;obtain⟨g,k⟩:=E;refine⟨by rw[a_,py,fE];lia,b.toList,c,vW (by rw[a_,py];simpa using g.symm) λi x u a m=>?_,D⟩;rw[fb]at a
 have d:i<n:=by
  by_cases d:i<n
  .exact d
  .rw[nr (by rw[py];lia)]at a
   cases a
 rw[GD d]at a;cases a;obtain⟨y,C⟩:=k i u (by simpa using m);refine(show ∃ t',u=Hl (i:Int) t' from⟨y,?_⟩);rw[C]
 congr 1
 lia
end
def dE:Expr:=.Name "" ⟨0,0,0,0⟩
def nz(st:Stmt)(i:Nat):Stmt:=(dz st).getD i (.Pass ⟨0,0,0,0⟩)
def ow:Stmt->Expr
 | .Return (some e) _=>e
 | _=>dE
def ou:Expr->Nat->Expr
 | .Call _ es _ _,i=>es.getD i dE
 | _,_=>dE
def wL:Expr->Nat->Expr
 | .List es _,i=>es.getD i dE
 | _,_=>dE
def wC:Expr->Nat->Expr
 | .Tuple es _ _,i=>es.getD i dE
 | _,_=>dE
def gW(q:Str):Expr->LamD
 | .Lambda p b s _=>⟨q,p,b,s⟩
 | _=>⟨q,default,dE,default⟩
def nP:Expr->Pos
 | .Lambda _ _ _ p=>p
 | _=>⟨0,0,0,0⟩
def oC:nv "sorted" = some (.builtin "sorted"):=by decide +kernel
theorem gk:∀{us:List cX}{ns:List Int},Hv us ns->Vals (ns.map V.int) us
 | _,_,.nil=>.nil
 | _,_,.cons n t h=>.cons ⟨_,rfl⟩ (gk h)
def jJ{X:Cx}:CallR X (.builtin "sorted") (λxs H Q=>∃(p:Addr) (ns:List Int),xs=[.ref p]/\SqL X.K H p (ns.map V.int)/\ns.length<64/\∀ q (ns':List Int),ns'.Perm ns->ns'.Pairwise (·<=·)->H q=none->Q (.ref q) (upd H q (.lst (ns'.map V.int)))):=by
 intro j s D H xs F Q I r h;obtain⟨p,ns,rfl,y,E,q⟩:=h;obtain⟨u,rfl,m⟩:=dW r;cases m;obtain⟨c,i,v,B⟩:=I.list y;have A:=ip i;have f:c.length=ns.length:=by have:=i.length;rw[a_]at this;exact this.symm
 refine sorted_ints v.isList A (by lia) λd ns' k g l=>?_
 obtain⟨e,w⟩:=sortedAll_at s.heap c d;have x:H (s.heap.objs.size+1)=none:=I.hok.fresh (GT _);have C:sizeLine=16777216:=fE;refine⟨.ref (s.heap.objs.size+1),_,I.laid (a:=s.heap.objs.size+1) (o:=.lst (ns'.map V.int)) (t':=s.toks) (λb u z=>sortedAll_old z) (GT _) ⟨?_,d.toList,e,gk k,?_⟩,rfl,q _ ns' g l x⟩
 .rw[a_,g.length_eq];lia
 .rw[w,JF]
section
variable {X:Cx}
def wN{K:Frag}(h:X.K=K)(a:X.A.units+64<G8):OpR X (nf .Eq) (rEqD K false):=h ▸ lB a
end
section
variable {X:Cx}
def EY(K:Frag):V->V->Hp->VK->Prop:=λo i H Q=>∃(p:Addr) (xs:List V) (k:Int) (v:V),o=.ref p/\i=.int k/\SqL K H p xs/\0<=k/\atI xs k=some v/\Q v H
def tm:Ez X (EY X.K):=by
 intro a s v H o i L F Q I x g h;obtain⟨p,M,k,z,rfl,rfl,C,e,B,q⟩:=h;cases x;obtain⟨t,rfl⟩:=g;obtain⟨f,r,y,E⟩:=I.list C;obtain⟨j,d,A,K,N,D⟩:=l6 B;obtain⟨w,m,c⟩:=r.get A;have G:=r.length;have J:=g7
 have l:k.toNat=j:=by
  rw[Ji e D]at d;exact ll d
 have b:EP X a v Q w s:=⟨z,H,I,c,q⟩
 exact wpAny_getItem_list y.isList e (by lia) (by rw[l];simpa using m) b
end
end L2
namespace L2
open PySem PySem.Spec PyProof.Rows PySem.W
def kF(H H':Hp):Prop:=∀ b xs,H b=some (.tup xs)->H' b=some (.tup xs)
def Same.tu{H a:Hp}(s:Same H a):kF H a:=λb c e=>s _ _ e
def DE(h:Heap)(d:Addr)(es:Array Hk)(ep:Nat):Prop:=∃ o,h.get? d=some o/\o.ExactDict/\o.data=.dict es ep
def DE.ty{s:ej}{d:Addr}{es:Array Hk}{ep:Nat}(x:DE s.heap d es ep):s.TypeIs (.ref d) "dict" := let ⟨o,e,c,_⟩:=x;⟨o,e,c.1⟩
section
variable {prog:gN}{w:ml}{A:o3}{E:cX->ej->Prop}{s:ej}{d I:Addr}{es:Array Hk}{ep i:Nat}
def vn{Q:cX->ej->Prop}(e:(d == uF)=false)(x:DE s.heap d es ep)
  (q:Q (.ref s.heap.objs.size) { s with heap:=s.heap.push { cls:=.type "dict_keyiterator",data:=.fields #[.ref d,.int 0 0,.int es.size 0,.int ep 0] } }):gV (kw prog w) A (La (.ref d)) Q E s:=by
 have a:=x.ty;obtain⟨g,c,f,b⟩:=id x;refine wpAny_pyIter_slot a Ln (D_ Ln a F.entry_dict_iter ?_ (F.args_dict_iter_1 _));unfold IK.«dict.__iter__»;refine cn ?_;unfold Builtin.Dict.dictSlotNone;refine cn (wpAny_notOrdered_dict a (eB ?_));show gV _ _ (Iy d >>= _) _ _ _;unfold Iy;rw[if_neg (λz=>by rw[e]at z;cases z)];refine cn (eB (cn (G9 c b (cn (Jq c b ?_)))));refine cn (uS (eB ⟨_,rfl, "dict_keyiterator",_,⟨_,h_ _ rfl,rfl⟩,F.slot_dict_keyiterator_next.lookup,?_⟩));simpa[A2] using q
def Bn{Q:Option cX->ej->Prop}{e:Hk}(a:s.heap.IsKeyIter I d i es.size ep)(x:DE s.heap d es ep)(m:es[i]? = some e)
  (q:∀ h',h'.IsKeyIter I d (i+1) es.size ep->GF I s.heap h'->Q (some e.key) { s with heap:=h' }):gV (kw prog w) A (Ha (.ref I)) Q E s:=by
 obtain⟨r,h,l,c⟩:=id a;obtain⟨p,k,o,j⟩:=id x;unfold Ha;refine cn (Iq (x_ (name:=s_ "__next__") a.typeIs Fk (D_ Fk a.typeIs IV ?_ (IL _))));refine cn (eB (cn (cn ?_)))
 first | refine cn (Fe a.typeIs (eB ?_)) | refine cn (Gg a.typeIs (eB ?_))
 refine cn (LX h c ?_);have g:G_ "dict_keyiterator" = false:=by decide
 simp only[g,DQ,if_false];show gV _ _ (if (mr d == F_)=true then _ else _) _ _ _;rw[if_neg (λz:(mr d == F_)=true=>fx z)];refine cn (eB (cn (G9 k j ?_)));rw[if_neg (by simp)];refine cn (eB (cn (Jq k j ?_)));rw[if_neg (by simp)];refine eB ?_;obtain⟨f,rfl⟩:=Array.getElem?_eq_some_iff.mp m;simp only[show ¬((i:Int)<0) from by lia,if_false,GU,Array.getElem?_eq_getElem f];refine cn ?_
 first | refine cn (Fe a.typeIs (eB ?_)) | refine cn (Gg a.typeIs (eB ?_))
 refine cn (Kt a.typeIs ?_);show gV _ _ (setField (.ref I) 1 (A2 ((i:Int)+1)) >>= _) _ _ _;refine cn (LY h c (by simp) ?_)
 have b:(s.heap.update I (Obj.mapFields (·.setIfInBounds 1 (A2 ((i:Int)+1))))).IsKeyIter I d (i+1) es.size ep:=⟨_,Gs _ h (Obj.isFreed_of_fields (Kj c _)),(Obj.cls_mapFields ..).trans l,by rw[Kj c];simp[A2]⟩
 refine cn (xi (cn (Kt (s:={ s with heap:=s.heap.update I (Obj.mapFields (·.setIfInBounds 1 (A2 ((i:Int)+1)))) }) b.typeIs ?_)));show gV _ _ (pure es[i].key) _ _ _;exact eB (eB ⟨_,rfl,eB (q _ b (IM ..))⟩)
def Dy{Q:Option cX->ej->Prop}(k:A.handled=none)(c:s.heap.IsKeyIter I d i es.size ep)(x:DE s.heap d es ep)(l:es.size<=i)
  (q:∀ h',Heap.ExtBut I s.heap h'->Q none { s with heap:=h' }):gV (kw prog w) A (Ha (.ref I)) Q E s:=by
 obtain⟨r,h,v,f⟩:=id c;obtain⟨p,j,o,g⟩:=id x;unfold Ha;refine cn (Iq (x_ (name:=s_ "__next__") c.typeIs Fk (D_ Fk c.typeIs IV ?_ (IL _))));refine cn (eB (cn (cn ?_)))
 first | refine cn (Fe c.typeIs (eB ?_)) | refine cn (Gg c.typeIs (eB ?_))
 refine cn (LX h f ?_);have e:G_ "dict_keyiterator" = false:=by decide
 simp only[e,DQ,if_false];show gV _ _ (if (mr d == F_)=true then _ else _) _ _ _;rw[if_neg (λz:(mr d == F_)=true=>fx z)];refine cn (eB (cn (G9 j g ?_)));rw[if_neg (by simp)];refine cn (eB (cn (Jq j g ?_)));rw[if_neg (by simp)];refine eB ?_;simp only[show ¬((i:Int)<0) from by lia,if_false,GU,Array.getElem?_eq_none l];refine cn ?_
 first | refine cn (Fe c.typeIs (eB ?_)) | refine cn (Gg c.typeIs (eB ?_))
 show gV _ _ (setField (.ref I) 0 .none >>= _) _ _ _;refine cn (LY h f (by simp) ?_);show gV _ _ (newExc (.type "StopIteration") [] >>= _) _ _ _;refine cn ?_;simp only[newExc,newTuple];refine cn (uS (cn (m:=LZ _ _) (wpAny_of_eq (a:=F_) (by first | rfl | (simp only[LZ];rfl)) (uS ?_ (by size_fits)))) (by size_fits));simp only[raiseNew];refine cn (wpAny_handled ?_);rw[show A.in1.handled=none from k];refine cn (eB (wpAny_throw ?_));refine cn (LL (T := "StopIteration") (b:=true) ⟨_,h_ _ rfl,rfl⟩ L3 ?_);exact eB (q _ (((IM ..).extBut.push _).push _))
end
section
theorem KT.at{H:Hp}:∀{kvs:List (List Key×V)}{xs:List (List Key×Addr×cX)}{i:Nat}{kv:List Key×V},KT H kvs xs->kvs[i]? = some kv->∃ x,xs[i]? = some x/\H x.2.1=some (.tup (kv.1.map kV))
 | _,_,_,_,.nil,h=>by cases h
 | _,_,0,_,.cons r t,h=>by cases h;exact⟨_,rfl,r.2.1⟩
 | _,_,i+1,_,.cons r t,h=>KT.at (i:=i) t h
end
section
variable {X:Cx}{pins:List (Addr×Obj)}{σ:St}{H:Hp}{s:ej}{a:Addr}{kvs:List (List Key×V)}{o:Obj}
def Inv.freeze(I:Inv X pins σ H s)(h:Rd H a (.dT kvs))(r:s.heap.get? a=some o):Inv X pins σ (upd H a (.frz o (.dT kvs))) s:=by
 have k:=h.ok I.hok
 have D:∃ u,H a=some u:=by rcases h with e | ⟨_,e⟩ <;> exact⟨_,e⟩
 have j:∀{b},H b=none->b≠a:=λ{b} e z=>by subst z;obtain⟨u,q⟩:=D;rw[e]at q;cases q
 have l:∀{b d},H b=some (.tup d)->b≠a:=λ{b d} e z=>by subst z;rcases h with q | ⟨_,q⟩ <;> (rw[e]at q;cases q)
 have w:∀{b y},H b=some (.own y)->b≠a:=λ{b y} e z=>by subst z;rcases h with q | ⟨_,q⟩ <;> (rw[e]at q;cases q)
 have F:∀{b i},H b=some (.tbl i)->b≠a:=λ{b i} e z=>by subst z;rcases h with q | ⟨_,q⟩ <;> (rw[e]at q;cases q)
 have A:∀ b u v,H b=some (.frz u v)->(upd H a (.frz o (.dT kvs))) b=some (.frz u v):=λb u v e=>by
  by_cases c:b=a
  .subst c
   rcases h with q | ⟨G,q⟩
   .rw[e]at q;cases q
   .rw[e]at q
    cases q
    obtain⟨g,_⟩:=(show ObjOk X.prog X.w H s.heap b (.frz u (.dT kvs)) from I.hok b _ e)
    rw[r]at g;cases g;exact ac
  .rw[aq c];exact e
 refine⟨I.ok,I.os,I.bare,⟨I.base.keep,I.base.slot,λb u e n E=>?_,I.base.there,λb d e=>?_,λb u v e=>A b u v (I.base.frzs b u v e),λb i e=>?_⟩,I.loc,I.cell,?_,λx c e=>?_,λp hp=>?_,λb u e=>?_,I.len⟩
 .have:=I.base.free b u e n E;rw[aq (j this)];exact this
 .have:=I.base.tups b d e;rw[aq (l this)];exact this
 .obtain⟨f,z⟩:=I.base.tbls b i e;exact⟨f,by rw[aq (F z)];exact z⟩
 .rw[aq (j I.free)];exact I.free
 .rw[aq (j (I.freeC x c e))];exact I.freeC x c e
 .obtain⟨C,m,B⟩:=I.pin p hp;exact⟨C,by rw[aq (j m)];exact m,B⟩
 .by_cases hb:b=a
  .subst hb
   rw[ac]at e;cases e;exact⟨r,k.stay (λ_ _ _ q=>q) (λc q=>by rw[aq (w q)];exact q) λc d q=>by rw[aq (l q)];exact q⟩
  .rw[aq hb]at e
   exact(I.hok b u e).stay (λ_ _ _ q=>q) (λc q=>by rw[aq (w q)];exact q) λc d q=>by rw[aq (l q)];exact q
end
def Itd(d:Addr)(o:Obj)(kvs:List (List Key×V)):It :=
 ⟨λi H=>H d=some (.frz o (.dT kvs))/\i<kvs.length,λi H x H'=>H'=H/\∃ b kv,kvs[i]? = some kv/\x=.ref b/\H b=some (.tup (kv.1.map kV)),λi H=>H d=some (.frz o (.dT kvs))/\kvs.length<=i⟩
def qZ{P:gN}{w:ml}{H:Hp}{h:Heap}{d:Addr}{o:Obj}{kvs:List (List Key×V)}(c:HOk P w H h)(e:H d=some (.frz o (.dT kvs))):∃ xs es ep,KT H kvs xs/\h.get? d=some o/\o.ExactDict/\o.data=.dict es ep/\es.toList=xs.map (K7 (GS (bH P w)))/\(d == uF)=false:=by
 obtain⟨g,z,y,xs,r,k,es,ep,a,f,b,i,j⟩:=(show ObjOk P w H h d (.frz o (.dT kvs)) from c d _ e)
 rw[g]at a;cases a;exact⟨xs,es,ep,r,g,f,b,i,y⟩
def uN{P:gN}{w:ml}{K:Frag}{tg:Expr}{d l:Addr}{o:Obj}{kvs:List (List Key×V)}{es:Array Hk}{ep:Nat}(f:o.data=.dict es ep)(hsz:es.size=kvs.length):Turn P w K tg (Itd d o kvs) [l] l (λi h=>h.IsKeyIter l d i es.size ep) where
 mem:=ft ..
 obj:=λi h a b j=>by
  have e:b=l:=k_.mp j;subst e;obtain⟨o,e,c,d⟩:=a;exact⟨o,e,λv z=>by rw[d]at z;cases z⟩
 keep:=λi h y a k=>a.at λo e=>k l (ft ..) o e
 item:=by
  intro X R D N Y i g s Z H E I A a T;subst R D N;obtain⟨O,hi⟩:=T;obtain⟨xs,C,F,r,B,S,p,g4,g5⟩:=qZ I.hok O;have J:=f.symm.trans p;cases J;obtain⟨L,G,f2,Q,M,W⟩:=A l (ft ..)
  obtain⟨kv,hkv⟩:∃ kv,kvs[i]? = some kv:=⟨_,c_ hi⟩
  obtain⟨x,hx,hH⟩:=r.at hkv;have he:es[i]? = some (K7 (GS (bH X.prog X.w)) x):=by rw[entry_at g4,hx];rfl
  refine Bn a ⟨o,B,S,p⟩ he λy m sb=>?_
  have I1:Inv X g Z H { s with heap:=y }:=I.turned (t':=s.toks) (λb o j e=>(sb.2 b j).trans e) L G Q M W;obtain⟨oi,e,c,dd⟩:=id m;exact⟨_,rfl,oG (s:={ s with heap:=y }) e c dd (by decide) ⟨.ref x.2.1,H,I1,rfl,⟨rfl,x.2.1,kv,hkv,rfl,hH⟩,m,λb j=>(A b j).1⟩⟩
 done:=by
  intro X R D N Y i g s Z H E I A a T;subst R D N;obtain⟨O,hi⟩:=T;obtain⟨xs,C,F,r,B,S,p,g4,g5⟩:=qZ I.hok O;have J:=f.symm.trans p;cases J;obtain⟨L,G,f2,Q,M,W⟩:=A l (ft ..)
  exact Dy (I.ok.hd Y) a ⟨o,B,S,p⟩ (by lia) λy eb=>⟨rfl,I.turned (t':=s.toks) (λb o j e=>eb b o j e) L G Q M W⟩
 self:=λ_ _ _ _ _ a h=>wpAny_pyIter_keyiter a h
def BL{X:Cx}{tg e:Expr}{k:TE}(B:PE X e k):PI X tg e (λσ H R=>k σ H λx H1=>∃ d kvs,x=.ref d/\Rd H1 d (.dT kvs)/\∀ o,R (Itd d o kvs) (upd H1 d (.frz o (.dT kvs)))):=by
 intro c s σ H R I h;refine thn (B c s σ H _ I h) λv a ⟨x,H1,m,y,d,kvs,F,p,q⟩=>?_
 subst F;obtain rfl:v=mr d:=y
 obtain⟨o,ho⟩:∃ o,a.heap.get? d=some o:=by
  obtain⟨_,_,E,_,o,_,_,g,_⟩:=(show ObjOk X.prog X.w H1 a.heap d (.dT kvs) from p.ok m.hok)
  exact⟨o,g⟩
 have f:=m.freeze p ho;obtain⟨E,A,G,j,w,C,l,D,r⟩:=qZ f.hok ac;have i:A.size=kvs.length:=by rw[Jr D,gp j]
 refine vn r ⟨o,w,C,l⟩ ?_;refine⟨a.heap.objs.size,[a.heap.objs.size],_,_,_,rfl,f.kept (t':=a.toks) λb o e=>e_ _ e,uN l i,⟨_,h_ _ rfl,rfl,rfl⟩,λb hb=>?_,q o⟩;have e:b=a.heap.objs.size:=k_.mp hb;subst e;exact f.fpOk (d_ _) (f.hok.fresh (d_ _))
def pQ{D:Addr}{f:St}{g:TG}{k:TT}{j:TE}{Q:Hp->List V->Prop}{H:Hp}{d:Addr}{o:Obj}{kvs:List (List Key×V)}(c:Nat->List V->Hp->Prop)(w:c 0 [] H)(s:∀ i ys H,c i ys H->H d=some (.frz o (.dT kvs)))(l:∀ i ys H,c i ys H->H D=some (.lst ys))
  (A:∀(i:Nat) kv b ys H P,kvs[i]? = some kv->H b=some (.tup (kv.1.map kV))->c i ys H->(∀ a b,c (i+1) a b->P a b)->oS D f g k j (.ref b) ys H P) (v:∀ ys H,c kvs.length ys H->Q H ys):∃ W,(∃ m,W 0 m [] H)/\j4 (Itd d o kvs) D f g k j Q W:=by
 refine⟨λi m ys H=>m=kvs.length - i/\i<=kvs.length/\c i ys H,⟨_,rfl,ey _,w⟩,?_⟩;rintro i m ys H ⟨rfl,C,p⟩;refine⟨l i ys H p,?_⟩;have q:=s i ys H p
 by_cases hlt:i<kvs.length
 .refine .inr ⟨⟨q,hlt⟩,λx B y=>?_⟩
  obtain⟨rfl,b,kv,h,rfl,r⟩:=y;exact A i kv b ys _ (λa b=>∃ m',m'<kvs.length - i/\m'=kvs.length - (i+1)/\i+1<=kvs.length/\c (i+1) a b) h r p (λa b q=>⟨kvs.length - (i+1),by lia,rfl,hlt,q⟩)
 .have e:i=kvs.length:=by lia
  subst e;exact .inl ⟨⟨q,d_ _⟩,v ys H p⟩
section
variable {prog:gN}{w:ml}{A:o3}{E:cX->ej->Prop}{s:ej}{d:Addr}{es:Array Hk}{ep:Nat}
def xy(c:(d == uF)=false):MeetsIn prog w (IK.«dict.__len__» ⟨[.ref d],[]⟩) (λ_ R s=>DE s.heap d es ep/\R (.ok (.ret (.int es.size s.toks))) { s with toks:=s.toks+1 }) :=
 .of_wp λA R s ⟨a,h⟩=>by
  obtain⟨g,e,f,b⟩:=a;show gV _ _ (dictSize d >>= _) _ _ _;unfold dictSize;refine cn (cn (G9 e b (eB ?_)));show gV _ _ (Builtin.Dict.pendingCount d >>= _) _ _ _;refine cn (wpAny_pendingCount_other c (wpAny_ret_mkInt ?_));rw[Nat.add_zero];exact h
def zD{Q:cX->ej->Prop}(a:(d == uF)=false)(x:DE s.heap d es ep)(b:(es.size:Int)<2 ^ 63)
  (h:Q (.int es.size (s.toks+1)) { s with toks:=s.toks+1+1 }):gV (kw prog w) A (IK.«len» ⟨[.ref d],[]⟩) (λfin s'=>∃ r,fin=.done (.ret r)/\Q r s') E s:=by
 unfold IK.«len»;refine cn (m:=oneArg "len" _) (eB ?_);refine cn (m:=callSpecial? (.ref d) (s_ "__len__")) (x_ (name:=s_ "__len__") x.ty LD (Kg LD x.ty F.entry_dict_len (F.args_dict_len_1 _) (xy (es:=es) (ep:=ep) a) ⟨x,?_⟩));show gV _ _ _ _ _ { s with toks:=s.toks+1 };refine cn (xi (eB (cn (wpAny_letGo ?_))));show gV _ _ (if ((es.size:Nat):Int)<0 then _ else _) _ _ _;rw[if_neg (by lia)];show gV _ _ (if ((es.size:Nat):Int) >= 2 ^ 63 then _ else _) _ _ _;rw[if_neg (by lia)];exact cn (wpAny_mkInt (eB ⟨_,rfl,h⟩))
def yg{Q:Bool->ej->Prop}(g:(d == uF)=false)(x:DE s.heap d es ep)(f:(es.size:Int)<2 ^ 63)(h:Q ((es.size:Int) != 0) { s with toks:=s.toks+1+1 }):gV (kw prog w) A (J_ (.ref d)) Q E s:=by
 have b:gV (kw prog w) A (runValue (.builtin "len" ⟨[.ref d],[]⟩)) (λr a=>r=.int es.size (s.toks+1)/\Q ((es.size:Int) != 0) a) E s:=by
  refine L4 (GO entry_len ?_);rw[Hd plain_len _];exact tW (zD (Q:=λr a=>r=.int es.size (s.toks+1)/\Q ((es.size:Int) != 0) a) g x f ⟨rfl,h⟩) (λfin a c=>by obtain⟨r,rfl,hq⟩:=c;exact hq) λ_ _ e=>e
 unfold J_
 first | refine cn (J5 (name:=s_ "__bool__") x.ty noBool_dict ?_) | refine cn (eB (cn (J5 (name:=s_ "__bool__") x.ty noBool_dict ?_)))
 first | refine cn (GN (name:=s_ "__len__") x.ty F.slot_dict_len.lookup ?_) | refine cn (eB (cn (GN (name:=s_ "__len__") x.ty F.slot_dict_len.lookup ?_)))
 first | exact cn (tW b (λr a c=>by obtain⟨rfl,hq⟩:=c;exact eB hq) λ_ _ e=>e) | exact cn (eB (cn (tW b (λr a c=>by obtain⟨rfl,hq⟩:=c;exact eB hq) λ_ _ e=>e)))
end
section
variable {X:Cx}
def wE{a:Expr}{g:TE}(E:PE X a g)(B:∀ whole,J8 a X.env whole=(do let v <- whole;Ju a.pos;Hr [v] (J_ v))) :
  PT X a (λσ H Q=>g σ H λx H'=>∃ d kvs,x=.ref d/\Rd H' d (.dT kvs)/\Q (!kvs.isEmpty) H'):=by
 intro b s σ H Q I h;refine IF (thn (E b s σ H _ I h) λv y ⟨x,i,k,r,d,kvs,F,A,m⟩=>?_) (B _);subst F;obtain rfl:v=mr d:=r
 obtain⟨z,w,L,f,o,j,K,l,C,p,D,G⟩:=(show ObjOk X.prog X.w i y.heap d (.dT kvs) from A.ok k.hok)
 have c:j.size=kvs.length:=by rw[Jr D,gp f]
 have J:sizeLine=16777216:=fE;refine yg w ⟨o,l,C,p⟩ (by lia) ?_
 have e:((j.size:Int) != 0) = !kvs.isEmpty:=by rw[c];cases kvs <;> simp <;> lia
 rw[e];exact⟨i,k.tok _,m⟩
def we(A:X.calm=true):CallR X (.builtin "min") (λxs H Q=>∃(p:Addr) (ns:List Int),xs=[.ref p]/\SqL X.K H p (ns.map V.int)/\0<ns.length/\∀ m∈ns,(∀ x∈ns,m<=x)->Q (.int m) H):=by
 intro g s M H xs N Q I r h;obtain⟨p,ns,rfl,F,d,q⟩:=h;obtain⟨u,rfl,w⟩:=dW r;cases w;obtain⟨o,B,C,K⟩:=I.list F;have k:=ip B;obtain⟨b,e⟩:=k.allInts.items;have a:ns=b.toList.map (·.1):=by rw[<- k.numsOf,<- nums_intItems,<- e]
 have c:0<b.size:=by have f:=d;rw[a,a_,CZ]at f;exact f
 refine min_intList (I.ok.hd A) (xs:=b) (by rw[<- e];exact C.isList) c λv L J E l=>?_
 obtain⟨t,rfl⟩:=intItems_at E;obtain⟨G,D⟩:=argBest_lt (numAt b) (b.size - 1);refine⟨.int _,H,I.kept l,⟨_,rfl⟩,q _ ?_ λx i=>?_⟩
 .rw[a,numAt_eq];exact getD_mem (by rw[a_,CZ];lia)
 .rw[a]at i
  obtain⟨j,y,rfl⟩:=mem_getD i;rw[a_,CZ]at y;rw[<- numAt_eq];exact D j (by lia)
def rK:V->List V->Hp->VK->Prop:=λx vs H Q=>∃ l xs y,x=.ref l/\vs=[.int 0,y]/\H l=some (.lst xs)/\xs.length<sizeLine/\Q .non (upd H l (.lst (y::xs)))
def tH:MtM X "list.insert" rK:=by
 intro b s o H x i v k Q I f g h;obtain⟨l,m,y,rfl,rfl,c,w,q⟩:=h;cases f;obtain⟨p,u,rfl,⟨t,rfl⟩,d⟩:=g.two;obtain⟨z,a,n,r,j,e⟩:=I.lstM c;refine JA KL ⟨_,e,rfl⟩ F.entry_list_insert (F.args_list_insert_3 _ _ _) (AutoListH.list_insert_list_int_val_1 l a.toArray n 0 t u (by rw[LV (by decide) (by decide)];exact fx) (by rw[l5];lia)) ⟨e,?_⟩;refine⟨.non,_,I.lset (its':=u::a) c e ?_ (.cons d r) ?_,rfl,q⟩
 .simp
 .rw[f_];lia
variable {o e:Expr}{es:List Expr}{to:TE}{t:TA}{apos cpos:Pos}
def pe_m.insert0(f:PE X o to)(g:PA X (e::es) t)(c:A6 o "insert" X.env (eval o X.env)=eval o X.env:=by rfl)
  (d:((tp cpos (fI (e::es) X.env)).all (λx=>!x.1) && (GJ cpos (E3 [] X.env)).all (λx=>x.1.isSome) && decide ((e::es).length+([]:List F4).length+(if ([]:List F4).isEmpty then 0 else 1)<30))=true:=by rfl)
  (b:(apos.endLine == cpos.line)=true:=by rfl) (h:fI (e::es) X.env=(false,eval e X.env)::fI es X.env:=by rfl) (a:(tp cpos (fI es X.env)).any (·.1)=false:=by rfl) :
  PE X (.Call (.Attribute o "insert" apos) (e::es) [] cpos) (tBM X.K "list" rK to t):=tF G0 KL F.type_list_insert tH f g c d b h a
end
end L2
namespace L2
open PySem PySem.Spec PyProof.Rows
def ifE:Stmt->Expr
 | .If c _ _ _=>c
 | _=>dE
def Fu:Expr->Expr
 | .UnaryOp _ e _=>e
 | _=>dE
abbrev TN:=VK->St->Hp->Prop
def PN(X:Cx)(sts:List Stmt)(t:TN):Prop :=
 ∀(pins:List (Addr×Obj)) (s:ej) (σ:St) (H:Hp) (R:VK),Inv X pins σ H s->t R σ H ->
  gV (kw X.prog X.w) X.A (execs sts X.env) (λf s'=>f=.next/\∃ H',s'.os=X.s₀.os/\GQ s'.gens/\Un X.fs X.ex X.H₀ H' X.s₀.heap s'.heap/\HOk X.prog X.w H' s'.heap/\R .non H') X.xe s
def zP{X:Cx}{st:Stmt}{a:List Stmt}{t:TS}{u:TN}(g:PS X st t)(i:PN X a u):PN X (st::a) (λR σ H=>t { nx:=u R,rt:=λ_ _=>False } σ H):=by
 intro b s σ H R I h;refine A8 (thn (g b s σ H { nx:=u R,rt:=λ_ _=>False } I h) λf s1 q=>?_);cases f with
 | next =>
  obtain⟨c,e,d,q⟩:=q;exact i b s1 c e R d q
 | ret v=>obtain⟨j,c,e,d,r,q⟩:=q;exact mM q
 | brk=>obtain⟨_,_,_,q⟩:=q;exact mM q
 | cont=>obtain⟨_,_,_,q⟩:=q;exact mM q
section
variable {P:gN}{w:ml}{K:Frag}{mg:Str->Option cX}{base:Heap}
def C5{N:List Str}{c:Str}{scope:E2}{f:Addr}{j:cX}{A:o3}{a:List Env}{s:ej}{H:Hp}{E:XK}{k:Nat}{g:Addr}{fd:ri}{ps:List Str}{sp:Sp}{T:List cX}{B:List V}{x:Str}{p D rp p2:Pos}{bd:List Stmt}{e:Expr}{es:List Expr}{t:TA}
  (hN:N.Nodup) (ad:∀ p∈scope.names,p.2=.cell->scope.names.lookup p.1=some .cell)
  (F:FnOk P w K mg base CX0 k g fd ps sp) (hr:Room k (cL CX0 P w K mg base N c scope f j A a s H E).nox.A) (hg:Gl (cL CX0 P w K mg base N c scope f j A a s H E).nox x) (hm:mg x=some (.ref g)) (hk:HR K (.ref g)=true) (l:Binds K fd ps T) (hd:Vals B T)
  (ha:PA (cL CX0 P w K mg base N c scope f j A a s H E).nox (e::es) t) (ah:(x == ("__debug__" : Str))=false:=by decide)
  (he:fI (e::es) (cL CX0 P w K mg base N c scope f j A a s H E).nox.env=(false,eval e (cL CX0 P w K mg base N c scope f j A a s H E).nox.env)::fI es (cL CX0 P w K mg base N c scope f j A a s H E).nox.env:=by rfl)
  (am:(tp D (fI es (cL CX0 P w K mg base N c scope f j A a s H E).nox.env)).any (·.1)=false:=by rfl) :
  PN (cL CX0 P w K mg base N c scope f j A a s H E).nox [.If (.UnaryOp .Not (.Call (.Name x p) (e::es) [] D) p2) bd [] rp]
   (λR σ H'=>t σ H' λvs H1=>∀ H3,Same H1 H3->lU (C_ (s.heap.objs.size+1) scope.names []) N σ H3->sp (vs++B) H3 (λv H4=>v=.bl true/\R .non H4) λ_ _ _=>False):=by
 intro C s1 σ H1 R I h;refine A8 (wpAny_If (isTrue_not (IF ?_)));refine oI (jU I hg hm ?_ ah);refine Hu (h₀:=base) I.ok.mod.kin hk (thn (ha D C s1 σ H1 _ I h) λS W ⟨vs,H2,I2,r,q⟩=>⟨I2.kIn,?_⟩) he am;have J:Inv (cL CX0 P w K mg base N c scope f j A a s H E) C σ H2 W:=I2.unwish;obtain⟨H3,sm,hc,M,m,al⟩:=xX hN ad J;have r2:Vals (vs++B) (S++T):=r.append hd;have q':=q H3 sm hc;have hl:(S++T).length=ps.length:=by rw[<- r2.length];exact F.len _ _ _ _ q'
 have hL:∀ b∈frs (envOfC c scope s.heap.objs.size f j::a),b=s.heap.objs.size\/b∈frs a:=λb l=>by
  have:b∈s.heap.objs.size::frs a:=l;exact i_.mp this
 have e0:Env0 P w K mg base (cL CX0 P w K mg base N c scope f j A a s H E).A (envOfC c scope s.heap.objs.size f j::a) W H3:=by
  have z:=J.env0;refine⟨z.frames,z.mod,λb o e=>⟨(z.bs b o e).1,m.free b o (J.ok.bs b o e).1 (J.ok.bs b o e).2 (by simp)⟩,z.bsz,z.funs,λb l=>?_,al,z.bare⟩;cases q3:H3 b with
  | none=>rfl
  | some o =>
   obtain⟨y,hy⟩:=M b (z.frf b l) (by rw[q3];simp)
   rcases hL b l with rfl | hb'
   .exact absurd rfl (J.cne y _ hy)
   .obtain⟨_,X,Z,_⟩:=J.ok.funs.mem hb'
    have:=J.ok.cab y b rfl hy;exact absurd (jb (fR Z) this) (pw _)
 refine Iw (Gv (F.run _ _ W H3 ⟨S,[]⟩ (S++T) (vs++B) (λv H4=>v=.bl true/\R .non H4) _ hr e0 (l W S J.kIn hl) r2 q') λrr s' hq=>?_);cases rr with
 | error e=>exact mM hq
 | ok fl =>
  cases fl with
  | ret u =>
   obtain⟨v,H4,os,Q,d,O,rv,qq⟩:=hq
   have L:∀ b o,s.heap.get? b=some o->b ∉ frs a->b ∉ frs (envOfC c scope s.heap.objs.size f j::a):=λb o e n z=>by
    rcases hL b z with rfl | z
    .exact absurd (fR e) (pw _)
    .exact n z
   have ab:∀ b,b∈frs a->b∈frs (envOfC c scope s.heap.objs.size f j::a):=λb z=>by
    show b∈s.heap.objs.size::frs a;exact fy _ z
   obtain⟨rfl,qq⟩:=qq;obtain rfl:u=HI true:=rv;refine qj ?_;refine Gh (Gh ⟨rfl,H4,os.trans J.os,Q,⟨λb o e n l i=>d.keep b o (m.keep b o e n l i) (m.free b o e n i) (L b o e l) i,λb o e n l i=>?_,λb o e n i=>?_,λb o e i=>?_,λb xs e=>d.tups b xs (m.tups b xs e),λb o u e=>d.frzs b o u (m.frzs b o u e),λb qs e=>?_⟩,O,qq⟩)
   .obtain⟨sl,G⟩:=m.slot b o e n l i
    obtain⟨Y,e2⟩:=d.slot b _ G (m.free b o e n i) (ab b l) i;exact⟨Y,e2⟩
   .obtain⟨X,G⟩:=m.there b o e i
    exact d.free b X G (m.free b o e n i) i
   .obtain⟨X,G⟩:=m.there b o e i
    exact d.there b X G i
   .obtain⟨m1,G⟩:=m.tbls b qs e
    obtain⟨m2,e2⟩:=d.tbls b _ G;exact⟨m1++m2,by rw[e2,HJ]⟩
  | next=>exact mM hq
  | brk=>exact mM hq
  | cont=>exact mM hq
def Fun.okN{x a:Str}{st:Stmt}{f c:Addr}{l:ri}{N ps:List Str}{k:Nat}{sp:Sp}(F:Fun K x a st f l)(T:l.code=.ref c)(S:FnScope N ps (aH st))(Y:∀ p∈(aH st).names,p.2=.cell->(aH st).names.lookup p.1=some .cell)
  (j:∀ vs H Q E,sp vs H Q E->vs.length=ps.length)
  (g:∀(A:o3) (outer:List Env) (s:ej) (H:Hp) (vs:List V) (Q:VK) (E:XK),Room k (A.deeper (envOfC a (aH st) s.heap.objs.size f (.ref c)))->sp vs H Q E ->
   ∃ t,PN (cL CX0 P w K mg base N a (aH st) f (.ref c) A outer s H E).nox (dz st) t/\t Q (start N vs) H):FnOk P w K mg base CX0 (k+1) f l ps sp:=by
 obtain⟨oc,od,kV,ad,pm,an,B,ct,Z,rfl,R,G⟩:=F.ex;obtain rfl:B=.ref c:=T;refine⟨j,λA outer s H M us vs Q E D i hb r h=>?_⟩;have hl:=j _ _ _ _ h;have L:K.In s.heap:=i.mod.kin.keeps λb o e=>(i.bs b o e).1
 have C:s.heap.NoLimit:=i.mod.nolimit.keeps λb o e=>(i.bs b o e).1
 have d:∀ y ∈ ps.zip us,(aH st).names.lookup y.1 = some .local\/((aH st).names.lookup y.1 = some .cell/\((C_ (s.heap.objs.size + 1) (aH st).names []).lookup y.1).isSome = true):=λ⟨n,v⟩ X=>by
  rcases S.par n (GB X).1 with q | q
  .exact .inl q
  .exact .inr ⟨q,HU _ _ _ (.inl q)⟩
 refine HK D.depth (L _ _ R) rfl S.co S.gen rfl (Ld L G) (hb _ _ _ _ ?_);refine GW S.kind d λab he J x=>?_
 subst he;refine⟨C.keeps x.toInCall.keep,Kc ?_⟩;obtain⟨t,ht,hq⟩:=g A outer s H vs Q E (D.deeper _) h;have I:Inv (cL CX0 P w K mg base N a (aH st) f (.ref c) A outer s H E) [] (start N vs) H J:=ke S D.hd i hl r x;refine tW (ht [] J (start N vs) H Q (I.wish _) hq) (λfl s' m=>?_) λe s' m=>mM m
 obtain⟨rfl,H',O,g2,W,g4,q⟩:=m;exact⟨.non,H',O,g2,W,g4,rfl,q⟩
end
def E7{X:Cx}{tg e:Expr}{j:TE}(C:PE X e j):PI X tg e (λσ H R=>j σ H λx H1=>∃ d o kvs,x=.ref d/\H1 d=some (.frz o (.dT kvs))/\R (Itd d o kvs) H1):=by
 intro a s σ H R I h;refine thn (C a s σ H _ I h) λv c ⟨x,H1,f,r,d,o,kvs,y,A,q⟩=>?_
 subst y;obtain rfl:v=mr d:=r;obtain⟨E,p,D,i,B,l,k,w,m⟩:=qZ f.hok A;have g:p.size=kvs.length:=by rw[Jr w,gp i]
 refine vn m ⟨o,B,l,k⟩ ?_;refine⟨c.heap.objs.size,[c.heap.objs.size],_,_,_,rfl,f.kept (t':=c.toks) λb o e=>e_ _ e,uN k g,⟨_,h_ _ rfl,rfl,rfl⟩,λb hb=>?_,q⟩;have e:b=c.heap.objs.size:=k_.mp hb;subst e;exact f.fpOk (d_ _) (f.hok.fresh (d_ _))
section
variable {X:Cx}
inductive rCount(K:Frag)(x:V)(vs:List V)(H:Hp)(Q:VK):Prop
 | mk(l:Addr)(xs:List V)(ds:List HY)(y:V)(d:HY)(h0:x=.ref l)(h1:vs=[y])(h2:H l=some (.lst xs))(h3:DVs K H ds xs)(h4:DV K H d y)(h5:ub ds=true)(h6:d.canLay0=true)(h7:d.depth<=60)
   (h8:Q (.int ((ds.countP λz=>sN z d:Nat):Int)) H):rCount K x vs H Q
def yT(E:X.A.units+64<G8):MtM X "list.count" (rCount X.K):=by
 intro i s G H x C v K Q I k m h;obtain⟨l,xs,b,y,d,rfl,rfl,p,c,w,g,j,D,q⟩:=h;cases k;obtain⟨u,rfl,o⟩:=m.one;obtain⟨z,a,n,r,J,e⟩:=I.lstM p;obtain⟨as,f⟩:=DVs.reads I c r;obtain⟨L,B⟩:=w.reads I o;refine JA KW ⟨_,e,rfl⟩ F.entry_list_count (F.args_list_count_2 _ _) (SeqAt.list_countAt l a.toArray n none #[] u (λy=>sN (SeqAt.readOf s.heap y) d)) ⟨e,SeqAt.items_eqAt (xs:=b) (as:=as) (by simpa using f) B g j ?_,?_⟩
 .have:min (w_ b) d.depth<=d.depth:=G4 _ _
  lia
 .have A:a.toArray.toList.countP (λy=>sN (SeqAt.readOf s.heap y) d)=b.countP λz=>sN z d:=by
   rw[<- SeqAt.readsAll_map b a as g f,Lo];rfl
  rw[A];exact⟨.int _,H,I.tok _,⟨_,rfl⟩,q⟩
variable {o e:Expr}{es:List Expr}{to:TE}{t:TA}{apos cpos:Pos}
def pe_m.count(h:X.A.units+64<G8)(f:PE X o to)(g:PA X (e::es) t)(c:A6 o "count" X.env (eval o X.env)=eval o X.env:=by rfl)
  (d:((tp cpos (fI (e::es) X.env)).all (λx=>!x.1) && (GJ cpos (E3 [] X.env)).all (λx=>x.1.isSome) && decide ((e::es).length+([]:List F4).length+(if ([]:List F4).isEmpty then 0 else 1)<30))=true:=by rfl)
  (b:(apos.endLine == cpos.line)=true:=by rfl) (i:fI (e::es) X.env=(false,eval e X.env)::fI es X.env:=by rfl) (a:(tp cpos (fI es X.env)).any (·.1)=false:=by rfl) :
  PE X (.Call (.Attribute o "count" apos) (e::es) [] cpos) (tBM X.K "list" (rCount X.K) to t):=tF G0 KW F.type_list_count (yT h) f g c d b i a
end
abbrev re(h:Heap)(z TI TO:Addr)(f0:cX)(b:Bool):Prop :=
 h.get? z=some { cls:=.type "zip",dict:=none,data:=.fields #[f0,.bool b,.bool false,.ref TI,.ref TO],slots:=#[] }
section
variable {prog:gN}{w:ml}{A:o3}{E:cX->ej->Prop}{s:ej}
def C9{a:Addr}{o:Obj}{Q:Option Obj->ej->Prop}(h:s.heap.get? a=some o)(c:Q (some o) s):gV (kw prog w) A (loadIfAlive a) Q E s:=by
 intro b p hb;unfold loadIfAlive;rw[Sem.wp_loadIfAlive,h];exact(eB (M:=kw prog w) (A:=A) (E:=E) c) b p hb
def i7{z f g T:Addr}{b:Bool}{o:Obj}{Q:Bool->ej->Prop}(e:re s.heap z f g (A2 T) b)(i:s.heap.get? T=some o)
  (h:∀ h',re h' z f g (A2 T) true->GF z s.heap h'->Q false { s with heap:=h' }):gV (kw prog w) A (u_ (.ref z)) Q E s:=by
 unfold u_;refine cn (F7 e rfl (x:=A2 T) rfl ?_);show gV _ _ (loadIfAlive (Int.toNat (T:Int)) >>= _) _ _ s;rw[GU];refine cn (C9 i ?_);show gV _ _ (if (false=true) then _ else _) _ _ s;rw[if_neg fx];refine cn (F7 e rfl (x:=.bool b) rfl ?_);cases b with
 | true =>
  rw[if_neg (by decide)];exact eB (h _ e ⟨rfl,λ_ _=>rfl⟩)
 | false =>
  rw[if_pos (by decide)];exact cn (wpAny_setField_rec e (by simp) λd a c=>eB (h d a c))
def om{z p C i j F G T:Addr}{b:Bool}{o:Obj}{I O:Nat}{xs ys:Array cX}{x y:cX}{Q:cX->ej->Prop}(D:Hg z p C i j F G)
  (K:re s.heap z p C (A2 T) b) (S:s.heap.get? T=some o) (H:I7 s.heap p (.ref i) (.ref j))
  (Z:s.heap.IsListIter i F I) (h2:s.heap.IsListIter j G O) (L:s.heap.IsList F xs) (J:s.heap.IsList G ys) (hx:xs[I]? = some x) (hy:ys[O]? = some y)
  (hQ:∀ h',re h' z p C (A2 T) true->h'.IsListIter i F (I+1)->h'.IsListIter j G (O+1)->I7 h' s.heap.objs.size x y->h'.objs.size=s.heap.objs.size+1 ->
   (∀ c o,c≠z->c≠i->c≠j->s.heap.get? c=some o->h'.get? c=some o)->(∃ o,h'.get? T=some o)->Q (.ref s.heap.objs.size) { s with heap:=h' }) :
  gV (kw prog w) A (IK.«zip.__next__» ⟨[.ref z],[]⟩) (λfin s'=>∃ v,fin=.done (.ret v)/\Q v s') E s:=by
 show gV _ _ (field (.ref z) 2 >>= _) _ _ _;refine cn (F7 K rfl (x:=.bool false) rfl ?_);show gV _ _ (field (.ref z) 3 >>= _) _ _ _;refine cn (F7 K rfl (x:=.ref p) rfl ?_);refine cn (JG H rfl ?_);show gV _ _ (u_ (.ref z) >>= _) _ _ _;refine cn (i7 K S λX m a=>?_);simp only[DQ,if_false];refine cn ?_;rw[<- JQ];simp only[Lj,KY];have Y:=Z.extBut a.extBut D.i1z;have a2:=h2.extBut a.extBut D.i2z;have b1:=L.extBut a.extBut D.l1z;have b2:=J.extBut a.extBut D.l2z;refine cn (cn (xi ?_));show gV _ _ (Gi (.ref i) >>= _) _ _ _;refine cn (Kk Y b1 hx λR M d=>eB (eB ?_));refine cn (cn (xi ?_));show gV _ _ (Gi (.ref j) >>= _) _ _ _;refine cn (Kk (a2.extBut d.extBut D.i12.symm) (b2.extBut d.extBut D.l2i1) hy λf B g=>eB (eB (eB ?_)));show gV _ _ (newTuple [x,y] >>= λv=>ret v) _ _ _;refine cn (wpAny_newTuple (eB ⟨_,rfl,?_⟩));have l:f.objs.size=s.heap.objs.size:=by rw[g.1,d.1,a.1]
 have W:∀ c o,c≠z->c≠i->c≠j->s.heap.get? c=some o->f.get? c=some o:=λc o M B c3 e=>g.extBut _ _ c3 (d.extBut _ _ B (a.extBut _ _ M e))
 have h:re f z p C (A2 T) true:=g.extBut _ _ D.i2z.symm (d.extBut _ _ D.i1z.symm m);have r:=M.extBut g.extBut D.i12;show Q (.ref f.objs.size) _;rw[l]
 have k:∃ o,f.get? T=some o:=by
  by_cases e1:T=z
  .rw[e1];exact⟨_,h⟩
  by_cases e2:T=i
  .obtain⟨o,N,_⟩:=r;rw[e2];exact⟨o,N⟩
  by_cases e3:T=j
  .obtain⟨o,N,_⟩:=B;rw[e3];exact⟨o,N⟩
  exact⟨_,W _ _ e1 e2 e3 S⟩
 obtain⟨oT,P⟩:=k;refine hQ _ (e_ _ h) (r.at λo e=>e_ _ e) (B.at λo e=>e_ _ e) ?_ ?_ (λc o n1 n2 n3 e=>e_ _ (W c o n1 n2 n3 e)) ⟨oT,e_ _ P⟩
 .have:=h_ f (o:={ cls:=.type "tuple",data:=.seq #[x,y] }) rfl
  rw[l]at this;exact this
 .rw[IS,l]
def qP{z h r g v k J T:Addr}{b:Bool}{o:Obj}{p:Nat}{xs:Array cX}{Q:Fin->ej->Prop}(H:A.handled=none)(D:Hg z h r g v k J)
  (j:re s.heap z h r (A2 T) b) (G:s.heap.get? T=some o) (i:I7 s.heap h (.ref g) (.ref v))
  (C:s.heap.IsListIter g k p) (l:s.heap.IsList k xs) (L:xs[p]? = none)
  (B:∀ h' e,(∀ c o,c≠z->c≠g->s.heap.get? c=some o->h'.get? c=some o)->(∃ o,h'.get? e=some o/\o.cls=.type "StopIteration")->E (.ref e) { s with heap:=h' }) :
  gV (kw prog w) A (IK.«zip.__next__» ⟨[.ref z],[]⟩) Q E s:=by
 show gV _ _ (field (.ref z) 2 >>= _) _ _ _;refine cn (F7 j rfl (x:=.bool false) rfl ?_);show gV _ _ (field (.ref z) 3 >>= _) _ _ _;refine cn (F7 j rfl (x:=.ref h) rfl ?_);refine cn (JG i rfl ?_);show gV _ _ (u_ (.ref z) >>= _) _ _ _;refine cn (i7 j G λy m a=>?_);simp only[DQ,if_false];refine cn ?_;rw[<- JQ];simp only[Lj,KY];refine cn (cn (xi ?_));show gV _ _ (Gi (.ref g) >>= _) _ _ _;refine cn (wpAny_nextOf_list_end H (C.extBut a.extBut D.i1z) (l.extBut a.extBut D.l1z) L λf e d K=>?_);exact B f e (λc o I F x=>d _ _ F (a.extBut _ _ I x)) K
structure ZS(h:Heap)(z TI TO i1 i2 l1 l2:Addr)(xs ys:Array cX)(i:Nat):Prop where
 zo:(re h z TI TO .none false)\/∃(T:Addr) (o:Obj) (b:Bool),re h z TI TO (A2 (T:Nat)) b/\h.get? T=some o
 ti:I7 h TI (.ref i1) (.ref i2)
 to:∃ a b,I7 h TO a b
 j1:h.IsListIter i1 l1 i
 j2:h.IsListIter i2 l2 i
 q1:h.IsList l1 xs
 q2:h.IsList l2 ys
def zz{z J j h m B G:Addr}{i:Nat}{xs ys:Array cX}{x y:cX}{Q:Option cX->ej->Prop}(D:Hg z J j h m B G)(Z:ZS s.heap z J j h m B G xs ys i)(P:xs[i]? = some x)(O:ys[i]? = some y)
  (L:∀ h',ZS h' z J j h m B G xs ys (i+1)->I7 h' s.heap.objs.size x y->(∀ c o,c≠z->c≠j->c≠h->c≠m->s.heap.get? c=some o->h'.get? c=some o)->Q (some (.ref s.heap.objs.size)) { s with heap:=h' }) :
  gV (kw prog w) A (Ha (.ref z)) Q E s:=by
 obtain⟨R,p,⟨a,b,N⟩,M,K,k,r⟩:=Z
 rcases R with g | ⟨T,o,b',g,S⟩
 .refine Kr D g p N M K k r P O λh' H X I C l Y d=>L h' ⟨.inr ⟨_,_,_,H,l⟩,d _ _ D.TIz D.TITO D.TIi1 D.TIi2 p,⟨_,_,X⟩,I,C,k.at λo e=>d _ o D.l1z D.l1TO D.l1i1 D.l1i2 e,r.at λo e=>d _ o D.l2z D.l2TO D.l2i1 D.l2i2 e⟩ l d
 .have f:s.TypeIs (.ref z) "zip" := ⟨_,g,rfl⟩
  unfold Ha
  refine cn (Iq (x_ (name:=s_ "__next__") f Hn
   (D_ Hn f Lp
    (om D g S p M K k r P O λh' H I C l Y d W=>eB (L h' ?_ l λc o c1 c2 c3 c4 e=>d c o c1 c3 c4 e)) (KZ _))))
  obtain⟨o',v⟩:=W;exact⟨.inr ⟨_,_,_,H,v⟩,d _ _ D.TIz D.TIi1 D.TIi2 p,⟨_,_,d _ _ D.TOz D.TOi1 D.TOi2 N⟩,I,C,k.at λo e=>d _ o D.l1z D.l1i1 D.l1i2 e,r.at λo e=>d _ o D.l2z D.l2i1 D.l2i2 e⟩
def Dw{z y h g j p v:Addr}{i:Nat}{xs ys:Array cX}{Q:Option cX->ej->Prop}(m:A.handled=none)(D:Hg z y h g j p v)(Z:ZS s.heap z y h g j p v xs ys i)(B:xs[i]? = none)
  (k:∀ h',(∀ c o,c≠z->c≠h->c≠g->c≠j->s.heap.get? c=some o->h'.get? c=some o)->Q none { s with heap:=h' }):gV (kw prog w) A (Ha (.ref z)) Q E s:=by
 obtain⟨C,x,⟨a,b,J⟩,l,H,r,P⟩:=Z
 rcases C with f | ⟨T,o,R,f,I⟩
 .exact KJ m D f x J l H r P (.inl B) k
 .have d:s.TypeIs (.ref z) "zip" := ⟨_,f,rfl⟩
  unfold Ha
  refine cn (Iq (x_ (name:=s_ "__next__") d Hn
   (D_ Hn d Lp (qP m D f I x l r B λh' e G N=>?_) (KZ _))))
  obtain⟨o,M,K⟩:=N;refine cn (LL (T := "StopIteration") (b:=true) ⟨o,M,K⟩ L3 ?_);exact eB (k _ λc o L _ O _ e=>G c o L O e)
def ZS.on{h h':Heap}{z c f d j g l:Addr}{xs ys:Array cX}{i:Nat}(Z:ZS h z c f d j g l xs ys i)(k:∀ b∈[z,c,f,d,j,g,l],∀ o,h.get? b=some o->h'.get? b=some o)(x:∀ b o,h.get? b=some o->∃ o',h'.get? b=some o'):ZS h' z c f d j g l xs ys i:=by
 obtain⟨p,y,⟨a,b,r⟩,A,w,s,v⟩:=Z;refine⟨p.imp (λh=>k z (by simp) _ h) (λ⟨T,o,b',hz,hT⟩=>?_),k c (by simp) _ y,⟨a,b,k f (by simp) _ r⟩,A.at λo e=>k d (by simp) o e,w.at λo e=>k j (by simp) o e,s.at λo e=>k g (by simp) o e,v.at λo e=>k l (by simp) o e⟩;obtain⟨o',m⟩:=x T o hT;exact⟨T,o',b',k z (by simp) _ hz,m⟩
end
def FpOk.on{X:Cx}{a:List (Addr×Obj)}{H c:Hp}{b:Addr}(h:FpOk X a H b)(e:c b=none):FpOk X a c b:=⟨e,h.2⟩
def Zp(H:Hp)(xs ys ps:List V):Prop:=∀(j:Nat) p x y,ps[j]? = some p->xs[j]? = some x->ys[j]? = some y->∃ q,p=.ref q/\H q=some (.tup [x,y])
def A9{X:Cx}{A:o3}{R:Lb->ej->Prop}{d:List (Addr×Obj)}{M:St}{z TI m l r W Z S:Addr}{xs ys:List V}{us ws:List cX}{K:cX}{H0:Hp}(hh:A.in1.handled=none)(D:Hg z TI m l r W Z)(hS:S ∉ [z,TI,m,l,r,W,Z])(r1:Vals xs us)(r2:Vals ys ws)(hl:xs.length=ys.length)(hn:xs.length<=1000)(fS:H0 S=none) :
  ∀(k i:Nat) (s:ej) (H:Hp) (ps:List V),xs.length - i=k->i<=xs.length->ZS s.heap z TI m l r W Z us.toArray ws.toArray i->Inv X d M H s->(∀ b∈[z,m,l,r],FpOk X d H b)->Same H0 H->H S=some (.lst ps)->ps.length=i->Zp H xs ys ps ->
   (∀ s' H' ps',Inv X d M H' s'->Same H0 H'->H' S=some (.lst ps')->ps'.length=xs.length->Zp H' xs ys ps'->R (.ok (.ret K)) s') ->
   GG (kw X.prog X.w) A (.builtin "list.extend.loop" ⟨[.ref S,.ref z,K],[]⟩) R s:=by
 have sl:sizeLine=16777216:=fE;have e1:=r1.length;have e2:=r2.length;intro k
 induction k with
 | zero =>
  intro i s H ps hk hi T I N Y g Q hp hR;have ad:i=xs.length:=by lia
  subst ad;refine GO Ku ?_;rw[Hd GM _];show gV _ A.in1 (Ha (.ref z) >>= _) _ _ s;refine cn (Dw hh D T (by simp;lia) λL E=>?_);have J:Inv X d M H { s with heap:=L }:=I.turnedN (t':=s.toks) (ch:=[z,m,l,r]) (λc o f q=>E c o (λw=>f (by simp[w])) (λw=>f (by simp[w])) (λw=>f (by simp[w])) (λw=>f (by simp[w])) q) N;exact eB (hR _ H ps J Y g Q hp)
 | succ k ih =>
  intro i s H ps hk hi T I N Y g Q hp hR;have C:i<xs.length:=by lia
  obtain⟨ux,am,an⟩:=r1.get (c_ C);obtain⟨uy,ab,as⟩:=r2.get (c_ (show i<ys.length by lia));refine GO Ku ?_;rw[Hd GM _];show gV _ A.in1 (Ha (.ref z) >>= _) _ _ s;refine cn (zz D T (by simpa using am) (by simpa using ab) λL al hT E=>?_);have B:H s.heap.objs.size=none:=I.hok.fresh (d_ _)
  have J:Inv X d M (upd H s.heap.objs.size (.tup [xs[i],ys[i]])) { s with heap:=L } :=
   I.turnedNew (t':=s.toks) (ch:=[z,m,l,r]) (λc o f q=>E c o (λw=>f (by simp[w])) (λw=>f (by simp[w])) (λw=>f (by simp[w])) (λw=>f (by simp[w])) q) N (d_ _) ⟨by rw[sl];show 2<=16777216;decide,[ux,uy],.cons an (.cons as .nil),_,hT,rfl,0,rfl⟩
  have nS:S≠s.heap.objs.size:=ar g B;have O:(upd H s.heap.objs.size (.tup [xs[i],ys[i]])) S=some (.lst ps):=by rw[aq nS];exact g
  obtain⟨_,its,n,rv,a0,eo⟩:=J.lstM O;show gV _ A.in1 (J6 S (·.push (.ref s.heap.objs.size)) >>= _) _ _ _;refine cn ?_
  have J2:Inv X d M (upd (upd H s.heap.objs.size (.tup [xs[i],ys[i]])) S (.lst (ps++[.ref s.heap.objs.size]))) { s with heap:=L.update S (r0 (·.push (.ref s.heap.objs.size))) } :=
   J.lset (s:={ s with heap:=L }) (t':=s.toks) (its:=its) (its':=its++[.ref s.heap.objs.size]) O eo (by simp) (rv.append (.cons (show RelV (V.ref s.heap.objs.size) (.ref s.heap.objs.size) from rfl) .nil)) (by rw[ir,Ga];lia)
  have ah:∀ c∈[z,m,l,r],c≠s.heap.objs.size:=λc f q=>by
   have:∃ o,s.heap.get? c=some o:=by
    obtain⟨zo,ti,⟨a,b,to⟩,⟨o1,j1,_⟩,⟨o2,j2,_⟩,_⟩:=T;simp only[i_,xo,or_false]at f
    rcases f with rfl | rfl | rfl | rfl
    .rcases zo with h | ⟨_,_,_,h,_⟩
     .exact⟨_,h⟩
     .exact⟨_,h⟩
    .exact⟨_,to⟩
    .exact⟨_,j1⟩
    .exact⟨_,j2⟩
   obtain⟨o,ho⟩:=this;exact absurd (fR ho) (by rw[q];exact pw _)
  have P:∀ c∈[z,TI,m,l,r,W,Z],c≠S:=λc f q=>hS (by rw[<- q];exact f)
  refine HH eo rfl (eB ⟨plainId_quiet GM _,ih (i+1) _ _ _ (by lia) C (al.on (λb G o e=>(qk _ _ (P b G).symm).trans e) λb o e=>?_) J2 (λb G=>(N b G).on ?_) ((Y.put (Y.free B)).put fS) ac (by rw[ir,Ga];lia) ?_ hR⟩) (by rw[l5];lia) (by rw[Array.size_push,l5];lia)
  .by_cases eb:b=S
   .subst eb
    exact⟨_,Gs _ eo rfl⟩
   .exact⟨o,(qk _ _ (FZ eb)).trans e⟩
  .rw[aq (P b (by simp at G ⊢;rcases G with rfl | rfl | rfl | rfl <;> simp)),aq (ah b G)]
   exact(N b G).1
  .intro j p x y v h2 h3
   by_cases hj:j<ps.length
   .rw[oN hj]at v
    obtain⟨q,rfl,hq⟩:=hp j p x y v h2 h3;refine⟨q,rfl,?_⟩;have nq:q≠S:=λe=>by rw[e,g]at hq;cases hq
    rw[aq nq,aq (ar hq B)];exact hq
   .rw[rn (by lia)]at v
    have:j=i:=by
     by_cases e:j - ps.length=0
     .lia
     .rw[nr (by simp;lia)]at v;cases v
    subst this;rw[show j - ps.length=0 by lia]at v;cases v;rw[c_ C]at h2;cases h2;rw[c_ (by lia)]at h3;cases h3;exact⟨_,rfl,by rw[aq nS.symm];exact ac⟩
def v4(n a b:Nat)(d:a<n)(c:b<n):Hg (n+4) (n+2) (n+3) n (n+1) a b:=by
 constructor <;> exact(show(_:Nat)≠(_:Nat) by lia)
def zZ(n a b c:Nat)(e:a<n)(d:b<n)(h:c∈[n+4,n+2,n+3,n,n+1,a,b]):c≠n+5:=by
 simp only[i_,xo,or_false]at h;lia
def mq(n c:Nat)(h:c∈[n+4,n+3,n,n+1]):n<=c/\c≠n+5:=by
 simp only[i_,xo,or_false]at h;lia
def uo:Jy (.type "zip") (s_ "__len__")=pure none:=by rw[LM,Kv];kernel_rfl
def sM:Jy (.type "zip") (s_ "__length_hint__")=pure none:=by rw[LM,Kv];kernel_rfl
section
variable {prog:gN}{w:ml}{A:o3}{E:cX->ej->Prop}{s:ej}{I:Addr}
def xE{Q:Bool->ej->Prop}(a:s.TypeIs (.ref I) "zip")(h:Q true s):gV (kw prog w) A (HP (.ref I)) Q E s:=by
 unfold HP;refine cn (GN a uo ?_);show gV _ A (specialOf (mr I) (s_ "__length_hint__") >>= _) _ _ _;refine cn (GN a sM ?_);exact eB h
end
section
variable {X:Cx}{e f:Expr}{ta:TA}{p1 p2 pos pos2:Pos}
def tLZ(ta:TA):TE:=λσ H Q=>ta σ H λvs H1=>∃(a b:Addr) (xs ys:List V),vs=[.ref a,.ref b]/\H1 a=some (.lst xs)/\H1 b=some (.lst ys)/\xs.length=ys.length/\xs.length<=1000 /\
 ∀ H' l ps,Same H1 H'->H1 l=none->H' l=some (.lst ps)->ps.length=xs.length->Zp H' xs ys ps->Q (.ref l) H'
def mQ(hc:X.calm=true)(Y:Gl X "list")(am:X.mg "list" = none)(an:Gl X "zip")(ah:X.mg "zip" = none)(ha:PA X [e,f] ta)
  (he:fI [Expr.Call (.Name "zip" p2) [e,f] [] pos2] X.env=[(false,eval (.Call (.Name "zip" p2) [e,f] [] pos2) X.env)]:=by rfl) (hs:fI [e,f] X.env=(false,eval e X.env)::fI [f] X.env:=by rfl)
  (a0:(tp pos2 (fI [f] X.env)).any (·.1)=false:=by rfl) :
  PE X (.Call (.Name "list" p1) [.Call (.Name "zip" p2) [e,f] [] pos2] [] pos) (tLZ ta):=by
 intro i s T H Q I h;have sl:sizeLine=16777216:=fE;refine oI (ib I Y am cc ?_ (by decide) (by decide));refine r_ (GI ?_) he rfl;refine oI (ib I an ah ya ?_ (by decide) (by decide));refine r_ (thn (ha pos2 i s T H _ I h) λus d ⟨vs,K,E,r1,a,b,xs,ys,O,hl,ad,al,hx,q⟩=>?_) hs a0;subst O;obtain⟨u,v,rfl,ru,rv⟩:=sk r1;cases ru;cases rv;obtain⟨_,its,n,r,a3,eo⟩:=E.lstM hl;obtain⟨_,C,m,r2,ab,J⟩:=E.lstM ad;refine call_zip_2 (xs:=its.toArray) (ys:=C.toArray) ⟨_,eo,rfl,_,rfl⟩ ⟨_,J,rfl,_,rfl⟩ λw O e2 e3 e4 e5 e6 Z=>?_
 refine HS ?_;have I2:Inv X i T K { d with heap:=w }:=E.kept (t':=d.toks) Z;have M:a<d.heap.objs.size:=fR eo;have P:b<d.heap.objs.size:=fR J
 have Z2:ZS w (d.heap.objs.size+4) (d.heap.objs.size+2) (d.heap.objs.size+3) d.heap.objs.size (d.heap.objs.size+1) a b its.toArray C.toArray 0:=⟨.inl O,e2,⟨_,_,e3⟩,e4,e5,⟨_,Z _ _ eo,rfl,_,rfl⟩,⟨_,Z _ _ J,rfl,_,rfl⟩⟩
 have D:Hg (d.heap.objs.size+4) (d.heap.objs.size+2) (d.heap.objs.size+3) d.heap.objs.size (d.heap.objs.size+1) a b:=v4 _ _ _ M P;have as:∀ c,d.heap.objs.size<=c->FpOk X i K c:=λc g=>E.fpOk g (E.hok.fresh g)
 obtain⟨S,hS⟩:∃ S,S=w.objs.size:=⟨_,rfl⟩
 have R:S=d.heap.objs.size+5:=by rw[hS,e6]
 refine callType_codes (Q₁:=λN B=>N=.ref w.objs.size/\B={ d with heap:=w.push { cls:=.type "list",data:=.seq #[] } }) F.called_list (F.typeCall_list_1 _) F.entry_list_init (code_list_new _ ⟨rfl,rfl⟩) λN B h₁=>?_
 obtain⟨rfl,rfl⟩:=h₁;rw[<- hS]
 have I3:Inv X i T (upd K S (.lst [])) { d with heap:=w.push { cls:=.type "list",data:=.seq #[] } }:=by
  have:=I2.lnew (t':=d.toks) (ys:=[]) (its:=[]) .nil (ey _);rw[hS];exact this
 have fS:K S=none:=E.hok.fresh (by lia);obtain⟨_,a2,n3,r3,_,A⟩:=I3.lstM (l:=S) (xs:=[]) ac;cases r3;refine⟨⟨_,A,rfl⟩,F.args_list_init_2 _ _,?_⟩;show gV _ _ (do let old <- Ir (.ref S);Builtin.List.listUpdate (.ref S) (λ_=>#[]);letGo old.toList.reverse;ve (.ref S) (.ref (d.heap.objs.size+4)) .none) _ _ _;refine cn ?_;unfold Ir;refine cn (JG A rfl (eB ?_));show gV _ _ (J6 S (λ_=>#[]) >>= λ_=>letGo (#[]:Array cX).toList.reverse >>= λ_=>ve (.ref S) (.ref (d.heap.objs.size+4)) .none) _ _ _;refine cn (HH A rfl ?_);refine cn (wpAny_letGo ?_)
 have I4:Inv X i T (upd (upd K S (.lst [])) S (.lst [])) { d with heap:=(w.push { cls:=.type "list",data:=.seq #[] }).update S (r0 (λ_=>#[])) } :=
  I3.lset (s:={ d with heap:=w.push { cls:=.type "list",data:=.seq #[] } }) (t':=d.toks) (its:=[]) (its':=[]) ac A rfl .nil (ey _)
 rw[cq]at I4;have W:∀ c o,w.get? c=some o->((w.push { cls:=.type "list",data:=.seq #[] }).update S (r0 (λ_=>(#[]:Array cX)))).get? c=some o:=λc o g=>(qk _ _ (by rw[hS];exact Nat.ne_of_gt (fR g))).trans (e_ _ g)
 have Z4:=Z2.on (λc _ o g=>W c o g) (λc o g=>⟨o,W c o g⟩);have ti:Shared.TypeIs { d with heap:=(w.push { cls:=.type "list",data:=.seq #[] }).update S (r0 (λ_=>(#[]:Array cX))) } (.ref (d.heap.objs.size+4)) "zip" := ⟨_,W _ _ O,rfl⟩;unfold ve;refine cn (Kd ti ?_)
 have g1:Ih (.ref S) (.ref (d.heap.objs.size+4))=false:=by
  have:(S:Nat)≠d.heap.objs.size+4:=by lia
  simpa[Ih] using this
 have g2:(Gr "zip" == Gr "list")=false:=by decide
 have g3:(Gr "zip" == Gr "tuple")=false:=by decide
 simp only[g1,g2,g3,Bool.or_false,DQ,if_false];refine cn ?_;have pz:∀{A':o3}{Q':cX->ej->Prop}{E':cX->ej->Prop}{s':ej},re s'.heap (d.heap.objs.size+4) (d.heap.objs.size+2) (d.heap.objs.size+3) .none false->Q' (.ref (d.heap.objs.size+4)) s'->gV (kw X.prog X.w) A' (La (.ref (d.heap.objs.size+4))) Q' E' s':=λh h'=>I_ h h'
 refine pz (W _ _ O) ?_;refine cn (xi (xE ti ?_));rw[if_pos (by rfl)];refine cn (wpAny_rule ?_);obtain⟨_,a4,n4,r4,_,L⟩:=I4.lstM (l:=S) (xs:=[]) ac;cases r4;unfold Builtin.List.listTouch;refine cn (cn ?_);show gV _ _ (J6 S (·.push .none)) _ _ _;refine HH L rfl ?_ (by simp) (by simp);have I5:=I4.lset (s:={ d with heap:=(w.push { cls:=.type "list",data:=.seq #[] }).update S (r0 (λ_=>#[])) }) (t':=d.toks) (its:=[]) (its':=[.none]) (f:=(·.push .none)) (ys:=[.non]) ac L rfl (.cons rfl .nil) (by rw[sl];show 1<=16777216;decide);rw[cq]at I5;obtain⟨_,a5,n5,r5,_,k⟩:=I5.lstM (l:=S) (xs:=[.non]) ac;obtain⟨u5,rfl,a1⟩:=r5.one;cases a1;show gV _ _ (J6 S (·.pop)) _ _ _;refine HH k rfl ?_ (by simp[sl]) (by simp);have I6:=I5.lset (s:={ d with heap:=((w.push { cls:=.type "list",data:=.seq #[] }).update S (r0 (λ_=>#[]))).update S (r0 (·.push .none)) }) (t':=d.toks) (its:=[.none]) (its':=[]) (f:=(·.pop)) (ys:=[]) ac k (by simp) .nil (ey _);rw[cq]at I6
 have G:∀ c∈[d.heap.objs.size+4,d.heap.objs.size+2,d.heap.objs.size+3,d.heap.objs.size,d.heap.objs.size+1,a,b],c≠S:=λc g=>by
  rw[R];exact zZ _ _ _ _ M P g
 have Z6:=(Z4.on (λc g o e=>(qk _ (r0 (·.push .none)) (G c g).symm).trans e) (λc o e=>by
  by_cases ec:c=S
  .exact⟨_,by rw[ec];exact k⟩
  .exact⟨o,(qk _ _ (FZ ec)).trans e⟩)).on (λc g o e=>(qk _ (r0 (·.pop)) (G c g).symm).trans e) (λc o e=>by
  by_cases ec:c=S
  .exact⟨_,by rw[ec];exact Gs _ k rfl⟩
  .exact⟨o,(qk _ _ (FZ ec)).trans e⟩)
 refine eB ⟨plainId_quiet GM _,A9 (H0:=K) (by simpa using E.ok.hd hc) D ?_ r r2 al hx fS xs.length 0 _ _ _ rfl (ey _) Z6 I6 (λc g=>(as c ?_).on ?_) (Same.new fS) ac rfl (λj p x y h=>by cases h) λs' H' ps' I' sm hS' hps hz=>⟨rfl,?_⟩⟩
 .exact λz=>G _ z rfl
 .exact(mq _ _ g).1
 .rw[aq (by rw[R];exact(mq _ _ g).2)]
  exact E.hok.fresh (mq _ _ g).1
 .exact⟨.ref S,H',I',rfl,q H' S ps' sm fS hS' hps hz⟩
end
end L2
namespace L2
open PySem PySem.Calls PySem.Spec PyProof.Rows PySem.W
section
variable {prog:gN}{w:ml}{s:ej}{A:o3}{E:cX->ej->Prop}
def xU{t:Addr}{us:List cX}{d:List Int}{R:cX->ej->Prop}(l:IsTup s.heap t us.toArray)(B:Hv us d)(i:us.length<64)
  (b:∀(out:Array cX) (ns':List Int),Hv out.toList ns'->ns'.Perm d->ns'.Pairwise (·<=·)->R (.ref (s.heap.objs.size+1)) { s with heap:=sortedAll s.heap us out }) :
  gV (kw prog w) A (call (.builtin "sorted") [.ref t]) R E s:=by
 obtain⟨o,h,p,n,k⟩:=id l;have v:us.length<=sizeLine:=by rw[fE];lia
 refine call_function_entry kind_sorted plain_sorted entry_sorted (args_sorted1 _) ?_;unfold IK.«sorted»;refine cn (m:=checkCount "sorted" 1 1 _) (eB (cn ?_));unfold collect;refine cn (L4 (GO entry_proto_collect' ?_));show gV _ _ (do again (.builtin "list.__iadd__" ⟨[<- newList [],.ref t],[]⟩)) _ _ s;refine cn (wpAny_newList (eB ⟨Code.quiet_builtin _ (by decide +kernel),GO entry_list_iadd' ?_⟩));show gV _ _ (ve (.ref s.heap.objs.size) (.ref t) (.ref s.heap.objs.size)) _ _ { s with heap:=s.heap.push (HB "list" #[] 0) };unfold ve;have a:(s.heap.push (HB "list" #[] 0)).get? t=some o:=e_ _ h;have c:(s.heap.push (HB "list" #[] 0)).get? s.heap.objs.size=some (HB "list" #[] 0):=h_ _ rfl;refine cn (Kd (T := "tuple") ⟨o,a,p⟩ ?_);have e:(Gr "tuple" == Gr "tuple")=true:=rfl;rw[if_pos (by rw[e];simp)];refine cn (listItems_at a k (cn (listItems_at (xs:=#[]) (n:=0) c rfl ?_)));rw[if_neg (by simp)];refine cn (listUpdate_at (xs:=#[]) (n:=0) c rfl (eB ?_) (ey _) (by show(#[]++us.toArray).size<=sizeLine+1;simp only[Array.size_append,l5,Hw];lia));show gV (kw prog w) _ (do let o <- load s.heap.objs.size;match o.data with | .seq xs _=>pure xs.toList | _=>unsupported "internal:collect") _ E { s with heap:=(s.heap.push (HB "list" #[] 0)).update s.heap.objs.size (r0 (· ++ us.toArray)) };refine cn (wpAny_load (get?_update_seq c _) ?_);show gV _ _ (pure ((#[]:Array cX)++us.toArray).toList) _ E _;have y:((#[]:Array cX)++us.toArray).toList=us:=by simp
 rw[y];refine eB (cn (wpAny_newList ?_));have g:((s.heap.push (HB "list" #[] 0)).update s.heap.objs.size (r0 (· ++ us.toArray))).objs.size=s.heap.objs.size+1:=by rw[Heap.size_update,size_push']
 have f:(((s.heap.push (HB "list" #[] 0)).update s.heap.objs.size (r0 (· ++ us.toArray))).push (HB "list" us.toArray 0)).get? (s.heap.objs.size+1)=some (HB "list" us.toArray 0):=by rw[<- g];exact h_ _ rfl
 show gV _ _ _ _ _ { s with heap:=((s.heap.push (HB "list" #[] 0)).update s.heap.objs.size (r0 (· ++ us.toArray))).push (HB "list" us.toArray 0) };rw[g];exact cn (xi (D_ slot_list_sort ⟨_,f,rfl⟩ entry_list_sort (list_sort_tree f B i λout ns' j r x=>⟨_,rfl,eB ⟨_,rfl,b out ns' j r x⟩⟩) (args_list_sort _)))
end
def nX{X:Cx}:CallR X (.builtin "sorted") (λxs H Q=>∃(p:Addr) (ns:List Int),xs=[.ref p]/\(SqL X.K H p (ns.map V.int)\/SqT X.K H p (ns.map V.int))/\ns.length<64/\∀ q (ns':List Int),ns'.Perm ns->ns'.Pairwise (·<=·)->H q=none->Q (.ref q) (upd H q (.lst (ns'.map V.int)))):=by
 intro c s A H xs w Q I r h;obtain⟨p,ns,rfl,hq,v,q⟩:=h
 rcases hq with hq | hq
 .exact jJ c s A H _ w Q I r ⟨p,ns,rfl,hq,v,q⟩
 obtain⟨u,rfl,y⟩:=dW r;cases y;obtain⟨d,j,m,E⟩:=I.tuple hq;have B:=ip j;have g:d.length=ns.length:=by have:=j.length;rw[a_]at this;exact this.symm
 refine xU m B (by lia) λf ns' l i x=>?_
 obtain⟨e,C⟩:=sortedAll_at s.heap d f;have k:H (s.heap.objs.size+1)=none:=I.hok.fresh (GT _);have D:sizeLine=16777216:=fE;refine⟨.ref (s.heap.objs.size+1),_,I.laid (a:=s.heap.objs.size+1) (o:=.lst (ns'.map V.int)) (t':=s.toks) (λb u z=>sortedAll_old z) (GT _) ⟨?_,f.toList,e,gk l,?_⟩,rfl,q _ ns' i x k⟩
 .rw[a_,i.length_eq];lia
 .rw[C,JF]
end L2
namespace Du
def qw{a b:Rat}(c:0<=a)(d:0<b):0<=a/b:=by
 rw[Rat.div_def];exact Lq c (Rat.le_of_lt (Rat.inv_pos.mpr d))
def hb(h c:Rat):Rat:=if h+c<1 then h+c else h+c - 1
def EO{h c:Rat}(b:0<=h)(e:h<1)(a:0<c)(d:c<1):0<=hb h c/\hb h c<1:=by
 unfold hb;split <;> grind
def Uns(c:Rat):Prop:=0<c/\c<1
def us0(h c:Rat):Rat×Rat:=if h+c<1 then (c/(h+c),0) else ((1 - c)/(2 - (h+c)),(1 - h)/(2 - (h+c)))
def cY(h:Rat)(us:Rat×Rat)(c:Rat):Rat×Rat:=if h+c<1 then (us.1*(h/(h+c)),us.2) else (us.1*((1 - h)/(2 - (h+c))),us.2+us.1*((1 - c)/(2 - (h+c))))
def bk(us:Rat×Rat)(h c:Rat):Rat:=if 0<h+c - 1 then us.2*c+us.1*(h+c - 1) else us.2*c
end Du
namespace Du
open FrM
def fr(q:Rat):Int×Int:=(q.num,(q.den:Int))
def fO(n:Int){d:Nat}(a:d≠0):c5 n (d:Int)=fr (mkRat n d):=by
 unfold c5 fr;rw[Rat.num_mkRat,Rat.den_mkRat,if_neg a,if_neg a];have e:n_ n (d:Int)=d.gcd n.natAbs:=by rw[n_,Nat.gcd_comm];rfl
 rw[e];rfl
def low_div(t:Int){b:Int}(a:0<b):c5 t b=fr ((t:Rat)/(b:Rat)):=by
 obtain⟨d,rfl⟩:=Ge (GL a);rw[fO t (by omega),<- Gn,<- KM]
def AX(p q:Rat):c5 (p.num*(q.den:Int)+q.num*(p.den:Int)) ((p.den:Int)*(q.den:Int))=fr (p+q):=by
 rw[Rat.add_def',<- fO _ (IN p.den_nz q.den_nz)];simp
def AY(p q:Rat):c5 (p.num*(q.den:Int) - q.num*(p.den:Int)) ((p.den:Int)*(q.den:Int))=fr (p - q):=by
 rw[Rat.sub_def',<- fO _ (IN p.den_nz q.den_nz)];simp
def AT(p q:Rat):c5 (p.num*q.num) ((p.den:Int)*(q.den:Int))=fr (p*q):=by
 rw[Rat.mul_def',<- fO _ (IN p.den_nz q.den_nz)];simp
def num_pos{q:Rat}:0<q.num↔0<q:=by
 rw[Kl];simp
def zX(p q:Rat)(h:0<q):c5 (p.num*(q.den:Int)) ((p.den:Int)*q.num)=fr (p/q):=by
 have a:=num_pos.mpr h;have b:(0:Int)<p.den:=by have:=p.den_pos;omega
 rw[low_div _ (z_ b a)]
 congr 1
 have c:p=(p.num:Rat)/(p.den:Rat):=by
  have:=HZ p;rw[Gn]at this;exact this.symm
 have d:q=(q.num:Rat)/(q.den:Rat):=by
  have:=HZ q;rw[Gn]at this;exact this.symm
 have e:(p.den:Rat)≠0:=by have:=p.den_nz;exact_mod_cast this
 have g:(q.den:Rat)≠0:=by have:=q.den_nz;exact_mod_cast this
 have f:(q.num:Rat)≠0:=by
  have:q.num≠0:=by omega
  exact_mod_cast this
 conv=>rhs;rw[c,d]
 push_cast
 grind
def Bb(q:Rat):Prop:=Bt 1000 q.num/\Bt 1000 (q.den:Int)
def Bq(D:Nat)(q:Rat):Prop:=0<=q/\q<=1/\∃ n:Nat,q*(D:Rat)=(n:Rat)
def Bz(D:Nat)(q:Rat):Prop:=∃ n:Int,q*(D:Rat)=(n:Rat)/\n.natAbs<=4*D
def sw{D:Nat}(h:0<D):(0:Rat)<(D:Rat):=by exact_mod_cast h
def eq_mk{D:Nat}{q:Rat}{n:Int}(a:0<D)(e:q*(D:Rat)=(n:Rat)):q=mkRat n D:=by
 have b:=sw a;have:q=(n:Rat)/(D:Rat):=by grind
 rw[this,<- KM,Gn];rfl
def Bz.bb{D:Nat}{q:Rat}(c:0<D)(p:D<2 ^ 980)(h:Bz D q):Bb q:=by
 obtain⟨n,e,o⟩:=h;have d:=eq_mk c e;have l:=fO n (show D≠0 by omega);rw[<- d]at l;have j:(0:Int)<(D:Int):=by omega
 obtain⟨_,_,_,f,i⟩:=low n (D:Int) j;have k:(c5 n (D:Int)).1=q.num:=by rw[l];rfl
 have m:(c5 n (D:Int)).2=(q.den:Int):=by rw[l];rfl
 have a:n/(n_ n (D:Int):Int)=q.num:=k;have b:(D:Int)/(n_ n (D:Int):Int)=(q.den:Int):=m;rw[a]at f;rw[b]at i;have g:(2:Nat) ^ 1000=2 ^ 980*1048576:=by decide +kernel
 unfold Bb Bt;rw[g]
 constructor <;> omega
def xq{n:Nat}:(0:Rat)<=(n:Rat):=by exact_mod_cast ey n
def xV{n m:Nat}(h:(n:Rat)<=(m:Rat)):n<=m:=by exact_mod_cast h
def iE{n m:Nat}(h:m<=n):((n - m:Nat):Rat)=(n:Rat) - (m:Rat):=by
 obtain⟨k,rfl⟩:=Nat.exists_eq_add_of_le h;rw[Nat.add_sub_cancel_left]
 push_cast
 grind
def jr{a b:Rat}(c:0<=a)(d:0<=b):0<=a*b:=Lq c d
def Bq.nat{D:Nat}{q:Rat}(h:Bq D q):∃ n:Nat,q*(D:Rat)=(n:Rat)/\n<=D:=by
 obtain⟨a,b,n,e⟩:=h;refine⟨n,e,xV ?_⟩;have:=jr (show 0<=1 - q by grind) (xq (n:=D))
 grind
def Bq.z{D:Nat}{q:Rat}(h:Bq D q):Bz D q:=by
 obtain⟨n,e,a⟩:=h.nat;exact⟨(n:Int),by rw[e];rfl,by omega⟩
def Bq.bb{D:Nat}{q:Rat}(b:0<D)(a:D<2 ^ 980)(h:Bq D q):Bb q:=h.z.bb b a
def Bq.mul{D E:Nat}{q r:Rat}(h:Bq D q)(h':Bq E r):Bq (D*E) (q*r):=by
 obtain⟨a,d,n,e⟩:=h;obtain⟨b,c,m,f⟩:=h';refine⟨jr a b,?_,n*m,?_⟩
 .have:=jr a (show 0<=1 - r by grind)
  grind
 .push_cast
  grind
def Bq.up{D:Nat}(E:Nat){q:Rat}(h:Bq D q):Bq (D*E) q:=by
 obtain⟨a,b,n,e⟩:=h;refine⟨a,b,n*E,?_⟩
 push_cast
 grind
def Bq.up'{D:Nat}(E:Nat){q:Rat}(h:Bq D q):Bq (E*D) q:=by rw[Nat.mul_comm];exact h.up E
def Bq.add{D:Nat}{q r:Rat}(h:Bq D q)(h':Bq D r)(l:q+r<=1):Bq D (q+r):=by
 obtain⟨b,d,n,e⟩:=h;obtain⟨c,a,m,f⟩:=h';refine⟨by grind,l,n+m,?_⟩
 push_cast
 grind
def Bq.zero{D:Nat}:Bq D 0:=⟨by grind,by grind,0,by grind⟩
def xI{B:Nat}{q:Rat}(a b c:Int){h k:Rat}{n m:Nat}(e:h*(B:Rat)=(n:Rat))(f:k*(B:Rat)=(m:Rat))(g:n<=B)(d:m<=B)(j:q=(a:Rat)*h+(b:Rat)*k+(c:Rat))(l:a.natAbs<=1)(o:b.natAbs<=1)(i:c.natAbs<=2):Bz B q:=by
 refine⟨a*n+b*m+c*B,?_,?_⟩
 .push_cast
  rw[j]
  grind
 .have r:(a*(n:Int)).natAbs<=B:=by rw[wh];have:=Gm l g;simp at this ⊢;exact this
  have s:(b*(m:Int)).natAbs<=B:=by rw[wh];have:=Gm o d;simp at this ⊢;exact this
  have p:(c*(B:Int)).natAbs<=2*B:=by rw[wh];have:=Gm i (d_ B);simp at this ⊢;exact this
  omega
section
variable {B:Nat}{h c:Rat}
def Dz(H:Bq B h)(C:Bq B c):Bz B (h+c):=by
 obtain⟨n,e,b⟩:=H.nat;obtain⟨m,f,a⟩:=C.nat;exact xI 1 1 0 e f b a (by push_cast;grind) (by decide) (by decide) (by decide)
def zR(H:Bq B h)(C:Bq B c):Bz B (h+c - 1):=by
 obtain⟨n,e,b⟩:=H.nat;obtain⟨m,f,a⟩:=C.nat;exact xI 1 1 (-1) e f b a (by push_cast;grind) (by decide) (by decide) (by decide)
def Ag(H:Bq B h)(C:Bq B c):Bz B (2 - (h+c)):=by
 obtain⟨n,e,b⟩:=H.nat;obtain⟨m,f,a⟩:=C.nat;exact xI (-1) (-1) 2 e f b a (by push_cast;grind) (by decide) (by decide) (by decide)
def yy(C:Bq B c):Bq B (1 - c):=by
 obtain⟨m,f,a⟩:=C.nat;obtain⟨b,d,_⟩:=C;refine⟨by grind,by grind,B - m,?_⟩;rw[iE a]
 grind
def BS(H:Bq B h)(C:Bq B c)(g:h<1)(d:c<1):Bq B (hb h c):=by
 obtain⟨b,_,n,e⟩:=H;obtain⟨a,_,m,f⟩:=C;unfold hb
 split
 .exact⟨by grind,by grind,n+m,by push_cast;grind⟩
 .refine⟨by grind,by grind,n+m - B,?_⟩
  have:(B:Rat)<=((n+m:Nat):Rat):=by
   push_cast
   have:=jr (show 0<=h+c - 1 by grind) (xq (n:=B))
   grind
  rw[iE (xV this)]
  push_cast
  grind
def jF{a b:Rat}(A:∃ n:Nat,a*(B:Rat)=(n:Rat))(h:∃ n:Nat,b*(B:Rat)=(n:Rat))(f:0<=a)(c:0<b)(l:a<=b)(g:0<B)(T:Nat)(d:b*(B:Rat)=(T:Rat)):Bq T (a/b):=by
 obtain⟨n,e⟩:=A;refine⟨qw f c,?_,n,?_⟩
 .have:a/b=1 - (b - a)/b:=by grind
  have:=qw (show 0<=b - a by grind) c
  grind
 .rw[<- d,<- e]
  grind
end
def yr{B:Nat}{h c:Rat}(d:0<B)(H:Bq B h)(C:Bq B c)(r:h<1)(i:0<c)(s:c<1):∃ T:Nat,0<T/\T<=2*B /\
  (h+c<1->Bq T (h/(h+c))/\Bq T (c/(h+c)))/\(¬h+c<1->Bq T ((1 - c)/(2 - (h+c)))/\Bq T ((1 - h)/(2 - (h+c)))):=by
 obtain⟨n,e,p⟩:=H.nat;obtain⟨m,f,o⟩:=C.nat;obtain⟨j,_,_⟩:=H;have b:=sw d
 by_cases k:h+c<1
 .have a:(h+c)*(B:Rat)=((n+m:Nat):Rat):=by push_cast;grind
  refine⟨n+m,?_,by omega,λ_=>⟨jF ⟨n,e⟩ ⟨_,a⟩ j (by grind) (by grind) d _ a,jF ⟨m,f⟩ ⟨_,a⟩ (by grind) (by grind) (by grind) d _ a⟩,λz=>absurd k z⟩;have:(0:Rat)<(m:Rat):=by rw[<- f];exact JR i b
  have:0<m:=by exact_mod_cast this
  omega
 .have a:(2 - (h+c))*(B:Rat)=((2*B - (n+m):Nat):Rat):=by rw[iE (by omega)];push_cast;grind
  have g:(1 - c)*(B:Rat)=((B - m:Nat):Rat):=by rw[iE (by omega)];grind
  have l:(1 - h)*(B:Rat)=((B - n:Nat):Rat):=by rw[iE (by omega)];grind
  refine⟨2*B - (n+m),?_,by omega,λz=>absurd z k,λ_=>⟨jF ⟨_,g⟩ ⟨_,a⟩ (by grind) (by grind) (by grind) d _ a,jF ⟨_,l⟩ ⟨_,a⟩ (by grind) (by grind) (by grind) d _ a⟩⟩;have:(0:Rat)<((2*B - (n+m):Nat):Rat):=by rw[<- a];exact JR (by grind) b
  exact_mod_cast this
def Pu(D:Nat)(us:Rat×Rat):Prop:=Bq D us.1/\Bq D us.2/\us.1+us.2<=1
def Pu.step{B D T:Nat}{h c:Rat}{us:Rat×Rat}(P:Pu D us)(p:0<=h)(l:h<1)(m:0<c)(o:c<1)(g:(h+c<1->Bq T (h/(h+c))/\Bq T (c/(h+c)))/\(¬h+c<1->Bq T ((1 - c)/(2 - (h+c)))/\Bq T ((1 - h)/(2 - (h+c))))):Pu (D*T) (cY h us c):=by
 obtain⟨a,f,j⟩:=P;unfold cY
 split
 .rename_i k
  obtain⟨b,d⟩:=g.1 k;refine⟨a.mul b,f.up T,?_⟩;have:=jr a.1 (show 0<=1 - h/(h+c) by have:=b.2.1;grind)
  grind
 .rename_i k
  obtain⟨b,d⟩:=g.2 k;have i:(1 - c)/(2 - (h+c))+(1 - h)/(2 - (h+c))=1:=by grind
  have e:us.1*((1 - h)/(2 - (h+c)))+(us.2+us.1*((1 - c)/(2 - (h+c))))=us.1+us.2:=by
   have:us.1*((1 - h)/(2 - (h+c)))+us.1*((1 - c)/(2 - (h+c)))=us.1:=by
    rw[<- Rat.mul_add,Rat.add_comm ((1 - h)/(2 - (h+c))),i];grind
   grind
  refine⟨a.mul d,(f.up T).add (a.mul b) ?_,by rw[e];exact j⟩;have:=(a.mul d).1
  grind
def Pu.new{T:Nat}{h c:Rat}(i:0<=h)(e:h<1)(f:0<c)(g:c<1)(d:(h+c<1->Bq T (h/(h+c))/\Bq T (c/(h+c)))/\(¬h+c<1->Bq T ((1 - c)/(2 - (h+c)))/\Bq T ((1 - h)/(2 - (h+c))))):Pu T (us0 h c):=by
 unfold us0
 split
 .rename_i k
  obtain⟨b,a⟩:=d.1 k;exact⟨a,Bq.zero,by have:=a.2.1;grind⟩
 .rename_i k
  obtain⟨b,a⟩:=d.2 k;exact⟨b,a,by grind⟩
def Pu.up{D:Nat}{us:Rat×Rat}(P:Pu D us)(E:Nat):Pu (E*D) us:=⟨P.1.up' E,P.2.1.up' E,P.2.2⟩
def Pu.bk{B D:Nat}{h c:Rat}{us:Rat×Rat}(P:Pu D us)(C:Bq B c)(H:Bq B h)(f:h<1)(g:c<1):Bq (D*B) (us.2*c)/\(0<h+c - 1->Bq B (h+c - 1)/\Bq (D*B) (us.1*(h+c - 1)))/\Bq (D*B) (bk us h c):=by
 obtain⟨d,e,k⟩:=P;have a:=e.mul C
 have b:0<h+c - 1->Bq B (h+c - 1):=λz=>by
  have:=BS H C f g;unfold hb at this;rw[if_neg (by grind)]at this;exact this
 refine⟨a,λz=>⟨b z,d.mul (b z)⟩,?_⟩;unfold Du.bk
 split
 .rename_i z
  refine a.add (d.mul (b z)) ?_;have i:=jr e.1 (show 0<=1 - c by grind);have j:=jr d.1 (show 0<=1 - (h+c - 1) by grind)
  grind
 .exact a
end Du
namespace Du
abbrev Fn:=Nat->Nat->Option Rat
def uB(f:Fn)(x y:Nat)(v:Rat):Fn:=λa b=>if a=x/\b=y then some v else f a b
abbrev Er:=List (Nat×(Rat×Rat))
def zi(p:Nat)(h c:Rat)(e:Er)(f:Fn):Fn:=e.foldl (λf z=>uB (uB f z.1 p (bk z.2 h c)) p z.1 (bk z.2 h c)) f
def vU(S:Fn×Er×Rat)(x:Nat×Rat):Fn×Er×Rat:=(zi x.1 S.2.2 x.2 S.2.1 S.1,S.2.1.map (λz=>(z.1,cY S.2.2 z.2 x.2))++[(x.1,us0 S.2.2 x.2)],hb S.2.2 x.2)
def k0:Fn×Er×Rat:=(λ_ _=>none,[],0)
def uP(L:List (Nat×Rat)):Fn:=(L.foldl vU k0).1
def zI{f:Fn}{x y:Nat}{v:Rat}:uB f x y v x y=some v:=if_pos ⟨rfl,rfl⟩
def AE{f:Fn}{x y a b:Nat}{v:Rat}(h:¬(a=x/\b=y)):uB f x y v a b=f a b:=if_neg h
def rX(c:Rat):Bool:=decide (0<c/\c<1)
def unsQ_iff{c:Rat}:rX c=true↔Uns c:=decide_eq_true_iff
end Du
namespace FrM
def Fr(B:Int)(f:Int×Int):Prop:=0<=f.1/\f.1<=f.2/\0<f.2/\f.2 ∣ B
def uns(f:Int×Int):Bool:=decide (0<f.1/\f.1<f.2)
def bR(a b:Int):Int:=a/(n_ a b:Int)*b
def yB(x y:Nat):bR (x:Int) (y:Int)=(Nat.lcm x y:Nat):=by
 unfold bR;rw[Int.gcd_natCast_natCast,<- Int.natCast_ediv,<- Int.natCast_mul,Nat.div_mul_right_comm (KN x y)];rfl
def vF{a b B:Int}(e:0<a)(d:0<b)(g:0<B)(f:a ∣ B)(c:b ∣ B):0<bR a b/\a ∣ bR a b/\b ∣ bR a b/\bR a b ∣ B:=by
 obtain⟨x,rfl⟩:=Ge (GL e);obtain⟨y,rfl⟩:=Ge (GL d);obtain⟨z,rfl⟩:=Ge (GL g);rw[yB];rw[HQ,]at f c;refine⟨?_,HQ.mpr (Nat.dvd_lcm_left x y),HQ.mpr (Nat.dvd_lcm_right x y),HQ.mpr (Nat.lcm_dvd f c)⟩;exact IP.mpr (Nat.lcm_pos (IP.mp e) (IP.mp d))
def duA(c e:Int×Int):Int:=c.1*(bR c.2 e.2/c.2)
def duB(c e:Int×Int):Int:=e.1*(bR c.2 e.2/e.2)
def duL(c e:Int×Int):Bool:=decide (duA c e+duB c e<bR c.2 e.2)
def du1(c e:Int×Int):Int:=if duL c e=true then duA c e else bR c.2 e.2 - duB c e
def du2(c e:Int×Int):Int:=if duL c e=true then duB c e else bR c.2 e.2 - duA c e
def duR(c e:Int×Int):Int×Int:=if duL c e=true then c5 (duA c e+duB c e) (bR c.2 e.2) else c5 (duA c e+duB c e - bR c.2 e.2) (bR c.2 e.2)
def duE(c e:Int×Int):Int×Int:=if duL c e=true then (0,1) else (1,1)
def vz{T d B:Int}(j:0<d)(m:0<=T)(o:T<d)(g:d ∣ B):Fr B (c5 T d)/\(c5 T d).1<(c5 T d).2:=by
 have f:(0:Int)<(n_ T d:Int):=(low T d j).1;obtain⟨t,c⟩:=Ix T d;obtain⟨b,a⟩:=Ks T d;have k:T/(n_ T d:Int)=t:=FX (by omega) c;have l:d/(n_ T d:Int)=b:=FX (by omega) a;unfold Fr c5;simp only[k,l]
 have i:0<=t:=by
  refine Int.not_lt.mp λh=>?_
  have:=Int.mul_neg_of_pos_of_neg f h;rw[<- c]at this;omega
 have e:t<b:=by
  refine Km.mp λh=>?_
  have:=Int.mul_le_mul_of_nonneg_left h (GL f);rw[<- c,<- a]at this;omega
 exact⟨⟨i,by omega,by omega,Int.dvd_trans ⟨_,by rw[oD];exact a⟩ g⟩,e⟩
def wR{c e:Int×Int}{B:Int}(k:0<B)(j:Fr B c)(p:Fr B e)(w:uns c=true)(x:uns e=true) :
  0<bR c.2 e.2/\bR c.2 e.2 ∣ B/\bR c.2 e.2<=B/\0<duA c e/\duA c e<bR c.2 e.2/\0<duB c e/\duB c e<bR c.2 e.2:=by
 obtain⟨r,⟨g,y⟩,⟨i,A⟩,o⟩:=vF j.2.2.1 p.2.2.1 k j.2.2.2 p.2.2.2;have l:0<c.1/\c.1<c.2:=of_decide_eq_true w;have m:0<e.1/\e.1<e.2:=of_decide_eq_true x;have s:bR c.2 e.2/c.2=g:=FX (by omega) y;have v:bR c.2 e.2/e.2=i:=FX (by omega) A
 have f:0<g:=by
  refine Km.mp λh=>?_
  have:=A5 (a:=c.2) (b:=g) (by omega) h;omega
 have d:0<i:=by
  refine Km.mp λh=>?_
  have:=A5 (a:=e.2) (b:=i) (by omega) h;omega
 unfold duA duB;rw[s,v];refine⟨r,o,Gy k o,z_ l.1 f,?_,z_ m.1 d,?_⟩
 .have:=zb l.2 f
  omega
 .have:=zb m.2 d
  omega
def vK{c e:Int×Int}{B:Int}(l:0<B)(j:Fr B c)(o:Fr B e)(k:uns c=true)(m:uns e=true) :
  0<du1 c e/\0<du2 c e/\du1 c e+du2 c e<=B/\Fr B (duR c e)/\(duR c e).1<(duR c e).2/\Fr B (duE c e)/\uns (duE c e)=false:=by
 obtain⟨a,b,v,p,r,f,s⟩:=wR l j o k m
 have i:Fr B (0,1):=⟨by decide,by decide,by decide,Int.one_dvd B⟩
 have g:Fr B (1,1):=⟨by decide,by decide,by decide,Int.one_dvd B⟩
 unfold du1 du2 duR duE
 by_cases h:duL c e=true
 .have d:duA c e+duB c e<bR c.2 e.2:=of_decide_eq_true h
  simp only[if_pos h];have:=vz a (T:=duA c e+duB c e) (by omega) d b;exact⟨p,f,by omega,this.1,this.2,i,rfl⟩
 .have d:¬duA c e+duB c e<bR c.2 e.2:=λz=>h (decide_eq_true z)
  simp only[if_neg h];have:=vz a (T:=duA c e+duB c e - bR c.2 e.2) (by omega) (by omega) b;exact⟨by omega,by omega,by omega,this.1,this.2,g,rfl⟩
abbrev Tl:=List (Int×(Int×Int))
def whl(f:Int×Int):Bool:=decide (f=(1,1))
def sett(tl:Tl)(tk:List Int):Tl×List Int:=(tl.filter (λx=>uns x.2),tk++(tl.filter λx=>whl x.2).map (·.1))
def par(b:Bool)(c e:Int×Int):(Int×Int)×(Int×Int):=if b=duL c e then (duR c e,duE c e) else (duE c e,duR c e)
def sz1:Tl->Int
 | (_,c)::(_,e)::_=>du1 c e
 | [(_,c)]=>c.1
 | []=>0
def sz2:Tl->Int
 | (_,c)::(_,e)::_=>du2 c e
 | [(_,c)]=>c.2 - c.1
 | []=>0
def nx(b:Bool):Tl->List Int->Tl×List Int
 | (p,c)::(o,e)::r,tk=>sett ((p,(par b c e).1)::(o,(par b c e).2)::r) tk
 | [(p,_)],tk=>([],if b=true then tk++[p] else tk)
 | [],tk=>([],tk)
def mK:Tl->List Int->List (Int×Int×Int)->List Int->Prop
 | tl,tk,[],kept=>tl=[]/\kept=tk
 | tl,tk,(k,n,t)::r,kept=>tl≠[]/\k=sz1 tl/\n=sz2 tl/\0<=t/\t<k+n/\mK (nx (decide (t<k)) tl tk).1 (nx (decide (t<k)) tl tk).2 r kept
def WfS(B:Int)(tl:Tl)(tk:List Int):Prop:=(∀ x∈tl,Fr B x.2)/\tl.length+tk.length<=24
def WfT(B:Int)(tl:Tl)(tk:List Int):Prop:=(∀ x∈tl,Fr B x.2/\uns x.2=true)/\tl.length+tk.length<=24
def vL{f:Int×Int}(h:whl f=true):uns f=false:=by
 rw[of_decide_eq_true (p:=f=(1,1)) h];rfl
theorem sF:∀(tl:Tl) ,(tl.filter λx=>uns x.2).length+(tl.filter λx=>whl x.2).length<=tl.length
 | []=>by simp
 | x::r=>by
  have a:=sF r;rw[H_,H_,f_];cases hw:whl x.2 with
  | true=>rw[vL hw];simp;omega
  | false=>cases uns x.2 <;> simp <;> omega
def j3{B:Int}{tl:Tl}{tk:List Int}(h:WfS B tl tk):WfT B (sett tl tk).1 (sett tl tk).2:=by
 refine⟨λx a=>?_,?_⟩
 .have:=mN.mp a
  exact⟨h.1 x this.1,this.2⟩
 .have:=sF tl
  have:=h.2;simp only[sett,ir,a_];omega
def Dm{c e:Int×Int}{B:Int}(h:0<B)(f:Fr B c)(j:Fr B e)(g:uns c=true)(i:uns e=true)(b:Bool):Fr B (par b c e).1/\Fr B (par b c e).2:=by
 obtain⟨_,_,_,a,_,d,_⟩:=vK h f j g i;unfold par
 split
 .exact⟨a,d⟩
 .exact⟨d,a⟩
def ym{B:Int}{p o:Int}{c e:Int×Int}{r:Tl}{tk:List Int}(f:0<B)(h:WfT B ((p,c)::(o,e)::r) tk)(b:Bool):WfS B ((p,(par b c e).1)::(o,(par b c e).2)::r) tk:=by
 have d:=h.1 _ (ft ..);have a:=h.1 _ (fy _ (ft ..));have:=Dm f d.1 a.1 d.2 a.2 b;refine⟨λx hx=>?_,h.2⟩
 rcases i_.mp hx with rfl | hx
 .exact this.1
 rcases i_.mp hx with rfl | hx
 .exact this.2
 .exact(h.1 x (fy _ (fy _ hx))).1
def E8{B:Int}{tl:Tl}{tk:List Int}(b:0<B)(h:WfT B tl tk)(g:tl≠[]):0<sz1 tl/\0<sz2 tl/\sz1 tl+sz2 tl<=B:=by
 match tl,g with
 | [(p,c)],_ =>
  have a:=h.1 _ (ft ..);have u:0<c.1/\c.1<c.2:=of_decide_eq_true a.2;have:=Gy b a.1.2.2.2;refine⟨u.1,?_,?_⟩
  .show 0<c.2 - c.1;omega
  .show c.1+(c.2 - c.1)<=B;have:c.2<=B:=this;omega
 | (p,c)::(o,e)::r,_ =>
  have a:=h.1 _ (ft ..);have d:=h.1 _ (fy _ (ft ..));obtain⟨j,f,i,_⟩:=vK b a.1 d.1 a.2 d.2;exact⟨j,f,i⟩
def yp{B:Int}{tl:Tl}{tk:List Int}(a:0<B)(h:WfT B tl tk)(b:Bool):WfT B (nx b tl tk).1 (nx b tl tk).2:=by
 match tl with
 | []=>exact h
 | [(p,c)] =>
  refine⟨λx d=>(by cases d),?_⟩;have:=h.2;show 0+(if b=true then tk++[p] else tk).length<=24;simp only[f_,Hw]at this
  split
  .rw[ir];show 0+(tk.length+1)<=24;omega
  .omega
 | (p,c)::(o,e)::r=>exact j3 (ym a h b)
def zE{f:Int×Int}(h:uns f=true):whl f=false:=by
 cases hw:whl f with
 | false=>rfl
 | true=>rw[vL hw]at h;cases h
def un(B:Int)(f:Int×Int):Int:=f.1*(B/f.2)
def yO{B T d:Int}(g:0<d)(a:d ∣ B):un B (c5 T d)=T*(B/d):=by
 obtain⟨k,rfl⟩:=a;have h:=jy (t:=T) (b:=d) g;generalize c5 T d=f at h;obtain⟨t,b⟩:=f;have l:0<b:=h.pos;have e:t*d=T*b:=h.eq;have c:b ∣ d:=jx h.cop ⟨T,by rw[e,oD]⟩;obtain⟨j,rfl⟩:=c;show t*(b*j*k/b)=T*(b*j*k/(b*j));rw[sn _ (by lia:b*j≠0),uc b j k,sn _ (by lia:b≠0)]
 have i:t*j=T:=by
  refine A4 (show b≠0 by lia) ?_;rw[<- e,uc,oD j b]
 rw[<- i,uc]
def vX{B d:Int}{c:Int×Int}(e:0<c.2)(f:0<d)(b:c.2 ∣ d)(a:d ∣ B):c.1*(d/c.2)*(B/d)=un B c:=by
 obtain⟨k,rfl⟩:=a;obtain⟨j,rfl⟩:=b;unfold un;rw[sn _ (by lia:c.2*j≠0),uc c.2 j k,sn _ (by lia:c.2≠0),sn _ (by lia:c.2≠0),uc]
def Dc{B:Int}{c e:Int×Int}(p:0<B)(g:Fr B c)(k:Fr B e)(b:Bool):un B (par b c e).1+un B (par b c e).2=un B c+un B e:=by
 obtain⟨f,o,r,d⟩:=vF g.2.2.1 k.2.2.1 p g.2.2.2 k.2.2.2;have l:=vX g.2.2.1 f o d;have m:=vX k.2.2.1 f r d;have j:un B (1,1)=B:=by unfold un;simp
 have i:un B (0,1)=0:=by unfold un;simp
 have a:un B (duR c e)+un B (duE c e)=un B c+un B e:=by
  unfold duR duE
  by_cases h:duL c e=true
  .rw[if_pos h,if_pos h,yO f d,i,<- l,<- m]
   unfold duA duB;rw[F3];lia
  .rw[if_neg h,if_neg h,yO f d,j,<- l,<- m]
   unfold duA duB;rw[JS,F3,Int.mul_ediv_cancel' d];lia
 unfold par
 split
 .exact a
 .show un B (duE c e)+un B (duR c e)=_
  rw[Int.add_comm];exact a
def wt(B:Int)(tl:Tl)(tk:List Int):Int:=(tl.map λx=>un B x.2).sum+B*(tk.length:Int)
def ur(f:Int×Int):Prop:=uns f=true\/f=(1,1)\/f.1=0
def vd{B:Int}:∀(tl:Tl) (tk:List Int),(∀ x∈tl,ur x.2)->wt B (sett tl tk).1 (sett tl tk).2=wt B tl tk:=by
 have a:∀ tl:Tl,(∀ x∈tl,ur x.2)->((tl.filter λx=>uns x.2).map λx=>un B x.2).sum+B*((tl.filter λx=>whl x.2).length:Int)=(tl.map λx=>un B x.2).sum:=by
  intro tl
  induction tl with
  | nil=>intro _;simp
  | cons x r ih =>
   intro h;have c:=ih λy b=>h y (fy _ b)
   rw[l_,BH,<- c]
   rcases h x ft with e | e | e
   .rw[k6 (by exact e),g_ (by rw[zE e];decide),l_,BH];lia
   .rw[g_ (by rw[e];decide),k6 (by rw[e];decide),f_,e]
    have:un B (1,1)=B:=by unfold un;simp
    rw[this,GC,Int.mul_add];simp;lia
   .rw[g_ (by unfold uns;rw[e];simp),g_ (by unfold whl;intro z;have:=of_decide_eq_true z;rw[this]at e;simp at e)]
    have:un B x.2=0:=by unfold un;rw[e];simp
    rw[this];lia
 intro tl tk h;unfold wt sett;rw[ir,a_,GC,Int.mul_add,<- a tl h];lia
def xW{c e:Int×Int}{B:Int}(k:0<B)(h:Fr B c)(m:Fr B e)(i:uns c=true)(l:uns e=true)(b:Bool):ur (par b c e).1/\ur (par b c e).2:=by
 obtain⟨_,_,_,j,f,_⟩:=vK k h m i l
 have a:ur (duR c e):=by
  rcases Int.lt_or_eq_of_le j.1 with g | g
  .exact .inl (decide_eq_true ⟨g,f⟩)
  .exact .inr (.inr g.symm)
 have d:ur (duE c e):=by
  unfold duE;split
  .exact .inr (.inr rfl)
  .exact .inr (.inl rfl)
 unfold par;split
 .exact⟨a,d⟩
 .exact⟨d,a⟩
def AD{B:Int}{c:Int×Int}(j:0<B)(d:Fr B c)(f:uns c=true):0<un B c/\un B c<B:=by
 obtain⟨i,h⟩:=of_decide_eq_true (p:=0<c.1/\c.1<c.2) f;obtain⟨k,b⟩:=d.2.2.2
 have a:0<k:=by
  rcases Hb 0 k with g | g
  .exact g
  .exact absurd (A5 (show 0<=c.2 by lia) g) (by lia)
 have e:un B c=c.1*k:=by unfold un;rw[b,sn _ (by lia:c.2≠0)]
 rw[e];refine⟨z_ i a,?_⟩;have:=zb h a;rw[<- b]at this;exact this
theorem rm{B:Int}(f:0<B):∀(rows:List (Int×Int×Int)) (tl:Tl) (tk kept:List Int) (k:Int),mK tl tk rows kept->WfT B tl tk->wt B tl tk=k*B->(kept.length:Int)=k
 | [],tl,tk,kept,k,h,_,e=>by
  obtain⟨rfl,rfl⟩:=h;unfold wt at e;simp at e;rw[oD B]at e;exact A4 (by lia) e
 | (a,b,t)::r,tl,tk,kept,k,h,hw,e=>by
  obtain⟨s,_,_,_,_,i⟩:=h
  match tl,s,hw,e,i with
  | [(p,c)],_,hw,e,i =>
   have d:=hw.1 (p,c) ft;obtain⟨w,v⟩:=AD f d.1 d.2;unfold wt at e;simp at e;exfalso;have y:un B c=(k - tk.length)*B:=by rw[JS,<- e,oD B];lia
   rcases Hb 0 (k - tk.length) with g | g
   .have:=Gx (show 1<=k - tk.length by lia) (show 0<=B by lia)
    lia
   .have:=Ia g (show 0<=B by lia)
    lia
  | (p,c)::(o,e')::r',_,hw,e,i =>
   have d:=hw.1 (p,c) ft;have j:=hw.1 (o,e') (fy _ ft);refine rm f r _ _ kept k i (yp f hw _) ?_;obtain⟨l,m⟩:=xW f d.1 j.1 d.2 j.2 (decide (t<a));show wt B (sett _ tk).1 (sett _ tk).2=_;rw[vd]
   .rw[<- e]
    unfold wt;simp only[l_,BH];have:=Dc f d.1 j.1 (decide (t<a));lia
   .intro x hx
    rcases i_.mp hx with rfl | hx
    .exact l
    rcases i_.mp hx with rfl | hx
    .exact m
    exact .inl (hw.1 x (fy _ (fy _ hx))).2
theorem my(z:List Int)(p:Nat->Bool):∀ l:List Nat,sumL z l=sumL z (l.filter p)+sumL z (l.filter λk=>!p k)/\l.length=(l.filter p).length+(l.filter λk=>!p k).length
 | []=>by simp[sumL]
 | a::l=>by
  obtain⟨c,b⟩:=my z p l;have e:∀ r:List Nat,sumL z (a::r)=sz z a+sumL z r:=λr=>by unfold sumL;rw[l_,BH]
  cases h:p a with
  | true =>
   rw[k6 (by exact h),g_ (by simp[h]),e,e,f_,f_];lia
  | false =>
   rw[g_ (by simp[h]),k6 (by simp[h]),e,e,f_,f_];lia
def zp{z:List Int}{l:List Nat}{w:Int}(b:∀ k∈l,1<=sz z k)(c:w<l.length)(s:0<w):0<w - ((l.length:Int) - ((stay z l w).length:Int)):=by
 have p:=nJ b c (by lia);obtain⟨e,i⟩:=my z (λk=>decide (sz z k*w<sumL z l)) l;have h:l.filter (λk=>decide (sz z k*w<sumL z l))=stay z l w:=rfl;rw[h]at e i;have o:=fF z (stay z l w) λk a=>b k (mN.mp a).1
 have j:=gq z w (sumL z l) (l.filter λk=>!decide (sz z k*w<sumL z l)) λk a=>by
  have:=(mN.mp a).2;simpa using this
 generalize (l.filter λk=>!decide (sz z k*w<sumL z l))=hi at *;have f:sumL z hi<=sumL z l - 1:=by lia
 have g:sumL z hi*w<=(sumL z l - 1)*w:=Gx f (by lia);rw[JS,Int.one_mul]at g;have d:(hi.length:Int)*sumL z l<w*sumL z l:=by rw[oD w];lia
 have r:=fF z l b;have m:=GP d (by lia);lia
theorem vC{z:List Int}{n:Nat}{m:Int}(b:∀ k,k<n->1<=sz z k):∀(c:Nat) (l:List Nat) (w:Int),l.length<=c->Rnd z n m l w->0<w->0<(fin z l w).2/\∀ k∈(fin z l w).1,sz z k*(fin z l w).2<sumL z (fin z l w).1
 | 0,l,w,hc,h,_=>absurd h.pos (by lia)
 | c+1,l,w,hc,h,w0=>by
  by_cases e:(stay z l w).length=l.length
  .rw[j7 e]
   refine⟨w0,λk a=>?_⟩;have:=List.length_filter_eq_length_iff.mp e k a;simpa using this
  .rw[qS e]
   have:=jM z l w;exact vC b c _ _ (by lia) (h.step b) (zp (λk a=>b k (h.sub k a)) h.lt w0)
structure FrOk(f:Int×Int):Prop where
 pos:0<f.2
 lo:0<=f.1
 hi:f.1<=f.2
 bd:f.2<=576000000
 ends:¬(0<f.1/\f.1<f.2)->f=(1,1)\/f=(0,1)
def CJ{T B:Int}(j:0<T)(d:T<B)(o:B<=576000000):FrOk (c5 T B):=by
 have h:=jy (t:=T) (b:=B) (by lia);generalize c5 T B=f at h;obtain⟨t,b⟩:=f;have a:0<b:=h.pos;have m:b<=B:=(Dx (by lia) h).1;have e:t*B=T*b:=h.eq;have l:0<T*b:=z_ j a
 have k:0<t:=by
  rcases Hb 0 t with g | g
  .exact g
  .exact absurd (Ia g (show 0<=B by lia)) (by lia)
 have i:t<b:=by
  have c:T*b<B*b:=zb d a;rw[<- e,oD B b]at c;exact GP c (by lia)
 exact⟨a,by show 0<=t;lia,by show t<=b;lia,by show b<=576000000;lia,λg=>absurd ⟨k,i⟩ g⟩
def CQ{z:List Int}{m:Int}(g:∀ k,k<z.length->1<=sz z k)(i:∀ k,k<z.length->sz z k<=24000000)(p:z.length<=24)(l:0<=m):∀ f∈due z m,FrOk f:=by
 have d:FrOk (1,1):=⟨by decide,by decide,by decide,by decide,λ_=>.inl rfl⟩
 have e:FrOk (0,1):=⟨by decide,by decide,by decide,by decide,λ_=>.inr rfl⟩
 intro f a;unfold due at a
 by_cases h1:(z.length:Int)<=m
 .rw[if_pos h1]at a
  obtain⟨_,_,rfl⟩:=lz.mp a;exact d
 .rw[if_neg h1]at a
  by_cases h2:m=0
  .rw[if_pos h2]at a
   obtain⟨_,_,rfl⟩:=lz.mp a;exact e
  .rw[if_neg h2]at a
   obtain⟨k,h,rfl⟩:=lz.mp a;have S:=Rnd.start (z:=z) (n:=z.length) (m:=m) (by lia) (by lia);have R:=Rnd.fin g _ _ _ (d_ _) S;obtain⟨j,c⟩:=vC g _ _ _ (d_ _) S (by lia)
   by_cases hd:decide (k∈(FrM.fin z (g0 z.length) m).1)=true
   .rw[if_pos hd]
    have b:=of_decide_eq_true hd;have o:=ma z 24000000 _ λk h=>i k (R.sub k h)
    have s:=R.len;have r:=g k (R.sub k b);exact CJ (z_ (by lia) j) (c k b) (by lia)
   .rw[if_neg hd]
    exact d
end FrM
namespace My
open PySem L2 FrM Du
def top(i:Nat):Stmt:=PySem.Challenge.pw_fewspeak_k95_whole_weights_over_those_dr.main.body.getD i (.Pass ⟨0,0,0,0⟩)
abbrev mh:Stmt:=top 11
abbrev jR:Stmt:=top 12
abbrev oR:Stmt:=top 13
abbrev j6:Stmt:=top 14
abbrev gJ:Stmt:=top 20
abbrev fZ:Stmt:=top 21
abbrev fK:Stmt:=top 23
abbrev pF:Stmt:=top 24
abbrev Cf:Stmt:=top 25
abbrev mX:Stmt:=top 26
abbrev iF:Stmt:=top 27
abbrev lq:Stmt:=top 28
abbrev w5:Stmt:=top 29
abbrev pI:Stmt:=top 30
abbrev jj:Stmt:=top 31
abbrev jC:Stmt:=top 32
abbrev eU:Stmt:=top 34
abbrev fW:Stmt:=top 35
abbrev vQ:Stmt:=top 36
abbrev yY:Stmt:=top 37
abbrev vp:Stmt:=top 38
abbrev vJ:Stmt:=top 39
abbrev zh:Stmt:=top 40
abbrev vy:Stmt:=top 41
abbrev gE:Stmt:=be (top 44) 0
abbrev iH:Stmt:=be (top 44) 1
abbrev lx:Stmt:=be (top 44) 2
abbrev jB:Stmt:=be (top 44) 3
abbrev qB:Stmt:=be (top 44) 4
abbrev gX:Stmt:=be (top 45) 0
abbrev jn:Stmt:=be (top 45) 1
abbrev nK:Stmt:=be (top 45) 2
abbrev lj:Stmt:=be (top 45) 3
abbrev ln:Stmt:=be (top 45) 4
abbrev lm:Stmt:=be (top 45) 5
abbrev gG:Stmt:=top 46
abbrev uK:Stmt:=top 47
abbrev sL:Stmt:=top 52
abbrev gb:Stmt:=top 53
abbrev kX:Stmt:=top 54
abbrev k7:Stmt:=top 55
abbrev kZ:Stmt:=top 56
abbrev j8:Stmt:=top 57
abbrev iZ:Stmt:=top 58
abbrev hX:Stmt:=be (top 60) 0
abbrev mL:Stmt:=be (top 60) 1
abbrev gC:Stmt:=be (top 60) 2
abbrev jI:Stmt:=be (top 60) 3
abbrev gB:Stmt:=top 61
abbrev jO:Stmt:=top 62
abbrev f6:Stmt:=be (top 63) 0
abbrev jV:Stmt:=be (top 63) 1
abbrev eW:Stmt:=be (top 63) 2
abbrev hV:Stmt:=be (top 63) 3
abbrev lg:Stmt:=top 64
abbrev eA:Stmt:=top 65
abbrev oQ:Stmt:=top 68
abbrev kM:Stmt:=top 69
abbrev eG:Stmt:=top 70
abbrev gy:Stmt:=top 71
abbrev jz:Stmt:=top 72
abbrev fM:Stmt:=top 73
abbrev je:Stmt:=top 74
abbrev gM:Stmt:=top 75
abbrev kU:Stmt:=top 76
abbrev i8:Stmt:=top 77
abbrev ji:Stmt:=top 78
abbrev gS:Stmt:=be (top 79) 0
abbrev lA:Stmt:=be (top 79) 1
abbrev iY:Stmt:=be (top 79) 2
abbrev i5:Stmt:=be (top 79) 3
abbrev dI:Stmt:=top 84
abbrev kN:Stmt:=top 86
abbrev ik:Stmt:=top 87
abbrev gR:Stmt:=top 88
abbrev mD:Stmt:=top 89
abbrev dB:Stmt:=top 96
abbrev oH:Stmt:=top 97
abbrev pG:Stmt:=top 98
abbrev jh:Stmt:=top 99
abbrev fw:Stmt:=top 100
abbrev jZ:Stmt:=top 101
abbrev nA:Stmt:=top 102
abbrev rF:Stmt:=top 104
abbrev vN:Stmt:=top 105
abbrev uM:Stmt:=top 106
abbrev oF:Stmt:=top 107
abbrev tE:Stmt:=top 108
abbrev kQ:Stmt:=top 109
abbrev kL:Stmt:=top 110
abbrev uR:Stmt:=top 111
abbrev oM:Stmt:=top 112
abbrev ld:Stmt:=top 113
abbrev si:Stmt:=top 114
abbrev mi:Stmt:=top 115
abbrev mI:Stmt:=top 116
abbrev pN:Stmt:=top 117
abbrev ig:Stmt:=top 118
abbrev BR:Stmt:=top 119
abbrev Scp(N:List Str)(k:Nat)(st:Stmt):Prop:=FnScope N (N.take k) (aH st)
def scz{N P:List Str}{d:E2}(a:d.kind = .function:=by rfl)(b:d.isCoroutine = false:=by rfl)(c:d.isGenerator = false:=by rfl)(e:N.take P.length = P:=by rfl)(z:N.Nodup/\(∀ x ∈ P,d.names.lookup x = some .local\/d.names.lookup x = some .cell)/\∀ y ∈ d.names,y.2≠.free:=by decide +kernel):FnScope N P d:=⟨a,b,c,z.1,e,z.2.1,z.2.2⟩
def rZ:Scp ["thing","low","high"] 3 mh:=scz
def oj:Scp ["text","signs","most"] 3 jR:=scz
def tU:Scp ["thing"] 1 oR:=scz
def fN:Scp ["thing","most","is_one"] 3 j6:=scz
def kH:Scp ["thing"] 1 gJ:=scz
def jW:Scp ["thing","rows","columns"] 3 fZ:=scz
abbrev gh:Expr:=(ou (Fu (ifE (nz fK 1))) 2)
def bY:LamD:=gW ((("need_bounds" : Str) ++ ".<locals>.") ++ "<lambda>") gh
def sc_e:Scp ["rows","columns","units"] 3 fK:=scz
def sc_af:Scp ["weights","units","side","many","told","unit","weight"] 4 pF:=scz
def sc_aM:Scp ["rows","columns","units","word","weights","spare","by","short","path"] 3 Cf:=scz
def sc_X:Scp ["rows","columns","units","weights","spare","number","told"] 4 mX:=scz
def sc_p:Scp ["starts","units","weights","by","start","ahead","here","place","unit","there"] 3 iF:=scz
def qV:Scp ["unit","here"] 2 lq:=scz
def Be:Scp ["unit","weight","start"] 3 w5:=scz
def eO:Scp ["last","by","units","path","here","place"] 3 pI:=scz
def sc_E:Scp ["path","most","units","weights","many","told","end","place"] 4 jj:=scz
def oz:Scp ["side","by"] 2 jC:=scz
def sc_t:Scp ["one","other"] 2 eU:=scz
def sc_y:Scp ["numbers","found","number"] 1 fW:=scz
def rV:Scp ["top","bottom","divisor"] 2 vQ:=scz
def Ac:Scp ["one","other"] 2 yY:=scz
def zu:Scp ["one","other"] 2 vp:=scz
def zf:Scp ["one","other"] 2 vJ:=scz
def zO:Scp ["one","other"] 2 zh:=scz
def wV:Scp ["one","other"] 2 vy:=scz
def kq:Scp ["self","kept"] 2 gE:=scz
def lP:Scp ["self"] 1 iH:=scz
def qm:Scp ["self"] 1 lx:=scz
def nY:Scp ["self"] 1 jB:=scz
def lG:Scp ["self","parts"] 2 gX:=scz
def m5:Scp ["self"] 1 jn:=scz
def rN:Scp ["self"] 1 nK:=scz
def qU:Scp ["self"] 1 lj:=scz
def qI:Scp ["self"] 1 ln:=scz
def sc_u:Scp ["self","throw","number","last","many","make"] 2 lm:=scz
def ka:Scp ["node","throw"] 2 gG:=scz
def sc_ay:Scp ["node","throws","here","place","throw"] 2 uK:=scz
def wD:Scp ["sizes","many"] 2 sL:=scz
def sc_j:Scp ["sizes","many","left","wanted","whole","staying"] 2 gb:=scz
def qN:Scp ["crowd","many"] 2 kX:=scz
def qx:Scp ["crowd"] 1 k7:=scz
def p5:Scp ["many","tell"] 2 kZ:=scz
def oe:Scp ["one","many","tell"] 3 j8:=scz
def nL:Scp ["thing","low","high"] 3 iZ:=scz
def lH:Scp ["self","many"] 2 hX:=scz
def sV:Scp ["self","crowd"] 2 mL:=scz
abbrev gK:Expr:=(ou (ow (nz gC 2)) 1)
def ce:LamD:=gW ((("Few.matrix" : Str) ++ ".<locals>.") ++ "<lambda>") gK
def sc_b:Scp ["self","crowd","there","wanted"] 2 gC:=scz
def jm:Scp ["self","crowd","wanted"] 2 jI:=scz
abbrev jg:Expr:=(wC (wL (ou (ow (nz gB 3)) 0) 0) 1)
def bO:LamD:=gW ((("few_node" : Str) ++ ".<locals>.") ++ "<lambda>") jg
abbrev jk:Expr:=(wC (wL (ou (ow (nz gB 3)) 0) 1) 1)
def bQ:LamD:=gW ((("few_node" : Str) ++ ".<locals>.") ++ "<lambda>") jk
def kR:Scp ["ahead","wanted","taken","rest"] 3 gB:=scz
def oq:Scp ["there","wanted","is_same"] 3 jO:=scz
def jE:Scp ["self","many"] 2 f6:=scz
def sc_n:Scp ["self","crowd","told","sure"] 2 jV:=scz
abbrev fu:Expr:=(ou (ow (nz eW 1)) 1)
def bL:LamD:=gW ((("Loose.matrix" : Str) ++ ".<locals>.") ++ "<lambda>") fu
def sc_a:Scp ["self","crowd","told"] 2 eW:=scz
def gQ:Scp ["self","crowd","told"] 2 hV:=scz
def qR:Scp ["chance"] 1 lg:=scz
abbrev gH:Expr:=(wC (wL (ou (ow (nz eA 3)) 0) 0) 1)
def bz:LamD:=gW ((("loose_node" : Str) ++ ".<locals>.") ++ "<lambda>") gH
abbrev gF:Expr:=(wC (wL (ou (ow (nz eA 3)) 0) 1) 1)
def bw:LamD:=gW ((("loose_node" : Str) ++ ".<locals>.") ++ "<lambda>") gF
def sc_c:Scp ["ahead","taken","place","chance","rest"] 2 eA:=scz
def sc_ap:Scp ["told","taken","sure"] 2 oQ:=scz
def sc_S:Scp ["told","taken","place","chance","other","its_chance"] 2 kM:=scz
abbrev fj:Expr:=(ow (nz eG 0))
def aX:LamD:=gW ((("settled_make" : Str) ++ ".<locals>.") ++ "<lambda>") fj
def lK:Scp ["told","taken"] 2 eG:=scz
abbrev ja:Expr:=(wC (wL (ou (ow (nz gy 1)) 0) 0) 1)
def bN:LamD:=gW ((("last_die" : Str) ++ ".<locals>.") ++ "<lambda>") ja
abbrev jd:Expr:=(wC (wL (ou (ow (nz gy 1)) 0) 1) 1)
def bP:LamD:=gW ((("last_die" : Str) ++ ".<locals>.") ++ "<lambda>") jd
def sc_l:Scp ["last","taken","place","chance"] 2 gy:=scz
def ci:Scp ["one","other","bottom","top","its_top","left"] 2 jz:=scz
abbrev fU:Expr:=(ou (ow (nz fM 2)) 1)
def bU:LamD:=gW ((("duel_matrix" : Str) ++ ".<locals>.") ++ "<lambda>") fU
def sc_d:Scp ["shares","order","told","found"] 2 fM:=scz
def mW:Scp ["told","found","one","other"] 4 je:=scz
def sc_h:Scp ["told","found","earlier","held","place","chance","one","up","sure"] 1 gM:=scz
def gv:Scp ["up","sure","held","chance","spare","when_sure"] 4 kU:=scz
def iG:Scp ["held","chance","reached"] 2 i8:=scz
def sc_x:Scp ["earlier","held","place","chance","reached","stays","lasting","lacking","ahead","back"] 4 ji:=scz
def kx:Scp ["self","many"] 2 gS:=scz
def qe:Scp ["self","crowd"] 2 lA:=scz
def nR:Scp ["self","crowd"] 2 iY:=scz
def iz:Scp ["self","crowd","wanted"] 2 i5:=scz
def gT:Scp ["weight","low","high"] 3 dI:=scz
def qQ:Scp ["thing"] 1 kN:=scz
def lL:Scp ["answers","is_one"] 2 ik:=scz
def sc_D:Scp ["answers","lows","highs"] 1 gR:=scz
def rT:Scp ["answers","filling"] 2 mD:=scz
def gU:Scp ["thing"] 1 dB:=scz
def uA:Scp ["thing"] 1 oH:=scz
def uE:Scp ["thing"] 1 pG:=scz
def nU:Scp ["name","ahead"] 2 jh:=scz
def ju:Scp ["path","ahead"] 2 fw:=scz
def sc_V:Scp ["units","place","unit"] 1 jZ:=scz
def rW:Scp ["units"] 1 nA:=scz
def v9:Scp ["_law_script","_law_k"] 2 rF:=scz
def nk:Scp ["_law_cell_here","_law_k","_law_number"] 2 vN:=scz
def sc_az:Scp ["_law_cell_here","_law_bit","_law_many","_law_most","_law_row_here","_law_k"] 4 uM:=scz
def tN:Scp ["_law_found"] 1 oF:=scz
def sc_ad:Scp ["_law_units","_law_weights_here","_law_place","_law_many","_law_found","_law_unit","_law_much"] 4 tE:=scz
def sc_ab:Scp ["_law_rows","_law_columns","_law_units","_law_weights_here","_law_unit","_law_much"] 4 kQ:=scz
def qg:Scp ["_law_some","_law_many"] 2 kL:=scz
def sc_ao:Scp ["_law_rows","_law_columns","_law_units","_law_word","_law_some","_law_others","_law_one","_law_other","_law_row_here","_law_column","_law_low","_law_high"] 6 uR:=scz
def uI:Scp ["_law_rows","_law_columns","_law_units","_law_told"] 4 oM:=scz
def sc_H:Scp ["_law_script","_law_many","_law_bit","_law_row_here","_law_units","_law_k","_law_name","_law_size"] 1 ld:=scz
def kI:Scp ["_law_script","_law_many","_law_cell_here","_law_number"] 2 si:=scz
def cx:Scp ["_law_node","_law_row_here","_law_throws_here","_law_parts","_law_throw"] 2 mi:=scz
def sc_O:Scp ["_law_script","_law_units","_law_plan_here","_law_crowd","_law_row_here","_law_throws_here","_law_kept","_law_matrix","_law_low","_law_high"] 3 mI:=scz
def sc_aa:Scp ["_law_units","_law_places_here","_law_wide","_law_spots_here","_law_place","_law_much","_law_about","_law_low","_law_high"] 3 pN:=scz
def sc_i:Scp ["_law_units","_law_places_here","_law_told","_law_answers","_law_total","_law_spot","_law_weight","_law_value","_law_least","_law_most","_law_lows","_law_highs"] 3 ig:=scz
def sc_aF:Scp ["_law_script","_law_units","_law_places_here","_law_spots_here","_law_every","_law_ones","_law_rows","_law_columns","_law_told"] 1 BR:=scz
set_option genInjectivity false in
set_option genSizeOf false in
structure Ad where
 (f_K f_aq f_aD f_o f_k f_is_bounded_led f_e f_af f_aM f_X f_p f_ar f_aS f_aH f_E f_ah f_t f_y f_ag f_aP f_aG f_aA f_aQ f_aL f_W f_ay f_aN f_j f_ac f_ai f_v f_as f_Y f_q f_at f_aj f_c f_ap f_S f_g f_l f_au f_d f_ak f_h f_aw f_al f_x f_is_bounded_lacking f_P f_ae f_D f_ax f_I f_aI f_aJ f_am f_T f_V f_aB f_an f_aR f_az f_aE f_ad f_ab f_av f_ao f_aK f_H f_aO f_aC f_O f_aa f_i f_aF c_f i_f c_r i_r c_Z i_Z c_w i_w c_L i_L x_m x_s x_B x_M x_z x_C x_R x_U x_u x_Q x_n x_J x_b x_a x_F x_N x_A x_G k_NOUGHT k_WHOLE k_TWICE lc_d lp_d lc_l lp_l lc_g lp_g lc_a lp_a lc_c lp_c lc_b lp_b lc_q lp_q lc_e lp_e:Addr)
 (d_K d_aq d_aD d_o d_k d_is_bounded_led d_e d_af d_aM d_X d_p d_ar d_aS d_aH d_E d_ah d_t d_y d_ag d_aP d_aG d_aA d_aQ d_aL d_W d_ay d_aN d_j d_ac d_ai d_v d_as d_Y d_q d_at d_aj d_c d_ap d_S d_g d_l d_au d_d d_ak d_h d_aw d_al d_x d_is_bounded_lacking d_P d_ae d_D d_ax d_I d_aI d_aJ d_am d_T d_V d_aB d_an d_aR d_az d_aE d_ad d_ab d_av d_ao d_aK d_H d_aO d_aC d_O d_aa d_i d_aF e_f e_r e_Z e_w e_L y_m y_s y_B y_M y_z y_C y_R y_U y_u y_Q y_n y_J y_b y_a y_F y_N y_A y_G:ri)
abbrev eL:List (Pos×Str):=[(nP fU,((("duel_matrix" : Str) ++ ".<locals>.") ++ "<lambda>"))]
def mE:(eL).Pairwise λx y=>¬(x.1.line=y.1.line/\x.1.col=y.1.col):=by decide +kernel
abbrev iB:List (Pos×Str):=[(nP ja,((("last_die" : Str) ++ ".<locals>.") ++ "<lambda>")),(nP jd,((("last_die" : Str) ++ ".<locals>.") ++ "<lambda>"))]
def kS:(iB).Pairwise λx y=>¬(x.1.line=y.1.line/\x.1.col=y.1.col):=by decide +kernel
abbrev dP:List (Pos×Str):=[(nP fj,((("settled_make" : Str) ++ ".<locals>.") ++ "<lambda>"))]
def lF:(dP).Pairwise λx y=>¬(x.1.line=y.1.line/\x.1.col=y.1.col):=by decide +kernel
abbrev dU:List (Pos×Str):=[(nP fu,((("Loose.matrix" : Str) ++ ".<locals>.") ++ "<lambda>"))]
def lQ:(dU).Pairwise λx y=>¬(x.1.line=y.1.line/\x.1.col=y.1.col):=by decide +kernel
abbrev fH:List (Pos×Str):=[(nP gH,((("loose_node" : Str) ++ ".<locals>.") ++ "<lambda>")),(nP gF,((("loose_node" : Str) ++ ".<locals>.") ++ "<lambda>"))]
def iW:(fH).Pairwise λx y=>¬(x.1.line=y.1.line/\x.1.col=y.1.col):=by decide +kernel
abbrev fG:List (Pos×Str):=[(nP gK,((("Few.matrix" : Str) ++ ".<locals>.") ++ "<lambda>"))]
def ol:(fG).Pairwise λx y=>¬(x.1.line=y.1.line/\x.1.col=y.1.col):=by decide +kernel
abbrev iD:List (Pos×Str):=[(nP jg,((("few_node" : Str) ++ ".<locals>.") ++ "<lambda>")),(nP jk,((("few_node" : Str) ++ ".<locals>.") ++ "<lambda>"))]
def lb:(iD).Pairwise λx y=>¬(x.1.line=y.1.line/\x.1.col=y.1.col):=by decide +kernel
abbrev eR:List (Pos×Str):=[(nP gh,((("need_bounds" : Str) ++ ".<locals>.") ++ "<lambda>"))]
def ny:(eR).Pairwise λx y=>¬(x.1.line=y.1.line/\x.1.col=y.1.col):=by decide +kernel
def tabs(a:Ad):tP:=[(a.lp_d,eL),(a.lp_l,iB),(a.lp_g,dP),(a.lp_a,dU),(a.lp_c,fH),(a.lp_b,fG),(a.lp_q,iD),(a.lp_e,eR)]
def m7(a:Ad):(a.lp_d,eL)∈tabs a:=(.head _)
def lC(a:Ad):(a.lp_l,iB)∈tabs a:=(.tail _ (.head _))
def lM(a:Ad):(a.lp_g,dP)∈tabs a:=(.tail _ (.tail _ (.head _)))
def lI(a:Ad):(a.lp_a,dU)∈tabs a:=(.tail _ (.tail _ (.tail _ (.head _))))
def jf(a:Ad):(a.lp_c,fH)∈tabs a:=(.tail _ (.tail _ (.tail _ (.tail _ (.head _)))))
def oA(a:Ad):(a.lp_b,fG)∈tabs a:=(.tail _ (.tail _ (.tail _ (.tail _ (.tail _ (.head _))))))
def ly(a:Ad):(a.lp_q,iD)∈tabs a:=(.tail _ (.tail _ (.tail _ (.tail _ (.tail _ (.tail _ (.head _)))))))
def nF(a:Ad):(a.lp_e,eR)∈tabs a:=(.tail _ (.tail _ (.tail _ (.tail _ (.tail _ (.tail _ (.tail _ (.head _))))))))
structure Fnd(K:Frag)(mg:Str->Option cX)(n:Str)(b:Stmt)(ps:List Str)(f:Addr)(d:ri):Prop where
 A:Fun K n n b f d
 B:Binds K d ps []
 C:mg n=some (.ref f)
structure Mnd(K:Frag)(n q:Str)(b:Stmt)(ps:List Str)(f:Addr)(d:ri):Prop where
 A:Fun K n q b f d
 B:Binds K d ps []
abbrev FnX(P:gN)(w:ml)(base:Heap)(k:Nat){K:Frag}{mg:Str->Option cX}{n:Str}{b:Stmt}{ps:List Str}{f:Addr}{d:ri}(_:Fnd K mg n b ps f d)(sp:Sp):Prop:=FnOk P w K mg base CX0 k f d ps sp
abbrev MnX(P:gN)(w:ml)(mg:Str->Option cX)(base:Heap)(k:Nat){K:Frag}{n q:Str}{b:Stmt}{ps:List Str}{f:Addr}{d:ri}(_:Mnd K n q b ps f d)(sp:Sp):Prop:=FnOk P w K mg base CX0 k f d ps sp
abbrev FnO(P:gN)(w:ml)(K:Frag)(mg:Str->Option cX)(base:Heap)(k:Nat)(sp:Sp){f:Addr}{d:ri}{ps:List Str}:Prop:=FnOk P w K mg base CX0 k f d ps sp
def _root_.L2.FnOk.mo{P:gN}{w:ml}{K:Frag}{mg:Str->Option cX}{a:Heap}{CX:CXT}{j k:Nat}{f:Addr}{b:ri}{ps:List Str}{sp:Sp}(F:FnOk P w K mg a CX j f b ps sp)(h:j<=k:=by decide):FnOk P w K mg a CX k f b ps sp:=F.mono h
section
variable {X:Cx}{x:Str}{e:Expr}{pos:Pos}
def aE{j k:Nat}{f:Addr}{d:ri}{ps:List Str}{sp:Sp}{b:Stmt}{p:Pos}{es:List Expr}{t:TA}(F:FnOk X.prog X.w X.K X.mg X.base CX0 j f d ps sp)(h:Room k X.A)(G:Fnd X.K X.mg x b ps f d)
  (l:PA X (e::es) t) (i:j<=k:=by decide) (g:Gl X x:=by rfl) (a:(x == ("__debug__" : Str))=false:=by decide) (m:fI (e::es) X.env=(false,eval e X.env)::fI es X.env:=by rfl) (c:(tp pos (fI es X.env)).any (·.1)=false:=by rfl) :
  PE X (.Call (.Name x p) (e::es) [] pos) (uT sp [] E0 t):=mf (F.mono i) h g G.C G.A.kp G.B .nil aT l a m c
def aQ(i:Nat)(N:List Str)(a:X.N = N:=by rfl)(c:N.Nodup:=by decide +kernel)(e:N[i]? = some x:=by rfl)(d:Loc X.env.scope x:=by exact m_ rfl)(b:X.fn x = true\/X.env.scope.names.lookup x = some .local:=by first | exact .inl rfl | exact .inr rfl | assumption):PG X (.Name x pos) (iK i):=ax (a ▸ c) (a ▸ e) d b
def aj{b a:Expr}{c d:TE}(e:PE X b c)(g:PE X a d)(f:qv a:=by exact λ_ _=>rfl):PE X (.Subscript b a pos) (tOp (rIx X.K) c d):=Ci zr e g f
def aY{b a:Expr}{c d:TE}{r:R2}(e:IxR X r)(f:PE X b c)(h:PE X a d)(g:qv a:=by exact λ_ _=>rfl):PE X (.Subscript b a pos) (tOp r c d):=Ci e f h g
def ay{sc:E2}{N:List Str}{ix:List (Option Nat)}(a:sc.kind = .function:=by rfl)(b:(sc.names.all λy=>y.2 != .cell) = true:=by rfl)(c:(sc.names.all λy=>y.2 != .local || sc.names.lookup y.1 == some .local) = true:=by rfl)(d:(sc.names.all λy=>y.2 != .free || (X.env.scope.names.lookup y.1 == some .cell || X.env.scope.names.lookup y.1 == some .free)) = true:=by rfl)(f:FreeOkF X.N X.env sc N ix:=by repeat' constructor):CompOk X sc N ix:=⟨a,b,c,d,f⟩
def aB{c:E2}{N:List Str}{tg b:Expr}{a:List Expr}{g:TG}{e:TT}{d:TE}(h:∀ C s H fp,PG (cxB X c C N s H fp) tg g/\PTs (cxB X c C N s H fp) a e/\PE (cxB X c C N s H fp) b d):Blk X c N tg b a g e d:=⟨λC s H fp=>(h C s H fp).1,λC s H fp=>(h C s H fp).2.1,λC s H fp=>(h C s H fp).2.2⟩
def dy{x y:Str}{p q:Pos}(N:List Str)(a:X.N = N:=by rfl)(b:N.Nodup:=by decide +kernel)(h:N[0]? = some x:=by rfl)(e:N[1]? = some y:=by rfl)(f:Loc X.env.scope x:=by exact m_ rfl)(g:Loc X.env.scope y:=by exact m_ rfl)(c:X.fn x = true\/X.env.scope.names.lookup x = some .local:=by first | exact .inl rfl | exact .inr rfl | assumption)(d:X.fn y = true\/X.env.scope.names.lookup y = some .local:=by first | exact .inl rfl | exact .inr rfl | assumption):PGs X [.Name x p,.Name y q] (gCons (iK 0) (gCons (iK 1) DL)):=av (ax (a ▸ b) (a ▸ h) f c) (av (ax (a ▸ b) (a ▸ e) g d) a9)
def jH{x y z:Str}{p q r:Pos}(N:List Str)(a:X.N = N:=by rfl)(b:N.Nodup:=by decide +kernel)(j:N[0]? = some x:=by rfl)(f:N[1]? = some y:=by rfl)(g:N[2]? = some z:=by rfl)(h:Loc X.env.scope x:=by exact m_ rfl)(i:Loc X.env.scope y:=by exact m_ rfl)(k:Loc X.env.scope z:=by exact m_ rfl)(c:X.fn x = true\/X.env.scope.names.lookup x = some .local:=by first | exact .inl rfl | exact .inr rfl | assumption)(d:X.fn y = true\/X.env.scope.names.lookup y = some .local:=by first | exact .inl rfl | exact .inr rfl | assumption)(e:X.fn z = true\/X.env.scope.names.lookup z = some .local:=by first | exact .inl rfl | exact .inr rfl | assumption):PGs X [.Name x p,.Name y q,.Name z r] (gCons (iK 0) (gCons (iK 1) (gCons (iK 2) DL))):=av (ax (a ▸ b) (a ▸ j) h c) (av (ax (a ▸ b) (a ▸ f) i d) (av (ax (a ▸ b) (a ▸ g) k e) a9))
def pec{k:Nat}{f:Addr}{d:ri}{ps:List Str}{sp:Sp}{b:Stmt}{p:Pos}{es:List Expr}{t:TA}(F:FnOk X.prog X.w X.K X.mg X.base CX0 k f d ps sp)(g:Room k X.A)(G:Fnd X.K X.mg x b ps f d)
  (i:PA X (e::es) t) (h:Gl X x:=by rfl) (a:(x == ("__debug__" : Str))=false:=by decide) (j:fI (e::es) X.env=(false,eval e X.env)::fI es X.env:=by rfl) (c:(tp pos (fI es X.env)).any (·.1)=false:=by rfl) :
  PE X (.Call (.Name x p) (e::es) [] pos) (uT sp [] E0 t):=mf F g h G.C G.A.kp G.B .nil aT i a j c
def psl(i:Nat){b:TE}{a:Pos}{ps:List Str}{d:E2}(S:FnScope X.N ps d)(j:PE X e b)(h:X.N[i]? = some x:=by rfl)(g:Loc X.env.scope x:=by exact m_ rfl)(f:He e (some (.Name x a)) pos.line X.env = pure false:=by rfl)(c:X.fn x = true\/X.env.scope.names.lookup x = some .local:=by first | exact .inl rfl | exact .inr rfl | assumption) :
  PS X (.Assign [.Name x a] e pos) (yN b (iK i)):=ye S.nd h g j f c
def psr(i:Nat){b:TE}{a:Pos}{ps:List Str}{d:E2}(S:FnScope X.N ps d)(j:PE X e b)(h:X.N[i]? = some x:=by rfl)(g:Loc X.env.scope x:=by exact GZ rfl)(f:He e (some (.Name x a)) pos.line X.env = pure false:=by rfl)(c:X.fn x = true\/X.env.scope.names.lookup x = some .local:=by first | exact .inl rfl | exact .inr rfl | assumption) :
  PS X (.Assign [.Name x a] e pos) (yN b (iK i)):=ye S.nd h g j f c
def _root_.L2.Fun.okz{P:gN}{w:ml}{K:Frag}{mg:Str->Option cX}{b:Heap}{x a:Str}{st:Stmt}{f:Addr}{e:ri}{N ps:List Str}{k:Nat}{sp:Sp}(F:Fun K x a st f e)(S:FnScope N ps (aH st))
  (c:∀(cdv:cX) (A:o3) (outer:List Env) (s:ej) (H:Hp) (vs:List V) (Q:VK) (E:XK),Room k (A.deeper (PyProof.Rows.envOfC a (aH st) s.heap.objs.size f cdv))->sp vs H Q E ->
   ∃ t,PSs (cL CX0 P w K mg b N a (aH st) f cdv A outer s H E).nox (dz st) t/\t { nx:=λ_ H'=>Q .non H',rt:=Q } (start N vs) H) (d:∀ vs H Q E,sp vs H Q E->vs.length=ps.length:=by intro _ _ _ _ h;cases h;subst_vars;rfl):FnOk P w K mg b CX0 (k+1) f e ps sp:=F.ok S d c
end
structure Txt(K:Frag)(mg:Str->Option cX)(a:Ad):Prop where
 lcd_d:a.d_d.code=.ref a.lc_d
 lch_d:F9 K a.lc_d a.lp_d=true
 lcd_l:a.d_l.code=.ref a.lc_l
 lch_l:F9 K a.lc_l a.lp_l=true
 lcd_g:a.d_g.code=.ref a.lc_g
 lch_g:F9 K a.lc_g a.lp_g=true
 lcd_a:a.y_a.code=.ref a.lc_a
 lch_a:F9 K a.lc_a a.lp_a=true
 lcd_c:a.d_c.code=.ref a.lc_c
 lch_c:F9 K a.lc_c a.lp_c=true
 lcd_b:a.y_b.code=.ref a.lc_b
 lch_b:F9 K a.lc_b a.lp_b=true
 lcd_q:a.d_q.code=.ref a.lc_q
 lch_q:F9 K a.lc_q a.lp_q=true
 lcd_e:a.d_e.code=.ref a.lc_e
 lch_e:F9 K a.lc_e a.lp_e=true
 tnd:((tabs a).map (·.1)).Nodup
 W_K:Fnd K mg "is_whole" mh ["thing","low","high"] a.f_K a.d_K
 W_aq:Fnd K mg "is_made_of" jR ["text","signs","most"] a.f_aq a.d_aq
 W_aD:Fnd K mg "is_name" oR ["thing"] a.f_aD a.d_aD
 W_o:Fnd K mg "is_list_of" j6 ["thing","most","is_one"] a.f_o a.d_o
 W_k:Fnd K mg "is_wished_sum" gJ ["thing"] a.f_k a.d_k
 W_is_bounded_led:Mnd K "is_bounded" "is_bounded" fZ ["thing","rows","columns"] a.f_is_bounded_led a.d_is_bounded_led
 m_is_bounded_led:mg "is_bounded_led" = some (.ref a.f_is_bounded_led)
 W_e:Fnd K mg "need_bounds" fK ["rows","columns","units"] a.f_e a.d_e
 W_af:Fnd K mg "sums_of" pF ["weights","units","side","many"] a.f_af a.d_af
 W_aM:Fnd K mg "led" Cf ["rows","columns","units"] a.f_aM a.d_aM
 W_X:Fnd K mg "spare_of" mX ["rows","columns","units","weights"] a.f_X a.d_X
 W_p:Fnd K mg "reached_from" iF ["starts","units","weights"] a.f_p a.d_p
 W_ar:Fnd K mg "other_end" lq ["unit","here"] a.f_ar a.d_ar
 W_aS:Fnd K mg "room" w5 ["unit","weight","start"] a.f_aS a.d_aS
 W_aH:Fnd K mg "path_to" pI ["last","by","units"] a.f_aH a.d_aH
 W_E:Fnd K mg "given_along" jj ["path","most","units","weights"] a.f_E a.d_E
 W_ah:Fnd K mg "reached_on" jC ["side","by"] a.f_ah a.d_ah
 W_t:Fnd K mg "greatest_divisor" eU ["one","other"] a.f_t a.d_t
 W_y:Fnd K mg "least_multiple" fW ["numbers"] a.f_y a.d_y
 W_ag:Fnd K mg "share" vQ ["top","bottom"] a.f_ag a.d_ag
 W_aP:Fnd K mg "plus" yY ["one","other"] a.f_aP a.d_aP
 W_aG:Fnd K mg "minus" vp ["one","other"] a.f_aG a.d_aG
 W_aA:Fnd K mg "times" vJ ["one","other"] a.f_aA a.d_aA
 W_aQ:Fnd K mg "over" zh ["one","other"] a.f_aQ a.d_aQ
 W_aL:Fnd K mg "below" vy ["one","other"] a.f_aL a.d_aL
 W_W:Fnd K mg "can_be_thrown" gG ["node","throw"] a.f_W a.d_W
 W_ay:Fnd K mg "drawn" uK ["node","throws"] a.f_ay a.d_ay
 W_aN:Fnd K mg "wished" sL ["sizes","many"] a.f_aN a.d_aN
 W_j:Fnd K mg "wished_of_some" gb ["sizes","many"] a.f_j a.d_j
 W_ac:Fnd K mg "wished_by" kX ["crowd","many"] a.f_ac a.d_ac
 W_ai:Fnd K mg "places_of" k7 ["crowd"] a.f_ai a.d_ai
 W_v:Fnd K mg "matrix_by" kZ ["many","tell"] a.f_v a.d_v
 W_as:Fnd K mg "matrix_row" j8 ["one","many","tell"] a.f_as a.d_as
 W_Y:Fnd K mg "need_number" iZ ["thing","low","high"] a.f_Y a.d_Y
 W_q:Fnd K mg "few_node" gB ["ahead","wanted","taken"] a.f_q a.d_q
 W_at:Fnd K mg "few_chance" jO ["there","wanted","is_same"] a.f_at a.d_at
 W_aj:Fnd K mg "is_unsure" lg ["chance"] a.f_aj a.d_aj
 W_c:Fnd K mg "loose_node" eA ["ahead","taken"] a.f_c a.d_c
 W_ap:Fnd K mg "settled" oQ ["told","taken"] a.f_ap a.d_ap
 W_S:Fnd K mg "open_node" kM ["told","taken"] a.f_S a.d_S
 W_g:Fnd K mg "settled_make" eG ["told","taken"] a.f_g a.d_g
 W_l:Fnd K mg "last_die" gy ["last","taken"] a.f_l a.d_l
 W_au:Fnd K mg "duel_parts" jz ["one","other"] a.f_au a.d_au
 W_d:Fnd K mg "duel_matrix" fM ["shares","order"] a.f_d a.d_d
 W_ak:Fnd K mg "pair_chance" je ["told","found","one","other"] a.f_ak a.d_ak
 W_h:Fnd K mg "kept_together" gM ["told"] a.f_h a.d_h
 W_aw:Fnd K mg "both_kept" kU ["up","sure","held","chance"] a.f_aw a.d_aw
 W_al:Fnd K mg "held_behind" i8 ["held","chance"] a.f_al a.d_al
 W_x:Fnd K mg "behind_duel" ji ["earlier","held","place","chance"] a.f_x a.d_x
 W_is_bounded_lacking:Mnd K "is_bounded" "is_bounded" dI ["weight","low","high"] a.f_is_bounded_lacking a.d_is_bounded_lacking
 m_is_bounded_lacking:mg "is_bounded_lacking" = some (.ref a.f_is_bounded_lacking)
 W_P:Fnd K mg "is_answer" kN ["thing"] a.f_P a.d_P
 W_ae:Fnd K mg "need_answers" ik ["answers","is_one"] a.f_ae a.d_ae
 W_D:Fnd K mg "total_stretch" gR ["answers"] a.f_D a.d_D
 W_ax:Fnd K mg "total_by" mD ["answers","filling"] a.f_ax a.d_ax
 W_I:Fnd K mg "has_listing_length" dB ["thing"] a.f_I a.d_I
 W_aI:Fnd K mg "is_path" oH ["thing"] a.f_aI a.d_aI
 W_aJ:Fnd K mg "is_unit" pG ["thing"] a.f_aJ a.d_aJ
 W_am:Fnd K mg "is_new_name" jh ["name","ahead"] a.f_am a.d_am
 W_T:Fnd K mg "has_path_length" fw ["path","ahead"] a.f_T a.d_T
 W_V:Fnd K mg "need_units" jZ ["units"] a.f_V a.d_V
 W_aB:Fnd K mg "crowd_of" nA ["units"] a.f_aB a.d_aB
 W_an:Fnd K mg "_law_cell" rF ["_law_script","_law_k"] a.f_an a.d_an
 W_aR:Fnd K mg "_law_mix" vN ["_law_cell_here","_law_k"] a.f_aR a.d_aR
 W_az:Fnd K mg "_law_row" uM ["_law_cell_here","_law_bit","_law_many","_law_most"] a.f_az a.d_az
 W_aE:Fnd K mg "_law_whole" oF ["_law_found"] a.f_aE a.d_aE
 W_ad:Fnd K mg "_law_sums" tE ["_law_units","_law_weights_here","_law_place","_law_many"] a.f_ad a.d_ad
 W_ab:Fnd K mg "_law_weights" kQ ["_law_rows","_law_columns","_law_units","_law_weights_here"] a.f_ab a.d_ab
 W_av:Fnd K mg "_law_numbers" kL ["_law_some","_law_many"] a.f_av a.d_av
 W_ao:Fnd K mg "_law_cut" uR ["_law_rows","_law_columns","_law_units","_law_word","_law_some","_law_others"] a.f_ao a.d_ao
 W_aK:Fnd K mg "_law_right" oM ["_law_rows","_law_columns","_law_units","_law_told"] a.f_aK a.d_aK
 W_H:Fnd K mg "_law_listing" ld ["_law_script"] a.f_H a.d_H
 W_aO:Fnd K mg "_law_plan" si ["_law_script","_law_many"] a.f_aO a.d_aO
 W_aC:Fnd K mg "_law_throws" mi ["_law_node","_law_row_here"] a.f_aC a.d_aC
 W_O:Fnd K mg "_law_places" mI ["_law_script","_law_units","_law_plan_here"] a.f_O a.d_O
 W_aa:Fnd K mg "_law_spots" pN ["_law_units","_law_places_here","_law_wide"] a.f_aa a.d_aa
 W_i:Fnd K mg "_law_total_good" ig ["_law_units","_law_places_here","_law_told"] a.f_i a.d_i
 W_aF:Fnd K mg "law" BR ["_law_script"] a.f_aF a.d_aF
 g_LETTERS:∃ u,mg "LETTERS" = some u/\RelV (.str "abcdefghijklmnopqrstuvwxyz") u
 g_MOST_LETTERS:∃ u,mg "MOST_LETTERS" = some u/\RelV (.int 8) u
 g_MOST_SUMS:∃ u,mg "MOST_SUMS" = some u/\RelV (.int 6) u
 g_MOST_SUM:∃ u,mg "MOST_SUM" = some u/\RelV (.int 24000000) u
 g_MOST_UNITS_led:∃ u,mg "MOST_UNITS_led" = some u/\RelV (.int 24) u
 g_MOST_WEIGHT_led:∃ u,mg "MOST_WEIGHT_led" = some u/\RelV (.int 1000000) u
 g_MOST_MANY:∃ u,mg "MOST_MANY" = some u/\RelV (.int 24) u
 g_NOUGHT:∃ u,mg "NOUGHT" = some u/\RelV (.ref a.k_NOUGHT) u
 t_NOUGHT:pK K a.k_NOUGHT [(.int 0),(.int 1)]=true
 g_WHOLE:∃ u,mg "WHOLE" = some u/\RelV (.ref a.k_WHOLE) u
 t_WHOLE:pK K a.k_WHOLE [(.int 1),(.int 1)]=true
 g_TWICE:∃ u,mg "TWICE" = some u/\RelV (.ref a.k_TWICE) u
 t_TWICE:pK K a.k_TWICE [(.int 2),(.int 1)]=true
 g_MOST_ANSWERS:∃ u,mg "MOST_ANSWERS" = some u/\RelV (.int 24) u
 g_MOST_WEIGHT_lacking:∃ u,mg "MOST_WEIGHT_lacking" = some u/\RelV (.int 1000000) u
 g_ANSWER_BOUND:∃ u,mg "ANSWER_BOUND" = some u/\RelV (.int 1000000000) u
 g_MOST_UNITS_listings:∃ u,mg "MOST_UNITS_listings" = some u/\RelV (.int 24) u
 g_MOST_LEVELS:∃ u,mg "MOST_LEVELS" = some u/\RelV (.int 3) u
 g_VALUE_BOUND:∃ u,mg "VALUE_BOUND" = some u/\RelV (.int 1000000000) u
 g_MOST_SIZE:∃ u,mg "MOST_SIZE" = some u/\RelV (.int 1000000) u
 g_UNIT_PARTS:∃ u,mg "UNIT_PARTS" = some u/\RelV (.int 4) u
 mc_f:mg "Told" = some (.ref a.c_f)
 cl_f:Cls K a.c_f
 mk_f:Mk K a.c_f a.i_f
 Wi_f:Mnd K "__init__" "Told.__init__" gE ["self","kept"] a.i_f a.e_f
 na_Told_rising:NoAttr K a.c_f "rising"
 mt_m:Meth K a.c_f "is_told" a.x_m
 mt_B:Meth K a.c_f "kept" a.x_B
 mt_z:Meth K a.c_f "sides" a.x_z
 mt_R:Meth K a.c_f "parts" a.x_R
 mc_r:mg "Die" = some (.ref a.c_r)
 cl_r:Cls K a.c_r
 mk_r:Mk K a.c_r a.i_r
 Wi_r:Mnd K "__init__" "Die.__init__" gX ["self","parts"] a.i_r a.e_r
 na_Die_makes:NoAttr K a.c_r "makes"
 mt_s:Meth K a.c_r "is_told" a.x_s
 mt_M:Meth K a.c_r "kept" a.x_M
 mt_C:Meth K a.c_r "sides" a.x_C
 mt_U:Meth K a.c_r "parts" a.x_U
 mt_u:Meth K a.c_r "after" a.x_u
 mc_Z:mg "Few" = some (.ref a.c_Z)
 cl_Z:Cls K a.c_Z
 mk_Z:Mk K a.c_Z a.i_Z
 Wi_Z:Mnd K "__init__" "Few.__init__" hX ["self","many"] a.i_Z a.e_Z
 na_Few_many:NoAttr K a.c_Z "many"
 mt_Q:Meth K a.c_Z "node" a.x_Q
 mt_b:Meth K a.c_Z "matrix" a.x_b
 mt_N:Meth K a.c_Z "bounds" a.x_N
 mc_w:mg "Loose" = some (.ref a.c_w)
 cl_w:Cls K a.c_w
 mk_w:Mk K a.c_w a.i_w
 Wi_w:Mnd K "__init__" "Loose.__init__" f6 ["self","many"] a.i_w a.e_w
 na_Loose_many:NoAttr K a.c_w "many"
 mt_n:Meth K a.c_w "node" a.x_n
 mt_a:Meth K a.c_w "matrix" a.x_a
 mt_A:Meth K a.c_w "bounds" a.x_A
 mc_L:mg "Duel" = some (.ref a.c_L)
 cl_L:Cls K a.c_L
 mk_L:Mk K a.c_L a.i_L
 Wi_L:Mnd K "__init__" "Duel.__init__" gS ["self","many"] a.i_L a.e_L
 na_Duel_many:NoAttr K a.c_L "many"
 mt_J:Meth K a.c_L "node" a.x_J
 mt_F:Meth K a.c_L "matrix" a.x_F
 mt_G:Meth K a.c_L "bounds" a.x_G
 W_m:Mnd K "is_told" "Told.is_told" iH ["self"] a.x_m a.y_m
 W_s:Mnd K "is_told" "Die.is_told" jn ["self"] a.x_s a.y_s
 W_B:Mnd K "kept" "Told.kept" lx ["self"] a.x_B a.y_B
 W_M:Mnd K "kept" "Die.kept" nK ["self"] a.x_M a.y_M
 W_z:Mnd K "sides" "Told.sides" jB ["self"] a.x_z a.y_z
 W_C:Mnd K "sides" "Die.sides" lj ["self"] a.x_C a.y_C
 W_R:Mnd K "parts" "Told.parts" qB ["self"] a.x_R a.y_R
 W_U:Mnd K "parts" "Die.parts" ln ["self"] a.x_U a.y_U
 W_u:Mnd K "after" "Die.after" lm ["self","throw"] a.x_u a.y_u
 W_Q:Mnd K "node" "Few.node" mL ["self","crowd"] a.x_Q a.y_Q
 W_n:Mnd K "node" "Loose.node" jV ["self","crowd"] a.x_n a.y_n
 W_J:Mnd K "node" "Duel.node" lA ["self","crowd"] a.x_J a.y_J
 W_b:Mnd K "matrix" "Few.matrix" gC ["self","crowd"] a.x_b a.y_b
 W_a:Mnd K "matrix" "Loose.matrix" eW ["self","crowd"] a.x_a a.y_a
 W_F:Mnd K "matrix" "Duel.matrix" iY ["self","crowd"] a.x_F a.y_F
 W_N:Mnd K "bounds" "Few.bounds" jI ["self","crowd"] a.x_N a.y_N
 W_A:Mnd K "bounds" "Loose.bounds" hV ["self","crowd"] a.x_A a.y_A
 W_G:Mnd K "bounds" "Duel.bounds" i5 ["self","crowd"] a.x_G a.y_G
 z_abs:mg "abs" = none
 z_all:mg "all" = none
 z_bool:mg "bool" = none
 z_enumerate:mg "enumerate" = none
 z_int:mg "int" = none
 z_isinstance:mg "isinstance" = none
 z_len:mg "len" = none
 z_list:mg "list" = none
 z_max:mg "max" = none
 z_min:mg "min" = none
 z_range:mg "range" = none
 z_sorted:mg "sorted" = none
 z_str:mg "str" = none
 z_sum:mg "sum" = none
 z_tuple:mg "tuple" = none
 z_zip:mg "zip" = none
 bl:∀(s:ej) (u:cX),Ka s a.d_aF ⟨[u],[]⟩ [("_law_script",u)]
inductive spLaw(K:Frag)(ts:List Addr)(vs:List V)(H:Hp)(Q:VK)(_E:XK):Prop
 | mk(p:Addr)(ns:List Int)(h0:vs=[.ref p])(h1:SqL K H p (ns.map V.int))(h2:ns.length<=63)(h3:(∀ P∈ts,H P=some (.tbl #[])))(h4:∀ H',Q (.bl true) H'):spLaw K ts vs H Q _E
def law_start{K:Frag}{c:List Addr}{H:Hp}{a:Addr}{b:List Int}(e:b.length<=63)(f:∀ P∈c,H P=some (.tbl #[]))(d:SqL K H a (b.map V.int)):spLaw K c [.ref a] H (λv _=>v=.bl true) λ_ _ _=>False:=⟨a,b,rfl,d,e,f,λ_=>rfl⟩
def jv(ns:List Int)(k:Int):Int:=if k<(ns.length:Int) then ns.getD k.toNat 0 else 7919*k+13
inductive spCell(K:Frag)(vs:List V)(H:Hp)(Q:VK)(_E:XK):Prop
 | mk(p:Addr)(ns:List Int)(k:Int)(h0:vs=[.ref p,.int k])(h1:SqL K H p (ns.map V.int))(h2:ns.length<=63)(h3:0<=k)(h4:k<=1000)(h5:Q (.int (jv ns k)) H):spCell K vs H Q _E
inductive spMix(vs:List V)(H:Hp)(Q:VK)(_E:XK):Prop
 | mk(c k:Int)(h0:vs=[.int c,.int k])(h1:0<=k)(h2:k<=1000)(h3:∀ r:Int,0<=r->Q (.int r) H):spMix vs H Q _E
inductive spRow(vs:List V)(H:Hp)(Q:VK)(_E:XK):Prop
 | mk(c b n m:Int)(h0:vs=[.int c,.int b,.int n,.int m])(h1:0<=n)(h2:n<=100)(h3:1<=m)(h4:m<=1000000000000)(h5:∀ H' p (ns:List Int),Same H H'->H p=none->H' p=some (.lst (ns.map V.int))->(ns.length:Int)=n->(∀ x∈ns,0<=x/\x<m)->Q (.ref p) H'):spRow vs H Q _E
inductive spGcd(vs:List V)(H:Hp)(Q:VK)(_E:XK):Prop
 | mk(x y:Int)(h0:vs=[.int x,.int y])(h1:0<=x)(h2:0<=y)(h3:Q (.int (n_ x y)) H):spGcd vs H Q _E
def Fz(H:Hp)(Q:VK)(T B:Int):Prop:=∀ H' p,Same H H'->H' p=some (.tup [.int (c5 T B).1,.int (c5 T B).2])->Q (.ref p) H'
inductive spLow(vs:List V)(H:Hp)(Q:VK)(_E:XK):Prop
 | mk(T B:Int)(h0:vs=[.int T,.int B])(h1:0<B)(h2:Bt 3000 T)(h3:Bt 3000 B)(h4:Fz H Q T B):spLow vs H Q _E
def DH:Sp:=λ_ _ _ _=>False
def PT(K:Frag)(H:Hp)(p:Addr)(f:Int×Int):Prop:=H p=some (.tup [.int f.1,.int f.2])\/pK K p [.int f.1,.int f.2]=true
def PT.sq{K:Frag}{H:Hp}{p:Addr}{f:Int×Int}(h:PT K H p f):SqT K H p [.int f.1,.int f.2]:=h.elim SqT.of m4
def IsF(K:Frag)(H:Hp)(f:Int×Int)(x:V):Prop:=∃ p,x=.ref p/\PT K H p f
def IsF.tk{K:Frag}{H a:Hp}{f:Int×Int}{x:V}(k:TK H a)(h:IsF K H f x):IsF K a f x:=let ⟨p,e,q⟩:=h;⟨p,e,q.imp (λz=>k _ _ z) id⟩
abbrev AllF(K:Frag)(H:Hp):List (Int×Int)->List V->Prop:=GE (IsF K H)
def IsF.same{K:Frag}{H a:Hp}{f:Int×Int}{x:V}(s:Same H a)(h:IsF K H f x):IsF K a f x:=h.tk s.tk
def aV{b a:Type}{R:b->a->Prop}:∀{xs:List b}{ys:List a}{i:Nat}{y:a},Paired R xs ys->ys[i]? = some y->∃ x,xs[i]? = some x/\R x y:=λh e=>by
 rename_i i _
 induction h generalizing i with
 | nil=>cases e
 | cons r _ ih=>cases i;cases e;exact⟨_,rfl,r⟩;exact ih e
def AllF.same{K:Frag}{H a:Hp}(s:Same H a):∀{fs:List (Int×Int)}{xs:List V},AllF K H fs xs->AllF K a fs xs:=λh=>Paired.mapP h λ_ _ r=>r.same s
def AllF.tk{K:Frag}{H a:Hp}(k:TK H a):∀{fs:List (Int×Int)}{xs:List V},AllF K H fs xs->AllF K a fs xs:=λh=>Paired.mapP h λ_ _ r=>r.tk k
def AllF.get{K:Frag}{H:Hp}:∀{fs:List (Int×Int)}{xs:List V}{i:Nat}{x:V},AllF K H fs xs->xs[i]? = some x->∃ f,fs[i]? = some f/\IsF K H f x:=aV
def AllF.snoc{K:Frag}{H:Hp}{f:Int×Int}{x:V}(r:IsF K H f x):∀{fs:List (Int×Int)}{xs:List V},AllF K H fs xs->AllF K H (fs++[f]) (xs++[x]):=λh=>Jb h r
def AllF.len{K:Frag}{H:Hp}{fs:List (Int×Int)}{xs:List V}(h:AllF K H fs xs):fs.length=xs.length:=gp h
def zF(T B:Int):n_ (if T<0 then -T else T) B=n_ T B:=by
 split
 .exact Int.neg_gcd
 .rfl
def px0{K:Frag}{H:Hp}{p:Addr}{x y:V}{Q:VK}(h:SqT K H p [x,y])(q:Q x H):rIx K (.ref p) (.int 0) H Q:=.inr (.inl ⟨p,_,_,x,rfl,rfl,h,aZ (j:=0) rfl,q⟩)
def px1{K:Frag}{H:Hp}{p:Addr}{x y:V}{Q:VK}(h:SqT K H p [x,y])(q:Q y H):rIx K (.ref p) (.int 1) H Q:=.inr (.inl ⟨p,_,_,y,rfl,rfl,h,aZ (j:=1) rfl,q⟩)
def cM(x y:V):[x,y].length<=sizeLine:=by show 2<=sizeLine;decide
inductive spLcm(vs:List V)(H:Hp)(Q:VK)(_E:XK):Prop
 | mk(l:Addr)(x y:Int)(h0:vs=[.ref l])(h1:H l=some (.lst [.int x,.int y]))(h2:0<x)(h3:0<y)(h4:x<=1000000000)(h5:y<=1000000000)(h6:Q (.int (bR x y)) H):spLcm vs H Q _E
structure Szs(z:List Int):Prop where
 len:z.length<=24
 lo:∀ x∈z,1<=x
 hi:∀ x∈z,x<=24000000
inductive spWished(K:Frag)(vs:List V)(H:Hp)(Q:VK)(_E:XK):Prop
 | mk(l:Addr)(z:List Int)(m:Int)(h0:vs=[.ref l,.int m])(h1:H l=some (.lst (z.map V.int)))(h2:Szs z)(h3:0<=m)(h4:m<=24)(h5:∀ H' r xs,Same H H'->H r=none->H' r=some (.lst xs)->AllF K H' (due z m) xs->Q (.ref r) H'):spWished K vs H Q _E
inductive spSome(K:Frag)(vs:List V)(H:Hp)(Q:VK)(_E:XK):Prop
 | mk(l:Addr)(z:List Int)(m:Int)(h0:vs=[.ref l,.int m])(h1:H l=some (.lst (z.map V.int)))(h2:Szs z)(h3:0<m)(h4:m<z.length)(h5:∀ H' r xs,Same H H'->H r=none->H' r=some (.lst xs)->AllF K H' (due z m) xs->Q (.ref r) H'):spSome K vs H Q _E
inductive spUns(K:Frag)(vs:List V)(H:Hp)(Q:VK)(_E:XK):Prop
 | mk(x:V)(f:Int×Int)(h0:vs=[x])(h1:IsF K H f x)(h2:Q (.bl (uns f)) H):spUns K vs H Q _E
abbrev IsQ(K:Frag)(H:Hp)(q:Rat)(x:V):Prop:=IsF K H (fr q) x
inductive spAri(op:Rat->Rat->Rat)(c:Rat->Prop)(K:Frag)(vs:List V)(H:Hp)(Q:VK)(_E:XK):Prop
 | mk(x y:V)(p q:Rat)(h0:vs=[x,y])(h1:IsQ K H p x)(h2:IsQ K H q y)(h3:Bb p)(h4:Bb q)(h5:c q)(h6:∀ H' z,Same H H'->IsQ K H' (op p q) z->Q z H'):spAri op c K vs H Q _E
inductive spBel(K:Frag)(vs:List V)(H:Hp)(Q:VK)(_E:XK):Prop
 | mk(x y:V)(p q:Rat)(h0:vs=[x,y])(h1:IsQ K H p x)(h2:IsQ K H q y)(h3:Bb p)(h4:Bb q)(h5:Q (.bl (decide (p<q))) H):spBel K vs H Q _E
def C1(q:Rat):uns (fr q)=rX q:=by
 unfold uns rX fr;refine decide_eq_decide.mpr ?_;rw[<- num_pos];have:q<1↔q.num<(q.den:Int):=by rw[Kl];simp
 rw[this]
section
variable {P:gN}{w:ml}{K:Frag}{mg:Str->Option cX}{base:Heap}{a:Ad}
def BK{k:Nat}{f:Addr}{a:ri}{ps:List Str}:FnOk P w K mg base CX0 k f a ps DH:=⟨λ_ _ _ _ h=>h.elim,λ_ _ _ _ _ _ _ _ _ _ _ _ _ h=>h.elim⟩
def fm(T:Txt K mg a):FnX P w base 1 T.W_an (spCell K):=by
 refine T.W_an.A.okz v9 λl A d s H m Q E o h=>?_
 .obtain⟨p,b,k,rfl,g,r,x,v,q⟩:=h
  refine⟨_,(af (aP (aO oy (vr 1) (ak aw rfl T.z_len aK (aa (vr 0) ae)) (az _)) (ai (ap (aj (vr 0) (vr 1)))) aC) (ai (ap (au cK (au aR ag (vr 1)) ag)))),fc ?_⟩;intro i;refine⟨b.map V.int,.inl g,?_⟩;rw[a_];unfold jv at q;refine Es (λc=>?_) (λc=>?_)
  .have f:k<(b.length:Int):=of_decide_eq_true c
   rw[if_pos f]at q;refine .inl ⟨p,_,k,.int (b.getD k.toNat 0),rfl,rfl,g,?_,q⟩;have e:((k.toNat:Nat):Int)=k:=by omega
   rw[<- e];refine aZ ?_;have j:k.toNat<b.length:=by omega
   rw[e];simp[fb,rd,j]
  .have f:¬k<(b.length:Int):=λz=>c (decide_eq_true z)
   rw[if_neg f]at q;exact⟨clB,q⟩
def CS(T:Txt K mg a):FnX P w base 1 T.W_aR spMix:=by
 refine T.W_aR.A.okz nk λf A b s H g Q E i h=>?_
 .obtain⟨c,k,rfl,l,j,q⟩:=h
  refine⟨_,(af (psl 2 nk (au cJ (au aR (au cK (au cK (au cJ (vr 0) ag) (au aR ag (vr 1))) ag) ag) ag)) (af (psl 2 nk (au cJ (au cK (au aR (vr 2) (vr 2)) (au aR ag (vr 1))) ag)) (ai (ap (au cJ (au aR (vr 2) (au cK (vr 2) ag)) ag))))),fQ ?_⟩;intro e d;exact⟨cp,clB,crB,cp,clB (by omega) (by omega),clB,cp,clB (by omega) (by omega),cp,q _ (by omega)⟩
def yD(T:Txt K mg a):FnX P w base 1 T.W_t spGcd:=by
 refine T.W_t.A.okz sc_t λB A k s H F Q E G h=>?_
 .obtain⟨f,l,rfl,C,v,q⟩:=h
  refine⟨_,(af (dM kk (hJ (vr 1) (λ_=>rfl)) (ai (Cn rfl sc_t.nd (i:=0) (j:=1) rfl rfl (by decide) rfl rfl (aa (vr 1) (aa (au cJ (vr 0) (vr 1)) ae)) rfl))) (ai (ap (vr 0)))),fc ?_⟩;intro r;refine⟨λm p g=>g=H/\∃ x y:Int,0<=x/\0<=y/\m=y.toNat/\n_ x y=n_ f l/\p=[some (.int x),some (.int y)],⟨_,rfl,f,l,C,v,rfl,rfl,rfl⟩,?_⟩;rintro m p g ⟨rfl,x,y,I,D,rfl,o,rfl⟩;refine⟨_,rfl,?_⟩;refine ifB (λc=>?_) (λc=>?_)
  .have e:y≠0:=by simpa using c
   let Pw3:St->Hp->Prop:=λb d=>d=g/\b=[some (.int y),some (.int (x % y))]
   refine⟨Pw3,?_,?_⟩
   .rintro b d ⟨rfl,rfl⟩
    exact⟨(x % y).toNat,by have:=nt x (show 0<y by omega);have:=o_ x e;omega,rfl,y,x % y,D,o_ x e,rfl,by rw[xG,o],rfl⟩
   .exact⟨cp (by omega),_,_,rfl,rfl,rfl⟩
  .have e:y=0:=by simpa using c
   subst e;rw[Int.gcd_zero_right]at o;have:x=(n_ f l:Int):=by omega
   rw[<- this]at q;exact q
def c8(T:Txt K mg a):FnX P w base 2 T.W_ag spLow:=by
 have d:FnX P w base 1 T.W_ag DH:=BK;refine T.W_ag.A.okz rV λo A e s H v Q E f h=>?_
 .obtain⟨t,b,rfl,r,y,k,q⟩:=h
  refine⟨_,(af (aP (aO oy (vr 1) ag (az _)) (ai (ap (pec d f T.W_ag (aa (nT mZ (vr 0)) (aa (nT mZ (vr 1)) ae))))) aC) (af (psl 2 rV (pec (yD T) f T.W_t (aa (ak yM rfl T.z_abs C6 (aa (vr 0) ae)) (aa (vr 1) ae)))) (ai (ap (aG (aa (au dk (vr 0) (vr 2)) (aa (au dk (vr 1) (vr 2)) ae))))))),fQ ?_⟩;intro l j;obtain⟨g,C,x,B,D⟩:=low t b r;refine ifC (λc=>absurd c (by omega)) (λ_=>?_);refine⟨t,rfl,⟨_,_,rfl,by split <;> omega,by omega,?_⟩⟩;rw[zF];have i:Bt 3000 (n_ t b:Int):=k.le (by omega);refine⟨cdB g i,cdB g i,cM _ _,λp m=>?_⟩;exact q _ p (Same.new m) ac
def yh(T:Txt K mg a):FnX P w base 2 T.W_az spRow:=by
 refine T.W_az.A.okz sc_az λI A k s H N Q E J h=>?_
 .obtain⟨c,b,n,m,rfl,W,Z,S,R,q⟩:=h
  refine⟨_,(af (psl 4 sc_az (bn ae)) (af (cj kk rfl (dw rfl T.z_range (aa (vr 2) ae)) (ax (i:=5) sc_az.nd rfl (m_ rfl)) (ai (aP (aO dJ (au cJ (vr 1) ag) ag (az _)) (af (cH (pe_m.append (vr 4) (aa (au cJ (vr 0) (vr 3)) ae))) (ai (psl 0 sc_az (au dk (vr 0) (vr 3))))) (ai (cH (pe_m.append (vr 4) (aa (au cJ (pec (CS T) J T.W_aR (aa (vr 0) (aa (vr 5) ae))) (vr 3)) ae))))))) (ai (ap (vr 4))))),fQ ?_⟩;intro L F;have O:sizeLine=16777216:=fE;refine⟨ey _,λp C=>?_⟩;refine⟨n,rfl,by omega,by omega,?_⟩
  let Pw1:PvS:=λi f j=>∃(e:Int) (d:List Int) (x:Option V),j=upd H p (.lst (d.map V.int))/\d.length=i/\(∀ y∈d,0<=y/\y<m)/\f=[some (.int e),some (.int b),some (.int n),some (.int m),some (.ref p),x]
  refine oE Pw1 ⟨c,[],none,rfl,rfl,(λy hy=>by cases hy),rfl⟩ ?_ ?_
  .rintro i f j Y ⟨e,d,x,rfl,g,l,rfl⟩
   have D:∀ v:Int,0<=v->v<m->∀ y∈d++[v],0<=y/\y<m:=λv M G y hy=>by
    rcases ra.mp hy with hy | hy
    .exact l y hy
    .rw[k_.mp hy];exact⟨M,G⟩
   have o:∀ v:Int,(d.map V.int)++[V.int v]=(d++[v]).map V.int:=λv=>by rw[gn];rfl
   have B:(d.map V.int).length<sizeLine:=by rw[a_];omega
   refine⟨cp,ifC (λ_=>?_) (λ_=>?_)⟩
   .refine⟨.inl ⟨rfl,_,SqL.of ac⟩,⟨cp (by omega),⟨p,_,_,rfl,rfl,ac,B,?_⟩⟩⟩
    refine⟨cdB (by omega) (show Bt 40 m by unfold Bt;omega),?_⟩;rw[cq,o];exact⟨_,_,_,rfl,by rw[ir,g];rfl,D _ (o_ _ (by omega)) (nt _ (by omega)),rfl⟩
   .refine⟨.inl ⟨rfl,_,SqL.of ac⟩,⟨e,_,rfl,by omega,by omega,λr X=>⟨cp (by omega),⟨p,_,_,rfl,rfl,ac,B,?_⟩⟩⟩⟩
    rw[cq,o];exact⟨_,_,_,rfl,by rw[ir,g];rfl,D _ (o_ _ (by omega)) (nt _ (by omega)),rfl⟩
  .rintro f j ⟨e,d,x,rfl,g,l,rfl⟩
   exact q _ p d (Same.new C) C ac (by omega) l
def tM(T:Txt K mg a):FnX P w base 1 T.W_aj (spUns K):=by
 refine T.W_aj.A.okz qR λg A b s H i Q E j h=>?_
 .obtain⟨x,f,rfl,⟨p,rfl,d⟩,q⟩:=h
  refine⟨_,(ai (ap (md oy oy ag (aj (vr 0) ag) (aj (vr 0) ag)))),?_⟩;refine px0 d.sq ?_;refine ifC (λc=>px1 d.sq ?_) (λc=>?_)
  .have c:0<f.1:=c
   have e:uns f=decide (f.1<f.2):=by unfold uns;simp[c]
   rw[e]at q;exact q
  .have c:¬0<f.1:=c
   have e:uns f=false:=by unfold uns;simp[c]
   rw[e]at q;exact q
def iM{H:Hp}{p:Addr}{t b:Int}(h:SqT K H p [.int t,.int b]):DV K H (.tuple [.int t,.int b]) (.ref p):=by
 rw[DV];refine⟨p,_,rfl,h,?_⟩;rw[DVs];refine⟨_,_,rfl,by simp[DV],?_⟩;rw[DVs];exact⟨_,_,rfl,by simp[DV],by simp[DVs]⟩
def fA(t b:Int):DB (.tuple [.int t,.int b])=true:=rfl
def jA(T:Txt K mg a):FnX P w base 3 T.W_aP (spAri (· + ·) (λ_=>True) K):=by
 refine T.W_aP.A.okz Ac λv A g s H D Q E l h=>?_
 .obtain⟨x,y,p,q,rfl,⟨x,rfl,o⟩,⟨y,rfl,B⟩,⟨i,d⟩,⟨j,c⟩,F,k⟩:=h
  have e:=o.sq;have b:=B.sq;have m:(0:Int)<(p.den:Int):=by have:=p.den_pos;omega
  have C:(0:Int)<(q.den:Int):=by have:=q.den_pos;omega
  refine⟨_,(ai (ap (pec (c8 T) l T.W_ag (aa (au cK (au aR (aj (vr 0) ag) (aj (vr 1) ag)) (au aR (aj (vr 1) ag) (aj (vr 0) ag))) (aa (au aR (aj (vr 0) ag) (aj (vr 1) ag)) ae))))),?_⟩;refine px0 e (px1 b ⟨cmB i c,px0 b (px1 e ⟨cmB j d,px1 e (px1 b ⟨cmB d c,?_⟩)⟩)⟩);exact⟨_,_,rfl,z_ m C,((i.mul c).add (j.mul d)).mono (by decide),(d.mul c).mono (by decide),λG r s f=>k _ _ s ⟨r,rfl,.inl (by rw[<- AX p q];exact f)⟩⟩
def io(T:Txt K mg a):FnX P w base 3 T.W_aG (spAri (· - ·) (λ_=>True) K):=by
 refine T.W_aG.A.okz zu λv A g s H D Q E l h=>?_
 .obtain⟨x,y,p,q,rfl,⟨x,rfl,o⟩,⟨y,rfl,B⟩,⟨i,d⟩,⟨j,c⟩,F,k⟩:=h
  have e:=o.sq;have b:=B.sq;have m:(0:Int)<(p.den:Int):=by have:=p.den_pos;omega
  have C:(0:Int)<(q.den:Int):=by have:=q.den_pos;omega
  refine⟨_,(ai (ap (pec (c8 T) l T.W_ag (aa (au bZ (au aR (aj (vr 0) ag) (aj (vr 1) ag)) (au aR (aj (vr 1) ag) (aj (vr 0) ag))) (aa (au aR (aj (vr 0) ag) (aj (vr 1) ag)) ae))))),?_⟩;refine px0 e (px1 b ⟨cmB i c,px0 b (px1 e ⟨cmB j d,px1 e (px1 b ⟨cmB d c,?_⟩)⟩)⟩);exact⟨_,_,rfl,z_ m C,((i.mul c).sub (j.mul d)).mono (by decide),(d.mul c).mono (by decide),λG r s f=>k _ _ s ⟨r,rfl,.inl (by rw[<- AY p q];exact f)⟩⟩
def eK(T:Txt K mg a):FnX P w base 3 T.W_aA (spAri (· * ·) (λ_=>True) K):=by
 refine T.W_aA.A.okz zf λv A d s H D Q E l h=>?_
 .obtain⟨x,y,p,q,rfl,⟨x,rfl,o⟩,⟨y,rfl,B⟩,⟨e,g⟩,⟨j,f⟩,F,k⟩:=h
  have i:=o.sq;have b:=B.sq;have m:(0:Int)<(p.den:Int):=by have:=p.den_pos;omega
  have C:(0:Int)<(q.den:Int):=by have:=q.den_pos;omega
  refine⟨_,(ai (ap (pec (c8 T) l T.W_ag (aa (au aR (aj (vr 0) ag) (aj (vr 1) ag)) (aa (au aR (aj (vr 0) ag) (aj (vr 1) ag)) ae))))),?_⟩;refine px0 i (px0 b ⟨cmB e j,px1 i (px1 b ⟨cmB g f,?_⟩)⟩);exact⟨_,_,rfl,z_ m C,(e.mul j).mono (by decide),(g.mul f).mono (by decide),λG r s c=>k _ _ s ⟨r,rfl,.inl (by rw[<- AT p q];exact c)⟩⟩
def lS(T:Txt K mg a):FnX P w base 3 T.W_aQ (spAri (· / ·) (λq=>0<q) K):=by
 refine T.W_aQ.A.okz zO λB A d s H D Q E m h=>?_
 .obtain⟨x,y,p,q,rfl,⟨x,rfl,v⟩,⟨y,rfl,C⟩,⟨e,i⟩,⟨k,g⟩,f,l⟩:=h
  have j:=v.sq;have b:=C.sq;have o:(0:Int)<(p.den:Int):=by have:=p.den_pos;omega
  have G:(0:Int)<(q.den:Int):=by have:=q.den_pos;omega
  refine⟨_,(ai (ap (pec (c8 T) m T.W_ag (aa (au aR (aj (vr 0) ag) (aj (vr 1) ag)) (aa (au aR (aj (vr 0) ag) (aj (vr 1) ag)) ae))))),?_⟩;refine px0 j (px1 b ⟨cmB e g,px1 j (px0 b ⟨cmB i k,?_⟩)⟩);exact⟨_,_,rfl,z_ o (num_pos.mpr f),(e.mul g).mono (by decide),(i.mul k).mono (by decide),λF r s c=>l _ _ s ⟨r,rfl,.inl (by rw[<- zX p q f];exact c)⟩⟩
def m8(T:Txt K mg a):FnX P w base 1 T.W_aL (spBel K):=by
 refine T.W_aL.A.okz wV λl A c s H r Q E v h=>?_
 .obtain⟨x,y,p,q,rfl,⟨x,rfl,i⟩,⟨y,rfl,m⟩,⟨g,k⟩,⟨o,j⟩,d⟩:=h
  have f:=i.sq;have b:=m.sq;refine⟨_,(ai (ap (ba oy (au aR (aj (vr 0) ag) (aj (vr 1) ag)) (au aR (aj (vr 1) ag) (aj (vr 0) ag)) (az _)))),?_⟩;refine px0 f (px1 b ⟨cmB g j,px0 b (px1 f ⟨cmB o k,?_⟩)⟩);have e:decide (p<q)=decide (p.num*(q.den:Int)<q.num*(p.den:Int)):=decide_eq_decide.mpr (Kl p q);rw[e]at d;exact d
def CK(T:Txt K mg a):FnX P w base 2 T.W_y spLcm:=by
 refine T.W_y.A.okz sc_y λM A m s H S Q E O h=>?_
 .obtain⟨l,x,y,rfl,r,v,N,o,L,q⟩:=h
  refine⟨_,(af (psl 1 sc_y ag) (af (cj kk rfl (aL (vr 0)) (ax (i:=2) sc_y.nd rfl (m_ rfl)) (ai (psl 1 sc_y (au aR (au dk (vr 1) (pec (yD T) O T.W_t (aa (vr 1) (aa (vr 2) ae)))) (vr 2))))) (ai (ap (vr 1))))),fQ ?_⟩;intro R D
  let Pw2:PvS:=λi d e=>e=H/\∃(f:Int) (j:Option V),d=[some (.ref l),some (.int f),j]/\(i=0->f=1)/\(i=1->f=x)/\(i=2->f=bR x y)
  refine .inl ⟨⟨_,SqL.of r⟩,eV (K:=K) (a:=l) (xs:=[.int x,.int y]) Pw2 ⟨rfl,1,none,rfl,λ_=>rfl,(by decide:¬0=1).elim,(by decide:¬0=2).elim⟩ (λi d e _ h=>by rw[h.1];exact SqL.of r) ?_ ?_⟩
  .rintro i z d e c ⟨rfl,f,j,rfl,C,p,B⟩
   have b:∀ u:Int,0<f->f<=1000000000->0<u->u<=1000000000->0<(n_ f u:Int)/\Bt 40 (n_ f u:Int)/\0<=f/(n_ f u:Int)/\f/(n_ f u:Int)<=1000000000:=λu Y W I X=>by
    obtain⟨J,Z,_⟩:=low f u I;refine⟨J,by unfold Bt;omega,K0 (by omega) (by omega),?_⟩;have:=Int.ediv_le_self (a:=f) (n_ f u:Int) (by omega);omega
   match i,c with
   | 0,c =>
    cases c;cases C rfl;obtain⟨g,k,F,G⟩:=b x (by decide) (by decide) v o;refine⟨1,x,rfl,by decide,by omega,cdB g k,clB (by omega) (by omega),rfl,_,_,rfl,(λz=>by cases z),(λ_=>?_),(λz=>by cases z)⟩;rw[Int.one_gcd];show 1/1*x=x;rw[Int.ediv_self (by decide),Int.one_mul]
   | 1,c =>
    cases c;cases p rfl;obtain⟨g,k,F,G⟩:=b y v o N L;exact⟨_,y,rfl,by omega,by omega,cdB g k,clB (by omega) (by omega),rfl,_,_,rfl,(λz=>by cases z),(λz=>by cases z),λ_=>rfl⟩
  .rintro d e ⟨rfl,f,j,rfl,C,p,B⟩
   cases B rfl;exact q
end
def nV(L:List Nat):List V:=L.map λ(k:Nat)=>V.int (k:Int)
def yw{L:List Nat}{j:Nat}{x:V}(h:(nV L)[j]? = some x):∃ k,L[j]? = some k/\x=.int (k:Int):=by
 unfold nV at h;rw[fb]at h;cases hk:L[j]? with
 | none=>rw[hk]at h;cases h
 | some k=>rw[hk]at h;cases h;exact⟨k,rfl,rfl⟩
def BG{z:List Int}{k:Nat}(a:k<z.length):atI (z.map V.int) (k:Int)=some (.int (sz z k)):=aZ (by simp[sz,fb,rd,a])
def yd{z:List Int}{k:Nat}(a:k<z.length):sz z k∈z:=by
 unfold sz;rw[rd,c_ a];exact E_ a
def DJ(L:List Nat):(nV L).all iA=true:=by
 rw[F8];intro x a;obtain⟨k,_,rfl⟩:=lz.mp a;rfl
def Fi(L:List Nat)(k:Nat):inV (.int (k:Int)) (nV L)=decide (k∈L):=by
 rw[ue];unfold inV nV;rw[List.any_map,Kw,decide_eq_true_eq]
 constructor
 .rintro⟨j,a,e⟩
  have:(j:Int)=(k:Int):=by simpa[eqV] using e
  have:j=k:=by lia
  rw[<- this];exact a
 .intro h
  exact⟨k,h,by simp[eqV]⟩
section
variable {P:gN}{w:ml}{K:Frag}{mg:Str->Option cX}{base:Heap}{a:Ad}
def zK(T:Txt K mg a):FnX P w base 3 T.W_j (spSome K):=by
 refine T.W_j.A.okz sc_j λbm A a4 s H vs Q E hr h=>?_
 .obtain⟨l,z,m,rfl,hl,hz,m0,m1,q⟩:=h
  refine⟨_,(af (psr 2 sc_j (bi (dX rfl) rfl T.z_list cc (aa (bi iT rfl T.z_range jG (aa (ak aw rfl T.z_len aK (aa (vr 0) ae)) ae)) ae))) (af (psr 3 sc_j (vr 1)) (af (dM kk (bK fB) (af (psr 4 sc_j (ak (cG rfl) rfl T.z_sum gA (aa (aN rfl (N:=["place","sizes"]) (ix:=[none,some 0]) ay (aL (vr 2)) (aB λC s H fp=>⟨aQ 0 ["place","sizes"],aM,(aY (bf (K:=K) rfl) (vr 1) (vr 0))⟩)) ae))) (af (b7 rfl (i:=5) sc_j.nd rfl rfl (by with_unfolding_all rfl) (N:=["place","whole","wanted","sizes"]) (ix:=[none,some 4,some 3,some 0]) ay (aL (vr 2)) (aB λC s H fp=>⟨aQ 0 ["place","whole","wanted","sizes"],cv (aO oy (au aR (aY (bf (K:=K) rfl) (vr 3) (vr 0)) (vr 2)) (vr 1) (az _)),(vr 0)⟩)) (af (aP (aO dJ (ak aw rfl T.z_len aK (aa (vr 5) ae)) (ak aw rfl T.z_len aK (aa (vr 2) ae)) (az _)) (ai se) aC) (af (t6 (i:=3) sc_j.nd rfl (GZ rfl) (au bZ (ak aw rfl T.z_len aK (aa (vr 2) ae)) (ak aw rfl T.z_len aK (aa (vr 5) ae))) Ck) (ai (psr 2 sc_j (vr 5)))))))) (ai (ap (aN rfl (N:=["place","size","left","whole","wanted"]) (ix:=[none,none,some 2,some 4,some 3]) ay (fo rfl T.z_enumerate (aa (vr 0) ae)) (aB λC s H fp=>⟨(bT (K:=K) (n:=2) rfl rfl (dy ["place","size","left","whole","wanted"])),aM,(eM (aO (mV (K:=K) rfl) (vr 0) (vr 2) (by with_unfolding_all rfl)) (pec (c8 T) hr T.W_ag (aa (au aR (vr 1) (vr 4)) (aa (vr 3) ae))) (aU rfl T.g_WHOLE))⟩))))))),mH ?_⟩;intro bl bd a';have sl:sizeLine=16777216:=fE;have zl:=hz.len;have ab:∀ k,k<z.length->1<=sz z k:=λk g=>hz.lo _ (yd g)
  have a1:∀ k,k<z.length->sz z k<=24000000:=λk g=>hz.hi _ (yd g)
  refine⟨_,.inl (SqL.of hl),⟨_,rfl,λp hp=>⟨p,z.length,rfl,by lia,by rw[ac,a_],λJ r=>?_⟩⟩⟩;have s1:Same H (upd (upd H p (.rng 0 ((z.map V.int).length:Int))) J (.lst (nV (g0 z.length)))):=(Same.new hp).trans (Same.new r)
  let Pw5:PvS:=λc σ H'=>∃(J:Addr) (L:List Nat) (w:Int) (x4 x5:Option V),c=L.length/\Same H H'/\H' J=some (.lst (nV L))/\Rnd z z.length m L w/\FrM.fin z L w=FrM.fin z (g0 z.length) m/\σ=[some (.ref l),some (.int m),some (.ref J),some (.int w),x4,x5]
  refine⟨Pw5,⟨_,J,g0 z.length,m,none,none,rfl,s1,ac,Rnd.start (by lia) (by lia),rfl,rfl⟩,?_⟩;rintro c σ H' ⟨J,L,w,x4,x5,rfl,sm,r,R,hf,rfl⟩;have X:=sm _ _ hl;have Ll:=R.len;have wb:-24<=w/\w<=24:=by have:=R.dif;have:=R.lt;lia
  let Pw6:St->Hp->Prop:=λas am=>∃(I:Addr) (x4 x5:Option V),Same H am/\am I=some (.lst (nV (stay z L w)))/\(stay z L w).length≠L.length/\as=[some (.ref l),some (.int m),some (.ref I),some (.int (w - ((L.length:Int) - ((stay z L w).length:Int)))),x4,x5]
  refine⟨Pw6,?_,?_⟩
  .rintro as am ⟨I,x4,x5,a5,h',a6,rfl⟩
   have:=jM z L w;exact⟨_,by lia,I,_,_,x4,x5,rfl,a5,h',R.step ab,by rw[<- hf];exact(qS a6).symm,rfl⟩
  .refine .inl ⟨⟨_,SqL.of r⟩,λD hD=>?_⟩
   let Pw1:PvL:=λi f d=>i<=L.length/\d=upd H' D (.lst f)/\f=(L.take i).map λk=>V.int (sz z k)
   refine aD (K:=K) (a:=J) (xs:=nV L) Pw1 ⟨ey _,rfl,rfl⟩ (λi f d h=>by rw[h.2.1];exact SqL.of (by rw[aq (ar r hD)];exact r)) (λi f d h=>by rw[h.2.1];exact ac) ?_ ?_
   .rintro i x f d P' hx ⟨hi,rfl,rfl⟩ Z
    obtain⟨k,g,rfl⟩:=yw hx;have b:i<L.length:=(b_.mp g).1;have Y:=R.sub k (eH g);refine⟨⟨rfl,trivial⟩,.inl ⟨l,_,_,_,rfl,rfl,SqL.of (by rw[aq (ar X hD)];exact X),BG Y,ac,?_,Z _ _ ⟨b,cq,?_⟩⟩⟩
    .rw[a_,ki];lia
    .rw[j_,g,gn];rfl
   rintro f d ⟨_,rfl,rfl⟩
   have eS:((L.take (nV L).length).map λk=>V.int (sz z k))=(L.map (sz z)).map V.int:=by
    rw[show(nV L).length=L.length by unfold nV;rw[a_],ga (d_ _),map_map];rfl
   refine⟨D,L.map (sz z),rfl,SqL.of (by rw[ac,eS]),?_⟩;rw[eS];have sD:Same H' (upd H' D (.lst ((L.map (sz z)).map V.int))):=Same.new hD;generalize upd H' D (.lst ((L.map (sz z)).map V.int))=H3 at sD;have an:=sD _ _ X;have j:=sD _ _ r;refine .inl ⟨⟨_,SqL.of j⟩,λD2 ah=>?_⟩
   let Pw2:PvL:=λi f d=>i<=L.length/\d=upd H3 D2 (.lst f)/\f=nV ((L.take i).filter λk=>decide (sz z k*w<sumL z L))
   refine aD (K:=K) (a:=J) (xs:=nV L) Pw2 ⟨ey _,rfl,rfl⟩ (λi f d h=>by rw[h.2.1];exact SqL.of (by rw[aq (ar j ah)];exact j)) (λi f d h=>by rw[h.2.1];exact ac) ?_ ?_
   .rintro i x f d P' hx ⟨hi,rfl,rfl⟩ Z
    obtain⟨k,g,rfl⟩:=yw hx;have b:i<L.length:=(b_.mp g).1;have Y:=R.sub k (eH g)
    have O:(L.take (i+1)).filter (λk=>decide (sz z k*w<sumL z L))=(L.take i).filter (λk=>decide (sz z k*w<sumL z L))++if sz z k*w<sumL z L then [k] else []:=by
     rw[j_,g,rz]
     by_cases c:sz z k*w<sumL z L <;> simp[c]
    refine⟨⟨rfl,rfl,rfl,trivial⟩,.inl ⟨l,_,_,_,rfl,rfl,SqL.of (by rw[aq (ar an ah)];exact an),BG Y,crB (by lia) (by lia),?_⟩⟩;refine ifC (λc=>?_) (λc=>?_)
    .have B:sz z k*w<sumL z L:=c
     rw[if_pos B]at O;refine⟨ac,?_,Z _ _ ⟨b,cq,?_⟩⟩
     .unfold nV
      rw[a_];have:=nn (λk=>decide (sz z k*w<sumL z L)) (L.take i);rw[ki]at this;lia
     .rw[O];unfold nV;rw[gn];rfl
    .have B:¬sz z k*w<sumL z L:=c
     rw[if_neg B,y_]at O;exact Z _ _ ⟨b,rfl,by rw[O]⟩
   rintro f d ⟨_,rfl,rfl⟩
   have eT:nV ((L.take (nV L).length).filter λk=>decide (sz z k*w<sumL z L))=nV (stay z L w):=by
    rw[show(nV L).length=L.length by unfold nV;rw[a_],ga (d_ _)];rfl
   rw[eT];have G:Same H3 (upd H3 D2 (.lst (nV (stay z L w)))):=Same.new ah;have S:(upd H3 D2 (.lst (nV (stay z L w)))) D2=some (.lst (nV (stay z L w))):=ac;generalize upd H3 D2 (.lst (nV (stay z L w)))=H4 at G S;have a7:=G _ _ an;have y:=G _ _ j;have s4:Same H H4:=sm.trans (sD.trans G);have o:∀ L:List Nat,(nV L).length=L.length:=λL=>by unfold nV;rw[a_]
   refine⟨_,.inl (SqL.of S),⟨_,.inl (SqL.of y),?_⟩⟩;rw[o,o];refine ifC (λc=>?_) (λc=>?_)
   .have B:(stay z L w).length=L.length:=by have z:((stay z L w).length:Int)=(L.length:Int):=c;lia
    have W:=j7 B;rw[hf]at W;have hS:0<sumL z L:=by have:=fF z L λk g=>ab k (R.sub k g);have:=R.pos;lia
    have a3:Bt 40 (sumL z L):=by
     have:=ma z 24000000 L λk g=>a1 k (R.sub k g)
     unfold Bt;have a8:(2:Nat) ^ 40=1099511627776:=by decide
     rw[a8];lia
    refine⟨l,_,rfl,a7,λD3 v=>?_⟩
    have a2:due z m=(g0 z.length).map λk=>if decide (k∈L)=true then c5 (sz z k*w) (sumL z L) else (1,1):=by
     unfold due;rw[if_neg (by lia),if_neg (by lia),W]
    have ad:H D3=none:=s4.free v;refine kJ (a:=l) (xs:=z.map V.int) (λi f d=>i<=z.length/\Same H d/\Same H4 d/\d D3=some (.lst f)/\AllF K d ((due z m).take i) f) ⟨ey _,s4.trans (Same.new v),Same.new v,ac,by rw[Hi];exact .nil⟩ (λi f d h=>h.2.1 _ _ hl) (λi f d h=>h.2.2.2.1) ?_ ?_
    .rintro i x f d p P' hx ⟨hi,t1,t4,al,hA⟩ hp Z
     have b:i<z.length:=by have:=(b_.mp hx).1;rw[a_]at this;exact this
     have ex:x=.int (sz z i):=by
      rw[fb,c_ b]at hx;cases hx;simp[sz,rd,b]
     subst ex;have M:Same d (upd d p (.tup [.int (i:Nat),.int (sz z i)])):=Same.new hp;refine⟨p,_,rfl,SqT.of ac,rfl,_,_,rfl,_,_,rfl,rfl,⟨rfl,rfl,rfl,trivial⟩,?_⟩;generalize upd d p (.tup [.int (i:Nat),.int (sz z i)])=H5 at M;have F:=M _ _ al;have yl:f.length=i:=by rw[<- hA.len,ki,bD];lia
     have O:(due z m).take (i+1)=(due z m).take i++[if decide (i∈L)=true then c5 (sz z i*w) (sumL z L) else (1,1)]:=by
      rw[j_]
      congr 1
      rw[a2,fb,GD b];rfl
     refine⟨J,_,rfl,.inl (SqL.of ((t4.trans M) _ _ y)),rfl,DJ L,?_⟩;rw[Fi];refine ifB (λc=>?_) (λc=>?_)
     .have B:decide (i∈L)=true:=c
      rw[if_pos B]at O;refine⟨crB (by lia) (by lia),⟨_,_,rfl,hS,((show Bt 30 (sz z i) by have:=ab i b;have:=a1 i b;unfold Bt;lia).mul (show Bt 5 w by unfold Bt;lia)).mono (by decide),a3.mono (by decide),λH6 p6 s6 e6=>?_⟩⟩;refine⟨s6 _ _ F,by lia,Z _ _ ⟨b,((t1.trans M).trans s6).put ad,?_,ac,?_⟩⟩
      .exact((t4.trans M).trans s6).put v
      .rw[O]
       have a0:=s6 _ _ F;exact AllF.snoc ⟨p6,rfl,.inl (TK.lst a0 _ _ e6)⟩ (hA.tk ((M.trans s6).tk.trans (TK.lst a0)))
     .have B:decide (i∈L)=false:=c
      rw[if_neg (by rw[B];exact fx)]at O;refine⟨F,by lia,Z _ _ ⟨b,(t1.trans M).put ad,(t4.trans M).put v,ac,?_⟩⟩;rw[O];exact AllF.snoc ⟨a.k_WHOLE,rfl,.inr T.t_WHOLE⟩ (hA.tk (M.tk.trans (TK.lst F)))
    .rintro f d ⟨_,t1,t4,al,hA⟩
     rw[ga (by rw[bD,a_];exact d_ _)]at hA;exact q d D3 f t1 ad al hA
   .have B:(stay z L w).length≠L.length:=λe=>c (by show((stay z L w).length:Int)=(L.length:Int);lia)
    refine⟨_,rfl,⟨_,.inl (SqL.of y),⟨_,.inl (SqL.of S),⟨_,_,rfl,rfl,⟨D2,some (.int (L.map (sz z)).sum),some (.ref D2),s4,S,B,?_⟩⟩⟩⟩⟩;rw[o,o];rfl
def wI(T:Txt K mg a):FnX P w base 4 T.W_aN (spWished K):=by
 refine T.W_aN.A.okz wD λM A y s H W Q E O h=>?_
 .obtain⟨l,z,m,rfl,j,F,m0,Y,q⟩:=h
  refine⟨_,(af (aP (aO jt (ak aw rfl T.z_len aK (aa (vr 0) ae)) (vr 1) (az _)) (ai (ap (aN rfl (N:=["size"]) (ix:=[none]) ay (aL (vr 0)) (aB λC s H J=>⟨aQ 0 ["size"],aM,(aU rfl T.g_WHOLE)⟩)))) aC) (af (aP (aO dJ (vr 1) ag (az _)) (ai (ap (aN rfl (N:=["size"]) (ix:=[none]) ay (aL (vr 0)) (aB λC s H J=>⟨aQ 0 ["size"],aM,(aU rfl T.g_NOUGHT)⟩)))) aC) (ai (ap (pec (zK T) O T.W_j (aa (vr 0) (aa (vr 1) ae))))))),fQ ?_⟩;intro R G;have X:sizeLine=16777216:=fE;have Z:=F.len;refine⟨_,.inl (SqL.of j),?_⟩;rw[a_];refine ifC (λc=>?_) (λc=>ifC (λc2=>?_) (λc2=>?_))
  .have p:(z.length:Int)<=m:=c
   have g:due z m=z.map λ_=>(1,1):=by unfold due;rw[if_pos p]
   refine .inl ⟨⟨_,SqL.of j⟩,λD k=>?_⟩
   let Pw3:PvL:=λi b d=>i<=z.length/\d=upd H D (.lst b)/\AllF K d ((due z m).take i) b
   refine aD (K:=K) (a:=l) (xs:=z.map V.int) Pw3 ⟨ey _,rfl,by rw[Hi];exact .nil⟩ (λi b d h=>by rw[h.2.1];exact SqL.of (by rw[aq (ar j k)];exact j)) (λi b d h=>by rw[h.2.1];exact ac) ?_ ?_
   .rintro i x b d I B ⟨S,rfl,e⟩ v
    have f:i<z.length:=by have:=(b_.mp B).1;rw[a_]at this;exact this
    have L:b.length=i:=by rw[<- e.len,ki,bD];lia
    refine⟨trivial,ac,by lia,v _ _ ⟨f,cq,?_⟩⟩
    have r:(due z m).take (i+1)=(due z m).take i++[(1,1)]:=by
     rw[j_]
     congr 1
     rw[g,fb,c_ f];rfl
    rw[r];exact AllF.snoc ⟨a.k_WHOLE,rfl,.inr T.t_WHOLE⟩ (e.tk (TK.lst ac))
   .rintro b d ⟨_,rfl,e⟩
    rw[ga (by rw[bD,a_];exact d_ _)]at e;exact q _ D b (Same.new k) k ac e
  .have p:¬(z.length:Int)<=m:=c
   have o:m=0:=c2;have g:due z m=z.map λ_=>(0,1):=by unfold due;rw[if_neg p,if_pos o]
   refine .inl ⟨⟨_,SqL.of j⟩,λD k=>?_⟩
   let Pw4:PvL:=λi b d=>i<=z.length/\d=upd H D (.lst b)/\AllF K d ((due z m).take i) b
   refine aD (K:=K) (a:=l) (xs:=z.map V.int) Pw4 ⟨ey _,rfl,by rw[Hi];exact .nil⟩ (λi b d h=>by rw[h.2.1];exact SqL.of (by rw[aq (ar j k)];exact j)) (λi b d h=>by rw[h.2.1];exact ac) ?_ ?_
   .rintro i x b d I B ⟨S,rfl,e⟩ v
    have f:i<z.length:=by have:=(b_.mp B).1;rw[a_]at this;exact this
    have L:b.length=i:=by rw[<- e.len,ki,bD];lia
    refine⟨trivial,ac,by lia,v _ _ ⟨f,cq,?_⟩⟩
    have r:(due z m).take (i+1)=(due z m).take i++[(0,1)]:=by
     rw[j_]
     congr 1
     rw[g,fb,c_ f];rfl
    rw[r];exact AllF.snoc ⟨a.k_NOUGHT,rfl,.inr T.t_NOUGHT⟩ (e.tk (TK.lst ac))
   .rintro b d ⟨_,rfl,e⟩
    rw[ga (by rw[bD,a_];exact d_ _)]at e;exact q _ D b (Same.new k) k ac e
  .have p:¬(z.length:Int)<=m:=c
   have o:¬m=0:=c2;exact⟨l,z,m,rfl,j,F,by lia,by lia,q⟩
end
abbrev Lm:Nat:=2 ^ 980
def xB{D B:Nat}(a:0<B)(h:D*B<Lm):D<Lm:=na (G7 D a) h
def rS{B:Nat}(h:B<=1000000000):B<Lm:=na h (by decide +kernel)
def EH{B:Nat}(h:B<=1000000000):2*B<Lm:=na (show 2*B<=2000000000 by lia) (by decide +kernel)
def PQ(K:Frag)(H:Hp)(z:Nat×Rat)(x:V):Prop:=∃ p v,x=.ref p/\H p=some (.tup [.int (z.1:Nat),v])/\IsQ K H z.2 v
def EQ(K:Frag)(H:Hp)(z:Nat×(Rat×Rat))(x:V):Prop:=∃ p u s,x=.ref p/\H p=some (.tup [.int (z.1:Nat),u,s])/\IsQ K H z.2.1 u/\IsQ K H z.2.2 s
def PQ.tk{K:Frag}{H a:Hp}{z:Nat×Rat}{x:V}(k:TK H a)(h:PQ K H z x):PQ K a z x:=let ⟨p,v,e,h1,h2⟩:=h;⟨p,v,e,k _ _ h1,h2.tk k⟩
def EQ.tk{K:Frag}{H a:Hp}{z:Nat×(Rat×Rat)}{x:V}(k:TK H a)(h:EQ K H z x):EQ K a z x:=let ⟨p,u,s,e,h1,h2,h3⟩:=h;⟨p,u,s,e,k _ _ h1,h2.tk k,h3.tk k⟩
def aA{c a:Type}{R b:c->a->Prop}(f:∀ x y,R x y->b x y):∀{xs:List c}{ys:List a},Paired R xs ys->Paired b xs ys:=λh=>Paired.mapP h f
def cz{a b:Type}{R:a->b->Prop}{x:a}{y:b}(h:R x y):∀{xs:List a}{ys:List b},Paired R xs ys->Paired R (xs++[x]) (ys++[y]):=λg=>Jb g h
def oW{h c:Rat}{us:Rat×Rat}(z:h+c<1):cY h us c=(us.1*(h/(h+c)),us.2):=by unfold cY;rw[if_pos z]
def oO{h c:Rat}{us:Rat×Rat}(z:¬h+c<1):cY h us c=(us.1*((1 - h)/(2 - (h+c))),us.2+us.1*((1 - c)/(2 - (h+c)))):=by unfold cY;rw[if_neg z]
def yu{h c:Rat}(z:h+c<1):us0 h c=(c/(h+c),0):=by unfold us0;rw[if_pos z]
def yP{h c:Rat}(z:¬h+c<1):us0 h c=((1 - c)/(2 - (h+c)),(1 - h)/(2 - (h+c))):=by unfold us0;rw[if_neg z]
structure Hc(B:Nat)(h c:Rat):Prop where
 B0:0<B
 B1:B<=1000000000
 hB:Bq B h
 cB:Bq B c
 h1:h<1
 c0:0<c
 c1:c<1
def Hc.bh{B:Nat}{h c:Rat}(H:Hc B h c):Bb h:=H.hB.bb H.B0 (rS H.B1)
def Hc.bc{B:Nat}{h c:Rat}(H:Hc B h c):Bb c:=H.cB.bb H.B0 (rS H.B1)
def Hc.bs{B:Nat}{h c:Rat}(H:Hc B h c):Bb (h+c):=(Dz H.hB H.cB).bb H.B0 (rS H.B1)
def Hc.bs1{B:Nat}{h c:Rat}(H:Hc B h c):Bb (h+c - 1):=(zR H.hB H.cB).bb H.B0 (rS H.B1)
def Hc.bs2{B:Nat}{h c:Rat}(H:Hc B h c):Bb (2 - (h+c)):=(Ag H.hB H.cB).bb H.B0 (rS H.B1)
def Hc.b1c{B:Nat}{h c:Rat}(H:Hc B h c):Bb (1 - c):=(yy H.cB).bb H.B0 (rS H.B1)
def Hc.b1h{B:Nat}{h c:Rat}(H:Hc B h c):Bb (1 - h):=(yy H.hB).bb H.B0 (rS H.B1)
def Hc.step{B:Nat}{h c:Rat}(H:Hc B h c):∃ T:Nat,0<T/\T<=2*B/\(h+c<1->Bq T (h/(h+c))/\Bq T (c/(h+c)))/\(¬h+c<1->Bq T ((1 - c)/(2 - (h+c)))/\Bq T ((1 - h)/(2 - (h+c)))):=yr H.B0 H.hB H.cB H.h1 H.c0 H.c1
def bb0:Bb 0:=⟨by show Bt 1000 0;unfold Bt;decide,by show Bt 1000 1;unfold Bt;decide⟩
def bb1:Bb 1:=⟨by show Bt 1000 1;unfold Bt;decide,by show Bt 1000 1;unfold Bt;decide⟩
def bb2:Bb 2:=⟨by show Bt 1000 2;unfold Bt;decide,by show Bt 1000 1;unfold Bt;decide⟩
inductive spBoth(K:Frag)(vs:List V)(H:Hp)(Q:VK)(_E:XK):Prop
 | mk(xu xs xh xc:V)(us:Rat×Rat)(h c:Rat)(D B:Nat)(h0:vs=[xu,xs,xh,xc])(h1:IsQ K H us.1 xu)(h2:IsQ K H us.2 xs)(h3:IsQ K H h xh)(h4:IsQ K H c xc)(h5:Hc B h c)(h6:Pu D us)(h7:0<D)(h8:D*B<Lm)(h9:∀ H' z,Same H H'->IsQ K H' (bk us h c) z->Q z H'):spBoth K vs H Q _E
inductive spHeld(K:Frag)(vs:List V)(H:Hp)(Q:VK)(_E:XK):Prop
 | mk(xh xc:V)(h c:Rat)(B:Nat)(h0:vs=[xh,xc])(h1:IsQ K H h xh)(h2:IsQ K H c xc)(h3:Hc B h c)(h4:∀ H' z,Same H H'->IsQ K H' (hb h c) z->Q z H'):spHeld K vs H Q _E
inductive spBeh(K:Frag)(vs:List V)(H:Hp)(Q:VK)(_E:XK):Prop
 | mk(le:Addr)(xh xc:V)(p:Nat)(h c:Rat)(es:Er)(xs:List V)(D B:Nat)(h0:vs=[.ref le,xh,.int (p:Nat),xc])(h1:H le=some (.lst xs))(h2:Paired (EQ K H) es xs)(h3:es.length<=24)(h4:IsQ K H h xh)(h5:IsQ K H c xc)(h6:Hc B h c)(h7:(∀ z∈es,Pu D z.2))(h8:0<D)(h9:D*(2*B)<Lm)(h10:∀ H' l ys,Same H H'->H l=none->H' l=some (.lst ys)->Paired (EQ K H') (es.map (λz=>(z.1,cY h z.2 c))++[(p,us0 h c)]) ys->Q (.ref l) H'):spBeh K vs H Q _E
section
variable {P:gN}{w:ml}{K:Frag}{mg:Str->Option cX}{base:Heap}{a:Ad}
def iP(T:Txt K mg a){H:Hp}:IsQ K H 1 (.ref a.k_WHOLE):=⟨_,rfl,.inr T.t_WHOLE⟩
def nh(T:Txt K mg a){H:Hp}:IsQ K H 0 (.ref a.k_NOUGHT):=⟨_,rfl,.inr T.t_NOUGHT⟩
def Bo(T:Txt K mg a){H:Hp}:IsQ K H 2 (.ref a.k_TWICE):=⟨_,rfl,.inr T.t_TWICE⟩
def A0(T:Txt K mg a):FnX P w base 4 T.W_aw (spBoth K):=by
 refine T.W_aw.A.okz gv λX A m s H Z Q E f h=>?_
 .obtain⟨xu,xs,xh,xc,g,h,c,D,B,rfl,I,L,N,o,b,k,l,j,q⟩:=h
  refine⟨_,(af (psl 4 gv (pec (io T) f T.W_aG (aa (pec (jA T) f T.W_aP (aa (vr 2) (aa (vr 3) ae))) (aa (aU rfl T.g_WHOLE) ae)))) (af (psl 5 gv (pec (eK T) f T.W_aA (aa (vr 1) (aa (vr 3) ae)))) (ai (ap (eM (bK (aE (m8 T) f T.W_aL (aa (aU rfl T.g_NOUGHT) (aa (vr 4) ae)))) (pec (jA T) f T.W_aP (aa (vr 5) (aa (pec (eK T) f T.W_aA (aa (vr 0) (aa (vr 4) ae))) ae))) (vr 5)))))),fQ ?_⟩;intro Y C;obtain⟨G,W,k3⟩:=k.bk b.cB b.hB b.h1 b.c1;have p:=xB b.B0 j;have v:0<D*B:=JT l b.B0;refine⟨_,_,h,c,rfl,N,o,b.bh,b.bc,trivial,λH1 z1 S O=>?_⟩;refine⟨_,_,h+c,1,rfl,O,iP T,b.bs,bb1,trivial,λH2 z2 M y=>?_⟩;have d:=S.trans M;refine⟨_,_,g.2,c,rfl,L.same d,o.same d,k.2.1.bb l p,b.bc,trivial,λH3 z3 i x=>?_⟩;have e:=d.trans i;refine⟨_,_,0,h+c - 1,rfl,nh T,y.same i,bb0,b.bs1,?_⟩;refine ifC (λz=>?_) (λz=>?_)
  .have z:0<h+c - 1:=z
   refine⟨_,_,g.1,h+c - 1,rfl,I.same e,y.same i,k.1.bb l p,b.bs1,trivial,λH4 z4 r R=>?_⟩;refine⟨_,_,g.2*c,g.1*(h+c - 1),rfl,x.same r,R,G.bb v j,(W z).2.bb v j,trivial,λH5 z5 J F=>?_⟩;refine q _ _ (e.trans (r.trans J)) ?_;unfold bk;rw[if_pos z];exact F
  .have z:¬0<h+c - 1:=z
   refine q _ _ e ?_;unfold bk;rw[if_neg z];exact x
def AA(T:Txt K mg a):FnX P w base 4 T.W_al (spHeld K):=by
 refine T.W_al.A.okz iG λm A f s H p Q E d h=>?_
 .obtain⟨y,C,h,c,B,rfl,j,k,b,q⟩:=h
  refine⟨_,(af (psl 2 iG (pec (jA T) d T.W_aP (aa (vr 0) (aa (vr 1) ae)))) (ai (ap (eM (bK (aE (m8 T) d T.W_aL (aa (vr 2) (aa (aU rfl T.g_WHOLE) ae)))) (vr 2) (pec (io T) d T.W_aG (aa (vr 2) (aa (aU rfl T.g_WHOLE) ae))))))),fc ?_⟩;intro i;refine⟨_,_,h,c,rfl,j,k,b.bh,b.bc,trivial,λx r g e=>?_⟩;refine⟨_,_,h+c,1,rfl,e,iP T,b.bs,bb1,?_⟩;refine ifC (λz=>?_) (λz=>?_)
  .have z:h+c<1:=z
   refine q _ _ g ?_;unfold hb;rw[if_pos z];exact e
  .have z:¬h+c<1:=z
   refine⟨_,_,h+c,1,rfl,e,iP T,b.bs,bb1,trivial,λD v o l=>?_⟩;refine q _ _ (g.trans o) ?_;unfold hb;rw[if_neg z];exact l
def C2(T:Txt K mg a):FnX P w base 4 T.W_x (spBeh K):=by
 refine T.W_x.A.okz sc_x λb6 A bm s H vs Q E v h=>?_
 .obtain⟨le,xh,xc,p,h,c,es,xs,D,B,rfl,a7,hE,bA,hh,hc,b,hP,hD,a',q⟩:=h
  have br:sizeLine=16777216:=fE;refine⟨_,(af (psl 4 sc_x (pec (jA T) v T.W_aP (aa (vr 1) (aa (vr 3) ae)))) (af (aP (bK (aE (m8 T) v T.W_aL (aa (vr 4) (aa (aU rfl T.g_WHOLE) ae)))) (af (psr 5 sc_x (pec (lS T) v T.W_aQ (aa (vr 1) (aa (vr 4) ae)))) (af (b7 rfl (i:=6) sc_x.nd rfl rfl (by with_unfolding_all rfl) (N:=["one","up","sure","stays"]) (ix:=[none,none,none,some 5]) ay (aL (vr 0)) (aB λC s H fp=>⟨(bT (K:=K) (n:=3) rfl rfl (jH ["one","up","sure","stays"])),aM,(aG (aa (vr 0) (aa (pec (eK T) v T.W_aA (aa (vr 1) (aa (vr 3) ae))) (aa (vr 2) ae))))⟩)) (ai (ap (au gt (vr 6) (bn (aa (aG (aa (vr 2) (aa (pec (lS T) v T.W_aQ (aa (vr 3) (aa (vr 4) ae))) (aa (aU rfl T.g_NOUGHT) ae)))) ae))))))) aC) (af (psl 7 sc_x (pec (io T) v T.W_aG (aa (aU rfl T.g_TWICE) (aa (vr 4) ae)))) (af (psr 8 sc_x (pec (lS T) v T.W_aQ (aa (pec (io T) v T.W_aG (aa (aU rfl T.g_WHOLE) (aa (vr 3) ae))) (aa (vr 7) ae)))) (af (psr 9 sc_x (pec (lS T) v T.W_aQ (aa (pec (io T) v T.W_aG (aa (aU rfl T.g_WHOLE) (aa (vr 1) ae))) (aa (vr 7) ae)))) (af (b7 rfl (i:=6) sc_x.nd rfl rfl (by with_unfolding_all rfl) (N:=["one","up","sure","back","ahead"]) (ix:=[none,none,none,some 9,some 8]) ay (aL (vr 0)) (aB λC s H fp=>⟨(bT (K:=K) (n:=3) rfl rfl (jH ["one","up","sure","back","ahead"])),aM,(aG (aa (vr 0) (aa (pec (eK T) v T.W_aA (aa (vr 1) (aa (vr 3) ae))) (aa (pec (jA T) v T.W_aP (aa (vr 2) (aa (pec (eK T) v T.W_aA (aa (vr 1) (aa (vr 4) ae))) ae))) ae))))⟩)) (ai (ap (au gt (vr 6) (bn (aa (aG (aa (vr 2) (aa (vr 8) (aa (vr 9) ae)))) ae))))))))))),EL ?_⟩;intro b2 b9 b4 b5 b3 b1;obtain⟨TT,t0,t1,hT⟩:=b.step;have h0:=b.hB.1;have lD:D<Lm:=xB (show 0<2*B by have:=b.B0;lia) a';have lT:TT<Lm:=na t1 (EH b.B1);have bt:D*TT<Lm:=na (HN D t1) a';have bl:0<D*TT:=JT hD t0;have a2:xs.length=es.length:=(gp hE).symm;refine⟨_,_,h,c,rfl,hh,hc,b.bh,b.bc,trivial,λH1 z1 s1 q1=>?_⟩;refine⟨_,_,h+c,1,rfl,q1,iP T,b.bs,bb1,?_⟩
  have sp:0<h+c:=by have:=b.c0;grind
  refine ifC (λz=>?_) (λz=>?_)
  .have z:h+c<1:=z
   obtain⟨t2,t3⟩:=hT.1 z;refine⟨_,_,h,h+c,rfl,hh.same s1,q1,b.bh,b.bs,sp,λH2 z2 s2 q2=>?_⟩;have l:=s1.trans s2;have ab:=l _ _ a7;have bq:=aA (λz x (h:EQ K H z x)=>h.tk l.tk) hE;refine .inl ⟨⟨_,SqL.of ab⟩,λY I=>?_⟩
   let Pw1:PvL:=λi f j=>i<=xs.length/\Same H2 j/\j Y=some (.lst f)/\Paired (EQ K j) ((es.take i).map λz=>(z.1,cY h z.2 c)) f
   refine aD (K:=K) (a:=le) (xs:=xs) Pw1 ⟨ey _,Same.new I,ac,.nil⟩ (λi f j h=>SqL.of (h.2.1 _ _ ab)) (λi f j h=>h.2.2.1) ?_ ?_
   .rintro i y f j P' hy ⟨hi,R,W,d⟩ ah
    obtain⟨⟨o,O⟩,J,pp,u,sv,rfl,g1,g2,g3⟩:=aV (aA (λz x (h:EQ K H2 z x)=>h.tk R.tk) bq) hy;have al:i<xs.length:=(b_.mp hy).1;have m:=hP _ (eH J);have yl:f.length<=24:=by rw[<- gp d,a_,ki];lia
    refine⟨pp,_,rfl,SqT.of g1,rfl,_,_,rfl,_,_,rfl,_,_,rfl,rfl,⟨rfl,trivial⟩,?_⟩;refine⟨_,_,O.1,h/(h+c),rfl,g2,q2.same R,m.1.bb hD lD,t2.bb t0 lT,trivial,λH4 F M q4=>?_⟩;refine⟨(by show 3<=sizeLine;decide),λk e=>?_⟩;have S:=Same.new (o:=.tup [.int (o:Nat),F,sv]) e;have a3:=S _ _ (M _ _ W);have ne:k≠Y:=λz=>by rw[z,M _ _ W]at e;cases e
    have ad:TK H4 (upd (upd H4 k (.tup [.int (o:Nat),F,sv])) Y (.lst (f++[.ref k]))):=S.tk.trans (TK.lst a3);refine⟨a3,by lia,ah _ _ ⟨al,((R.trans M).trans S).put I,ac,?_⟩⟩;rw[j_,J,gn];refine cz ⟨k,F,sv,rfl,by rw[aq ne];exact ac,?_,?_⟩ (aA (λz x (h:EQ K j z x)=>(h.tk M.tk).tk ad) d)
    .show IsQ K _ (cY h O c).1 F;rw[oW z];exact q4.tk ad
    .show IsQ K _ (cY h O c).2 sv;rw[oW z];exact(g3.same M).tk ad
   .rintro f j ⟨_,R,W,d⟩
    rw[a2,A7]at d;have a0:=l.trans R;refine⟨_,_,c,h+c,rfl,hc.same a0,q1.same (s2.trans R),b.bc,b.bs,sp,λH4 F M q4=>?_⟩;refine⟨(by show 3<=sizeLine;decide),λk e=>?_⟩;have S:=Same.new (o:=.tup [.int (p:Nat),F,.ref a.k_NOUGHT]) e;refine⟨(by show 1<=sizeLine;decide),λl1 as=>?_⟩;have s6:=Same.new (o:=.lst [.ref k]) as;have r:=M.trans (S.trans s6);have yl:f.length<=24:=by rw[<- gp d,a_];lia
    refine⟨Y,l1,_,_,rfl,rfl,r _ _ W,ac,by simp;lia,λl2 L=>?_⟩;have G:=Same.new (o:=.lst (f++[.ref k])) L;have a8:=r.trans G;refine q _ l2 _ (a0.trans a8) ((a0.trans r).free L) ac ?_;refine cz ⟨k,F,_,rfl,(s6.trans G) _ _ ac,?_,?_⟩ (aA (λz x (h:EQ K j z x)=>h.tk a8.tk) d)
    .show IsQ K _ (us0 h c).1 F;rw[yu z];exact q4.same (S.trans (s6.trans G))
    .show IsQ K _ (us0 h c).2 _;rw[yu z];exact nh T
  .have z:¬h+c<1:=z
   obtain⟨t2,t3⟩:=hT.2 z;have a6:0<2 - (h+c):=by have:=b.h1;have:=b.c1;grind
   refine⟨_,_,2,h+c,rfl,Bo T,q1,bb2,b.bs,trivial,λH2 z2 s2 q2=>?_⟩;have l:=s1.trans s2;refine⟨_,_,1,c,rfl,iP T,hc.same l,bb1,b.bc,trivial,λH3 z3 R q3=>?_⟩;refine⟨_,_,1 - c,2 - (h+c),rfl,q3,q2.same R,b.b1c,b.bs2,a6,λH4 F M q4=>?_⟩;have a4:=l.trans (R.trans M);refine⟨_,_,1,h,rfl,iP T,hh.same a4,bb1,b.bh,trivial,λH5 z5 S q5=>?_⟩;refine⟨_,_,1 - h,2 - (h+c),rfl,q5,q2.same (R.trans (M.trans S)),b.b1h,b.bs2,a6,λH6 z6 s6 q6=>?_⟩;have r:=S.trans s6;have am:=a4.trans r;have qa:=q4.same r;have Z:=am _ _ a7;have bo:=aA (λz x (h:EQ K H z x)=>h.tk am.tk) hE;refine .inl ⟨⟨_,SqL.of Z⟩,λY I=>?_⟩
   let Pw2:PvL:=λi f j=>i<=xs.length/\Same H6 j/\j Y=some (.lst f)/\Paired (EQ K j) ((es.take i).map λz=>(z.1,cY h z.2 c)) f
   refine aD (K:=K) (a:=le) (xs:=xs) Pw2 ⟨ey _,Same.new I,ac,.nil⟩ (λi f j h=>SqL.of (h.2.1 _ _ Z)) (λi f j h=>h.2.2.1) ?_ ?_
   .rintro i y f j P' hy ⟨hi,G,X,d⟩ ah
    obtain⟨⟨o,O⟩,J,pp,u,sv,rfl,g1,g2,g3⟩:=aV (aA (λz x (h:EQ K H6 z x)=>h.tk G.tk) bo) hy;have al:i<xs.length:=(b_.mp hy).1;have m:=hP _ (eH J);have yl:f.length<=24:=by rw[<- gp d,a_,ki];lia
    refine⟨pp,_,rfl,SqT.of g1,rfl,_,_,rfl,_,_,rfl,_,_,rfl,rfl,⟨rfl,rfl,trivial⟩,?_⟩;refine⟨_,_,O.1,(1 - h)/(2 - (h+c)),rfl,g2,q6.same G,m.1.bb hD lD,t3.bb t0 lT,trivial,λH8 z8 s8 q8=>?_⟩;refine⟨_,_,O.1,(1 - c)/(2 - (h+c)),rfl,g2.same s8,qa.same (G.trans s8),m.1.bb hD lD,t2.bb t0 lT,trivial,λH9 z9 s9 q9=>?_⟩;refine⟨_,_,O.2,O.1*((1 - c)/(2 - (h+c))),rfl,g3.same (s8.trans s9),q9,m.2.1.bb hD lD,(m.1.mul t2).bb bl bt,trivial,λHA zA sA qA=>?_⟩;refine⟨(by show 3<=sizeLine;decide),λk e=>?_⟩;have g:=s8.trans (s9.trans sA);have sB:=Same.new (o:=.tup [.int (o:Nat),z8,zA]) e;have bd:=sB _ _ (g _ _ X);have ne:k≠Y:=λz=>by rw[z,g _ _ X]at e;cases e
    have an:TK HA (upd (upd HA k (.tup [.int (o:Nat),z8,zA])) Y (.lst (f++[.ref k]))):=sB.tk.trans (TK.lst bd);refine⟨bd,by lia,ah _ _ ⟨al,((G.trans g).trans sB).put I,ac,?_⟩⟩;rw[j_,J,gn];refine cz ⟨k,z8,zA,rfl,by rw[aq ne];exact ac,?_,?_⟩ (aA (λz x (h:EQ K j z x)=>(h.tk g.tk).tk an) d)
    .show IsQ K _ (cY h O c).1 z8;rw[oO z];exact(q8.same (s9.trans sA)).tk an
    .show IsQ K _ (cY h O c).2 zA;rw[oO z];exact qA.tk an
   .rintro f j ⟨_,G,X,d⟩
    rw[a2,A7]at d;have a5:=am.trans G;refine⟨(by show 3<=sizeLine;decide),λk e=>?_⟩;have s8:=Same.new (o:=.tup [.int (p:Nat),F,z6]) e;refine⟨(by show 1<=sizeLine;decide),λl1 as=>?_⟩;have s9:=Same.new (o:=.lst [.ref k]) as;have a1:=s8.trans s9;have yl:f.length<=24:=by rw[<- gp d,a_];lia
    refine⟨Y,l1,_,_,rfl,rfl,a1 _ _ X,ac,by simp;lia,λl2 L=>?_⟩;have sA:=Same.new (o:=.lst (f++[.ref k])) L;have g:=a1.trans sA;refine q _ l2 _ (a5.trans g) ((a5.trans a1).free L) ac ?_;refine cz ⟨k,F,z6,rfl,(s9.trans sA) _ _ ac,?_,?_⟩ (aA (λz x (h:EQ K j z x)=>h.tk g.tk) d)
    .show IsQ K _ (us0 h c).1 F;rw[yP z];exact qa.same (G.trans g)
    .show IsQ K _ (us0 h c).2 z6;rw[yP z];exact q6.same (G.trans g)
end
def ky(x y:Nat):List Key:=[.inl (x:Int),.inl (y:Int)]
def Cq{x y a b:Nat}(h:ky x y=ky a b):x=a/\y=b:=by
 unfold ky at h;simp at h;lia
def DF(K:Frag)(H:Hp)(kvs:List (List Key×V))(f:Fn):Prop:=∀ x y:Nat,(∀ v,f x y=some v->∃ z,dG kvs (ky x y)=some z/\IsQ K H v z)/\(f x y=none->dG kvs (ky x y)=none)
def DF.tk{K:Frag}{H a:Hp}{kvs:List (List Key×V)}{f:Fn}(k:TK H a)(h:DF K H kvs f):DF K a kvs f:=λx y=>⟨λv e=>let ⟨z,h1,h2⟩:=(h x y).1 v e;⟨z,h1,h2.tk k⟩,(h x y).2⟩
def DF.put{K:Frag}{H:Hp}{kvs:List (List Key×V)}{f:Fn}{x y:Nat}{v:Rat}{z:V}(h:DF K H kvs f)(d:IsQ K H v z):DF K H (dR kvs (ky x y) z) (uB f x y v):=λa b=>by
 rw[rQ]
 by_cases c:a=x/\b=y
 .obtain⟨rfl,rfl⟩:=c
  rw[if_pos rfl,zI];exact⟨(λv e=>by cases e;exact⟨z,rfl,d⟩),(λe=>by cases e)⟩
 .rw[if_neg (λe=>c (Cq e)),AE c]
  exact h a b
def TK.dT{H:Hp}{d:Addr}{kvs:List (List Key×V)}{o:HO}(h:H d=some (.dT kvs)):TK H (upd H d o):=λb a e=>by rw[aq (λz=>by rw[z,h]at e;cases e)];exact e
def EB{B i:Nat}(f:B<=1000000000)(d:i<=24):(2*B) ^ i*(2*B)<Lm:=by
 have a:2*B<=2 ^ 31:=by lia
 have c:(2*B) ^ i<=(2 ^ 31) ^ i:=Nat.pow_le_pow_left a i;have b:(2 ^ 31) ^ i<=(2 ^ 31) ^ 24:=Hy (by decide) d;have e:(2*B) ^ i*(2*B)<=(2 ^ 31) ^ 24*2 ^ 31:=Gm (mu c b) a;exact na e (by decide +kernel)
structure KtS(B:Nat)(L:List (Nat×Rat))(i:Nat)(S:Fn×Er×Rat):Prop where
 eq:S=(L.take i).foldl vU k0
 hB:Bq B S.2.2
 h1:S.2.2<1
 len:S.2.1.length=i
 D:∃ D,0<D/\D<=(2*B) ^ i/\∀ z∈S.2.1,Pu D z.2
def KtS.start{B:Nat}{L:List (Nat×Rat)}:KtS B L 0 k0:=⟨rfl,Bq.zero,by show(0:Rat)<1;grind,rfl,1,by decide,by simp,λz a=>by cases a⟩
def KtS.step{B:Nat}{L:List (Nat×Rat)}{i:Nat}{S:Fn×Er×Rat}{z:Nat×Rat}(k:KtS B L i S)(j:0<B)(g:B<=1000000000)(s:L[i]? = some z)(d:Bq B z.2)(a:Uns z.2):Hc B S.2.2 z.2/\KtS B L (i+1) (vU S z):=by
 have c:Hc B S.2.2 z.2:=⟨j,g,k.hB,d,k.h1,a.1,a.2⟩
 refine⟨c,?_,BS k.hB d k.h1 a.2,(EO k.hB.1 k.h1 a.1 a.2).2,?_,?_⟩
 .rw[j_,s,IQ,<- k.eq];rfl
 .show(S.2.1.map _++[_]).length=i+1
  rw[ir,a_,k.len];rfl
 .obtain⟨D,h,l,p⟩:=k.D
  obtain⟨T,r,o,e⟩:=c.step;refine⟨D*T,JT h r,?_,λy b=>?_⟩
  .rw[JD];exact Gm l o
  .have b:y∈S.2.1.map (λw=>(w.1,cY S.2.2 w.2 z.2))++[(z.1,us0 S.2.2 z.2)]:=b
   rcases ra.mp b with m | m
   .obtain⟨w,f,rfl⟩:=lz.mp m
    exact(p w f).step (B:=B) k.hB.1 k.h1 a.1 a.2 e
   .cases k_.mp m
    exact(Pu.new k.hB.1 k.h1 a.1 a.2 e).up D
inductive spKept(K:Frag)(vs:List V)(H:Hp)(Q:VK)(_E:XK):Prop
 | mk(lt:Addr)(xs:List V)(L:List (Nat×Rat))(B:Nat)(h0:vs=[.ref lt])(h1:H lt=some (.lst xs))(h2:Paired (PQ K H) L xs)(h3:L.length<=24)(h4:0<B)(h5:B<=1000000000)(h6:(∀ z∈L,Bq B z.2/\Uns z.2))(h7:∀ H' d kvs,Same H H'->H d=none->H' d=some (.dT kvs)->DF K H' kvs (uP L)->Q (.ref d) H'):spKept K vs H Q _E
section
variable {P:gN}{w:ml}{K:Frag}{mg:Str->Option cX}{base:Heap}{a:Ad}
def AR(T:Txt K mg a):FnX P w base 5 T.W_h (spKept K):=by
 refine T.W_h.A.okz sc_h λcs A bA s H vs Q E hr h=>?_
 .obtain⟨lt,xs,L,B,rfl,a',hL,b',B0,B1,hq,q⟩:=h
  have br:sizeLine=16777216:=fE;have bd:xs.length=L.length:=(gp hL).symm;refine⟨_,(af (psl 1 sc_h nH) (af (psl 2 sc_h (bn ae)) (af (psl 3 sc_h (aU rfl T.g_NOUGHT)) (af (cj kk rfl (aL (vr 0)) (bF rfl (av (ax (i:=4) sc_h.nd rfl (m_ rfl)) (av (ax (i:=5) sc_h.nd rfl (m_ rfl)) a9))) (af (cj kk rfl (aL (vr 2)) (bF rfl (av (ax (i:=6) sc_h.nd rfl (m_ rfl)) (av (ax (i:=7) sc_h.nd rfl (m_ rfl)) (av (ax (i:=8) sc_h.nd rfl (m_ rfl)) a9)))) (af (iS (eJ hr) (vr 1) (aG (aa (vr 6) (aa (vr 4) ae))) (pec (A0 T) hr T.W_aw (aa (vr 7) (aa (vr 8) (aa (vr 3) (aa (vr 5) ae))))) rfl) (ai (iS (eJ hr) (vr 1) (aG (aa (vr 4) (aa (vr 6) ae))) (gz (eJ hr) (vr 1) (aG (aa (vr 6) (aa (vr 4) ae))) (λ_ _=>rfl)) rfl)))) (af (psl 2 sc_h (pec (C2 T) hr T.W_x (aa (vr 2) (aa (vr 3) (aa (vr 4) (aa (vr 5) ae)))))) (ai (psl 3 sc_h (pec (AA T) hr T.W_al (aa (vr 3) (aa (vr 5) ae)))))))) (ai (ap (vr 1))))))),rf ?_⟩;intro cm co ch ca;intro d fd;have s1:=Same.new (o:=.dT []) fd;have a8:=ac (H:=H) (a:=d) (o:=.dT []);generalize upd H d (.dT [])=H1 at s1 a8;refine⟨ey _,λY ah=>?_⟩;have s2:=Same.new (o:=.lst []) ah;have an:=s1.trans s2;have C:=s2 _ _ a8;have al:=ac (H:=H1) (a:=Y) (o:=.lst []);have cC:H Y=none:=s1.free ah;generalize upd H1 Y (.lst [])=I at s2 an C al
  let Pw1:PvS:=λi N r=>∃(S:Fn×Er×Rat) (m:List (List Key×V)) (Z:Addr) (G:List V) (xh:V) (x4 x5 W X x8:Option V),KtS B L i S/\Same H r/\r d=some (.dT m)/\m.length<=48*i/\DF K r m S.1/\r Z=some (.lst G)/\Paired (EQ K r) S.2.1 G/\IsQ K r S.2.2 xh/\N=[some (.ref lt),some (.ref d),some (.ref Z),some xh,x4,x5,W,X,x8]
  refine .inl ⟨⟨_,SqL.of (an _ _ a')⟩,eV (K:=K) (a:=lt) (xs:=xs) Pw1
   ⟨k0,[],Y,[],_,none,none,none,none,none,KtS.start,an,C,ey _,(λx y=>⟨(λv e=>by cases e),λ_=>rfl⟩),al,.nil,nh T,rfl⟩ (λi N r _ h=>?_) ?_ ?_⟩
  .obtain⟨S,m,Z,G,xh,x4,x5,W,X,x8,k,sH,_⟩:=h
   exact SqL.of (sH _ _ a')
  .rintro i x N r hx ⟨S,m,Z,G,xh,x4,x5,W,X,x8,k,sH,hd,bt,hF,p,hE,hh,rfl⟩
   obtain⟨⟨g,c⟩,a1,pp,vc,rfl,g1,g2⟩:=aV (aA (λz x (h:PQ K H z x)=>h.tk sH.tk) hL) hx;have cA:i<L.length:=(b_.mp a1).1;obtain⟨bm,bo⟩:=hq _ (eH a1);obtain⟨hc,kn⟩:=k.step B0 B1 a1 bm bo;obtain⟨D,d0,d1,hP⟩:=k.D;have ab:D*(2*B)<Lm:=na (Nat.mul_le_mul_right _ d1) (EB B1 (by lia));have b3:D*B<Lm:=na (HN D (by lia)) ab;have bl:G.length=i:=by rw[<- gp hE];exact k.len
   refine⟨pp,_,rfl,SqT.of g1,rfl,_,_,rfl,_,_,rfl,rfl,?_⟩
   let Pw2:PvS:=λj N I=>∃(f:List (List Key×V)) (W X x8:Option V),(∀ b o,b≠d->r b=some o->I b=some o)/\I d=some (.dT f)/\f.length<=48*i+2*j/\DF K I f (zi g S.2.2 c (S.2.1.take j) S.1)/\N=[some (.ref lt),some (.ref d),some (.ref Z),some xh,some (.int (g:Nat)),some vc,W,X,x8]
   refine .inl ⟨⟨_,SqL.of p⟩,eV (K:=K) (a:=Z) (xs:=G) Pw2
    ⟨m,_,_,_,(λb o _ e=>e),hd,by lia,by rw[Hi];exact hF,rfl⟩ (λj N I _ h=>?_) ?_ ?_⟩
   .obtain⟨f,W,X,x8,kp,_⟩:=h
    exact SqL.of (kp _ _ (λz=>by rw[z,hd]at p;cases p) p)
   .rintro j y N I hy ⟨f,W,X,x8,kp,C,b9,R,rfl⟩
    have l:TK r I:=λb us e=>kp _ _ (λz=>by rw[z,hd]at e;cases e) e
    obtain⟨⟨o,us⟩,a2,pe,u,sv,rfl,e1,e2,e3⟩:=aV (aA (λz x (h:EQ K r z x)=>h.tk l) hE) hy;have ct:j<G.length:=(b_.mp hy).1;refine⟨pe,_,rfl,SqT.of e1,rfl,_,_,rfl,_,_,rfl,_,_,rfl,rfl,?_⟩;refine⟨_,_,_,_,us,S.2.2,c,D,B,rfl,e2,e3,hh.tk l,g2.tk l,hc,hP _ (eH a2),d0,b3,λH3 F s3 qb=>?_⟩;refine⟨cM _ _,λk1 bq=>?_⟩;have J:=Same.new (o:=.tup [.int (o:Nat),.int (g:Nat)]) bq;have M:=(s3.trans J) _ _ C;have a6:=ac (H:=H3) (a:=k1) (o:=.tup [.int (o:Nat),.int (g:Nat)]);generalize upd H3 k1 (.tup [.int (o:Nat),.int (g:Nat)])=H4 at J M a6;refine⟨d,_,rfl,.inr ⟨f,ky o g,k1,M,rfl,a6,by lia,rfl⟩,?_⟩;have a4:=((R.tk (s3.trans J).tk).put (x:=o) (y:=g) (qb.same J)).tk (TK.dT (o:=.dT (dR f (ky o g) F)) M);have a3:IsQ K (upd H4 d (.dT (dR f (ky o g) F))) (bk us S.2.2 c) F:=(qb.same J).tk (TK.dT M);have a7:=ac (H:=H4) (a:=d) (o:=.dT (dR f (ky o g) F));have k5:∀ b o',b≠d->r b=some o'->(upd H4 d (.dT (dR f (ky o g) F))) b=some o':=λb o' n e=>by rw[aq n];exact(s3.trans J) _ _ (kp _ _ n e)
    generalize upd H4 d (.dT (dR f (ky o g) F))=H5 at a4 a3 a7 k5;have cb:=eZ f (ky o g) F;refine⟨cM _ _,λk2 b4=>?_⟩;have s6:=Same.new (o:=.tup [.int (o:Nat),.int (g:Nat)]) b4;have ad:=ac (H:=H5) (a:=k2) (o:=.tup [.int (o:Nat),.int (g:Nat)]);have a0:=s6 _ _ a7;generalize upd H5 k2 (.tup [.int (o:Nat),.int (g:Nat)])=H6 at s6 ad a0;refine⟨d,F,rfl,.inr ⟨_,ky o g,k2,.inl a0,rfl,ad,by rw[rQ,if_pos rfl]⟩,?_⟩;refine⟨cM _ _,λk3 b2=>?_⟩;have s7:=Same.new (o:=.tup [.int (g:Nat),.int (o:Nat)]) b2;have a5:=ac (H:=H6) (a:=k3) (o:=.tup [.int (g:Nat),.int (o:Nat)]);have as:=s7 _ _ a0;have O:=s6.trans s7;generalize upd H6 k3 (.tup [.int (g:Nat),.int (o:Nat)])=H7 at s7 a5 as O;refine⟨d,_,rfl,.inr ⟨_,ky g o,k3,as,rfl,a5,by lia,rfl⟩,?_⟩;have cB:=eZ (dR f (ky o g) F) (ky g o) F;refine⟨_,_,_,_,(λb o' n e=>by rw[aq n];exact O _ _ (k5 _ _ n e)),ac,by lia,?_,rfl⟩
    have b6:zi g S.2.2 c (S.2.1.take (j+1)) S.1=uB (uB (zi g S.2.2 c (S.2.1.take j) S.1) o g (bk us S.2.2 c)) g o (bk us S.2.2 c):=by
     rw[j_,a2];unfold zi;rw[IQ];rfl
    rw[b6];exact((a4.tk O.tk).put (x:=g) (y:=o) (a3.same O)).tk (TK.dT as)
   .rintro N I ⟨f,W,X,x8,kp,C,b9,R,rfl⟩
    have eT:S.2.1.take G.length=S.2.1:=by rw[bl,<- k.len,A7]
    rw[eT]at R;have l:TK r I:=λb us e=>kp _ _ (λz=>by rw[z,hd]at e;cases e) e
    have b5:Z≠d:=λz=>by rw[z,hd]at p;cases p
    have b1:Same H I:=λb o e=>kp _ _ (ar e fd) (sH _ _ e)
    refine⟨Z,_,_,g,S.2.2,c,S.2.1,G,D,B,rfl,kp _ _ b5 p,aA (λz x (h:EQ K r z x)=>h.tk l) hE,by rw[k.len];lia,hh.tk l,g2.tk l,hc,hP,d0,ab,λH3 l3 es3 s3 f3 h3 hE3=>?_⟩;refine⟨_,_,S.2.2,c,B,rfl,(hh.tk l).same s3,(g2.tk l).same s3,hc,λH4 z4 J q4=>?_⟩;have am:=s3.trans J;exact⟨vU S (g,c),f,l3,es3,z4,_,_,_,_,_,kn,b1.trans am,am _ _ C,by lia,R.tk am.tk,J _ _ h3,aA (λz x (h:EQ K H3 z x)=>h.tk J.tk) hE3,q4,rfl⟩
  .rintro N r ⟨S,m,Z,G,xh,x4,x5,W,X,x8,k,sH,hd,bt,hF,p,hE,hh,rfl⟩
   have eS:=k.eq;rw[bd,A7]at eS;rw[eS]at hF;exact q _ d m sH fd hd hF
end
end My
namespace Tb
open FrM Du
inductive Tr where
 | leaf (ns:List Int)
 | die (ps:List (Int×Tr))
def tot(ps:List (Int×Tr)):Int:=(ps.map (·.1)).sum
mutual
def lv:Tr->Nat
 | .leaf _=>1
 | .die ps=>lvs ps
def lvs:List (Int×Tr)->Nat
 | []=>0
 | (_,u)::r=>lv u+lvs r
end
mutual
def sz:Tr->Nat
 | .leaf _=>1
 | .die ps=>szs ps+1
def szs:List (Int×Tr)->Nat
 | []=>0
 | (_,u)::r=>sz u+szs r
end
mutual
def Ok:Tr->Prop
 | .leaf ns=>ns.Nodup/\ns.length<=24
 | .die ps=>ps≠[]/\Oks ps
def Oks:List (Int×Tr)->Prop
 | []=>True
 | (m,u)::r=>1<=m/\Ok u/\Oks r
end
abbrev Way:=List Int×(Int×Int)
mutual
def wl:Tr->Int->Int->List Way
 | .leaf ns,t,b=>[(ns,(t,b))]
 | .die ps,t,b=>wls ps t b (tot ps)
def wls:List (Int×Tr)->Int->Int->Int->List Way
 | [],_,_,_=>[]
 | (m,u)::r,t,b,S=>wls r t b S++wl u (t*m) (b*S)
end
def so(l:List Int):List Int:=l.mergeSort (λa b=>decide (a<=b))
def so_perm(l:List Int):(so l).Perm l:=List.mergeSort_perm l _
def Df(l:List Int):(so l).Pairwise (·<=·):=by
 have h:=List.pairwise_mergeSort (le:=λ(a b:Int)=>decide (a<=b)) (by intro a b c h1 h2;simp at *;lia) (by intro a b;simp;lia) l;exact h.imp λh=>by simpa using h
theorem vR:∀{a b:List Int},a.Perm b->a.Pairwise (·<=·)->b.Pairwise (·<=·)->a=b
 | [],b,p,_,_=>(List.nil_perm.mp p).symm ▸ rfl
 | x::a,[],p,_,_=>absurd p.length_eq (by simp)
 | x::a,y::b,p,h1,h2=>by
  rw[J4]at h1 h2
  have e:x=y:=by
   have c:x∈y::b:=p.mem_iff.mp ft;have d:y∈x::a:=p.mem_iff.mpr ft
   rcases i_.mp c with z | z
   .exact z
   .rcases i_.mp d with z' | z'
    .exact z'.symm
    .have:=h2.1 x z
     have:=h1.1 y z';lia
  subst e;rw[vR (List.perm_cons x |>.mp p) h1.2 h2.2]
def so_uniq{a l:List Int}(h:a.Perm l)(s:a.Pairwise (·<=·)):a=so l:=vR (h.trans (so_perm l).symm) s (Df l)
def fT:List Int->Nat->List Int->Tr
 | [],_,t=>.leaf t
 | x::r,w,t=>if w=0 then .leaf t else if r.length+1<=w then .leaf (t++x::r) else .die [((w:Int),fT r (w - 1) (t++[x])),((r.length:Int)+1 - (w:Int),fT r w t)]
def lT:List (Int×(Int×Int))->List Int->Tr
 | [],t=>.leaf t
 | (p,c)::r,t=>.die [(c.1,lT r (t++[p])),(c.2 - c.1,lT r t)]
def fT_zero(l t:List Int):fT l 0 t=.leaf t:=by cases l <;> rfl
def fT_all{l t:List Int}{w:Nat}(h:l.length<=w):fT l w t=.leaf (if w=0 then t else t++l):=by
 cases l with
 | nil=>unfold fT;split <;> simp
 | cons x r =>
  unfold fT
  by_cases c:w=0
  .rw[if_pos c,if_pos c]
  .rw[if_neg c,if_neg c,if_pos (by rw[f_]at h;exact h)]
def fT_die{l t:List Int}{w:Nat}(a:0<w)(h:w<l.length):fT l w t=.die [((w:Int),fT (l.drop 1) (w - 1) (t++l.take 1)),((l.length:Int) - (w:Int),fT (l.drop 1) w t)]:=by
 cases l with
 | nil=>exact absurd h (Nat.not_lt_zero w)
 | cons x r =>
  rw[f_]at h
  conv=>lhs;unfold fT
  rw[if_neg (by lia),if_neg (by lia),f_];rfl
end Tb
namespace Nst
open FrM Du Tb
abbrev Mb:=Int×Int×List Ho
def plc(ms:List Mb):List Int:=ms.map (·.1)
def szs(ms:List Mb):List Int:=ms.map (·.2.1)
def hd(m:Mb):Ho:=m.2.2.headD ⟨#[]⟩
def tl(m:Mb):Mb:=(m.1,m.2.1,m.2.2.tail)
def Eh:List (Ho×List Mb)->Ho->Mb->List (Ho×List Mb)
 | [],n,m=>[(n,[m])]
 | (k,l)::r,n,m=>if k=n then (k,l++[m])::r else (k,l)::Eh r n m
def Cv(ms:List Mb):List (Ho×List Mb):=ms.foldl (λgs m=>Eh gs (hd m) (tl m)) []
def parts(ms:List Mb):List (List Mb):=(Cv ms).map (·.2)
inductive Lf:Tr->List Int->Prop
 | leaf (ns:List Int):Lf (.leaf ns) ns
 | die {ps:List (Int×Tr)}{m:Int}{u:Tr}{ns:List Int}:(m,u)∈ps->Lf u ns->Lf (.die ps) ns
def dF:List (Int×Tr)->Int->Option Tr
 | [],_=>none
 | (m,t)::r,k=>if k<m then some t else dF r (k - m)
theorem c7:∀{ps:List (Int×Tr)}{t:Int}{u:Tr},dF ps t=some u->∃ m,(m,u)∈ps
 | [],_,_,h=>by cases h
 | (m,v)::r,t,u,h=>by
  unfold dF at h
  by_cases c:t<m
  .rw[if_pos c]at h
   cases h;exact⟨m,ft⟩
  .rw[if_neg c]at h
   obtain⟨a,b⟩:=c7 h;exact⟨a,fy _ b⟩
inductive Pl
 | few (m:Nat)
 | start (s:Nat)
 | loose (m:Nat)
 | each (p:Pl)
 | first (p q:Pl)
def uns(f:Int×Int):Bool:=decide (0<f.1/\f.1<f.2)
abbrev Tl:=List (Int×(Int×Int))
def lsL(ms:List Mb)(m:Nat):Tl:=(plc ms).zip (due (szs ms) (m:Nat))
def fX(L:Tl):List Int:=(L.filter λx=>decide (x.2=(1,1))).map (·.1)
def j9(L:Tl):Tl:=L.filter λx=>uns x.2
def Fq:Pl->Prop
 | .few m=>m<=24
 | .start s=>1<=s/\s<=100
 | .loose m=>m<=24
 | _=>False
def ht:Nat->Pl->Prop
 | _,.few m=>m<=24
 | _,.start s=>1<=s/\s<=100
 | _,.loose m=>m<=24
 | n+1,.each p=>ht n p
 | n+1,.first p q=>Fq p/\ht n q
 | 0,_=>False
end Nst
namespace Nst
open FrM Du Tb PySem
def l8{a b:List Int}(h:Lf (.leaf a) b):b=a:=by cases h;rfl
theorem xR:∀{l:List Int}{w:Nat}{t ns:List Int},Lf (fT l w t) ns->∃ s:List Int,s.Sublist l/\ns=t++s/\s.length=min w l.length
 | [],w,t,ns,h=>⟨[],.slnil,by rw[y_];exact l8 h,by simp⟩
 | x::r,w,t,ns,h=>by
  unfold fT at h
  by_cases c:w=0
  .rw[if_pos c]at h
   exact⟨[],List.nil_sublist _,by rw[y_];exact l8 h,by subst c;simp⟩
  .rw[if_neg c]at h
   by_cases d:r.length+1<=w
   .rw[if_pos d]at h
    exact⟨x::r,List.Sublist.refl _,l8 h,by rw[f_];lia⟩
   .rw[if_neg d]at h
    cases h with
    | die hm hu =>
     rcases i_.mp hm with e | hm
     .cases e
      obtain⟨s,f,b,a⟩:=xR hu;exact⟨x::s,f.cons_cons x,by rw[b,append_assoc];rfl,by rw[f_,a,f_];lia⟩
     .cases k_.mp hm
      obtain⟨s,f,b,a⟩:=xR hu;exact⟨s,f.cons x,b,by rw[a,f_];lia⟩
theorem zc:∀{L:Tl}{t ns:List Int},Lf (lT L t) ns->∃ s:List Int,s.Sublist (L.map (·.1))/\ns=t++s
 | [],t,ns,h=>⟨[],.slnil,by rw[y_];exact l8 h⟩
 | (p,c)::r,t,ns,h=>by
  unfold lT at h;cases h with
  | die hm hu =>
   rcases i_.mp hm with e | hm
   .cases e
    obtain⟨s,b,a⟩:=zc hu;exact⟨p::s,b.cons_cons p,by rw[a,append_assoc];rfl⟩
   .cases k_.mp hm
    obtain⟨s,b,a⟩:=zc hu;exact⟨s,b.cons p,a⟩
theorem d6:∀(ps:List (Int×Tr)) (k:Nat) (t m:Int) (u:Tr),(∀ p∈ps,0<=p.1)->ps[k]? = some (m,u)->tot (ps.take k)<=t->t<tot (ps.take (k+1))->dF ps t=some u
 | [],k,t,m,u,_,h,_,_=>by simp at h
 | (m0,u0)::r,0,t,m,u,c,h,h0,h1=>by
  simp at h;obtain⟨rfl,rfl⟩:=h;unfold dF;rw[if_pos (by simpa[tot] using h1)]
 | (m0,u0)::r,k+1,t,m,u,c,h,h0,h1=>by
  have f:tot (((m0,u0)::r).take (k+1))=m0+tot (r.take k):=by simp[tot]
  have g:tot (((m0,u0)::r).take (k+1+1))=m0+tot (r.take (k+1)):=by simp[tot]
  have d:∀(l:List (Int×Tr)),(∀ p∈l,0<=p.1)->0<=tot l:=λl=>by
   induction l with
   | nil=>intro _;simp[tot]
   | cons x l ih =>
    intro h;have a:=h x (ft ..);have b:=ih λp c=>h p (fy _ c)
    have:tot (x::l)=x.1+tot l:=by simp[tot]
    omega
  have e:=d (r.take k) λp h=>c p (fy _ (JL h))
  unfold dF;rw[if_neg (by omega)];exact d6 r k (t - m0) m u (λp h=>c p (fy _ h)) (by simpa using h) (by omega) (by omega)
def cN{ps:List (Int×Tr)}{k:Nat}{m:Int}{u:Tr}(h:ps[k]? = some (m,u)):tot (ps.take (k+1))=tot (ps.take k)+m:=by
 rw[j_,h];simp[tot]
end Nst
namespace Du
def rY(qs:List Rat)(f:Fn)(i j:Nat):Rat:=if i=j then qs.getD i 0 else (f i j).getD (qs.getD i 0*qs.getD j 0)
def ET(qs:List Rat)(ord:List Nat):List (Nat×Rat):=ord.map λo=>(o,qs.getD o 0)
def oh(qs:List Rat)(ord:List Nat):List (Nat×Rat):=(ET qs ord).filter λz=>rX z.2
end Du
namespace Du
open FrM
def den_mul(q:Rat):q*(q.den:Rat)=(q.num:Rat):=by
 have h:(q.num:Rat)/(q.den:Rat)=q:=by have:=HZ q;rw[Gn]at this;exact this
 have a:(q.den:Rat)≠0:=by exact_mod_cast q.den_nz
 generalize (q.den:Rat)=d at *;generalize (q.num:Rat)=n at *
 grind
end Du
namespace FrM
open Du
def u7{u b:Int}(g:0<=u)(f:u<=b)(i:0<b):Bq b.toNat ((u:Rat)/(b:Rat)):=by
 have e:((b.toNat:Nat):Rat)=(b:Rat):=by
  have:((b.toNat:Nat):Int)=b:=by lia
  rw[<- this];rfl
 have d:((u.toNat:Nat):Rat)=(u:Rat):=by
  have:((u.toNat:Nat):Int)=u:=by lia
  rw[<- this];rfl
 have a:(0:Rat)<(b:Rat):=by exact_mod_cast i
 have c:(0:Rat)<=(u:Rat):=by exact_mod_cast g
 have h:(u:Rat)<=(b:Rat):=by exact_mod_cast f
 refine⟨qw c a,?_,u.toNat,?_⟩
 .have:=qw (show(0:Rat)<=(b:Rat) - (u:Rat) by grind) a
  grind
 .rw[e,d]
  grind
structure Due(z:List Int)(m:Int)(B:Nat)(qs:List Rat):Prop where
 B0:0<B
 B1:B<=1000000000
 len:qs.length=z.length
 eq:qs.map fr=due z m
 bq:∀ q∈qs,Bq B q
 fr:∀ f∈due z m,Fr (B:Int) f
 nice:∀ f∈due z m,ur f
 sum:((due z m).map (un (B:Int))).sum=(if (z.length:Int)<=m then (z.length:Int) else m)*(B:Int)
def zM{z:List Int}{m:Int}(s:∀ k,k<z.length->1<=sz z k)(v:∀ k,k<z.length->sz z k<=24000000)(y:z.length<=24)(o:0<=m)(j:m<=24):∃ B qs,Due z m B qs:=by
 obtain⟨S,N,c,J,L,_⟩:=Bi s v y o j;have w:=CQ s v y o;have G:=bD z m;have E:((S.toNat:Nat):Int)=S:=by have:=c.pos;lia
 have i:=c.pos
 have a:∀ k p,(due z m)[k]? = some p->Fr S p/\un S p=N k/\p=Du.fr ((N k:Rat)/(S:Rat))/\0<=N k/\N k<=S:=λk p A=>by
  have f:=w p (eH A);have l:=J k p A;have x:p.2 ∣ S:=jx l.cop ⟨N k,by rw[l.eq,oD]⟩;have H:=f.pos
  have C:un S p=N k:=by
   refine A4 (show p.2≠0 by lia) ?_;unfold un;rw[uc,HM x];exact l.eq
  refine⟨⟨f.lo,f.hi,f.pos,x⟩,C,by rw[<- low_div _ i];exact DI i l,?_,?_⟩
  .rw[<- C];unfold un
   exact Int.mul_nonneg f.lo (K0 (by lia) (by lia))
  .have I:p.1*S=N k*p.2:=l.eq
   have F:p.1*S<=p.2*S:=Gx f.hi (by lia);rw[I,oD p.2]at F;exact Ja F H
 have at_:∀ k (h:k<z.length),(due z m)[k]? = some ((due z m)[k]'(by lia)):=λk h=>c_ (by lia)
 refine⟨S.toNat,(g0 z.length).map λk=>(N k:Rat)/(S:Rat),?_⟩;refine⟨by lia,by lia,by rw[a_,py],?_,?_,?_,?_,?_⟩
 .apply ext_getElem
  .simp[G]
  .intro k r D
   rw[Gq,Gq,Iu];exact(a k _ (c_ D)).2.2.1.symm
 .intro q K
  obtain⟨k,b,rfl⟩:=lz.mp K;have b:=vV.mp b;have:=a k _ (at_ k b);exact u7 this.2.2.2.1 this.2.2.2.2 i
 .intro f d
  obtain⟨k,b⟩:=ro d;rw[E];exact(a k f b).1
 .intro f d
  have g:=w f d
  by_cases hu:uns f=true
  .exact .inl hu
  .rcases g.ends (λz=>hu (decide_eq_true z)) with e | e
   .exact .inr (.inl e)
   .exact .inr (.inr (by rw[e]))
 .rw[E,<- c.all]
  congr 1
  apply ext_getElem
  .simp[G]
  .intro k r D
   rw[Gq,Gq,Iu];exact(a k _ (c_ (by simpa using r))).2.1
def tlR(sh:List (Int×Int)):Tl:=(g0 sh.length).map λ(o:Nat)=>((o:Int),sh.getD o (0,1))
def AH(B:Int)(a:List (Int×Int)):wt B (tlR a) []=(a.map (un B)).sum:=by
 unfold wt tlR;rw[map_map];simp only[Hw,Int.natCast_zero,Int.mul_zero,Int.add_zero]
 congr 1
 apply ext_getElem
 .simp
 .intro k d c
  rw[Gq,Gq,Iu];have b:k<a.length:=by simpa using c
  simp[rd,b]
def pY{b:List (Int×Int)}{x:Int×(Int×Int)}(h:x∈tlR b):x.2∈b:=by
 obtain⟨k,a,rfl⟩:=lz.mp h;have a:=vV.mp a;simp[rd,a]
def y6{z:List Int}{m:Int}{B:Nat}{e:List Rat}(D:Due z m B e)(c:z.length<=24){rows:List (Int×Int×Int)}{a:List Int}(h:mK (sett (tlR (due z m)) []).1 (sett (tlR (due z m)) []).2 rows a):(a.length:Int)=if (z.length:Int)<=m then (z.length:Int) else m:=by
 have d:(0:Int)<(B:Int):=by have:=D.B0;lia
 refine rm d rows _ _ a _ h (j3 ⟨λx b=>D.fr _ (pY b),?_⟩) ?_
 .unfold tlR;simp[bD,c]
 .rw[vd _ _ λx b=>D.nice _ (pY b),AH,D.sum]
def mU(tl:Tl)(tk:List Int):(∀ x∈(sett tl tk).2,x∈tk\/x∈tl.map (·.1))/\∀ x∈(sett tl tk).1.map (·.1),x∈tl.map (·.1):=by
 refine⟨λx b=>?_,λx b=>?_⟩
 .rcases ra.mp b with h | h
  .exact .inl h
  .obtain⟨y,a,rfl⟩:=lz.mp h
   exact .inr (lz.mpr ⟨y,(mN.mp a).1,rfl⟩)
 .obtain⟨y,a,rfl⟩:=lz.mp b
  exact lz.mpr ⟨y,(mN.mp a).1,rfl⟩
def xP(b:Bool)(tl:Tl)(tk:List Int):(∀ x∈(nx b tl tk).2,x∈tk\/x∈tl.map (·.1))/\∀ x∈(nx b tl tk).1.map (·.1),x∈tl.map (·.1):=by
 match tl with
 | []=>exact⟨λx a=>.inl a,λx a=>a⟩
 | [(p,c)] =>
  cases b
  .exact⟨λx a=>.inl a,λx a=>by cases a⟩
  .refine⟨λx a=>?_,λx a=>by cases a⟩
   rcases ra.mp (show x∈tk++[p] from a) with h | h
   .exact .inl h
   .exact .inr h
 | (p,c)::(o,e)::r=>exact mU ((p,(par b c e).1)::(o,(par b c e).2)::r) tk
theorem rk:∀(rows:List (Int×Int×Int)) (tl:Tl) (tk kept:List Int),mK tl tk rows kept->∀ x∈kept,x∈tk\/x∈tl.map (·.1)
 | [],tl,tk,kept,h,x,hx=>by obtain⟨rfl,rfl⟩:=h;exact .inl hx
 | (a,b,t)::r,tl,tk,kept,h,x,hx=>by
  obtain⟨_,_,_,_,_,c⟩:=h
  rcases rk r _ _ kept c x hx with z | z
  .exact(xP _ _ _).1 x z
  .exact .inr ((xP _ _ _).2 x z)
def z7{b:List (Int×Int)}{rows:List (Int×Int×Int)}{a:List Int}(h:mK (sett (tlR b) []).1 (sett (tlR b) []).2 rows a):∀ x∈a,0<=x/\x.toNat<b.length:=λx e=>by
 have c:x∈(tlR b).map (·.1):=by
  rcases rk rows _ _ a h x e with z | z
  .rcases(mU _ _).1 x z with z | z
   .cases z
   .exact z
  .exact(mU _ _).2 x z
 obtain⟨y,f,rfl⟩:=lz.mp c;obtain⟨k,d,rfl⟩:=lz.mp f;exact⟨Int.natCast_nonneg _,by simpa using d⟩
end FrM
namespace Nd
open PySem Nst
open Tb (so)
def Dt{B:Nat}{q:Rat}(a:0<B)(h:Du.Bq B q):q.den ∣ B:=by
 obtain⟨_,_,n,e⟩:=h;have c:(B:Rat)≠0:=by intro z;have:B=0:=(by exact_mod_cast z);lia
 have b:q=mkRat (n:Int) B:=Du.eq_mk a e;rw[b];have:=Rat.den_mkRat (n:Int) B;rw[this,if_neg (by lia)];exact Nat.div_dvd_of_dvd (KN _ _)
def wP{B:Nat}{q:Rat}(a:0<B)(h:Du.Bq B q):q.den<=B:=Nat.le_of_dvd a (Dt a h)
end Nd
namespace Nd
open PySem Nst FrM
structure OkQ(b:Nat)(q:Rat):Prop where
 lo:0<=q
 hi:q<=1
 den:q.den<2 ^ b
def pS{q:Rat}(d:0<=q)(b:q<=1):q.num.natAbs<=q.den:=by
 have c:(0:Rat)<(q.den:Rat):=by exact_mod_cast q.den_pos
 have e:q*(q.den:Rat)=(q.num:Rat):=Du.den_mul q;have a:=Rat.mul_le_mul_of_nonneg_right b (Rat.le_of_lt c);rw[e,Rat.one_mul]at a;have f:q.num<=(q.den:Int):=by exact_mod_cast a
 have g:0<=q.num:=Rat.num_nonneg.mpr d;lia
def OkQ.bb{b:Nat}{q:Rat}(h:OkQ b q)(a:b<=1000:=by decide):Du.Bb q:=by
 have e:=pS h.lo h.hi;have d:=h.den;have c:2 ^ b<=2 ^ 1000:=Hy (by decide) a;unfold Du.Bb Bt
 constructor <;> lia
def pe(e:Int->Int->Rat)(ms:List Mb)(i j:Nat):Rat:=e ((plc ms).getD i 0) ((plc ms).getD j 0)
def eFn(n w:Nat)(i j:Nat):Rat:=if i=j then (w:Rat)/(n:Rat) else (w:Rat)*((w:Rat) - 1)/((n:Rat)*((n:Rat) - 1))
def eLn(qs:List Rat)(i j:Nat):Rat:=if i=j then qs.getD i 0 else qs.getD i 0*qs.getD j 0
end Nd
namespace Nd
open FrM
def vB{n w i j:Nat}(h:0<(if i=j then (n:Int) else (n:Int)*((n:Int) - 1))):c5 (if i=j then (w:Int) else (w:Int)*((w:Int) - 1)) (if i=j then (n:Int) else (n:Int)*((n:Int) - 1))=Du.fr (eFn n w i j):=by
 rw[Du.low_div _ h];unfold eFn
 by_cases e:i=j
 .rw[if_pos e,if_pos e,if_pos e];rfl
 .rw[if_neg e,if_neg e,if_neg e]
  congr 1
  push_cast
  rfl
end Nd
namespace My
open PySem L2 FrM Du Nd
open Nst (Mb plc szs)
def IsLam(H:Hp)(d:LamD)(fv:List Str)(v:V)(vals:List V):Prop:=∃ f c clos,v=.ref f/\H f=some (.ext (kG f d clos c))/\H c=some (.ext (ii c d.qual))/\clos.map (·.1)=fv/\(clos.map (·.2)).Nodup/\CellsAt H clos vals
theorem dZ{H a:Hp}(s:SameT H a):∀{clos:List (Str×Addr)}{vals:List V},CellsAt H clos vals->CellsAt a clos vals
 | _,_,.nil=>.nil
 | _,_,.cons r t=>.cons (s.at r) (dZ s t)
def IsLam.t{H g:Hp}{d:LamD}{e:List Str}{v:V}{a:List V}(s:SameT H g)(h:IsLam H d e v a):IsLam g d e v a:=by
 obtain⟨f,c,b,j,k,i,o,l,m⟩:=h;exact⟨f,c,b,j,s.at k,s.at i,o,l,dZ s m⟩
def sqO:HO->Bool
 | .lst _=>true
 | .tup _=>true
 | _=>false
def SQ(H H':Hp):Prop:=∀ b o,sqO o=true->H b=some o->H' b=some o
def SQ.of{H a:Hp}(s:SameT H a):SQ H a:=λb o c e=>s.at e (by cases o <;> first | rfl | cases c)
def SQ.un{H:Hp}{a:List (Str×Addr)}{d:List V}(f:CellsAt H a d):SQ H (untrs H (a.map (·.2))):=λb o c e=>bC f e λv z=>by rw[z]at c;cases c
def SQ.tk{H a:Hp}(s:SQ H a):TK H a:=λb c e=>s b _ rfl e
def rB{H d c:Hp}{a:List (Str×Addr)}(s:Same (untrs H (a.map (·.2))) d)(h:Same d c)(f:∀ p∈a,c p.2=H p.2):Same H c:=λb o e=>by
 by_cases hb:b∈a.map (·.2)
 .obtain⟨p,g,rfl⟩:=lz.mp hb
  rw[f p g];exact e
 .exact h _ _ (s b o (by rw[bI hb];exact e))
abbrev RE:=Nat->Nat->Int×Int->Prop
def RowM(K:Frag)(R:RE)(H:Hp)(n i:Nat)(x:V):Prop:=∃ r es,x=.ref r/\H r=some (.lst es)/\es.length=n/\∀(j:Nat) y,es[j]? = some y->∃ f,IsF K H f y/\R i j f
def Mx(K:Frag)(R:RE)(H:Hp)(n:Nat)(v:V):Prop:=∃ l rows,v=.ref l/\H l=some (.lst rows)/\rows.length=n/\∀(i:Nat) x,rows[i]? = some x->RowM K R H n i x
def RowM.q{K:Frag}{R:RE}{H a:Hp}{n i:Nat}{x:V}(s:SQ H a)(h:RowM K R H n i x):RowM K R a n i x:=by
 obtain⟨r,d,g,l,c,m⟩:=h;refine⟨r,d,g,s _ _ rfl l,c,λj y e=>?_⟩;obtain⟨f,k,b⟩:=m j y e;exact⟨f,k.tk s.tk,b⟩
def Mx.q{K:Frag}{R:RE}{H b:Hp}{n:Nat}{v:V}(s:SQ H b)(h:Mx K R H n v):Mx K R b n v:=by
 obtain⟨l,a,d,f,c,g⟩:=h;exact⟨l,a,d,s _ _ rfl f,c,λi x e=>(g i x e).q s⟩
def RowM.cut{K:Frag}{R:RE}{H:Hp}{n i:Nat}{r D:Addr}{l:List V}(d:H D=some (.lst l))(m:r≠D)(h:RowM K R H n i (.ref r)):RowM K R (pU H D) n i (.ref r):=by
 obtain⟨v,k,c,p,g,s⟩:=h;cases c;refine⟨r,k,rfl,by rw[jY m];exact p,g,λj y e=>?_⟩;obtain⟨f,o,a⟩:=s j y e;exact⟨f,o.tk λb w e=>by rw[jY λz=>by rw[z,d]at e;cases e];exact e,a⟩
def Fa{H:Hp}{D:Addr}:SQ (pU H D) H:=λb a _ e=>by
 by_cases hb:b=D
 .rw[hb,kB]at e;cases e
 .rw[jY hb]at e;exact e
def Ans(K:Frag)(R:RE)(i j:Nat)(H:Hp)(Q:VK):Prop:=∀ H' x f,Same H H'->IsF K H' f x->R i j f->Q x H'
abbrev EF:=Nat->Nat->Rat
def Ex(e:EF):RE:=λi j f=>f=fr (e i j)
def SameT.tk{H b:Hp}(s:SameT H b):TK H b:=λa c h=>s.at h
structure DMx(K:Frag)(H:Hp)(lt d:Addr)(qs:List Rat)(f:Fn)(B:Nat):Prop where
 l:∃ xs,H lt=some (.lst xs)/\AllF K H (qs.map fr) xs
 t:∃ kvs,H d=some (.dT kvs)/\DF K H kvs f
 n:qs.length<=24
 B0:0<B
 B1:B<=1000000000
 q:∀ q∈qs,Bq B q
def DMx.on{K:Frag}{H b:Hp}{a d:Addr}{c:List Rat}{f:Fn}{B:Nat}(M:DMx K H a d c f B)(k:TK H b)(e:∀ xs,H a=some (.lst xs)->b a=some (.lst xs))(g:∀ kvs,H d=some (.dT kvs)->b d=some (.dT kvs)):DMx K b a d c f B :=
 let ⟨xs,a1,a2⟩:=M.l
 let ⟨kvs,b1,b2⟩:=M.t
 ⟨⟨xs,e _ a1,a2.tk k⟩,⟨kvs,g _ b1,b2.tk k⟩,M.n,M.B0,M.B1,M.q⟩
def DMx.same{K:Frag}{H b:Hp}{a d:Addr}{c:List Rat}{f:Fn}{B:Nat}(M:DMx K H a d c f B)(s:Same H b):DMx K b a d c f B:=M.on s.tk (λg e=>s _ _ e) (λg e=>s _ _ e)
def DMx.st{K:Frag}{H b:Hp}{a d:Addr}{c:List Rat}{f:Fn}{B:Nat}(M:DMx K H a d c f B)(s:SameT H b):DMx K b a d c f B:=M.on (SameT.tk s) (λg e=>s.at e) (λg e=>s.at e)
abbrev fvW:List Str:=["wanted","there"]
abbrev fvM:List Str:=["told","found"]
abbrev Ao:List Str:=["told"]
structure LMx(K:Frag)(H:Hp)(lt:Addr)(qs:List Rat):Prop where
 l:∃ xs,H lt=some (.lst xs)/\AllF K H (qs.map fr) xs
 q:∀ q∈qs,OkQ 96 q
def LMx.q_{K:Frag}{H b:Hp}{a:Addr}{c:List Rat}(s:SQ H b)(M:LMx K H a c):LMx K b a c:=let ⟨xs,a1,a2⟩:=M.l;⟨⟨xs,s _ _ rfl a1,a2.tk s.tk⟩,M.q⟩
inductive spPair(K:Frag)(vs:List V)(H:Hp)(Q:VK)(_E:XK):Prop
 | mk(lt d:Addr)(qs:List Rat)(f:Fn)(B i j:Nat)(h0:vs=[.ref lt,.ref d,.int (i:Nat),.int (j:Nat)])(h1:DMx K H lt d qs f B)(h2:i<qs.length)(h3:j<qs.length)(h4:∀ H' z,Same H H'->IsQ K H' (rY qs f i j) z->Q z H'):spPair K vs H Q _E
def Eu(K:Frag):List V->Sp:=λvals vs H Q _=>∃ n w i j:Nat,vals=[.int (w:Nat),.int (n:Nat)]/\vs=[.int (i:Nat),.int (j:Nat)]/\w<=n/\n<=24/\i<n/\j<n/\Ans K (Ex (eFn n w)) i j H Q
def ED(K:Frag):List V->Sp:=λvals vs H Q _=>∃(lt:Addr) (qs:List Rat) (i j:Nat),vals=[.ref lt]/\vs=[.int (i:Nat),.int (j:Nat)]/\LMx K H lt qs/\i<qs.length/\j<qs.length/\Ans K (Ex (eLn qs)) i j H Q
def E9(K:Frag):List V->Sp:=λvals vs H Q _=>∃(lt d:Addr) (qs:List Rat) (f:Fn) (B i j:Nat),vals=[.ref lt,.ref d]/\vs=[.int (i:Nat),.int (j:Nat)]/\DMx K H lt d qs f B/\i<qs.length/\j<qs.length/\Ans K (Ex (rY qs f)) i j H Q
def TellsAt(K:Frag)(e:EF)(H:Hp)(n:Nat)(v:V):Prop:=(n<=24/\∃ w:Nat,w<=n/\e=eFn n w/\IsLam H ce fvW v [.int (w:Nat),.int (n:Nat)])\/(∃ lt qs,IsLam H bL Ao v [.ref lt]/\LMx K H lt qs/\qs.length=n/\e=eLn qs)\/(∃ lt d qs f B,IsLam H bU fvM v [.ref lt,.ref d]/\DMx K H lt d qs f B/\qs.length=n/\e=rY qs f)
def TellsAt.same{K:Frag}{e:EF}{H j:Hp}{n:Nat}{v:V}(s:Same H j)(h:TellsAt K e H n v):TellsAt K e j n v:=by
 rcases h with⟨k,w,c,b,a⟩ | ⟨g,i,c,b,a⟩ | ⟨g,d,i,f,B,c,b,a⟩
 .exact .inl ⟨k,w,c,b,a.t s.t⟩
 .exact .inr (.inl ⟨g,i,c.t s.t,b.q_ (SQ.of s.t),a⟩)
 .exact .inr (.inr ⟨g,d,i,f,B,c.t s.t,b.same s,a⟩)
def lsW:LamScope ce fvW ["one","other"]:=⟨rfl,rfl,rfl,by decide +kernel,by decide +kernel,by decide +kernel,by decide +kernel,by decide +kernel⟩
def Fy:LamScope bL Ao ["one","other"]:=⟨rfl,rfl,rfl,by decide +kernel,by decide +kernel,by decide +kernel,by decide +kernel,by decide +kernel⟩
def lsM:LamScope bU fvM ["one","other"]:=⟨rfl,rfl,rfl,by decide +kernel,by decide +kernel,by decide +kernel,by decide +kernel,by decide +kernel⟩
inductive spChance(K:Frag)(vs:List V)(H:Hp)(Q:VK)(_E:XK):Prop
 | mk(n w i j:Nat)(h0:vs=[.int (n:Nat),.int (w:Nat),.bl (decide (i=j))])(h1:w<=n)(h2:n<=24)(h3:i<n)(h4:j<n)(h5:Ans K (Ex (eFn n w)) i j H Q):spChance K vs H Q _E
inductive spMRow(K:Frag)(vs:List V)(H:Hp)(Q:VK)(_E:XK):Prop
 | mk(n i:Nat)(r:EF)(v:V)(h0:vs=[.int (i:Nat),.int (n:Nat),v])(h1:i<n)(h2:n<=24)(h3:TellsAt K r H n v)(h4:∀ H' p,Same H H'->H p=none->RowM K (Ex r) H' n i (.ref p)->Q (.ref p) H'):spMRow K vs H Q _E
inductive spMBy(K:Frag)(vs:List V)(H:Hp)(Q:VK)(_E:XK):Prop
 | mk(n:Nat)(r:EF)(v:V)(h0:vs=[.int (n:Nat),v])(h1:n<=24)(h2:TellsAt K r H n v)(h3:∀ H' p rows,Same H H'->H p=none->H' p=some (.lst rows)->(∀ q,V.ref q∈rows->H q=none)->Mx K (Ex r) H' n (.ref p)->Q (.ref p) H'):spMBy K vs H Q _E
def xH{H:Hp}{a:List Rat}{xs:List V}(e:AllF K H (a.map fr) xs){i:Nat}(g:i<a.length):∃ x,xs[i]? = some x/\IsQ K H (a.getD i 0) x:=by
 have h:xs.length=a.length:=by rw[<- e.len,a_]
 have d:i<xs.length:=by lia
 obtain⟨f,c,b⟩:=e.get (c_ d);rw[fb,c_ g]at c;cases c;refine⟨xs[i],c_ d,?_⟩;rw[rd,c_ g];exact b
section
variable {P:gN}{w:ml}{K:Frag}{mg:Str->Option cX}{base:Heap}{a:Ad}
def Ba(T:Txt K mg a):FnX P w base 4 T.W_ak (spPair K):=by
 refine T.W_ak.A.okz mW λab A x s H vs Q E O h=>?_
 .obtain⟨r,d,C,f,B,i,j,rfl,M,S,F,q⟩:=h
  obtain⟨xs,e,I⟩:=M.l;obtain⟨l,L,R⟩:=M.t;obtain⟨J,m,G⟩:=xH I S;obtain⟨Z,p,X⟩:=xH I F;have N:∀{i},i<C.length->Bb (C.getD i 0):=λ{i} h=>(M.q _ (by rw[rd,c_ h];exact E_ h)).bb M.B0 (rS M.B1)
  refine⟨_,(af (aP (aO dJ (vr 2) (vr 3) (az _)) (ai (ap (aj (vr 0) (vr 2)))) aC) (ai (ap (zw (eJ O) (vr 1) (aG (aa (vr 2) (aa (vr 3) ae))) (pec (eK T) O T.W_aA (aa (aj (vr 0) (vr 2)) (aa (aj (vr 0) (vr 3)) ae))) ⟨rfl,rfl,rfl,rfl⟩)))),fc ?_⟩;intro W;refine ifC (λc=>?_) (λc=>?_)
  .have c:i=j:=by lia
   refine .inl ⟨r,_,_,J,rfl,rfl,SqL.of e,aZ m,q _ _ (Same.refl _) ?_⟩;unfold rY;rw[if_pos c];exact G
  .have c:¬i=j:=by lia
   refine⟨d,rfl,.inr ⟨l,.inl L⟩,cM _ _,λk fk=>?_⟩;have g:=Same.new (o:=.tup [.int (i:Nat),.int (j:Nat)]) fk;have y:=ac (H:=H) (a:=k) (o:=.tup [.int (i:Nat),.int (j:Nat)]);generalize upd H k (.tup [.int (i:Nat),.int (j:Nat)])=H1 at g y;refine .inl ⟨r,_,_,J,rfl,rfl,SqL.of (g _ _ e),aZ m,.inl ⟨r,_,_,Z,rfl,rfl,SqL.of (g _ _ e),aZ p,?_⟩⟩;refine⟨_,_,_,_,rfl,G.same g,X.same g,N S,N F,trivial,λH2 z2 D q2=>?_⟩;have b:=g.trans D;refine⟨_,.inr ⟨l,ky i j,k,.inl (b _ _ L),rfl,D _ _ y,rfl⟩,q _ _ b ?_⟩;unfold rY;rw[if_neg c];cases hf:f i j with
   | none=>rw[(R i j).2 hf];exact q2
   | some v =>
    obtain⟨z,Y,h2⟩:=(R i j).1 v hf;rw[Y];exact h2.same b
def xC{H:Hp}{a:List (Str×Addr)}{c:List V}(d:CellsAt H a c):TK H (untrs H (a.map (·.2))):=λb f e=>bC d e λv z=>nomatch z
def wp(T:Txt K mg a):FnX P w base 3 T.W_at (spChance K):=by
 refine T.W_at.A.okz oq λB A k s H C Q E o h=>?_
 .obtain⟨n,d,i,j,rfl,D,G,I,F,q⟩:=h
  have l:Bt 11 (n:Int):=by unfold Bt;lia
  have m:Bt 11 (d:Int):=by unfold Bt;lia
  refine⟨_,(af (aP (bK (vr 2)) (ai (ap (pec (c8 T) o T.W_ag (aa (vr 1) (aa (vr 0) ae))))) aC) (ai (ap (pec (c8 T) o T.W_ag (aa (au aR (vr 1) (au bZ (vr 1) ag)) (aa (au aR (vr 0) (au bZ (vr 0) ag)) ae)))))),fc ?_⟩;intro r
  by_cases e:i=j
  .rw[decide_eq_true e]
   have c:=vB (n:=n) (w:=d) (i:=i) (j:=j) (by rw[if_pos e];lia);rw[if_pos e,if_pos e]at c;exact⟨_,_,rfl,by lia,m.mono (by decide),l.mono (by decide),λy p f g=>q _ _ _ f ⟨p,rfl,.inl g⟩ c⟩
  .rw[decide_eq_false e]
   have b:(0:Int)<(n:Int)*((n:Int) - 1):=z_ (by lia) (by lia);have c:=vB (n:=n) (w:=d) (i:=i) (j:=j) (by rw[if_neg e];exact b);rw[if_neg e,if_neg e]at c;have x:Bt 11 ((d:Int) - 1):=by unfold Bt;lia
   have v:Bt 11 ((n:Int) - 1):=by unfold Bt;lia
   exact⟨clB (by lia) (by lia),clB (by lia) (by lia),_,_,rfl,b,(m.mul x).mono (by decide),(l.mul v).mono (by decide),λy p f g=>q _ _ _ f ⟨p,rfl,.inl g⟩ c⟩
def Ed(T:Txt K mg a):LamOk P w K mg base 4 ce fvW ["one","other"] (Eu K):=by
 refine eP lsW (λD B b c r p=>match r,p with | [_,_],_=>rfl) (λvals vs H Q E h=>?_) (λA outer s H f c b vals vs Q E hr hfv ca h=>?_)
 .obtain⟨n,d,i,j,rfl,rfl,_⟩:=h;rfl
 .obtain⟨n,d,i,j,rfl,rfl,g,m,y,l,q⟩:=h
  refine⟨_,(pec (wp T) hr T.W_at (aa (vr 3) (aa (vr 2) (aa (ba dJ (vr 0) (vr 1) (az _)) ae)))),?_⟩
  have e:(decide ((i:Int)=(j:Int)))=decide (i=j):=by
   by_cases h:i=j
   .subst h;simp
   .rw[decide_eq_false h,decide_eq_false (by lia)]
  refine⟨n,d,i,j,?_,g,m,y,l,λC x f o v k=>λH3 s3 hc=>q _ x f (rB o s3 hc) (v.same s3) k⟩;show [V.int (n:Int),V.int (d:Int),V.bl (decide ((i:Int)=(j:Int)))]=_;rw[e]
def Cp(T:Txt K mg a):LamOk P w K mg base 4 bL Ao ["one","other"] (ED K):=by
 refine eP Fy (λN L e c J I=>match J,I with | [_,_],_=>rfl) (λvals vs H Q E h=>?_) (λA outer s H f c e vals vs Q E hr hfv ca h=>?_)
 .obtain⟨k,m,i,j,rfl,rfl,_⟩:=h;rfl
 .obtain⟨k,m,i,j,rfl,rfl,M,y,p,q⟩:=h
  refine⟨_,(eM (aO dJ (vr 0) (vr 1) (az _)) (aj (vr 2) (vr 0)) (pec (eK T) hr T.W_aA (aa (aj (vr 2) (vr 0)) (aa (aj (vr 2) (vr 1)) ae)))),?_⟩;have M:=M.q_ (SQ.un ca);obtain⟨R,b,v⟩:=M.l;obtain⟨x,d,r⟩:=xH v y;obtain⟨C,l,B⟩:=xH v p;have at_:∀{i},i<m.length->OkQ 96 (m.getD i 0):=λ{i} h=>M.q _ (by rw[rd,c_ h];exact E_ h)
  refine ifC (λc=>?_) λc=>?_
  .have c:i=j:=by have c:(i:Int)=(j:Int):=c;lia
   refine .inl ⟨k,_,_,x,rfl,rfl,SqL.of b,aZ d,?_⟩;exact λF g o=>q _ _ _ (rB (Same.refl _) g o) (r.same g) (by unfold Ex eLn;rw[if_pos c])
  .have c:¬i=j:=λz=>c (by show(i:Int)=(j:Int);lia)
   refine .inl ⟨k,_,_,x,rfl,rfl,SqL.of b,aZ d,.inl ⟨k,_,_,C,rfl,rfl,SqL.of b,aZ l,?_⟩⟩;exact⟨_,_,_,_,rfl,r,B,(at_ y).bb,(at_ p).bb,trivial,λO z G D=>λF g o=>q _ _ _ (rB G g o) (D.same g) (by unfold Ex eLn;rw[if_neg c])⟩
def EW(T:Txt K mg a):LamOk P w K mg base 5 bU fvM ["one","other"] (E9 K):=by
 refine eP lsM (λC y b c o m=>match o,m with | [_,_],_=>rfl) (λvals vs H Q E h=>?_) (λA outer s H f c b vals vs Q E hr hfv ca h=>?_)
 .obtain⟨g,d,k,f,B,i,j,rfl,rfl,_⟩:=h;rfl
 .obtain⟨g,d,k,p,B,i,j,rfl,rfl,M,x,l,q⟩:=h
  refine⟨_,(pec (Ba T) hr T.W_ak (aa (vr 2) (aa (vr 3) (aa (vr 0) (aa (vr 1) ae))))),?_⟩;exact⟨g,d,k,p,B,i,j,rfl,M.on (xC ca) (λr e=>bC ca e λv z=>nomatch z) (λr e=>bC ca e λv z=>nomatch z),x,l,λH' z s1 hz=>λH3 s3 hc=>q _ z _ (rB s1 s3 hc) (hz.same s3) rfl⟩
def DZ{H:Hp}{R:RE}{n:Nat}{v:V}(h:Mx K R H n v){i j:Nat}(A:i<n)(s:j<n):∃ l rows r es y f,v=.ref l/\H l=some (.lst rows)/\rows[i]? = some (.ref r)/\H r=some (.lst es)/\es[j]? = some y/\IsF K H f y/\R i j f:=by
 obtain⟨l,rows,e,o,w,p⟩:=h;have a:rows[i]? = some (rows[i]'(by lia)):=c_ _;obtain⟨r,es,m,c,x,g⟩:=p i _ a;have b:es[j]? = some (es[j]'(by lia)):=c_ _;obtain⟨f,d,k⟩:=g j _ b;exact⟨l,rows,r,es,_,f,e,o,by rw[a,m],c,b,d,k⟩
def BC{R:RE}{H:Hp}{n i j:Nat}{v:V}{Q:VK}(h:Mx K R H n v)(m:i<n)(c:j<n)(q:∀ y f,IsF K H f y->R i j f->Q y H):rIx K v (.int (i:Nat)) H λv2 H2=>rIx K v2 (.int (j:Nat)) H2 Q:=by
 obtain⟨l,a,r,p,y,f,rfl,k,d,o,e,g,b⟩:=DZ h m c;exact .inl ⟨l,_,_,_,rfl,rfl,SqL.of k,aZ d,.inl ⟨r,_,_,_,rfl,rfl,SqL.of o,aZ e,q y f g b⟩⟩
def Am(T:Txt K mg a):FnX P w base 6 T.W_as (spMRow K):=by
 have J:LamOk P w K mg base 5 ce fvW ["one","other"] (Eu K):=λA g s H f c b us O l Q E p=>Ed T A g s H f c b us O l Q E (p.mono (by decide))
 have I:LamOk P w K mg base 5 bL Ao ["one","other"] (ED K):=λA g s H f c b us O l Q E p=>Cp T A g s H f c b us O l Q E (p.mono (by decide))
 have G:LamOk P w K mg base 5 bU fvM ["one","other"] (E9 K):=λA g s H f c b us O l Q E p=>EW T A g s H f c b us O l Q E (p.mono (by decide))
 refine T.W_as.A.okz oe λab A g s H O Q E p h=>?_
 .obtain⟨n,i,r,v,rfl,hi,hn,hL,q⟩:=h
  have br:sizeLine=16777216:=fE;refine⟨_,(ai (ap (aN rfl (N:=["other","tell","one"]) (ix:=[none,some 2,some 0]) ay (dw rfl T.z_range (aa (vr 1) ae)) (aB λC s H fp=>⟨aQ 0 ["other","tell","one"],aM,(PE.or (j5 (vr 1) J p (aa (vr 2) (aa (vr 0) ae))) (PE.or (j5 (vr 1) I p (aa (vr 2) (aa (vr 0) ae))) (j5 (vr 1) G p (aa (vr 2) (aa (vr 0) ae)))))⟩)))),?_⟩;refine⟨(n:Int),rfl,by lia,by lia,λD hD=>?_⟩
  let Pw1:PvL:=λj m L=>j<=n/\Same H L/\L D=some (.lst m)/\m.length=j/\∀(k:Nat) y,m[k]? = some y->∃ f,IsF K L f y/\Ex r i k f
  refine iC (lo:=0) (n:=n) Pw1 ⟨ey _,Same.new hD,ac,rfl,λk y e=>by simp at e⟩ (λj m L h=>h.2.2.1) ?_ ?_
  .rintro j m L P' hj ⟨_,s1,M,o,hF⟩ hP
   have e0:[V.int (i:Int),V.int (0+(j:Int))]=[V.int (i:Int),V.int (j:Int)]:=by rw[JH]
   have next:Ans K (Ex r) i j L (λv H2=>H2 D=some (.lst m)/\m.length<sizeLine/\P' (m++[v]) (upd H2 D (.lst (m++[v])))):=λH2 x f s2 hx hR=>by
    have S:=s2 _ _ M;have tk:TK H2 (upd H2 D (.lst (m++[x]))):=TK.lst S;refine⟨S,by lia,hP _ _ ⟨hj,(s1.trans s2).put hD,ac,by rw[ir,o];rfl,λk y e=>?_⟩⟩
    rcases Io k m.length with h | h
    .rw[oN h]at e
     obtain⟨f,g1,g2⟩:=hF k y e;exact⟨f,(g1.same s2).tk tk,g2⟩
    .have hk:k=m.length:=by
      have:=(b_.mp e).1;rw[ir]at this;simp at this;lia
     rw[rn h,hk,JC]at e;cases e;rw[hk,o];exact⟨f,hx.tk tk,hR⟩
   rcases hL.same s1 with⟨h2,w',h3,rfl,⟨f,c,b,rfl,F,Y,Z,W,X⟩⟩ | ⟨lt,qs,⟨f,c,b,rfl,F,Y,Z,W,X⟩,hM,rfl,rfl⟩ | ⟨lt,d,qs,ff,B,⟨f,c,b,rfl,F,Y,Z,W,X⟩,hM,rfl,rfl⟩
   .exact⟨⟨rfl,rfl,trivial⟩,.inl ⟨⟨f,_,_,_,rfl,F⟩,λf' d' R c' _ z=>z,f,c,b,_,rfl,F,Y,Z,W,X,n,w',i,j,rfl,e0,h3,h2,hi,hj,next⟩⟩
   .exact⟨⟨rfl,rfl,trivial⟩,.inr (.inl ⟨⟨f,_,_,_,rfl,F⟩,λf' d' R c' _ z=>z,f,c,b,_,rfl,F,Y,Z,W,X,lt,qs,i,j,rfl,e0,hM,hi,hj,next⟩)⟩
   .exact⟨⟨rfl,rfl,trivial⟩,.inr (.inr ⟨⟨f,_,_,_,rfl,F⟩,λf' d' R c' _ z=>z,f,c,b,_,rfl,F,Y,Z,W,X,lt,d,qs,ff,B,i,j,rfl,e0,hM,hi,hj,next⟩)⟩
  .rintro m L ⟨_,s1,M,o,hF⟩
   exact q _ D s1 hD ⟨D,m,rfl,M,o,hF⟩
def tL(T:Txt K mg a):FnX P w base 7 T.W_v (spMBy K):=by
 refine T.W_v.A.okz p5 λX A J s H vs Q E hr h=>?_
 .obtain⟨n,O,v,rfl,hn,Z,q⟩:=h
  have br:sizeLine=16777216:=fE;refine⟨_,(ai (ap (aN rfl (N:=["one","many","tell"]) (ix:=[none,some 0,some 1]) ay (dw rfl T.z_range (aa (vr 0) ae)) (aB λC s H fp=>⟨aQ 0 ["one","many","tell"],aM,(pec (Am T) hr T.W_as (aa (vr 0) (aa (vr 1) (aa (vr 2) ae))))⟩)))),?_⟩;refine⟨(n:Int),rfl,by lia,by lia,λD G=>?_⟩
  let Pw2:PvL:=λj d l=>j<=n/\Same H l/\l D=some (.lst d)/\d.length=j/\(∀ q,V.ref q∈d->H q=none)/\∀(k:Nat) y,d[k]? = some y->RowM K (Ex O) (pU l D) n k y
  refine iC (lo:=0) (n:=n) Pw2 ⟨ey _,Same.new G,ac,rfl,(λq I=>by cases I),λk y e=>by simp at e⟩ (λj d l h=>h.2.2.1) ?_ ?_
  .rintro j d l P' M ⟨_,x,g,i,f,B⟩ Y
   refine⟨⟨rfl,rfl,trivial⟩,n,j,O,v,?_,M,hn,Z.same x,λH2 r F m S=>?_⟩
   .show [V.int (0+(j:Int)),V.int (n:Int),v]=_
    rw[JH]
   have p:=F _ _ g;have R:r≠D:=λz=>by rw[z,g]at m;cases m
   have W:SQ (pU l D) (pU (upd H2 D (.lst (d++[.ref r]))) D):=λb o c e=>by
    by_cases hb:b=D
    .rw[hb,kB]at e;cases e
    .rw[jY hb]at e ⊢
     rw[aq hb];exact F _ _ e
   refine⟨p,by lia,Y _ _ ⟨M,(x.trans F).put G,ac,by rw[ir,i];rfl,λq I=>?_,λk y e=>?_⟩⟩
   .rcases ra.mp I with z | z
    .exact f q z
    .cases k_.mp z
     exact x.free m
   .rcases Io k d.length with h | h
    .rw[oN h]at e
     exact(B k y e).q W
    .have L:k=d.length:=by
      have:=(b_.mp e).1;rw[ir]at this;simp at this;lia
     rw[rn h,L,JC]at e;cases e;rw[L,i];refine(S.cut p R).q λb o c e=>?_
     by_cases hb:b=D
     .rw[hb,kB]at e;cases e
     .rw[jY hb]at e ⊢
      rw[aq hb];exact e
  .rintro d l ⟨_,x,g,i,f,B⟩
   exact q _ D d x G g f ⟨D,d,rfl,g,i,λk y e=>(B k y e).q Fa⟩
end
end My
namespace My
open PySem L2 FrM
def Two(c e:Int×Int):Prop:=∃ B:Int,0<B/\B<=1000000000/\Fr B c/\Fr B e/\uns c=true/\uns e=true
inductive spDuP(K:Frag)(vs:List V)(H:Hp)(Q:VK)(_E:XK):Prop
 | mk(x y:V)(c e:Int×Int)(h0:vs=[x,y])(h1:IsF K H c x)(h2:IsF K H e y)(h3:Two c e)(h4:∀ H' l p1 p2 x1 y1 x2 y2,Same H H'->H l=none->H' l=some (.lst [.ref p1,.ref p2])->H' p1=some (.tup [.int (du1 c e),x1,y1])->H' p2=some (.tup [.int (du2 c e),x2,y2])->IsF K H' (par true c e).1 x1->IsF K H' (par true c e).2 y1->IsF K H' (par false c e).1 x2->IsF K H' (par false c e).2 y2->Q (.ref l) H'):spDuP K vs H Q _E
def Two.facts{c e:Int×Int}(h:Two c e):0<c.1/\c.1<c.2/\c.2<=1000000000/\0<e.1/\e.1<e.2/\e.2<=1000000000/\0<bR c.2 e.2/\bR c.2 e.2<=1000000000/\0<duA c e/\duA c e<bR c.2 e.2/\0<duB c e/\duB c e<bR c.2 e.2:=by
 obtain⟨B,a,v,i,j,g,b⟩:=h;obtain⟨l,r,x,p,k,m,o⟩:=wR a i j g b;have d:0<c.1/\c.1<c.2:=of_decide_eq_true g;have f:0<e.1/\e.1<e.2:=of_decide_eq_true b;have s:=Gy a i.2.2.2;have w:=Gy a j.2.2.2;exact⟨d.1,d.2,by lia,f.1,f.2,by lia,l,by lia,p,k,m,o⟩
def wj{i:Int}(a:0<=i)(b:i<=4000000000):Bt 3000 i:=(show Bt 40 i by unfold Bt;lia).mono (by decide)
section
variable {P:gN}{w:ml}{K:Frag}{mg:Str->Option cX}{base:Heap}{a:Ad}
def Dv(T:Txt K mg a):FnX P w base 3 T.W_au (spDuP K):=by
 refine T.W_au.A.okz ci λan A ab s H vs Q E Y h=>?_
 .obtain⟨x,y,c,e,rfl,hc,he,h2,q⟩:=h
  obtain⟨c0,c1,c2,e0,e1,e2,d0,d1,a0,a1,b0,b1⟩:=h2.facts;have ic:∀{H':Hp},Same H H'->IsF K H' c x:=λs=>hc.same s
  have ie:∀{H':Hp},Same H H'->IsF K H' e y:=λs=>he.same s
  obtain⟨pc,rfl,W⟩:=id hc;obtain⟨pe,rfl,ad⟩:=id he;refine⟨_,(af (psl 2 ci (pec (CK T) Y T.W_y (aa (bn (aa (aj (vr 0) ag) (aa (aj (vr 1) ag) ae))) ae))) (af (psl 3 ci (au aR (aj (vr 0) ag) (au dk (vr 2) (aj (vr 0) ag)))) (af (psl 4 ci (au aR (aj (vr 1) ag) (au dk (vr 2) (aj (vr 1) ag)))) (af (aP (aO oy (au cK (vr 3) (vr 4)) (vr 2) (az _)) (af (psl 5 ci (pec (c8 T) Y T.W_ag (aa (au cK (vr 3) (vr 4)) (aa (vr 2) ae)))) (ai (ap (bn (aa (aG (aa (vr 3) (aa (vr 5) (aa (aU rfl T.g_NOUGHT) ae)))) (aa (aG (aa (vr 4) (aa (aU rfl T.g_NOUGHT) (aa (vr 5) ae)))) ae)))))) aC) (af (psl 5 ci (pec (c8 T) Y T.W_ag (aa (au bZ (au cK (vr 3) (vr 4)) (vr 2)) (aa (vr 2) ae)))) (ai (ap (bn (aa (aG (aa (au bZ (vr 2) (vr 4)) (aa (aU rfl T.g_WHOLE) (aa (vr 5) ae)))) (aa (aG (aa (au bZ (vr 2) (vr 3)) (aa (vr 5) (aa (aU rfl T.g_WHOLE) ae)))) ae)))))))))),rL ?_⟩;intro am a2 al as ah;refine px1 W.sq (px1 ad.sq ⟨cM _ _,λl0 Z=>⟨l0,c.2,e.2,rfl,ac,by lia,by lia,c2,e2,?_⟩⟩);have j:=Same.new (o:=.lst [.int c.2,.int e.2]) Z;generalize upd H l0 (.lst [.int c.2,.int e.2])=H1 at j;have G:PT K H1 pc c:=by obtain⟨p,z,h⟩:=ic j;cases z;exact h
  have D:PT K H1 pe e:=by obtain⟨p,z,h⟩:=ie j;cases z;exact h
  refine px0 G.sq (px1 G.sq ⟨cdB (by lia) (wj (by lia) (by lia)),clB (by lia) (by lia),?_⟩);refine px0 D.sq (px1 D.sq ⟨cdB (by lia) (wj (by lia) (by lia)),clB (by lia) (by lia),?_⟩);refine ifC (λb=>?_) λb=>?_
  .have b:duA c e+duB c e<bR c.2 e.2:=b
   have f:duL c e=true:=decide_eq_true b;refine⟨duA c e+duB c e,bR c.2 e.2,rfl,d0,wj (by lia) (by lia),wj (by lia) (by lia),λH2 p B X=>?_⟩;refine⟨by show 3<=sizeLine;decide,λI S=>?_⟩;have C:=Same.new (o:=.tup [.int (duA c e),.ref p,.ref a.k_NOUGHT]) S;refine⟨by show 3<=sizeLine;decide,λL R=>?_⟩;have k:=Same.new (o:=.tup [.int (duB c e),.ref a.k_NOUGHT,.ref p]) R;refine⟨cM _ _,λl J=>?_⟩;have i:=Same.new (o:=.lst [.ref I,.ref L]) J;have d:=C.trans (k.trans i);have O:duR c e=c5 (duA c e+duB c e) (bR c.2 e.2):=by unfold duR;rw[if_pos f]
   have M:duE c e=(0,1):=by unfold duE;rw[if_pos f]
   have m:∀{H':Hp},Same H2 H'->IsF K H' (duR c e) (.ref p):=λs=>⟨p,rfl,.inl (by rw[O];exact s _ _ X)⟩
   have r:∀{H':Hp},IsF K H' (duE c e) (.ref a.k_NOUGHT):=⟨_,rfl,.inr (by rw[M];exact T.t_NOUGHT)⟩
   have v:par true c e=(duR c e,duE c e):=by unfold par;rw[f,if_pos rfl]
   have F:par false c e=(duE c e,duR c e):=by unfold par;rw[f,if_neg (by decide)]
   have N:H l=none:=by
    cases hh:H l with
    | none=>rfl
    | some o=>exact absurd (J.symm.trans ((C.trans k) _ _ ((j.trans B) _ _ hh))) (by simp)
   refine q _ l I L (.ref p) (.ref a.k_NOUGHT) (.ref a.k_NOUGHT) (.ref p) ((j.trans B).trans d) N ac ?_ ?_ ?_ ?_ ?_ ?_
   .rw[show du1 c e=duA c e by unfold du1;rw[if_pos f]];exact(k.trans i) _ _ ac
   .rw[show du2 c e=duB c e by unfold du2;rw[if_pos f]];exact i _ _ ac
   .rw[v];exact m d
   .rw[v];exact r
   .rw[F];exact r
   .rw[F];exact m d
  .have b:¬duA c e+duB c e<bR c.2 e.2:=b
   have f:duL c e=false:=decide_eq_false b;have g:¬duL c e=true:=by rw[f];decide
   refine⟨duA c e+duB c e - bR c.2 e.2,bR c.2 e.2,rfl,d0,wj (by lia) (by lia),wj (by lia) (by lia),λH2 p B X=>?_⟩;refine⟨by show 3<=sizeLine;decide,λI S=>?_⟩;have C:=Same.new (o:=.tup [.int (bR c.2 e.2 - duB c e),.ref a.k_WHOLE,.ref p]) S;refine⟨by show 3<=sizeLine;decide,λL R=>?_⟩;have k:=Same.new (o:=.tup [.int (bR c.2 e.2 - duA c e),.ref p,.ref a.k_WHOLE]) R;refine⟨cM _ _,λl J=>?_⟩;have i:=Same.new (o:=.lst [.ref I,.ref L]) J;have d:=C.trans (k.trans i);have O:duR c e=c5 (duA c e+duB c e - bR c.2 e.2) (bR c.2 e.2):=by unfold duR;rw[if_neg g]
   have M:duE c e=(1,1):=by unfold duE;rw[if_neg g]
   have m:∀{H':Hp},Same H2 H'->IsF K H' (duR c e) (.ref p):=λs=>⟨p,rfl,.inl (by rw[O];exact s _ _ X)⟩
   have r:∀{H':Hp},IsF K H' (duE c e) (.ref a.k_WHOLE):=⟨_,rfl,.inr (by rw[M];exact T.t_WHOLE)⟩
   have v:par true c e=(duE c e,duR c e):=by unfold par;rw[f,if_neg (by decide)]
   have F:par false c e=(duR c e,duE c e):=by unfold par;rw[f,if_pos rfl]
   have N:H l=none:=by
    cases hh:H l with
    | none=>rfl
    | some o=>exact absurd (J.symm.trans ((C.trans k) _ _ ((j.trans B) _ _ hh))) (by simp)
   refine q _ l I L (.ref a.k_WHOLE) (.ref p) (.ref p) (.ref a.k_WHOLE) ((j.trans B).trans d) N ac ?_ ?_ ?_ ?_ ?_ ?_
   .rw[show du1 c e=bR c.2 e.2 - duB c e by unfold du1;rw[if_neg g]];exact(k.trans i) _ _ ac
   .rw[show du2 c e=bR c.2 e.2 - duA c e by unfold du2;rw[if_neg g]];exact i _ _ ac
   .rw[v];exact r
   .rw[v];exact m d
   .rw[F];exact m d
   .rw[F];exact r
end
end My
namespace Nst
open FrM Du Tb PySem
def dT:Nat->Tl->List Int->Tr
 | 0,_,t=>.leaf t
 | n+1,tl,t=>if tl=[] then .leaf t else .die [(sz1 tl,dT n (nx true tl t).1 (nx true tl t).2),(sz2 tl,dT n (nx false tl t).1 (nx false tl t).2)]
def Bg(b:Bool)(c e:Int×Int):uns (par b c e).1=false\/uns (par b c e).2=false:=by
 have h:uns (duE c e)=false:=by
  unfold duE
  split <;> rfl
 unfold par
 split
 .exact .inr h
 .exact .inl h
def rM{b:Bool}{tl:Tl}{t:List Int}(h:tl≠[]):(nx b tl t).1.length<tl.length:=by
 match tl,h with
 | [(p,c)],_=>exact Nat.zero_lt_succ _
 | (p,c)::(o,e)::r,_ =>
  show(((p,(par b c e).1)::(o,(par b c e).2)::r).filter λx=>uns x.2).length<r.length+1+1;have a:=nn (λx:Int×(Int×Int)=>uns x.2) r;rw[H_,H_]
  rcases Bg b c e with h | h
  .rw[show uns ((p,(par b c e).1):Int×(Int×Int)).2=false from h]
   cases uns ((o,(par b c e).2):Int×(Int×Int)).2 <;> simp <;> lia
  .rw[show uns ((o,(par b c e).2):Int×(Int×Int)).2=false from h]
   cases uns ((p,(par b c e).1):Int×(Int×Int)).2 <;> simp <;> lia
theorem qO:∀(n m:Nat) (tl:Tl) (t:List Int),tl.length<=n->tl.length<=m->dT n tl t=dT m tl t
 | 0,0,_,_,_,_=>rfl
 | 0,m+1,tl,t,h,_=>by
  obtain rfl:tl=[]:=Gk.mp (by lia);rfl
 | n+1,0,tl,t,_,h=>by
  obtain rfl:tl=[]:=Gk.mp (by lia);rfl
 | n+1,m+1,tl,t,h1,h2=>by
  unfold dT
  by_cases c:tl=[]
  .rw[if_pos c,if_pos c]
  .have a:=rM (b:=true) (t:=t) c
   have d:=rM (b:=false) (t:=t) c;rw[if_neg c,if_neg c,qO n m _ _ (by lia) (by lia),qO n m (nx false tl t).1 _ (by lia) (by lia)]
def oT(tl:Tl)(t:List Int):Tr:=dT tl.length tl t
def sT(tl:Tl)(t:List Int):Tr:=oT (sett tl t).1 (sett tl t).2
def kA(p o:Int)(c e:Int×Int)(r:Tl)(t:List Int):oT ((p,c)::(o,e)::r) t=.die [(du1 c e,sT ((p,(par true c e).1)::(o,(par true c e).2)::r) t),(du2 c e,sT ((p,(par false c e).1)::(o,(par false c e).2)::r) t)]:=by
 have a:∀ b,dT (r.length+1) (nx b ((p,c)::(o,e)::r) t).1 (nx b ((p,c)::(o,e)::r) t).2=sT ((p,(par b c e).1)::(o,(par b c e).2)::r) t:=λb=>by
  have l:=rM (b:=b) (t:=t) (tl:=(p,c)::(o,e)::r) (by simp);exact qO _ _ _ _ (by simp only[f_]at l;lia) (d_ _)
 rw[<- a,<- a];rfl
theorem p7{B:Int}(a:0<B):∀(n:Nat) (tl:Tl) (t ks:List Int),tl.length<=n->WfT B tl t->Lf (dT n tl t) ks->∃ rows,mK tl t rows ks
 | 0,tl,t,ks,h,_,hl=>by
  obtain rfl:tl=[]:=Gk.mp (by lia);cases hl;exact⟨[],rfl,rfl⟩
 | n+1,tl,t,ks,h,hw,hl=>by
  unfold dT at hl
  by_cases c:tl=[]
  .rw[if_pos c]at hl
   cases hl;exact⟨[],c,rfl⟩
  .rw[if_neg c]at hl
   obtain⟨d,k,i⟩:=E8 a hw c;cases hl with
   | @die _ m u _ hm hu =>
    have f:=rM (b:=true) (t:=t) c;have j:=rM (b:=false) (t:=t) c
    rcases i_.mp hm with e | hm
    .cases e
     obtain⟨rows,g⟩:=p7 a n _ _ ks (by lia) (yp a hw true) hu;refine⟨(sz1 tl,sz2 tl,0)::rows,c,rfl,rfl,wk 0,by lia,?_⟩;rw[decide_eq_true (show(0:Int)<sz1 tl from d)];exact g
    .cases k_.mp hm
     obtain⟨rows,g⟩:=p7 a n _ _ ks (by lia) (yp a hw false) hu;refine⟨(sz1 tl,sz2 tl,sz1 tl)::rows,c,rfl,rfl,by lia,by lia,?_⟩;rw[decide_eq_false (show ¬sz1 tl<sz1 tl by lia)];exact g
def Da{z:List Int}{m:Int}{B:Nat}{i:List Rat}(D:Due z m B i)(d:z.length<=24){a:List Int}(h:Lf (sT (tlR (due z m)) []) a):((a.length:Int)=if (z.length:Int)<=m then (z.length:Int) else m)/\∀ x∈a,0<=x/\x.toNat<z.length:=by
 have f:(0:Int)<(B:Int):=by have:=D.B0;lia
 have e:WfT (B:Int) (sett (tlR (due z m)) []).1 (sett (tlR (due z m)) []).2:=j3 ⟨λx b=>D.fr _ (pY b),by unfold tlR;simp[bD,d]⟩;obtain⟨c,g⟩:=p7 f _ _ _ _ (d_ _) e h;refine⟨y6 D d g,λx b=>?_⟩;have:=z7 g x b;rw[bD]at this;exact this
inductive Dp:Nat->Tr->Prop
 | leaf (n:Nat) (ns:List Int):Dp n (.leaf ns)
 | die {n:Nat}{ps:List (Int×Tr)}:(∀ p∈ps,Dp n p.2)->Dp (n+1) (.die ps)
def pZ{a b:Int×Tr}{P:Int×Tr->Prop}(d:P a)(c:P b):∀ p∈[a,b],P p:=λp hp=>by
 rcases i_.mp hp with rfl | hp
 .exact d
 .rw[k_.mp hp];exact c
theorem yt:∀(n:Nat) (tl:Tl) (t:List Int),Dp n (dT n tl t)
 | 0,_,t=>.leaf _ _
 | n+1,tl,t=>by
  unfold dT
  split
  .exact .leaf _ _
  .exact .die (pZ (yt n _ _) (yt n _ _))
def Dp.mono{n m:Nat}{t:Tr}(h:Dp n t)(k:n<=m):Dp m t:=by
 induction h generalizing m with
 | leaf=>exact .leaf _ _
 | die _ ih =>
  obtain⟨m',rfl⟩:∃ m',m=m'+1:=⟨m - 1,by lia⟩
  exact .die λp a=>ih p a (by lia)
def Em(tl:Tl)(t:List Int):Dp tl.length (sT tl t):=(yt _ _ _).mono (nn _ _)
theorem yA:∀(l:List Int) (w:Nat) (t:List Int),Dp l.length (fT l w t)
 | [],_,_=>.leaf _ _
 | x::r,w,t=>by
  unfold fT
  split
  .exact .leaf _ _
  .split
   .exact .leaf _ _
   .exact .die (pZ (yA r _ _) (yA r _ _))
theorem xt:∀(tl:Tl) (t:List Int),Dp tl.length (lT tl t)
 | [],_=>.leaf _ _
 | (p,c)::r,t=>by
  unfold lT;exact .die (pZ (xt r _) (xt r _))
inductive Rw:Tr->List Int->List Int->Prop
 | leaf (ns:List Int):Rw (.leaf ns) [] ns
 | die {ps:List (Int×Tr)}{t:Int}{u:Tr}{ts ns:List Int}:0<=t->t<tot ps->dF ps t=some u->Rw u ts ns->Rw (.die ps) (t::ts) ns
def Rw.lf{t:Tr}{c a:List Int}(h:Rw t c a):Lf t a:=by
 induction h with
 | leaf a=>exact .leaf a
 | die _ _ hp _ ih =>
  obtain⟨m,b⟩:=c7 hp;exact .die b ih
def Rw.cons{t:Tr}{x:Int}{b a:List Int}(h:Rw t (x::b) a):∃ ps u,t=.die ps/\0<=x/\x<tot ps/\dF ps x=some u/\Rw u b a:=by
 cases h with
 | die h0 h1 h2 h3=>exact⟨_,_,rfl,h0,h1,h2,h3⟩
def Rw.nil{t:Tr}{a:List Int}(h:Rw t [] a):t=.leaf a:=by
 cases h;rfl
end Nst
namespace My
open PySem L2 FrM
open Nst (Mb plc szs Lf dF c7 d6 cN oT sT kA Rw Dp)
open Tb (Tr fT lT tot so)
def Srt(ns kept:List Int):Prop:=ns.Perm kept/\ns.Pairwise (·<=·)
def IsTold(a:Ad)(H:Hp)(v:V)(kept:List Int):Prop:=∃ x dx t ns,v=.ref x/\H x=some (.ins a.c_f dx [("rising",.ref t)])/\H t=some (.tup (ns.map V.int))/\Srt ns kept
def IsTold.t{a:Ad}{H c:Hp}{v:V}{b:List Int}(s:SameT H c)(h:IsTold a H v b):IsTold a c v b:=by
 obtain⟨x,e,t,d,g,i,f,j⟩:=h;exact⟨x,e,t,d,g,s.at i,s.at f,j⟩
inductive spToldI(a:Ad)(vs:List V)(H:Hp)(Q:VK)(_E:XK):Prop
 | mk(x dx l:Addr)(ns:List Int)(h0:vs=[.ref x,.ref l])(h1:H x=some (.ins a.c_f dx []))(h2:(H l=some (.lst (ns.map V.int))\/H l=some (.tup (ns.map V.int))))(h3:ns.length<64)(h4:∀ H' t ns',(∀ b o,b≠x->H b=some o->H' b=some o)->H' x=some (.ins a.c_f dx [("rising",.ref t)])->H' t=some (.tup (ns'.map V.int))->Srt ns' ns->Q .non H'):spToldI a vs H Q _E
inductive spDieI(a:Ad)(vs:List V)(H:Hp)(Q:VK)(_E:XK):Prop
 | mk(x dx l:Addr)(xs:List V)(h0:vs=[.ref x,.ref l])(h1:H x=some (.ins a.c_r dx []))(h2:H l=some (.lst xs))(h3:∀ H' t,H t=none->(∀ b o,b≠x->H b=some o->H' b=some o)->H' x=some (.ins a.c_r dx [("makes",.ref t)])->H' t=some (.lst xs)->Q .non H'):spDieI a vs H Q _E
def iJ{a b:Type}{r:a->b->Prop}{as:List a}{x:a}{i:Nat}{ys:List b}{y:b}(h:Paired r (as.take i) ys)(e:as[i]? = some x)(q:r x y):Paired r (as.take (i+1)) (ys++[y]):=by
 rw[j_,e];exact cz q h
def Bad(H:Hp)(Bd:List Addr):Prop:=∀ b∈Bd,∃ ys,H b=some (.lst ys)
def Bad.t{H a:Hp}{Bd:List Addr}(s:SameT H a)(h:Bad H Bd):Bad a Bd:=λb c=>let ⟨ys,e⟩:=h b c;⟨ys,s.at e⟩
def bv{H a:Hp}{es:List Addr}(s:SameT H a):SameT (untrs H es) (untrs a es):=λb o e=>by
 by_cases hb:b∈es
 .rw[gj hb]at e;cases e
 .rw[bI hb]at e ⊢;exact s b o e
def aF{H:Hp}{es:List Addr}{b:Addr}{o:HO}(e:untrs H es b=some o):b ∉ es/\H b=some o:=by
 by_cases hb:b∈es
 .rw[gj hb]at e;cases e
 .rw[bI hb]at e;exact⟨hb,e⟩
def bX{H:Hp}{es:List Addr}:SameT (untrs H es) H:=λb o e=>⟨λ_=>(aF e).2,o,(aF e).2⟩
def cu{H:Hp}{Bd:List Addr}{b:Addr}{o:HO}(a:Bad H Bd)(e:H b=some o)(n:∀ ys,o≠.lst ys):untrs H Bd b=some o:=by
 rw[bI λz=>?_]
 .exact e
 .obtain⟨ys,c⟩:=a b z
  rw[e]at c;exact n ys (ll c)
def eX{H:Hp}{Bd:List Addr}(a:Bad H Bd){d:LamD}{j:List Str}{f:V}{i:List V}(h:IsLam H d j f i):IsLam (untrs H Bd) d j f i:=by
 obtain⟨m,c,b,o,l,g,k,e,p⟩:=h;refine⟨m,c,b,o,cu a l (λ_ z=>nomatch z),cu a g (λ_ z=>nomatch z),k,e,?_⟩;clear l g k e
 induction p with
 | nil=>exact .nil
 | cons r _ ih=>exact .cons (cu a r (λ_ z=>nomatch z)) ih
def wA{a:Ad}{H:Hp}{Bd:List Addr}(b:Bad H Bd){u:V}{d:List Int}(h:IsTold a H u d):IsTold a (untrs H Bd) u d:=by
 obtain⟨x,e,t,c,g,i,f,j⟩:=h;exact⟨x,e,t,c,g,cu b i (λ_ z=>nomatch z),cu b f (λ_ z=>nomatch z),j⟩
def uh{H:Hp}{Bd:List Addr}(c:Bad H Bd){b:List (Str×Addr)}{a:List V}(h:CellsAt H b a):CellsAt (untrs H Bd) b a:=by
 induction h with
 | nil=>exact .nil
 | cons r _ ih=>exact .cons (cu c r (λ_ z=>nomatch z)) ih
def tY(H:Hp)(es fs:List Addr):untrs (untrs H es) fs=untrs (untrs H fs) es:=by
 funext b
 unfold untrs
 split <;> split <;> rfl
def bV(H:Hp):untrs H []=H:=by funext b;exact bI (by simp)
def js{H:Hp}{Bd:List Addr}{a:List (Str×Addr)}{c:List V}(f:CellsAt H a c)(d:Bad H Bd):Bad (untrs H (a.map (·.2))) Bd:=λb g=>let ⟨ys,e⟩:=d b g;⟨ys,bC f e λv z=>nomatch z⟩
def dD{H:Hp}{es:List Addr}{b:Addr}{o:HO}(d:b∈es):SameT (untrs H es) (untrs (upd H b o) es):=λc u e=>by
 obtain⟨n,a⟩:=aF e;have:untrs (upd H b o) es c=some u:=by rw[bI n,aq (λz=>n (by rw[z];exact d))];exact a
 exact⟨λ_=>this,u,this⟩
def kj{H b:Hp}{es:List Addr}{D:Addr}(s:SameT H b)(h:H D=none):SameT (untrs H es) (untrs b (D::es)):=λc u e=>by
 obtain⟨n,a⟩:=aF e
 have d:c ∉ D::es:=λz=>by
  rcases i_.mp z with z | z
  .rw[z,h]at a;cases a
  .exact n z
 rw[bI d];exact s c u a
def cuts_less{H:Hp}{es:List Addr}{D:Addr}:SameT (untrs H (D::es)) (untrs H es):=λc u e=>by
 obtain⟨n,a⟩:=aF e;have:untrs H es c=some u:=by rw[bI (λz=>n (fy _ z))];exact a
 exact⟨λ_=>this,u,this⟩
def LamOk.mono{P:gN}{w:ml}{K:Frag}{mg:Str->Option cX}{a:Heap}{j k:Nat}{d:LamD}{i ps:List Str}{sp:List V->Sp}(L:LamOk P w K mg a j d i ps sp)(h:j<=k):LamOk P w K mg a k d i ps sp:=λA b s H f c e o l g Q E m=>L A b s H f c e o l g Q E (m.mono h)
def TabsOk.untrs{b:tP}{H:Hp}{a:List (Str×Addr)}{d:List V}(h:TabsOk b H)(e:CellsAt H a d):TabsOk b (untrs H (a.map (·.2))):=λq g=>by
 obtain⟨f,i,j,k⟩:=h q g;exact⟨f,bC e i (λv z=>nomatch z),j,λl hl=>(k l hl).imp id λ⟨c,x,y⟩=>⟨c,x,bC e y λv=>p4⟩⟩
def back{H d c:Hp}{a:List (Str×Addr)}(s:SameT (untrs H (a.map (·.2))) d)(h:Same d c)(f:∀ p∈a,c p.2=H p.2):SameT H c:=λb o e=>by
 by_cases hb:b∈a.map (·.2)
 .obtain⟨p,g,rfl⟩:=lz.mp hb
  rw[f p g,e];exact⟨λ_=>rfl,o,rfl⟩
 .exact(s.trans h.t) b o (by rw[bI hb];exact e)
def di{H:Hp}{Bd:List Addr}{b:Addr}{o:HO}(a:Bad H Bd)(f:H b=none){c:Hp}(h:c b=some o):untrs c Bd b=some o:=by
 rw[bI λz=>?_]
 .exact h
 .obtain⟨d,e⟩:=a b z
  rw[f]at e;cases e
def l9(H:Hp):Bad H []:=λb a=>by cases a
def dO:HO->Bool
 | .lst _=>true
 | .tup _=>true
 | .ins _ _ _=>true
 | _=>false
def NC(H H':Hp):Prop:=∀ b o,dO o=true->H b=some o->H' b=some o
def sZ{H a:Hp}(s:SameT H a):NC H a:=λb o d e=>(s b o e).1 (by cases o <;> first | rfl | cases d)
def Fb{H:Hp}{a:List (Str×Addr)}{c:List V}(f:CellsAt H a c):NC H (untrs H (a.map (·.2))):=λb o d e=>bC f e (by rintro v rfl;cases d)
abbrev fv1:List Str:=["wanted","taken","rest","ahead"]
abbrev fv2:List Str:=["wanted","taken","rest"]
abbrev fvA:List Str:=["taken","rest","place"]
abbrev fvB:List Str:=["taken","rest"]
abbrev fvS:List Str:=["told","taken"]
abbrev fvP:List Str:=["taken","place"]
abbrev fvQ:List Str:=["taken"]
def PrAt(K:Frag)(H:Hp)(x:Int×(Int×Int))(v:V):Prop:=∃ q y,v=.ref q/\H q=some (.tup [.int x.1,y])/\IsF K H x.2 y
def IsF.t{K:Frag}{H a:Hp}{f:Int×Int}{x:V}(s:SameT H a)(h:IsF K H f x):IsF K a f x:=let ⟨p,e,q⟩:=h;⟨p,e,q.imp (λz=>s.at z) id⟩
def PrAt.t{K:Frag}{H a:Hp}(s:SameT H a)(x:Int×(Int×Int))(v:V)(h:PrAt K H x v):PrAt K a x v:=let ⟨q,y,h1,h2,h3⟩:=h;⟨q,y,h1,s.at h2,h3.t s⟩
def LsT(H:Hp)(v:V)(ps:List Int):Prop:=∃ l,v=.ref l/\H l=some (.lst (ps.map V.int))
def LsT.t{H a:Hp}{v:V}{ps:List Int}(s:SameT H a)(h:LsT H v ps):LsT a v ps:=let ⟨l,e,h1⟩:=h;⟨l,e,s.at h1⟩
def LsP(K:Frag)(H:Hp)(v:V)(L:Tl):Prop:=∃ l xs,v=.ref l/\H l=some (.lst xs)/\Paired (PrAt K H) L xs
def LsP.t{K:Frag}{H a:Hp}{v:V}{L:Tl}(s:SameT H a)(h:LsP K H v L):LsP K a v L:=let ⟨l,xs,e,h1,h2⟩:=h;⟨l,xs,e,s.at h1,aA (PrAt.t s) h2⟩
def WfL(ahead:Tl)(taken:List Int):Prop:=ahead.length+taken.length<=24/\∀ x∈ahead,uns x.2=true
def IsF.n{K:Frag}{H a:Hp}{f:Int×Int}{x:V}(s:NC H a)(h:IsF K H f x):IsF K a f x:=let ⟨p,e,q⟩:=h;⟨p,e,q.imp (λz=>s _ _ rfl z) id⟩
def PrAt.n{K:Frag}{H a:Hp}(s:NC H a)(x:Int×(Int×Int))(v:V)(h:PrAt K H x v):PrAt K a x v:=let ⟨q,y,h1,h2,h3⟩:=h;⟨q,y,h1,s _ _ rfl h2,h3.n s⟩
def LsT.n{H a:Hp}{v:V}{ps:List Int}(s:NC H a)(h:LsT H v ps):LsT a v ps:=let ⟨l,e,h1⟩:=h;⟨l,e,s _ _ rfl h1⟩
def LsP.n{K:Frag}{H a:Hp}{v:V}{L:Tl}(s:NC H a)(h:LsP K H v L):LsP K a v L:=let ⟨l,xs,e,h1,h2⟩:=h;⟨l,xs,e,s _ _ rfl h1,aA (PrAt.n s) h2⟩
def BB(B:Int):Prop:=0<B/\B<=1000000000
inductive IsMk(K:Frag)(H:Hp)(f:V):Tr->Prop
 | few1 (va vt vr:V) (ahead taken:List Int) (m:Nat) (h0:IsLam H bO fv1 f [.int (m:Nat),vt,vr,va]) (h1:LsT H va ahead) (h2:LsT H vt taken) (h3:LsT H vr (ahead.drop 1)) (h4:0<m/\m<ahead.length/\ahead.length+taken.length<=24):IsMk K H f (fT (ahead.drop 1) (m - 1) (taken++ahead.take 1))
 | few2 (vt vr:V) (rest taken:List Int) (m:Nat) (h0:IsLam H bQ fv2 f [.int (m:Nat),vt,vr]) (h1:LsT H vt taken) (h2:LsT H vr rest) (h3:rest.length+taken.length<=24):IsMk K H f (fT rest m taken)
 | loA (vt vr:V) (rest:Tl) (taken:List Int) (p:Int) (h0:IsLam H bz fvA f [vt,vr,.int p]) (h1:LsT H vt taken) (h2:LsP K H vr rest) (h3:WfL rest (taken++[p])):IsMk K H f (lT rest (taken++[p]))
 | loB (vt vr:V) (rest:Tl) (taken:List Int) (h0:IsLam H bw fvB f [vt,vr]) (h1:LsT H vt taken) (h2:LsP K H vr rest) (h3:WfL rest taken):IsMk K H f (lT rest taken)
 | sett (vt vk:V) (tl:Tl) (tk:List Int) (B:Int) (h0:IsLam H aX fvS f [vt,vk]) (h1:LsP K H vt tl) (h2:LsT H vk tk) (h3:BB B/\WfS B tl tk):IsMk K H f (sT tl tk)
 | laA (vk:V) (tk:List Int) (p:Int) (h0:IsLam H bN fvP f [vk,.int p]) (h1:LsT H vk tk) (h2:tk.length+1<=24):IsMk K H f (.leaf (tk++[p]))
 | laB (vk:V) (tk:List Int) (h0:IsLam H bP fvQ f [vk]) (h1:LsT H vk tk) (h2:tk.length<=24):IsMk K H f (.leaf tk)
def IsMk.t{K:Frag}{H a:Hp}{f:V}{t:Tr}(s:SameT H a)(h:IsMk K H f t):IsMk K a f t:=by
 cases h with
 | few1 va vt vr ahead taken m h0 h1 h2 h3 h4=>exact .few1 va vt vr ahead taken m (h0.t s) (h1.t s) (h2.t s) (h3.t s) h4
 | few2 vt vr rest taken m h0 h1 h2 h3=>exact .few2 vt vr rest taken m (h0.t s) (h1.t s) (h2.t s) h3
 | loA vt vr rest taken p h0 h1 h2 h3=>exact .loA vt vr rest taken p (h0.t s) (h1.t s) (h2.t s) h3
 | loB vt vr rest taken h0 h1 h2 h3=>exact .loB vt vr rest taken (h0.t s) (h1.t s) (h2.t s) h3
 | sett vt vk tl tk B h0 h1 h2 h3=>exact .sett vt vk tl tk B (h0.t s) (h1.t s) (h2.t s) h3
 | laA vk tk p h0 h1 h2=>exact .laA vk tk p (h0.t s) (h1.t s) h2
 | laB vk tk h0 h1 h2=>exact .laB vk tk (h0.t s) (h1.t s) h2
def NdR(K:Frag)(H:Hp)(pt:Int×Tr)(y:V):Prop:=∃ q f,y=.ref q/\H q=some (.tup [.int pt.1,f])/\1<=pt.1/\IsMk K H f pt.2
def NdR.t{K:Frag}{H b:Hp}(s:SameT H b)(a:Int×Tr)(y:V)(h:NdR K H a y):NdR K b a y:=by
 obtain⟨q,f,d,e,c,g⟩:=h;exact⟨q,f,d,s.at e,c,g.t s⟩
def IsNd(K:Frag)(a:Ad)(H:Hp)(v:V):Tr->Prop
 | .leaf ns=>IsTold a H v ns
 | .die ps=>∃ x dx l ys,v=.ref x/\H x=some (.ins a.c_r dx [("makes",.ref l)])/\H l=some (.lst ys)/\Paired (NdR K H) ps ys/\1<=ps.length/\ps.length<=100
def IsNd.t{K:Frag}{a:Ad}{H b:Hp}{v:V}(s:SameT H b):∀{t:Tr},IsNd K a H v t->IsNd K a b v t
 | .leaf _,h=>IsTold.t s h
 | .die _,h=>by
  obtain⟨x,d,l,c,f,i,e,j,g⟩:=h;exact⟨x,d,l,c,f,s.at i,s.at e,aA (NdR.t s) j,g⟩
def Res(K:Frag)(a:Ad)(H:Hp)(Bd:List Addr)(t:Tr)(Q:VK):Prop:=∀ H' u,SameT H H'->TabsOk (tabs a) H'->IsNd K a (untrs H' Bd) u t->Q u H'
def ls1:LamScope bO fv1 []:=⟨rfl,rfl,rfl,by decide +kernel,by decide +kernel,by decide +kernel,by decide +kernel,by decide +kernel⟩
def ls2:LamScope bQ fv2 []:=⟨rfl,rfl,rfl,by decide +kernel,by decide +kernel,by decide +kernel,by decide +kernel,by decide +kernel⟩
def lsA:LamScope bz fvA []:=⟨rfl,rfl,rfl,by decide +kernel,by decide +kernel,by decide +kernel,by decide +kernel,by decide +kernel⟩
def lsB:LamScope bw fvB []:=⟨rfl,rfl,rfl,by decide +kernel,by decide +kernel,by decide +kernel,by decide +kernel,by decide +kernel⟩
def lsS:LamScope aX fvS []:=⟨rfl,rfl,rfl,by decide +kernel,by decide +kernel,by decide +kernel,by decide +kernel,by decide +kernel⟩
def lsP:LamScope bN fvP []:=⟨rfl,rfl,rfl,by decide +kernel,by decide +kernel,by decide +kernel,by decide +kernel,by decide +kernel⟩
def lsQ:LamScope bP fvQ []:=⟨rfl,rfl,rfl,by decide +kernel,by decide +kernel,by decide +kernel,by decide +kernel,by decide +kernel⟩
def nd4(n:Nat):([n+1+1,n+1+1+1,n+1+1+1+1,n+1]:List Nat).Nodup:=by
 simp only[t_,i_,xo,or_false,not_or,not_false_eq_true,GV,and_true];lia
def nd3(n:Nat):([n+1+1,n+1+1+1,n+1+1+1+1]:List Nat).Nodup:=by
 simp only[t_,i_,xo,or_false,not_or,not_false_eq_true,GV,and_true];lia
def uq{c d:Type}{r:c->d->Prop}{a b:c}{x y:d}(f:r a x)(e:r b y):Paired r [a,b] [x,y]:=.cons f (.cons e .nil)
def qh{K:Frag}{a:Ad}{H:Hp}{Bd:List Addr}{x j l h d:Addr}{c g:Int}{f e:V}{k i:Tr}(b:Bad H Bd)(v:H x=some (.ins a.c_r j [("makes",.ref l)]))(o:untrs H Bd l=some (.lst [.ref h,.ref d]))(r:H h=some (.tup [.int c,f]))(y:H d=some (.tup [.int g,e]))(w:1<=c)(m:1<=g)(p:IsMk K (untrs H Bd) f k)(s:IsMk K (untrs H Bd) e i):IsNd K a (untrs H Bd) (.ref x) (.die [(c,k),(g,i)]) :=
 ⟨x,j,l,_,rfl,cu b v (λ_ z=>nomatch z),o,uq ⟨h,f,rfl,cu b r (λ_ z=>nomatch z),w,p⟩ ⟨d,e,rfl,cu b y (λ_ z=>nomatch z),m,s⟩,(by decide:1<=2),(by decide:2<=100)⟩
section
variable {P:gN}{w:ml}{K:Frag}{mg:Str->Option cX}{base:Heap}{a:Ad}
def jD(T:Txt K mg a):MnX P w mg base 1 T.Wi_f (spToldI a):=by
 refine T.Wi_f.A.okz kq λC A f s H I Q E J h=>?_
 .obtain⟨x,r,l,k,rfl,j,y,m,q⟩:=h
  refine⟨_,(ai (m3 (vr 0) (bi og rfl T.z_tuple fV (aa (ak nX rfl T.z_sorted oC (aa (vr 1) ae)) ae)) rfl)),?_⟩;refine⟨l,k,rfl,y.imp SqL.of SqT.of,m,λp c B F v=>?_⟩;have i:=Same.new (o:=.lst (c.map V.int)) v;refine⟨p,_,rfl,.inl ⟨SqL.of ac,λt g=>?_⟩⟩;have G:=Same.new (o:=.tup (c.map V.int)) g;have d:=i.trans G;have D:t≠x:=λz=>by rw[z,i _ _ j]at g;cases g
  refine⟨x,a.c_f,r,[],rfl,d _ _ j,T.cl_f,T.na_Told_rising,(by decide),?_⟩;exact q _ t c (λb o n e=>by rw[aq n];exact d _ _ e) ac (by rw[aq D];exact ac) ⟨B,F⟩
def qT(T:Txt K mg a):MnX P w mg base 1 T.Wi_r (spDieI a):=by
 refine T.Wi_r.A.okz lG λp A d s H r Q E v h=>?_
 .obtain⟨x,j,l,g,rfl,i,k,q⟩:=h
  refine⟨_,(ai (m3 (vr 0) (bi ei rfl T.z_list cc (aa (vr 1) ae)) rfl)),?_⟩;refine⟨l,g,rfl,.inl (SqL.of k),λt c=>?_⟩;have f:=Same.new (o:=.lst g) c;have m:t≠x:=λz=>by rw[z,i]at c;cases c
  refine⟨x,a.c_r,j,[],rfl,f _ _ i,T.cl_r,T.na_Die_makes,(by decide),?_⟩;exact q _ t c (λb o n e=>by rw[aq n];exact f _ _ e) ac (by rw[aq m];exact ac)
def made{a d:Hp}{x c:Addr}{i g:HO}(f:a x=none)(h:a c=none)(k:∀ b o,b≠x->(upd (upd a c i) x g) b=some o->d b=some o):Same a d:=λb o e=>by
 refine k b o (ar e f) ?_;rw[aq (ar e f),aq (ar e h)];exact e
def sG{H:Hp}{x a:Addr}{g c:HO}(f:H x=none)(d:H a=none):Same H (upd (upd H a g) x c):=λb o e=>by rw[aq (ar e f),aq (ar e d)];exact e
end
open Nst (Mb plc szs Lf dF c7 d6 cN oT sT kA Rw Dp)
open Tb (Tr fT lT tot so)
inductive spFN(K:Frag)(a:Ad)(vs:List V)(H:Hp)(Q:VK)(_E:XK):Prop
 | mk(va vt:V)(ahead taken:List Int)(m:Nat)(Bd:List Addr)(h0:vs=[va,.int (m:Nat),vt])(h1:Bad H Bd)(h2:LsT (untrs H Bd) va ahead)(h3:LsT (untrs H Bd) vt taken)(h4:ahead.length+taken.length<=24)(h5:TabsOk (tabs a) H)(h6:Res K a H Bd (fT ahead m taken) Q):spFN K a vs H Q _E
inductive spLN(K:Frag)(a:Ad)(vs:List V)(H:Hp)(Q:VK)(_E:XK):Prop
 | mk(va vt:V)(ahead:Tl)(taken:List Int)(Bd:List Addr)(h0:vs=[va,vt])(h1:Bad H Bd)(h2:LsP K (untrs H Bd) va ahead)(h3:LsT (untrs H Bd) vt taken)(h4:WfL ahead taken)(h5:TabsOk (tabs a) H)(h6:Res K a H Bd (lT ahead taken) Q):spLN K a vs H Q _E
def CN(a:Ad):Sp:=λvs H Q _=>∃ vt vk,vs=[vt,vk]/\TabsOk (tabs a) H/\∀ H' f,SameT H H'->TabsOk (tabs a) H'->IsLam H' aX fvS f [vt,vk]->Q f H'
inductive spLast(K:Frag)(a:Ad)(vs:List V)(H:Hp)(Q:VK)(_E:XK):Prop
 | mk(v vk:V)(p:Int)(c:Int×Int)(tk:List Int)(Bd:List Addr)(h0:vs=[v,vk])(h1:Bad H Bd)(h2:PrAt K (untrs H Bd) (p,c) v)(h3:uns c=true)(h4:LsT (untrs H Bd) vk tk)(h5:tk.length+1<=24)(h6:TabsOk (tabs a) H)(h7:Res K a H Bd (.die [(c.1,.leaf (tk++[p])),(c.2 - c.1,.leaf tk)]) Q):spLast K a vs H Q _E
inductive spOpen(K:Frag)(a:Ad)(vs:List V)(H:Hp)(Q:VK)(_E:XK):Prop
 | mk(vt vk:V)(tl:Tl)(tk:List Int)(B:Int)(Bd:List Addr)(h0:vs=[vt,vk])(h1:Bad H Bd)(h2:LsP K (untrs H Bd) vt tl)(h3:LsT (untrs H Bd) vk tk)(h4:BB B)(h5:WfT B tl tk)(h6:TabsOk (tabs a) H)(h7:Res K a H Bd (oT tl tk) Q):spOpen K a vs H Q _E
inductive spSett(K:Frag)(a:Ad)(vs:List V)(H:Hp)(Q:VK)(_E:XK):Prop
 | mk(vt vk:V)(tl:Tl)(tk:List Int)(B:Int)(Bd:List Addr)(h0:vs=[vt,vk])(h1:Bad H Bd)(h2:LsP K (untrs H Bd) vt tl)(h3:LsT (untrs H Bd) vk tk)(h4:BB B)(h5:WfS B tl tk)(h6:TabsOk (tabs a) H)(h7:Res K a H Bd (sT tl tk) Q):spSett K a vs H Q _E
def yv{c:Int×Int}(h:uns c=true):0<c.1/\c.1<c.2:=of_decide_eq_true h
def f8{K:Frag}{a:Ad}{H:Hp}{Bd:List Addr}(c:Bad H Bd){x e t:Addr}{d b:List Int}(g:H x=some (.ins a.c_f e [("rising",.ref t)]))(h:H t=some (.tup (b.map V.int)))(f:Srt b d):IsNd K a (untrs H Bd) (.ref x) (.leaf d):=wA c ⟨x,e,t,b,rfl,g,h,f⟩
def mj(a b c d:Int):sN (.tuple [.int a,.int b]) (.tuple [.int c,.int d])=decide ((a,b)=(c,d)):=by
 simp[sN,HD];rfl
section
variable {P:gN}{w:ml}{K:Frag}{mg:Str->Option cX}{base:Heap}{a:Ad}
def yH(T:Txt K mg a)(hB:Bm mg base):FnX P w base 3 T.W_q (spFN K a):=by
 have al:FnO P w K mg base 1 (spToldI a):=jD T;have bd:FnO P w K mg base 1 (spDieI a):=qT T;refine T.W_q.A.okL T.lcd_q kR (by decide +kernel) (λvs H Q E h=>?_) (λA outer s H vs Q E hr h=>?_)
 .obtain⟨va,vt,c,f,m,Bd,rfl,_⟩:=h;rfl
 .obtain⟨va,vt,c,f,m,Bd,rfl,i,hA,R,W,hT,q⟩:=h
  have br:sizeLine=16777216:=fE;obtain⟨la,rfl,ca⟩:=id hA;obtain⟨lt,rfl,ct⟩:=id R;have ha:=(aF ca).2;have ht:=(aF ct).2;refine⟨_,(cV (aP (aO dJ (vr 1) ag (az _)) (ai (ap (cI T.mk_f al hr rfl T.mc_f T.Wi_f.B .nil aT (aa (vr 2) ae)))) aC) (cV (aP (aO EG (vr 1) (ak aw rfl T.z_len aK (aa (vr 0) ae)) (az _)) (ai (ap (cI T.mk_f al hr rfl T.mc_f T.Wi_f.B .nil aT (aa (au gt (vr 2) (vr 0)) ae)))) aC) (cV (psr 3 kR (dL g9 (vr 0) (fe ag) fq)) (qW (cI T.mk_r bd hr rfl T.mc_r T.Wi_r.B .nil aT (aa (bn (aa (aG (aa (vr 1) (aa (eQ (d:=bO) rfl T.lch_q hB rfl (by with_unfolding_all rfl) rfl (ly a) (.head _) T.tnd lb) ae))) (aa (aG (aa (au bZ (ak aw rfl T.z_len aK (aa (vr 0) ae)) (vr 1)) (aa (eQ (d:=bQ) rfl T.lch_q hB rfl (by with_unfolding_all rfl) rfl (ly a) (.tail _ (.head _)) T.tnd lb) ae))) ae))) ae)))))),?_⟩;refine ifC (λh0=>?_) λh0=>?_
  .have m0:m=0:=by lia
   subst m0;intro x p F g ab;have L:Same H (upd (upd H p (.own x)) x (.ins a.c_f p [])):=λb o e=>by rw[aq (ar e F),aq (ar e g)];exact e
   refine⟨x,p,lt,f,rfl,ac,.inl (L _ _ ht),by lia,λH' t a3 k v h2 h3=>⟨rfl,?_⟩⟩;have I:=made F g k;refine q _ _ I.t (hT.same I) ?_;rw[Tb.fT_zero];exact f8 (i.t I.t) v h2 h3
  have m1:0<m:=by lia
  refine⟨_,.inl (SqL.of ha),?_⟩;refine ifC (λv=>?_) λv=>?_
  .have v:c.length<=m:=by rw[a_]at v;lia
   refine⟨lt,la,_,_,rfl,rfl,ht,ha,(by rw[a_,a_];lia),λr fr=>?_⟩;rw[<- gn];have D:=Same.new (o:=.lst ((f++c).map V.int)) fr;have ah:(upd H r (.lst ((f++c).map V.int))) r=some (.lst ((f++c).map V.int)):=ac;generalize upd H r (.lst ((f++c).map V.int))=H1 at D ah;intro x p F g ab;have L:Same H1 (upd (upd H1 p (.own x)) x (.ins a.c_f p [])):=λb o e=>by rw[aq (ar e F),aq (ar e g)];exact e
   refine⟨x,p,r,f++c,rfl,ac,.inl (L _ _ ah),(by rw[ir];lia),λH' t a3 k g1 g2 g3=>⟨rfl,?_⟩⟩;have I:=D.trans (made F g k);refine q _ _ I.t (hT.same I) ?_;rw[Tb.fT_all v,if_neg (by lia)];exact f8 (i.t I.t) g1 g2 g3
  have v:m<c.length:=by rw[a_]at v;lia
  refine⟨_,rfl,.inl ⟨_,SqL.of ha,λO fr=>?_⟩⟩;have er:cQ (c.map V.int) (some 1) none=(c.drop 1).map V.int:=by rw[List.map_drop];exact iR _ 1
  rw[er];have D:=Same.new (o:=.lst ((c.drop 1).map V.int)) fr;have S:(upd H O (.lst ((c.drop 1).map V.int))) O=some (.lst ((c.drop 1).map V.int)):=ac;generalize upd H O (.lst ((c.drop 1).map V.int))=H1 at D S;refine⟨hT.same D,λN c1 H2 t2 a8 n1 a5 a2=>?_⟩;refine⟨(by decide:2<=sizeLine),λG bm=>?_⟩;have s3:=Same.new (o:=.tup [.int (m:Nat),.ref N]) bm;have X:(upd H2 G (.tup [.int (m:Nat),.ref N])) G=some (.tup [.int (m:Nat),.ref N]):=ac;generalize upd H2 G (.tup [.int (m:Nat),.ref N])=H3 at s3 X;have t3:=(D.t.trans t2).trans s3.t;refine⟨_,.inl (SqL.of (t3.at ha)),?_⟩;refine⟨a8.same s3,λY c2 H4 t4 a1 n2 bl a4=>?_⟩;refine⟨(by decide:2<=sizeLine),λJ a0=>?_⟩;rw[a_];have s5:=Same.new (o:=.tup [.int ((c.length:Int) - (m:Nat)),.ref Y]) a0;have Z:(upd H4 J (.tup [.int ((c.length:Int) - (m:Nat)),.ref Y])) J=some (.tup [.int ((c.length:Int) - (m:Nat)),.ref Y]):=ac;generalize upd H4 J (.tup [.int ((c.length:Int) - (m:Nat)),.ref Y])=H5 at s5 Z;refine⟨(by decide:2<=sizeLine),λl0 a'=>?_⟩;have s6:=Same.new (o:=.lst [.ref G,.ref J]) a';have an:(upd H5 l0 (.lst [.ref G,.ref J])) l0=some (.lst [.ref G,.ref J]):=ac;generalize upd H5 l0 (.lst [.ref G,.ref J])=H6 at s6 an;intro x p F g ab;have L:Same H6 (upd (upd H6 p (.own x)) x (.ins a.c_r p [])):=λb o e=>by rw[aq (ar e F),aq (ar e g)];exact e
  refine⟨x,p,l0,_,rfl,ac,L _ _ an,λH7 l g3 k g1 g2=>⟨rfl,λH8 s8 hc=>?_⟩⟩;have s7:=made F g k;have a7:=s7.trans s8;have M:=s6.trans a7;have C:=s5.trans M;have am:=t4.trans C.t;have B:=s3.t.trans am;have y:=D.t.trans (t2.trans B);have cA:=hc 0 _ _ _ rfl rfl (by with_unfolding_all rfl);have cW:=hc 1 _ _ _ rfl rfl (by with_unfolding_all rfl);have cT:=hc 2 _ _ _ rfl rfl (by with_unfolding_all rfl);have cR:=hc 3 _ _ _ rfl rfl (by with_unfolding_all rfl);have j:=i.t y;have fl:H l=none:=(D.t.trans (t2.trans (s3.t.trans (t4.trans (s5.t.trans s6.t))))).free (L.free g3);have a6:=hA.t (bv y);have ad:=R.t (bv y)
  have as:LsT (untrs H8 Bd) (.ref O) (c.drop 1):=⟨O,rfl,di i fr ((t2.trans B).at S)⟩
  refine q _ _ y (a1.same C) ?_;rw[Tb.fT_die m1 v];exact qh j (s8 _ _ g1) (di i fl (s8 _ _ g2)) (am.at X) (M _ _ Z) (by show(1:Int)<=(m:Nat);lia) (by lia) (.few1 _ _ _ c f m (eX j ⟨N,c1,_,rfl,B.at a5,B.at a2,rfl,nd4 _,.cons cW (.cons cT (.cons cR (.cons cA .nil)))⟩) a6 ad as ⟨m1,v,W⟩) (.few2 _ _ (c.drop 1) f m (eX j ⟨Y,c2,_,rfl,C _ _ bl,C _ _ a4,rfl,nd3 _,.cons cW (.cons cT (.cons cR .nil))⟩) ad as (by rw[Jh];lia))
def yn(T:Txt K mg a)(hB:Bm mg base):FnX P w base 3 T.W_c (spLN K a):=by
 have a':FnO P w K mg base 1 (spToldI a):=jD T;have a8:FnO P w K mg base 1 (spDieI a):=qT T;refine T.W_c.A.okL T.lcd_c sc_c (by decide +kernel) (λvs H Q E h=>?_) (λA outer s H vs Q E hr h=>?_)
 .obtain⟨va,vt,I,f,Bd,rfl,_⟩:=h;rfl
 .obtain⟨va,vt,I,f,Bd,rfl,r,hA,X,D,hT,q⟩:=h
  have br:sizeLine=16777216:=fE;obtain⟨la,xs,rfl,ca,hP⟩:=id hA;obtain⟨lt,rfl,ct⟩:=id X;have ha:=(aF ca).2;have ht:=(aF ct).2;refine⟨_,(cV (aP (bx (hJ (vr 0) (λ_=>rfl))) (ai (ap (cI T.mk_f a' hr rfl T.mc_f T.Wi_f.B .nil aT (aa (vr 1) ae)))) aC) (cV (gD (aj (vr 0) ag) (bF rfl (av (ax (i:=2) sc_c.nd rfl (GZ rfl)) (av (ax (i:=3) sc_c.nd rfl (m_ rfl)) a9)))) (cV (psr 4 sc_c (dL g9 (vr 0) (fe ag) fq)) (qW (cI T.mk_r a8 hr rfl T.mc_r T.Wi_r.B .nil aT (aa (bn (aa (aG (aa (aj (vr 3) ag) (aa (eQ (d:=bz) rfl T.lch_c hB rfl (by with_unfolding_all rfl) rfl (jf a) (.head _) T.tnd iW) ae))) (aa (aG (aa (au bZ (aj (vr 3) ag) (aj (vr 3) ag)) (aa (eQ (d:=bw) rfl T.lch_c hB rfl (by with_unfolding_all rfl) rfl (jf a) (.tail _ (.head _)) T.tnd iW) ae))) ae))) ae)))))),?_⟩;cases hP with
  | nil =>
   refine⟨_,.inl ⟨_,SqL.of ha,rfl⟩,?_⟩;intro x M hx j a1;have s0:Same H (upd (upd H M (.own x)) x (.ins a.c_f M [])):=λb o e=>by rw[aq (ar e hx),aq (ar e j)];exact e
   have:=D.1;refine⟨x,M,lt,f,rfl,ac,.inl (s0 _ _ ht),by simp at this;lia,λH' t bo k h1 h2 h3=>⟨rfl,?_⟩⟩;have sm:=made hx j k;exact q _ _ sm.t (hT.same sm) (f8 (r.t sm.t) h1 h2 h3)
  | @cons r1 v1 rest xs1 g1 hP1 =>
   obtain⟨p,c⟩:=r1;obtain⟨q0,y,rfl,G,a7⟩:=g1;have G:=(aF G).2;have hc:IsF K H c y:=a7.t bX;refine⟨_,.inl ⟨_,SqL.of ha,rfl⟩,?_⟩;refine .inl ⟨la,_,_,_,rfl,rfl,SqL.of ha,ao 0 rfl rfl,q0,_,rfl,SqT.of G,rfl,_,_,rfl,_,_,rfl,rfl,?_⟩;refine⟨_,rfl,.inl ⟨_,SqL.of ha,λW fr=>?_⟩⟩;have er:cQ (.ref q0::xs1) (some 1) none=xs1:=iR _ 1;rw[er];have N:=Same.new (o:=.lst xs1) fr;have Y:(upd H W (.lst xs1)) W=some (.lst xs1):=ac;generalize upd H W (.lst xs1)=H1 at N Y;obtain⟨pc,rfl,bq⟩:=id hc;have g:∀{H':Hp},SameT H H'->PT K H' pc c:=λs=>by obtain⟨_,z,h⟩:=hc.t s;cases z;exact h
   refine px0 (g N.t).sq ?_;refine⟨hT.same N,λS c1 H2 t2 a5 n1 a3 a0=>?_⟩;refine⟨(by decide:2<=sizeLine),λF bm=>?_⟩;have s3:=Same.new (o:=.tup [.int c.1,.ref S]) bm;have Z:(upd H2 F (.tup [.int c.1,.ref S])) F=some (.tup [.int c.1,.ref S]):=ac;generalize upd H2 F (.tup [.int c.1,.ref S])=H3 at s3 Z;have t3:=N.t.trans (t2.trans s3.t);refine px1 (g t3).sq (px0 (g t3).sq ?_);refine⟨a5.same s3,λf2 c2 H4 t4 as n2 bd a2=>?_⟩;refine⟨(by decide:2<=sizeLine),λL an=>?_⟩;have s5:=Same.new (o:=.tup [.int (c.2 - c.1),.ref f2]) an;have ab:(upd H4 L (.tup [.int (c.2 - c.1),.ref f2])) L=some (.tup [.int (c.2 - c.1),.ref f2]):=ac;generalize upd H4 L (.tup [.int (c.2 - c.1),.ref f2])=H5 at s5 ab;refine⟨(by decide:2<=sizeLine),λl0 a6=>?_⟩;have s6:=Same.new (o:=.lst [.ref F,.ref L]) a6;have al:(upd H5 l0 (.lst [.ref F,.ref L])) l0=some (.lst [.ref F,.ref L]):=ac;generalize upd H5 l0 (.lst [.ref F,.ref L])=H6 at s6 al;intro x M hx j a1;have s0:Same H6 (upd (upd H6 M (.own x)) x (.ins a.c_r M [])):=λb o e=>by rw[aq (ar e hx),aq (ar e j)];exact e
   refine⟨x,M,l0,_,rfl,ac,s0 _ _ al,λH7 l gl k g1 g2=>⟨rfl,λH8 s8 hc'=>?_⟩⟩;have s7:=made hx j k;have a4:=s7.trans s8;have O:=s6.trans a4;have B:=s5.trans O;have ah:=t4.trans B.t;have C:=s3.t.trans ah;have R:=t2.trans C;have v:=N.t.trans R;have cT:=hc' 1 _ _ _ rfl rfl (by with_unfolding_all rfl);have cP:=hc' 2 _ _ _ rfl rfl (by with_unfolding_all rfl);have cR:=hc' 4 _ _ _ rfl rfl (by with_unfolding_all rfl);have fl:H l=none:=(N.t.trans (t2.trans (s3.t.trans (t4.trans (s5.trans s6).t)))).free (s0.free gl);have bl:=D.1;have J:=D.2;have hu:=yv (J _ ft);have m:=r.t v;have ad:=X.t (bv v)
   have am:LsP K (untrs H8 Bd) (.ref W) rest:=⟨W,xs1,rfl,di r fr (R.at Y),aA (PrAt.t (bv v)) hP1⟩
   rw[f_]at bl;refine q _ _ v (as.same B) ?_;show IsNd K a (untrs H8 Bd) (.ref x) (.die [(c.1,lT rest (f++[p])),(c.2 - c.1,lT rest f)]);exact qh m (s8 _ _ g1) (di r fl (s8 _ _ g2)) (ah.at Z) (O _ _ ab) (by lia) (by lia) (.loA _ _ rest f p (eX m ⟨S,c1,_,rfl,C.at a3,C.at a0,rfl,by simp,.cons cT (.cons cR (.cons cP .nil))⟩) ad am ⟨by rw[ir,Ga];lia,λz hz=>J z (fy _ hz)⟩) (.loB _ _ rest f (eX m ⟨f2,c2,_,rfl,B _ _ bd,B _ _ a2,rfl,by simp,.cons cT (.cons cR .nil)⟩) ad am ⟨by lia,λz hz=>J z (fy _ hz)⟩)
def Bj(T:Txt K mg a)(m:Bm mg base):FnX P w base 1 T.W_g (CN a):=by
 refine T.W_g.A.okL T.lcd_g lK (by decide +kernel) (λi H Q E h=>?_) (λA outer s H i Q E hr h=>?_)
 .obtain⟨r,j,rfl,_⟩:=h;rfl
 .obtain⟨r,j,rfl,p,q⟩:=h
  refine⟨_,(qW (eQ (d:=aX) rfl T.lch_g m rfl (by with_unfolding_all rfl) rfl (lM a) (.head _) T.tnd lF)),?_⟩;refine⟨p,λl o y k f v c e=>?_⟩;exact λx b g=>q _ _ (k.trans b.t) (f.same b) ⟨l,o,_,rfl,b _ _ c,b _ _ e,rfl,by simp,.cons (g 0 _ _ _ rfl rfl (by with_unfolding_all rfl)) (.cons (g 1 _ _ _ rfl rfl (by with_unfolding_all rfl)) .nil)⟩
def AG(T:Txt K mg a)(hB:Bm mg base):FnX P w base 3 T.W_l (spLast K a):=by
 have a1:FnO P w K mg base 1 (spDieI a):=qT T;refine T.W_l.A.okL T.lcd_l sc_l (by decide +kernel) (λvs H Q E h=>?_) (λA outer s H vs Q E hr h=>?_)
 .obtain⟨v,vk,p,c,Z,Bd,rfl,_⟩:=h;rfl
 .obtain⟨v,vk,p,c,Z,Bd,rfl,N,⟨q0,y,rfl,r,a0⟩,hu,hk,D,hT,q⟩:=h
  have br:sizeLine=16777216:=fE;have r:=(aF r).2;have hc:IsF K H c y:=a0.t bX;have hu:=yv hu;refine⟨_,(cV (gD (vr 0) (bF rfl (av (ax (i:=2) sc_l.nd rfl (GZ rfl)) (av (ax (i:=3) sc_l.nd rfl (m_ rfl)) a9)))) (qW (cI T.mk_r a1 hr rfl T.mc_r T.Wi_r.B .nil aT (aa (bn (aa (aG (aa (aj (vr 3) ag) (aa (eQ (d:=bN) rfl T.lch_l hB rfl (by with_unfolding_all rfl) rfl (lC a) (.head _) T.tnd kS) ae))) (aa (aG (aa (au bZ (aj (vr 3) ag) (aj (vr 3) ag)) (aa (eQ (d:=bP) rfl T.lch_l hB rfl (by with_unfolding_all rfl) rfl (lC a) (.tail _ (.head _)) T.tnd kS) ae))) ae))) ae)))),?_⟩;refine⟨q0,_,rfl,SqT.of r,rfl,_,_,rfl,_,_,rfl,rfl,?_⟩;obtain⟨pc,rfl,al⟩:=id hc;have f:∀{H':Hp},SameT H H'->PT K H' pc c:=λs=>by obtain⟨_,z,h⟩:=hc.t s;cases z;exact h
  refine px0 al.sq ?_;refine⟨hT,λJ c1 H2 t2 ah n1 a3 an=>?_⟩;refine⟨(by decide:2<=sizeLine),λm a2=>?_⟩;have L:=Same.new (o:=.tup [.int c.1,.ref J]) a2;have F:(upd H2 m (.tup [.int c.1,.ref J])) m=some (.tup [.int c.1,.ref J]):=ac;generalize upd H2 m (.tup [.int c.1,.ref J])=H3 at L F;have t3:=t2.trans L.t;refine px1 (f t3).sq (px0 (f t3).sq ?_);refine⟨ah.same L,λG c2 H4 t4 ab n2 X am=>?_⟩;refine⟨(by decide:2<=sizeLine),λB Y=>?_⟩;have s5:=Same.new (o:=.tup [.int (c.2 - c.1),.ref G]) Y;have I:(upd H4 B (.tup [.int (c.2 - c.1),.ref G])) B=some (.tup [.int (c.2 - c.1),.ref G]):=ac;generalize upd H4 B (.tup [.int (c.2 - c.1),.ref G])=H5 at s5 I;refine⟨(by decide:2<=sizeLine),λW as=>?_⟩;have s6:=Same.new (o:=.lst [.ref m,.ref B]) as;have M:(upd H5 W (.lst [.ref m,.ref B])) W=some (.lst [.ref m,.ref B]):=ac;generalize upd H5 W (.lst [.ref m,.ref B])=H6 at s6 M;intro x dx hx O a4;have s0:Same H6 (upd (upd H6 dx (.own x)) x (.ins a.c_r dx [])):=sG hx O;refine⟨x,dx,W,_,rfl,ac,s0 _ _ M,λH7 l gl k g1 g2=>⟨rfl,λH8 s8 hc'=>?_⟩⟩;have ad:=(made hx O k).trans s8;have C:=s6.trans ad;have e:=s5.trans C;have S:=t4.trans e.t;have j:=L.t.trans S;have g:=t2.trans j;have cT:=hc' 1 _ _ _ rfl rfl (by with_unfolding_all rfl);have cP:=hc' 2 _ _ _ rfl rfl (by with_unfolding_all rfl);have fl:H l=none:=(t2.trans (L.t.trans (t4.trans (s5.trans s6).t))).free (s0.free gl);have b:=N.t g;have R:=hk.t (bv g);refine q _ _ g (ab.same e) ?_;exact qh b (s8 _ _ g1) (di N fl (s8 _ _ g2)) (S.at F) (C _ _ I) (by lia) (by lia) (.laA _ Z p (eX b ⟨J,c1,_,rfl,j.at a3,j.at an,rfl,by simp,.cons cT (.cons cP .nil)⟩) R D) (.laB _ Z (eX b ⟨G,c2,_,rfl,e _ _ X,e _ _ am,rfl,by simp,.cons cT .nil⟩) R (by lia))
end
open Nst (Mb plc szs Lf dF c7 d6 cN oT sT kA Rw Dp)
open Tb (Tr fT lT tot so)
def Ek{H:Hp}{b q:Addr}{o d:HO}{a:List V}(c:H q=some (.lst a))(h:H b=some o)(n:∀ ys,o≠.lst ys):(upd H q d) b=some o:=by
 rw[aq (λz=>by rw[z,c]at h;exact n a (ll h).symm)];exact h
def PrAt.put{K:Frag}{H:Hp}{q:Addr}{g:List V}{i:HO}(a:H q=some (.lst g))(x:Int×(Int×Int))(v:V)(h:PrAt K H x v):PrAt K (upd H q i) x v:=by
 obtain⟨p,y,f,j,b,d,k⟩:=h;exact⟨p,y,f,Ek a j (λc z=>nomatch z),b,d,k.imp (λe=>Ek a e (λc z=>nomatch z)) id⟩
def PrAt.cuts{K:Frag}{H:Hp}{Bd:List Addr}(a:Bad H Bd)(x:Int×(Int×Int))(v:V)(h:PrAt K H x v):PrAt K (untrs H Bd) x v:=by
 obtain⟨p,y,d,f,b,c,g⟩:=h;exact⟨p,y,d,cu a f (λ_ z=>nomatch z),b,c,g.imp (λe=>cu a e (λ_ z=>nomatch z)) id⟩
theorem ng{b a:Type}{r:b->a->Prop}{c:List b}{e:List a}(d:Paired r c e):∀{as:List b}{bs:List a},Paired r as bs->Paired r (as++c) (bs++e)
 | _,_,.nil=>d
 | _,_,.cons x t=>.cons x (ng d t)
section
variable {P:gN}{w:ml}{K:Frag}{mg:Str->Option cX}{base:Heap}{a:Ad}
def AL(T:Txt K mg a)(hB:Bm mg base):FnX P w base 4 T.W_S (spOpen K a):=by
 have cA:FnO P w K mg base 2 (spToldI a):=(jD T).mo;have ct:FnO P w K mg base 2 (spDieI a):=(qT T).mo;refine T.W_S.A.okz sc_S λc4 A b3 s H vs Q E hr h=>?_
 .obtain⟨vt,vk,tl,tk,B,I,rfl,J,⟨lt,xs,rfl,bl,hP⟩,⟨lk,rfl,M⟩,O,v,hT,q⟩:=h
  have F:=(aF bl).2;have b':=(aF M).2;have br:sizeLine=16777216:=fE;refine⟨_,(af (aP (bx (hJ (vr 0) (λ_=>rfl))) (ai (ap (cI T.mk_f cA hr rfl T.mc_f T.Wi_f.B .nil aT (aa (vr 1) ae)))) aC) (af (aP (aO dJ (ak aw rfl T.z_len aK (aa (vr 0) ae)) ag (az _)) (ai (ap (pec (AG T hB) hr T.W_l (aa (aj (vr 0) ag) (aa (vr 1) ae))))) aC) (af (gD (aj (vr 0) ag) (bF rfl (av (ax (i:=2) sc_S.nd rfl (GZ rfl)) (av (ax (i:=3) sc_S.nd rfl (m_ rfl)) a9)))) (af (gD (aj (vr 0) ag) (bF rfl (av (ax (i:=4) sc_S.nd rfl (GZ rfl)) (av (ax (i:=5) sc_S.nd rfl (m_ rfl)) a9)))) (ai (ap (cI T.mk_r ct hr rfl T.mc_r T.Wi_r.B .nil aT (aa (aN rfl (N:=["many","left","its_left","taken","told","place","other"]) (ix:=[none,none,none,some 1,some 0,some 2,some 4]) ay (aL (pec (Dv T) hr T.W_au (aa (vr 3) (aa (vr 5) ae)))) (aB λC s H fp=>⟨(bT (K:=K) (n:=3) rfl rfl (jH ["many","left","its_left","taken","told","place","other"])),aM,(aG (aa (vr 0) (aa (aE (Bj T hB) hr T.W_g (aa (au gt (bn (aa (aG (aa (vr 5) (aa (vr 1) ae))) (aa (aG (aa (vr 6) (aa (vr 2) ae))) ae))) (dL (AZ (K:=K) rfl) (vr 4) (fe ag) fq)) (aa (vr 3) ae))) ae)))⟩)) ae)))))))),rf ?_⟩;intro c1 c2 cW cT;cases hP with
  | nil =>
   refine⟨_,.inl ⟨_,SqL.of F,rfl⟩,?_⟩;intro x dx hx L b9;have s0:Same H (upd (upd H dx (.own x)) x (.ins a.c_f dx [])):=λb o e=>by rw[aq (ar e hx),aq (ar e L)];exact e
   have:=v.2;refine⟨x,dx,lk,tk,rfl,ac,.inl (s0 _ _ b'),by simp at this;lia,λr t c3 k h1 h2 h3=>⟨rfl,?_⟩⟩;have sm:=made hx L k;exact q _ _ sm.t (hT.same sm) (f8 (J.t sm.t) h1 h2 h3)
  | @cons r1 v1 tl1 xs1 g1 hP1 =>
   obtain⟨p,c⟩:=r1;refine⟨_,.inl ⟨_,SqL.of F,rfl⟩,?_⟩;refine⟨_,.inl (SqL.of F),?_⟩;cases hP1 with
   | nil =>
    refine .inl ⟨lt,_,_,_,rfl,rfl,SqL.of F,ao 0 rfl rfl,?_⟩;have:=v.2;exact⟨v1,.ref lk,p,c,tk,I,rfl,J,g1,(v.1 _ (ft ..)).2,⟨lk,rfl,M⟩,by simp at this;lia,hT,q⟩
   | @cons r2 v2 tl2 xs2 g2 hP2 =>
    obtain⟨o,e⟩:=r2;obtain⟨q1,y1,rfl,an,hc⟩:=g1;obtain⟨q2,y2,rfl,al,he⟩:=g2;have an:=(aF an).2;have al:=(aF al).2;have hc:=hc.t bX;have he:=he.t bX;refine .inl ⟨lt,_,_,_,rfl,rfl,SqL.of F,ao 0 rfl rfl,q1,_,rfl,SqT.of an,rfl,_,_,rfl,_,_,rfl,rfl,?_⟩;refine .inl ⟨lt,_,_,_,rfl,rfl,SqL.of F,ao 1 rfl rfl,q2,_,rfl,SqT.of al,rfl,_,_,rfl,_,_,rfl,rfl,?_⟩;have w1:=v.1 _ (ft ..);have w2:=v.1 _ (fy _ (ft ..));refine⟨y1,y2,c,e,rfl,hc,he,⟨B,O.1,O.2,w1.1,w2.1,w1.2,w2.2⟩,λH2 l p1 p2 x1 z1 x2 z2 s2 fl hl h1 h2 i1 i2 i3 i4=>?_⟩;refine .inl ⟨⟨_,SqL.of hl⟩,λD hD=>?_⟩;have cm:=hT.same s2;have wS:=λb=>ym O.1 v b
    have cC:TabsOk (tabs a) (upd H2 D (.lst [])):=cm.same (Same.new hD);have ext:∀{r:Hp},TabsOk (tabs a) r->∀{j:List V}{bt:List V},r D=some (.lst j)->TabsOk (tabs a) (upd r D (.lst bt)):=λcB j bt e=>cB.put (λps z=>by rw[e]at z;cases z) λφ z=>by rw[e]at z;cases z
    obtain⟨d1,d2,_⟩:=vK O.1 w1.1 w2.1 w1.2 w2.2;have bA:H D=none:=s2.free hD
    let pts:List (Int×Tr):=[(du1 c e,sT ((p,(par true c e).1)::(o,(par true c e).2)::tl2) tk),(du2 c e,sT ((p,(par false c e).1)::(o,(par false c e).2)::tl2) tk)]
    let Pw1:PvL:=λi j r=>SameT H2 r/\TabsOk (tabs a) r/\r D=some (.lst j)/\i<=2/\Paired (NdR K (untrs r (D::I))) (pts.take i) j
    refine aD (K:=K) (a:=l) (xs:=[.ref p1,.ref p2]) Pw1
     ⟨(Same.new hD).t,cC,ac,ey _,.nil⟩ (λi j r h=>SqL.of (h.1.at hl)) (λi j r h=>h.2.2.1) ?_ ?_
    .rintro i y j r P' hy ⟨t1,as,S,hi,R⟩ cb
     obtain⟨b,m,pp,xl,zl,rfl,hpp,ixl,izl,m1,hrow⟩:∃(b:Bool) (m:Int) (pp:Addr) (xl zl:V),y=.ref pp/\H2 pp=some (.tup [.int m,xl,zl])/\IsF K H2 (par b c e).1 xl/\IsF K H2 (par b c e).2 zl/\1<=m/\pts[i]? = some (m,sT ((p,(par b c e).1)::(o,(par b c e).2)::tl2) tk):=by
      match i,hy with
      | 0,hy=>cases hy;exact⟨true,_,p1,x1,z1,rfl,h1,i1,i2,d1,rfl⟩
      | 1,hy=>cases hy;exact⟨false,_,p2,x2,z2,rfl,h2,i3,i4,d2,rfl⟩
     have a':=s2.t.trans t1;have cS:j.length<=2:=by rw[<- R.length,ki];lia
     refine⟨pp,_,rfl,SqT.of (t1.at hpp),rfl,_,_,rfl,_,_,rfl,_,_,rfl,rfl,⟨rfl,rfl,rfl,rfl,trivial⟩,?_⟩;refine⟨cM _ _,λa1 cs=>?_⟩;have u1:=Same.new (o:=.tup [.int p,xl]) cs;refine⟨cM _ _,λa2 cR=>?_⟩;have u2:=Same.new (o:=.tup [.int o,zl]) cR;refine⟨cM _ _,λa3 b4=>?_⟩;have u3:=Same.new (o:=.lst [.ref a1,.ref a2]) b4;have ad:=u1.trans (u2.trans u3);refine⟨_,rfl,.inl ⟨_,SqL.of (ad _ _ (a'.at F)),λa4 b2=>?_⟩⟩;have u4:=Same.new (o:=.lst (cQ (.ref q1::.ref q2::xs2) (some 2) none)) b2;have Y:cQ (.ref q1::.ref q2::xs2) (some 2) none=xs2:=iR _ 2;have l2:xs2.length<=24:=by have:=v.2;have:=hP2.length;simp only[f_]at *;lia
     refine⟨a3,a4,_,_,rfl,rfl,u4 _ _ ac,ac,by rw[Y];show 2+xs2.length<=sizeLine;lia,λa5 bq=>?_⟩;have u5:=Same.new (o:=.lst ([.ref a1,.ref a2]++cQ (.ref q1::.ref q2::xs2) (some 2) none)) bq;have ah:=ad.trans (u4.trans u5);refine⟨.ref a5,.ref lk,rfl,as.same ah,λG f t9 b5 hf=>?_⟩;refine⟨cM _ _,λd ca=>?_⟩;have u6:=Same.new (o:=.tup [.int m,f]) ca;have am:=ah.t.trans (t9.trans u6.t);have bo:=am.at S
     have Z:Bad r (D::I):=λb hb=>by
      rcases i_.mp hb with rfl | hb
      .exact⟨_,S⟩
      .exact J.t a' b hb
     have c9:∀{Hx:Hp},SameT Hx (upd G d (.tup [.int m,f]))->SameT (untrs Hx (D::I)) (untrs (upd (upd G d (.tup [.int m,f])) D (.lst (j++[.ref d]))) (D::I)):=λs=>(bv s).trans (dD ft)
     have a0:=t1.trans am;have co:=s2.t.trans a0;have a7:Bad G (D::I):=Z.t (ah.t.trans t9);have ab:Bad (upd G d (.tup [.int m,f])) (D::I):=a7.t u6.t;have W:∀{b:Addr}{zs:List V},(upd G d (.tup [.int m,f])) b=some (.tup zs)->untrs (upd (upd G d (.tup [.int m,f])) D (.lst (j++[.ref d]))) (D::I) b=some (.tup zs):=λe=>(dD (o:=.lst (j++[.ref d])) ft).at (cu ab e (λ_ z=>nomatch z))
     have c0:SameT (untrs H I) (untrs (upd (upd G d (.tup [.int m,f])) D (.lst (j++[.ref d]))) (D::I)):=(kj co bA).trans (dD ft);have cP:(upd G d (.tup [.int m,f])) a5=some (.lst ([.ref a1,.ref a2]++cQ (.ref q1::.ref q2::xs2) (some 2) none)):=(t9.trans u6.t).at ac;have b6:r a5=none:=(ad.trans u4).free bq;have bm:untrs (upd (upd G d (.tup [.int m,f])) D (.lst (j++[.ref d]))) (D::I) a5=some (.lst ([.ref a1,.ref a2]++cQ (.ref q1::.ref q2::xs2) (some 2) none)):=(dD (o:=.lst (j++[.ref d])) ft).at (di Z b6 cP);have ch:(upd G d (.tup [.int m,f])) a1=some (.tup [.int p,xl]):=(((u2.trans u3).trans (u4.trans u5)).t.trans (t9.trans u6.t)).at ac;have b1:(upd G d (.tup [.int m,f])) a2=some (.tup [.int o,zl]):=((u3.trans (u4.trans u5)).t.trans (t9.trans u6.t)).at ac
     have X:∀{g:Int×Int}{x:V},IsF K H2 g x->IsF K (untrs (upd (upd G d (.tup [.int m,f])) D (.lst (j++[.ref d]))) (D::I)) g x:=λ⟨p',e',h'⟩=>⟨p',e',h'.imp (λz=>W (a0.at z)) id⟩
     refine⟨bo,by lia,cb _ _ ⟨a0.put hD,ext (b5.same u6) bo,ac,by have:=(b_.mp hrow).1;simp[pts]at this;lia,iJ (aA (NdR.t (c9 am)) R) hrow ⟨d,f,rfl,W ac,m1,.sett (.ref a5) (.ref lk) _ tk B ((eX ab (hf.t u6.t)).t (dD ft)) ⟨a5,_,rfl,bm,?_⟩ (LsT.t c0 ⟨lk,rfl,M⟩) ⟨O,wS b⟩⟩⟩⟩;rw[Y];exact .cons ⟨a1,xl,rfl,W ch,X ixl⟩ (.cons ⟨a2,zl,rfl,W b1,X izl⟩ (aA (PrAt.t c0) hP2))
    .rintro j r ⟨t1,as,S,hi,R⟩
     intro x dx hx L b9;have s0:Same r (upd (upd r dx (.own x)) x (.ins a.c_r dx [])):=sG hx L;refine⟨x,dx,D,_,rfl,ac,s0 _ _ S,λH7 l' gl k g1 g2=>⟨rfl,?_⟩⟩;have s7:=made hx L k;have a8:=s2.t.trans (t1.trans s7.t);have bd:=J.t a8;refine q _ _ a8 (as.same s7) ?_;rw[kA];exact⟨x,dx,l',j,rfl,cu bd g1 (λ_ z=>nomatch z),di J ((s2.t.trans t1).free (s0.free gl)) g2,aA (NdR.t (cuts_less.trans (bv s7.t))) R,(by decide:1<=2),(by decide:2<=100)⟩
def mx(T:Txt K mg a)(hB:Bm mg base):FnX P w base 5 T.W_ap (spSett K a):=by
 refine T.W_ap.A.okz sc_ap λa6 A a2 s H vs Q E hr h=>?_
 .obtain⟨vt,vk,b,R,B,Bd,rfl,Y,⟨lt,xs,rfl,ab,a0⟩,⟨lk,rfl,ad⟩,am,m,hT,q⟩:=h
  have J:=(aF ab).2;have a3:=(aF ad).2;have hP:Paired (PrAt K H) b xs:=aA (PrAt.t bX) a0;have br:sizeLine=16777216:=fE;refine⟨_,(af (b7 rfl (i:=2) sc_ap.nd rfl rfl (by with_unfolding_all rfl) (N:=["place","chance"]) (ix:=[none,none]) ay (aL (vr 0)) (aB λC s H fp=>⟨(bT (K:=K) (n:=2) rfl rfl (dy ["place","chance"])),cv (aO (wN (K:=K) rfl hr.units) (vr 1) (aU rfl T.g_WHOLE) (az _)),(vr 0)⟩)) (ai (ap (pec (AL T hB) hr T.W_S (aa (aN rfl (N:=["place","chance"]) (ix:=[none,none]) ay (aL (vr 0)) (aB λC s H fp=>⟨(bT (K:=K) (n:=2) rfl rfl (dy ["place","chance"])),cv (bK (aE (tM T) hr T.W_aj (aa (vr 1) ae))),(aG (aa (vr 0) (aa (vr 1) ae)))⟩)) (aa (au gt (vr 1) (vr 2)) ae)))))),fc ?_⟩;intro a5;refine .inl ⟨⟨_,SqL.of J⟩,λD hD=>?_⟩
  let Pw2:PvL:=λi j X=>Same H X/\X D=some (.lst j)/\i<=b.length/\j=(((b.take i).filter λx=>whl x.2).map (·.1)).map V.int
  refine aD (K:=K) (a:=lt) (xs:=xs) Pw2 ⟨Same.new hD,ac,ey _,rfl⟩ (λi ys X h=>SqL.of (h.1 _ _ J)) (λi ys X h=>h.2.1) ?_ ?_
  .rintro i y j X P' hy ⟨G,f,hi,rfl⟩ k
   obtain⟨⟨p,c⟩,e,q1,yc,rfl,W,hc⟩:=aV hP hy;have F:i<b.length:=(b_.mp e).1;refine⟨q1,_,rfl,SqT.of (G _ _ W),rfl,_,_,rfl,_,_,rfl,rfl,?_⟩;obtain⟨pc,rfl,as⟩:=hc.same G;refine⟨trivial,.tuple [.int c.1,.int c.2],.tuple [.int 1,.int 1],iM as.sq,iM (m4 T.t_WHOLE),fA _ _,fA _ _,?_⟩;rw[mj];refine ifC (λhh=>?_) λhh=>?_
   .have hw:whl c=true:=decide_eq_true (show c=(1,1) from hh)
    refine⟨f,?_,k _ _ ⟨G.put hD,ac,F,?_⟩⟩
    .rw[a_,a_]
     have:=nn (λx:Int×(Int×Int)=>whl x.2) (b.take i);have:=m.2;rw[ki]at *;lia
    .rw[j_,e]
     simp[hw]
   .have hw:whl c=false:=decide_eq_false (show ¬c=(1,1) from hh)
    refine k _ _ ⟨G,f,F,?_⟩;rw[j_,e];simp[hw]
  .rintro j X ⟨G,f,_,rfl⟩
   rw[show xs.length=b.length from hP.length.symm,A7]at f;refine .inl ⟨⟨_,SqL.of (G _ _ J)⟩,λD2 l=>?_⟩;have nD:D2≠D:=λz=>by rw[z,f]at l;cases l
   let Pw3:PvL:=λi j O=>Same X O/\O D2=some (.lst j)/\i<=b.length/\Paired (PrAt K O) ((b.take i).filter λx=>uns x.2) j
   refine aD (K:=K) (a:=lt) (xs:=xs) Pw3 ⟨Same.new l,ac,ey _,.nil⟩ (λi ys O h=>SqL.of (h.1 _ _ (G _ _ J))) (λi ys O h=>h.2.1) ?_ ?_
   .rintro i y j O P' hy ⟨s2,I,hi,g⟩ k
    obtain⟨⟨p,c⟩,e,q1,yc,rfl,W,hc⟩:=aV hP hy;have F:i<b.length:=(b_.mp e).1;have d:=G.trans s2;refine⟨q1,_,rfl,SqT.of (d _ _ W),rfl,_,_,rfl,_,_,rfl,rfl,trivial,?_⟩;refine⟨yc,c,rfl,hc.same d,?_⟩
    have zl:j.length<=24:=by
     rw[<- g.length];have:=nn (λx:Int×(Int×Int)=>uns x.2) (b.take i);have:=m.2;rw[ki]at *;lia
    refine ifB (λhu=>?_) λhu=>?_
    .refine⟨cM _ _,λq3 f3=>?_⟩
     have M:=Same.new (o:=.tup [.int p,yc]) f3;have S:=M _ _ I;refine⟨S,by lia,k _ _ ⟨(s2.trans M).put l,ac,F,?_⟩⟩;rw[j_,e,rz];refine ng ?_ (aA (λx v h=>PrAt.put S _ _ (PrAt.t M.t _ _ h)) g);show Paired _ ([(p,c)].filter λx:Int×(Int×Int)=>uns x.2) _;rw[k6 (by exact hu)];exact .cons (PrAt.put S _ _ ⟨q3,yc,rfl,ac,hc.same (d.trans M)⟩) .nil
    .refine k _ _ ⟨s2,I,F,?_⟩
     rw[j_,e,rz];simp only[Option.toList,H_,hu,Iz];simpa using g
   .rintro j O ⟨s2,I,_,g⟩
    rw[show xs.length=b.length from hP.length.symm,A7]at g;have d:=G.trans s2;have a4:=(j3 m).2;have ah:=m.2;have e2:(sett b R).2=R++(b.filter λx=>whl x.2).map (·.1):=rfl;refine⟨lk,D,_,_,rfl,rfl,d _ _ a3,s2 _ _ f,?_,λr fr=>?_⟩
    .rw[a_,a_,a_]
     have:=nn (λx:Int×(Int×Int)=>whl x.2) b;lia
    have M:=Same.new (o:=.lst (R.map V.int++((b.filter λx=>whl x.2).map (·.1)).map V.int)) fr;have Z:=d.trans M;have a1:H r=none:=d.free fr;have er:(upd O r (.lst (R.map V.int++((b.filter λx=>whl x.2).map (·.1)).map V.int))) r=some (.lst ((sett b R).2.map V.int)):=by rw[ac,e2,gn]
    have L:=Y.t Z.t;have an:H D2=none:=G.free l;exact⟨.ref D2,.ref r,(sett b R).1,(sett b R).2,B,Bd,rfl,L,⟨D2,j,rfl,di Y an (M _ _ I),aA (PrAt.cuts L) (aA (PrAt.t M.t) g)⟩,⟨r,rfl,di Y a1 er⟩,am,j3 m,hT.same Z,λH4 u t4 al nd=>q _ _ (Z.t.trans t4) al nd⟩
end
open Nst (Mb plc szs Lf dF c7 d6 cN oT sT kA Rw Dp)
open Tb (Tr fT lT tot so)
def zN(K:Frag)(a:Ad):List V->Sp:=λvals vs H Q _=>∃(va vt vr:V) (ahead taken:List Int) (m:Nat) (Bd:List Addr),vals=[.int (m:Nat),vt,vr,va]/\vs=[]/\Bad H Bd/\LsT (untrs H Bd) va ahead/\LsT (untrs H Bd) vt taken/\LsT (untrs H Bd) vr (ahead.drop 1)/\(0<m/\m<ahead.length/\ahead.length+taken.length<=24)/\TabsOk (tabs a) H/\Res K a H Bd (fT (ahead.drop 1) (m - 1) (taken++ahead.take 1)) Q
def zB(K:Frag)(a:Ad):List V->Sp:=λvals vs H Q _=>∃(vt vr:V) (rest taken:List Int) (m:Nat) (Bd:List Addr),vals=[.int (m:Nat),vt,vr]/\vs=[]/\Bad H Bd/\LsT (untrs H Bd) vt taken/\LsT (untrs H Bd) vr rest/\rest.length+taken.length<=24/\TabsOk (tabs a) H/\Res K a H Bd (fT rest m taken) Q
def AU(K:Frag)(a:Ad):List V->Sp:=λvals vs H Q _=>∃(vt vr:V) (rest:Tl) (taken:List Int) (p:Int) (Bd:List Addr),vals=[vt,vr,.int p]/\vs=[]/\Bad H Bd/\LsT (untrs H Bd) vt taken/\LsP K (untrs H Bd) vr rest/\WfL rest (taken++[p])/\TabsOk (tabs a) H/\Res K a H Bd (lT rest (taken++[p])) Q
def Bh(K:Frag)(a:Ad):List V->Sp:=λvals vs H Q _=>∃(vt vr:V) (rest:Tl) (taken:List Int) (Bd:List Addr),vals=[vt,vr]/\vs=[]/\Bad H Bd/\LsT (untrs H Bd) vt taken/\LsP K (untrs H Bd) vr rest/\WfL rest taken/\TabsOk (tabs a) H/\Res K a H Bd (lT rest taken) Q
def zT(K:Frag)(a:Ad):List V->Sp:=λvals vs H Q _=>∃(vt vk:V) (tl:Tl) (tk:List Int) (B:Int) (Bd:List Addr),vals=[vt,vk]/\vs=[]/\Bad H Bd/\LsP K (untrs H Bd) vt tl/\LsT (untrs H Bd) vk tk/\(BB B/\WfS B tl tk)/\TabsOk (tabs a) H/\Res K a H Bd (sT tl tk) Q
def Av(K:Frag)(a:Ad):List V->Sp:=λvals vs H Q _=>∃(vk:V) (tk:List Int) (p:Int) (Bd:List Addr),vals=[vk,.int p]/\vs=[]/\Bad H Bd/\LsT (untrs H Bd) vk tk/\tk.length+1<=24/\TabsOk (tabs a) H/\Res K a H Bd (.leaf (tk++[p])) Q
def Ar(K:Frag)(a:Ad):List V->Sp:=λvals vs H Q _=>∃(vk:V) (tk:List Int) (Bd:List Addr),vals=[vk]/\vs=[]/\Bad H Bd/\LsT (untrs H Bd) vk tk/\tk.length<=24/\TabsOk (tabs a) H/\Res K a H Bd (.leaf tk) Q
def rMk(K:Frag)(a:Ad)(f:V)(H:Hp)(Q:VK):Prop:=qu bO fv1 (zN K a) f [] H Q\/qu bQ fv2 (zB K a) f [] H Q\/qu bz fvA (AU K a) f [] H Q\/qu bw fvB (Bh K a) f [] H Q\/qu aX fvS (zT K a) f [] H Q\/qu bN fvP (Av K a) f [] H Q\/qu bP fvQ (Ar K a) f [] H Q
def vv{K:Frag}{a:Ad}{H:Hp}{Bd:List Addr}{f:V}{t:Tr}{Q:VK}(h:IsMk K (untrs H Bd) f t)(b:Bad H Bd)(o:TabsOk (tabs a) H)(q:Res K a H Bd t Q):rMk K a f H Q:=by
 cases h with
 | few1 va vt vr ahead taken m h0 h1 h2 h3 h4=>obtain⟨i,c,g,rfl,l,e,j,d,k⟩:=h0;exact .inl ⟨i,c,g,_,rfl,(aF l).2,(aF e).2,j,d,dZ bX k,va,vt,vr,ahead,taken,m,Bd,rfl,rfl,b,h1,h2,h3,h4,o,q⟩
 | few2 vt vr rest taken m h0 h1 h2 h3=>obtain⟨i,c,g,rfl,l,e,j,d,k⟩:=h0;exact .inr (.inl ⟨i,c,g,_,rfl,(aF l).2,(aF e).2,j,d,dZ bX k,vt,vr,rest,taken,m,Bd,rfl,rfl,b,h1,h2,h3,o,q⟩)
 | loA vt vr rest taken p h0 h1 h2 h3=>obtain⟨i,c,g,rfl,l,e,j,d,k⟩:=h0;exact .inr (.inr (.inl ⟨i,c,g,_,rfl,(aF l).2,(aF e).2,j,d,dZ bX k,vt,vr,rest,taken,p,Bd,rfl,rfl,b,h1,h2,h3,o,q⟩))
 | loB vt vr rest taken h0 h1 h2 h3=>obtain⟨i,c,g,rfl,l,e,j,d,k⟩:=h0;exact .inr (.inr (.inr (.inl ⟨i,c,g,_,rfl,(aF l).2,(aF e).2,j,d,dZ bX k,vt,vr,rest,taken,Bd,rfl,rfl,b,h1,h2,h3,o,q⟩)))
 | sett vt vk tl tk B h0 h1 h2 h3=>obtain⟨i,c,g,rfl,l,e,j,d,k⟩:=h0;exact .inr (.inr (.inr (.inr (.inl ⟨i,c,g,_,rfl,(aF l).2,(aF e).2,j,d,dZ bX k,vt,vk,tl,tk,B,Bd,rfl,rfl,b,h1,h2,h3,o,q⟩))))
 | laA vk tk p h0 h1 h2=>obtain⟨i,c,g,rfl,l,e,j,d,k⟩:=h0;exact .inr (.inr (.inr (.inr (.inr (.inl ⟨i,c,g,_,rfl,(aF l).2,(aF e).2,j,d,dZ bX k,vk,tk,p,Bd,rfl,rfl,b,h1,h2,o,q⟩)))))
 | laB vk tk h0 h1 h2=>obtain⟨i,c,g,rfl,l,e,j,d,k⟩:=h0;exact .inr (.inr (.inr (.inr (.inr (.inr ⟨i,c,g,_,rfl,(aF l).2,(aF e).2,j,d,dZ bX k,vk,tk,Bd,rfl,rfl,b,h1,h2,o,q⟩)))))
def spV(u:V):Sp:=λvs H Q _=>∃ v,vs=[v]/\Q u H
def CC(a:Ad):Sp:=λvs H Q _=>∃ x dx t,vs=[.ref x]/\H x=some (.ins a.c_f dx [("rising",.ref t)])/\Q (.ref t) H
def RawR(H:Hp)(pt:Int×V)(y:V):Prop:=∃ q,y=.ref q/\H q=some (.tup [.int pt.1,pt.2])/\1<=pt.1
def RawR.t{H b:Hp}(s:SameT H b)(a:Int×V)(y:V)(h:RawR H a y):RawR b a y:=by
 obtain⟨q,d,e,c⟩:=h;exact⟨q,d,s.at e,c⟩
def IsRaw(a:Ad)(H:Hp)(v:V)(rs:List (Int×V)):Prop:=∃ x dx l ys,v=.ref x/\H x=some (.ins a.c_r dx [("makes",.ref l)])/\H l=some (.lst ys)/\Paired (RawR H) rs ys/\1<=rs.length/\rs.length<=100
def IsRaw.t{a:Ad}{H b:Hp}{v:V}{c:List (Int×V)}(s:SameT H b)(h:IsRaw a H v c):IsRaw a b v c:=by
 obtain⟨x,e,l,d,g,k,f,m,i,j⟩:=h;exact⟨x,e,l,d,g,s.at k,s.at f,aA (RawR.t s) m,i,j⟩
def wm(rs:List (Int×V)):Int:=(rs.map (·.1)).sum
def Di(a:Ad):Sp:=λvs H Q _=>∃ v rs,vs=[v]/\IsRaw a H v rs/\∀ H',Same H H'->Q (.int (wm rs)) H'
def PrR(K:Frag)(H:Hp)(p:Int×Tr)(r:Int×V):Prop:=p.1=r.1/\1<=p.1/\IsMk K H r.2 p.2
def m9{K:Frag}{a:Ad}{H:Hp}{v:V}{ps:List (Int×Tr)}(h:IsNd K a H v (.die ps)):∃ rs,IsRaw a H v rs/\Paired (PrR K H) ps rs:=by
 obtain⟨x,w,l,b,rfl,A,o,B,k,D⟩:=h
 have c:∀{ps:List (Int×Tr)}{b:List V},Paired (NdR K H) ps b->∃ rs:List (Int×V),Paired (RawR H) rs b/\Paired (PrR K H) ps rs:=by
  intro ps b h
  induction h with
  | nil=>exact⟨[],.nil,.nil⟩
  | @cons pt y ps b r _ ih =>
   obtain⟨rs,g,m⟩:=ih;obtain⟨i,f,s,j,d,C⟩:=r;exact⟨(pt.1,f)::rs,.cons ⟨i,s,j,d⟩ g,.cons ⟨rfl,d,C⟩ m⟩
 obtain⟨rs,p,e⟩:=c B;have:rs.length=ps.length:=e.length.symm;exact⟨rs,⟨x,w,l,b,rfl,A,o,p,by lia,by lia⟩,e⟩
def qG{K:Frag}{H:Hp}{ps:List (Int×Tr)}{a:List (Int×V)}(h:Paired (PrR K H) ps a):wm a=Tb.tot ps:=by
 induction h with
 | nil=>rfl
 | cons r _ ih =>
  unfold wm Tb.tot at *;rw[l_,l_,BH,BH,ih,r.1]
def PartN(K:Frag)(a:Ad)(H:Hp)(pt:Int×Tr)(z:V):Prop:=∃ q u,z=.ref q/\H q=some (.tup [.int pt.1,u])/\IsNd K a H u pt.2
def PartN.t{K:Frag}{a:Ad}{H c:Hp}(s:SameT H c)(b:Int×Tr)(z:V)(h:PartN K a H b z):PartN K a c b z:=by
 obtain⟨q,u,e,f,d⟩:=h;exact⟨q,u,e,s.at f,d.t s⟩
def D7(K:Frag)(a:Ad):Sp:=λvs H Q _=>∃ v ps Bd,vs=[v]/\Bad H Bd/\IsNd K a (untrs H Bd) v (.die ps)/\TabsOk (tabs a) H/\∀ H' D zs,SameT H H'->TabsOk (tabs a) H'->H D=none->H' D=some (.lst zs)->Paired (PartN K a (untrs H' Bd)) ps zs->Q (.ref D) H'
def cE{H:Hp}{Bd:List Addr}{a:List (Str×Addr)}{c:List V}(f:Bad H Bd)(g:CellsAt H a c):NC (untrs H Bd) (untrs (untrs H (a.map (·.2))) Bd):=λb o d e=>by
 rw[tY];exact Fb (uh f g) b o d e
section
variable {P:gN}{w:ml}{K:Frag}{mg:Str->Option cX}{base:Heap}{a:Ad}
def BN(T:Txt K mg a)(hB:Bm mg base):LamOk P w K mg base 4 bO fv1 [] (zN K a):=by
 refine eP ls1 (λpm ab e c us hl=>match us,hl with | [],_=>rfl) (λvals vs H Q E h=>?_) (λA outer s H f c e vals vs Q E hr hfv ca h=>?_)
 .obtain⟨va,Y,r,b,d,m,O,rfl,rfl,_⟩:=h;rfl
 .obtain⟨va,Y,r,b,d,m,O,rfl,rfl,i,S,D,Z,⟨m0,m1,J⟩,W,q⟩:=h
  have br:sizeLine=16777216:=fE;refine⟨_,(pec (yH T hB) hr T.W_q (aa (vr 2) (aa (au bZ (vr 0) ag) (aa (au gt (vr 1) (dL g9 (vr 3) fq (fe ag))) ae)))),?_⟩;have y:=S.n (cE i ca);have x:=D.n (cE i ca);have F:=Z.n (cE i ca);have j:=js ca i;have C:=TabsOk.untrs W ca;obtain⟨la,rfl,l⟩:=y;have l:=(aF l).2;obtain⟨lt,rfl,k⟩:=id x;have k:=(aF k).2;refine⟨_,rfl,.inl ⟨_,SqL.of l,λB f1=>?_⟩⟩;have e1:cQ (b.map V.int) none (some 1)=(b.take 1).map V.int:=by rw[List.map_take];exact pJ _ 1 (by rw[a_];lia)
  rw[e1];have v:=Same.new (o:=.lst ((b.take 1).map V.int)) f1;have L:=ac (H:=untrs H (e.map (·.2))) (a:=B) (o:=.lst ((b.take 1).map V.int));generalize upd (untrs H (e.map (·.2))) B (.lst ((b.take 1).map V.int))=H1 at v L;refine⟨lt,B,_,_,rfl,rfl,v _ _ k,L,(by rw[a_,a_,ki];lia),λp N=>?_⟩;rw[<- gn];have M:=Same.new (o:=.lst ((d++b.take 1).map V.int)) N;have R:=ac (H:=H1) (a:=p) (o:=.lst ((d++b.take 1).map V.int));generalize upd H1 p (.lst ((d++b.take 1).map V.int))=H2 at M R;have g:=v.trans M;refine⟨r,.ref p,b.drop 1,d++b.take 1,m - 1,O,?_,j.t g.t,F.t (bv g.t),⟨p,rfl,di j (v.free N) R⟩,?_,C.same g,λH' u X I G=>λH3 s3 hc=>?_⟩
  .show [r,V.int ((m:Int) - 1),V.ref p]=[r,V.int ((m - 1:Nat):Int),V.ref p]
   rw[show((m:Int) - 1)=((m - 1:Nat):Int) by lia]
  .rw[ir,Jh,ki];lia
  .exact q _ _ (back (g.t.trans X) s3 hc) (I.same s3) (G.t (bv s3.t))
def Cd(T:Txt K mg a)(F:Bm mg base):LamOk P w K mg base 4 bQ fv2 [] (zB K a):=by
 refine eP ls2 (λJ I i c G D=>match G,D with | [],_=>rfl) (λvals vs H Q E h=>?_) (λA outer s H f c i vals vs Q E hr hfv ca h=>?_)
 .obtain⟨r,v,d,b,m,x,rfl,rfl,_⟩:=h;rfl
 .obtain⟨r,v,d,b,m,x,rfl,rfl,e,k,C,g,y,q⟩:=h
  refine⟨_,(pec (yH T F) hr T.W_q (aa (vr 2) (aa (vr 0) (aa (vr 1) ae)))),?_⟩;have j:=k.n (cE e ca);have l:=C.n (cE e ca);exact⟨v,r,d,b,m,x,rfl,js ca e,l,j,g,TabsOk.untrs y ca,λL u B p o=>λH3 s3 hc=>q _ _ (back B s3 hc) (p.same s3) (o.t (bv s3.t))⟩
def Bw(T:Txt K mg a)(hB:Bm mg base):LamOk P w K mg base 4 bz fvA [] (AU K a):=by
 refine eP lsA (λpm ab d c us hl=>match us,hl with | [],_=>rfl) (λvals vs H Q E h=>?_) (λA outer s H f c d vals vs Q E hr hfv ca h=>?_)
 .obtain⟨W,M,g,b,p,N,rfl,rfl,_⟩:=h;rfl
 .obtain⟨W,M,g,b,p,N,rfl,rfl,k,C,Y,l,R,q⟩:=h
  have X:sizeLine=16777216:=fE;refine⟨_,(pec (yn T hB) hr T.W_c (aa (vr 1) (aa (au gt (vr 0) (bn (aa (vr 2) ae))) ae))),?_⟩;have v:=C.n (cE k ca);have D:=Y.n (cE k ca);have i:=js ca k;have y:=TabsOk.untrs R ca;obtain⟨lt,rfl,j⟩:=v;have j:=(aF j).2;have B:=l.1;rw[ir,Ga]at B;refine⟨by rw[X];exact show(1:Nat)<=_ by decide,λx Z=>?_⟩;have m:=Same.new (o:=.lst [.int p]) Z;have I:=ac (H:=untrs H (d.map (·.2))) (a:=x) (o:=.lst [.int p]);generalize upd (untrs H (d.map (·.2))) x (.lst [.int p])=H1 at m I;refine⟨lt,x,_,_,rfl,rfl,m _ _ j,I,(by rw[a_];show _+1<=_;lia),λr L=>?_⟩;rw[show b.map V.int++[V.int p]=(b++[p]).map V.int by rw[gn];rfl];have J:=Same.new (o:=.lst ((b++[p]).map V.int)) L;have O:=ac (H:=H1) (a:=r) (o:=.lst ((b++[p]).map V.int));generalize upd H1 r (.lst ((b++[p]).map V.int))=H2 at J O;have e:=m.trans J;exact⟨M,.ref r,g,b++[p],N,rfl,i.t e.t,D.t (bv e.t),⟨r,rfl,di i (m.free L) O⟩,l,y.same e,λH' u S G F=>λH3 s3 hc=>q _ _ (back (e.t.trans S) s3 hc) (G.same s3) (F.t (bv s3.t))⟩
def Bp(T:Txt K mg a)(D:Bm mg base):LamOk P w K mg base 4 bw fvB [] (Bh K a):=by
 refine eP lsB (λI G g c F C=>match F,C with | [],_=>rfl) (λvals vs H Q E h=>?_) (λA outer s H f c g vals vs Q E hr hfv ca h=>?_)
 .obtain⟨p,r,d,b,v,rfl,rfl,_⟩:=h;rfl
 .obtain⟨p,r,d,b,v,rfl,rfl,e,k,B,j,x,q⟩:=h
  refine⟨_,(pec (yn T D) hr T.W_c (aa (vr 1) (aa (vr 0) ae))),?_⟩;have i:=k.n (cE e ca);have l:=B.n (cE e ca);exact⟨r,p,d,b,v,rfl,js ca e,l,i,j,TabsOk.untrs x ca,λJ u y o m=>λH3 s3 hc=>q _ _ (back y s3 hc) (o.same s3) (m.t (bv s3.t))⟩
def BJ(T:Txt K mg a)(C:Bm mg base):LamOk P w K mg base 6 aX fvS [] (zT K a):=by
 refine eP lsS (λI G d c F y=>match F,y with | [],_=>rfl) (λvals vs H Q E h=>?_) (λA outer s H f c d vals vs Q E hr hfv ca h=>?_)
 .obtain⟨l,m,p,k,B,o,rfl,rfl,_⟩:=h;rfl
 .obtain⟨l,m,p,k,B,o,rfl,rfl,b,r,D,⟨e,g⟩,v,q⟩:=h
  refine⟨_,(pec (mx T C) hr T.W_ap (aa (vr 0) (aa (vr 1) ae))),?_⟩;exact⟨l,m,p,k,B,o,rfl,js ca b,r.n (cE b ca),D.n (cE b ca),e,g,TabsOk.untrs v ca,λJ u x j i=>λH3 s3 hc=>q _ _ (back x s3 hc) (j.same s3) (i.t (bv s3.t))⟩
def BW(T:Txt K mg a):LamOk P w K mg base 3 bN fvP [] (Av K a):=by
 have D:FnO P w K mg base 1 (spToldI a):=jD T;refine eP lsP (λpm ad b c us hl=>match us,hl with | [],_=>rfl) (λvals vs H Q E h=>?_) (λA outer s H f c b vals vs Q E hr hfv ca h=>?_)
 .obtain⟨W,d,p,Z,rfl,rfl,_⟩:=h;rfl
 .obtain⟨W,d,p,Z,rfl,rfl,g,l,G,M,q⟩:=h
  have R:sizeLine=16777216:=fE;refine⟨_,(cI T.mk_f D hr rfl T.mc_f T.Wi_f.B .nil aT (aa (au gt (vr 0) (bn (aa (vr 1) ae))) ae)),?_⟩;have i:=js ca g;have v:=TabsOk.untrs M ca;obtain⟨lt,rfl,e⟩:=l.n (cE g ca);have e:=(aF e).2;refine⟨by rw[R];exact show(1:Nat)<=_ by decide,λr X=>?_⟩;have y:=Same.new (o:=.lst [.int p]) X;have l:=ac (H:=untrs H (b.map (·.2))) (a:=r) (o:=.lst [.int p]);generalize upd (untrs H (b.map (·.2))) r (.lst [.int p])=H1 at y l;refine⟨lt,r,_,_,rfl,rfl,y _ _ e,l,(by rw[a_];show _+1<=_;lia),λC S=>?_⟩;rw[show d.map V.int++[V.int p]=(d++[p]).map V.int by rw[gn];rfl];have I:=Same.new (o:=.lst ((d++[p]).map V.int)) S;have J:=ac (H:=H1) (a:=C) (o:=.lst ((d++[p]).map V.int));generalize upd H1 C (.lst ((d++[p]).map V.int))=H2 at I J;have m:=y.trans I;intro x F L j ab;have s0:Same H2 (upd (upd H2 F (.own x)) x (.ins a.c_f F [])):=sG L j;refine⟨x,F,C,d++[p],rfl,ac,.inl (s0 _ _ J),by rw[ir];show _+1<64;lia,λH' t O k N g2 Y=>⟨rfl,λH3 s3 hc=>?_⟩⟩;have B:=m.trans (made L j k);exact q _ _ (back B.t s3 hc) ((v.same B).same s3) ((f8 (i.t B.t) N g2 Y).t (bv s3.t))
def BD(T:Txt K mg a):LamOk P w K mg base 3 bP fvQ [] (Ar K a):=by
 have m:FnO P w K mg base 1 (spToldI a):=jD T;refine eP lsQ (λW S b c R M=>match R,M with | [],_=>rfl) (λvals vs H Q E h=>?_) (λA outer s H f c b vals vs Q E hr hfv ca h=>?_)
 .obtain⟨F,r,I,rfl,rfl,_⟩:=h;rfl
 .obtain⟨F,r,I,rfl,rfl,e,y,p,B,q⟩:=h
  refine⟨_,(cI T.mk_f m hr rfl T.mc_f T.Wi_f.B .nil aT (aa (vr 0) ae)),?_⟩;have g:=js ca e;have j:=TabsOk.untrs B ca;obtain⟨J,rfl,d⟩:=y.n (cE e ca);have d:=(aF d).2;intro x o v i L;have O:Same (untrs H (b.map (·.2))) (upd (upd (untrs H (b.map (·.2))) o (.own x)) x (.ins a.c_f o [])):=sG v i;refine⟨x,o,J,r,rfl,ac,.inl (O _ _ d),by lia,λX t D k C N G=>⟨rfl,λH3 s3 hc=>?_⟩⟩;have l:=made v i k;exact q _ _ (back l.t s3 hc) ((j.same l).same s3) ((f8 (g.t l.t) C N G).t (bv s3.t))
def Ce(T:Txt K mg a):MnX P w mg base 1 T.W_m (spV (.bl true)):=by
 refine T.W_m.A.ok lP (λb H Q E h=>?_) (λcdv A outer s H b Q E hr h=>?_)
 .obtain⟨v,rfl,_⟩:=h;rfl
 .obtain⟨v,rfl,q⟩:=h
  exact⟨_,(ai (ap fB)),q⟩
def Bv(T:Txt K mg a):MnX P w mg base 1 T.W_z (spV (.int 0)):=by
 refine T.W_z.A.ok nY (λb H Q E h=>?_) (λcdv A outer s H b Q E hr h=>?_)
 .obtain⟨v,rfl,_⟩:=h;rfl
 .obtain⟨v,rfl,q⟩:=h
  exact⟨_,(ai (ap ag)),q⟩
def Ch(T:Txt K mg a):MnX P w mg base 1 T.W_B (CC a):=by
 refine T.W_B.A.ok qm (λc H Q E h=>?_) (λcdv A outer s H c Q E hr h=>?_)
 .obtain⟨x,b,t,rfl,_⟩:=h;rfl
 .obtain⟨x,b,t,rfl,d,q⟩:=h
  exact⟨_,(ai (ap (cZ (vr 0) rfl))),x,_,b,_,_,rfl,d,T.cl_f,T.na_Told_rising,rfl,q⟩
def BO(T:Txt K mg a):MnX P w mg base 1 T.W_s (spV (.bl false)):=by
 refine T.W_s.A.ok m5 (λb H Q E h=>?_) (λcdv A outer s H b Q E hr h=>?_)
 .obtain⟨v,rfl,_⟩:=h;rfl
 .obtain⟨v,rfl,q⟩:=h
  exact⟨_,(ai (ap fB)),q⟩
def BI(T:Txt K mg a):MnX P w mg base 1 T.W_M (spV .non):=by
 refine T.W_M.A.ok rN (λb H Q E h=>?_) (λcdv A outer s H b Q E hr h=>?_)
 .obtain⟨v,rfl,_⟩:=h;rfl
 .obtain⟨v,rfl,q⟩:=h
  exact⟨_,(ai (ap fJ)),q⟩
def Bu(T:Txt K mg a):MnX P w mg base 1 T.W_C (Di a):=by
 refine T.W_C.A.ok qU (λG H Q E h=>?_) (λcdv A outer s H G Q E hr h=>?_)
 .obtain⟨v,e,rfl,_⟩:=h;rfl
 .obtain⟨v,e,rfl,⟨x,O,l,g,rfl,R,r,B,J,I⟩,q⟩:=h
  have W:sizeLine=16777216:=fE;refine⟨_,(ai (ap (ak (cG rfl) rfl T.z_sum gA (aa (aN rfl (N:=["many","make"]) (ix:=[none,none]) ay (aL (cZ (vr 0) rfl)) (aB λC s H X=>⟨(bT (K:=K) (n:=2) rfl rfl (dy ["many","make"])),aM,(vr 0)⟩)) ae)))),?_⟩;refine⟨x,_,O,_,_,rfl,R,T.cl_r,T.na_Die_makes,rfl,.inl ⟨⟨_,SqL.of r⟩,λD F=>?_⟩⟩
  let Pw1:PvL:=λi f c=>Same H c/\c D=some (.lst f)/\i<=e.length/\f=((e.take i).map (·.1)).map V.int
  refine aD (K:=K) (a:=l) (xs:=g) Pw1 ⟨Same.new F,ac,ey _,rfl⟩ (λi g c h=>SqL.of (h.1 _ _ r)) (λi g c h=>h.2.1) ?_ ?_
  .rintro i y f c S M ⟨j,b,Y,rfl⟩ k
   obtain⟨⟨p,t⟩,d,L,rfl,m,_⟩:=aV B M;have o:i<e.length:=(b_.mp d).1;refine⟨L,_,rfl,SqT.of (j _ _ m),rfl,_,_,rfl,_,_,rfl,rfl,trivial,b,by rw[a_,a_,ki];lia,k _ _ ⟨j.put F,ac,o,?_⟩⟩;rw[j_,d];simp
  .rintro f c ⟨j,b,_,rfl⟩
   rw[show g.length=e.length from B.length.symm,A7]at b;exact⟨D,_,rfl,SqL.of b,q _ j⟩
def Ep(T:Txt K mg a)(hB:Bm mg base):MnX P w mg base 8 T.W_U (D7 K a):=by
 have am:LamOk P w K mg base 7 bO fv1 [] (zN K a):=LamOk.mono (BN T hB) (by decide);have X:LamOk P w K mg base 7 bQ fv2 [] (zB K a):=LamOk.mono (Cd T hB) (by decide);have I:LamOk P w K mg base 7 bz fvA [] (AU K a):=LamOk.mono (Bw T hB) (by decide);have r:LamOk P w K mg base 7 bw fvB [] (Bh K a):=LamOk.mono (Bp T hB) (by decide);have F:LamOk P w K mg base 7 aX fvS [] (zT K a):=LamOk.mono (BJ T hB) (by decide);have ab:LamOk P w K mg base 7 bN fvP [] (Av K a):=LamOk.mono (BW T) (by decide);have R:LamOk P w K mg base 7 bP fvQ [] (Ar K a):=LamOk.mono (BD T) (by decide);refine T.W_U.A.ok qI (λvs H Q E h=>?_) (λcdv A outer s H vs Q E hr h=>?_)
 .obtain⟨v,J,Z,rfl,_⟩:=h;rfl
 .obtain⟨v,J,Z,rfl,a8,an,hT,q⟩:=h
  have br:sizeLine=16777216:=fE;obtain⟨rs,⟨x,dx,l,B,rfl,hx,hl,j,bl,bd⟩,ad⟩:=m9 an;have rl:rs.length=J.length:=ad.length.symm;have a0:B.length=rs.length:=j.length.symm;have hx:=(aF hx).2;have hl:=(aF hl).2;refine⟨_,(ai (ap (aN rfl (N:=["many","make"]) (ix:=[none,none]) ay (aL (cZ (vr 0) rfl)) (aB λC s H fp=>⟨(bT (K:=K) (n:=2) rfl rfl (dy ["many","make"])),aM,(aG (aa (vr 0) (aa (PE.or (bu (vr 1) am hr) (PE.or (bu (vr 1) X hr) (PE.or (bu (vr 1) I hr) (PE.or (bu (vr 1) r hr) (PE.or (bu (vr 1) F hr) (PE.or (bu (vr 1) ab hr) (bu (vr 1) R hr))))))) ae)))⟩)))),?_⟩;refine⟨x,_,dx,_,_,rfl,hx,T.cl_r,T.na_Die_makes,rfl,.inl ⟨⟨_,SqL.of hl⟩,λD hD=>?_⟩⟩;have ext:∀{d:Hp},TabsOk (tabs a) d->∀{B:List V}{ah:List V},d D=some (.lst B)->TabsOk (tabs a) (upd d D (.lst ah)):=λas B ah e=>as.put (λJ z=>by rw[e]at z;cases z) λφ z=>by rw[e]at z;cases z
  let Pw2:PvL:=λi k d=>SameT H d/\TabsOk (tabs a) d/\d D=some (.lst k)/\i<=J.length/\Paired (PartN K a (untrs d (D::Z))) (J.take i) k
  refine aD (K:=K) (a:=l) (xs:=B) Pw2
   ⟨(Same.new hD).t,hT.same (Same.new hD),ac,ey _,.nil⟩ (λi B d h=>SqL.of (h.1.at hl)) (λi B d h=>h.2.2.1) ?_ ?_
  .rintro i y k d P' hy ⟨L,G,g,hi,W⟩ a1
   obtain⟨⟨O,f⟩,a7,q1,rfl,p,m0⟩:=aV j hy;obtain⟨⟨c,t⟩,al,e9,_,a4⟩:=aV ad a7;have e9:c=O:=e9;subst e9;have p:=(aF p).2;have a5:i<J.length:=(b_.mp al).1
   have m:Bad d (D::Z):=λb hb=>by
    rcases i_.mp hb with rfl | hb
    .exact⟨_,g⟩
    .exact a8.t L b hb
   refine⟨q1,_,rfl,SqT.of (L.at p),rfl,_,_,rfl,_,_,rfl,rfl,trivial,?_⟩;refine vv (a4.t (kj L hD)) m G λH2 u t2 a6 hu=>?_
   have a3:=t2.at g;refine⟨by show 2<=sizeLine;decide,λq2 a'=>?_⟩;have Y:=Same.new (o:=.tup [.int c,u]) a';have S:=Y _ _ a3;have yl:k.length<=100:=by rw[<- W.length,ki];lia
   have a2:=(L.trans t2).trans Y.t;have M:=(m.t t2).t Y.t;have c3:SameT (untrs H2 (D::Z)) (untrs (upd (upd H2 q2 (.tup [.int c,u])) D (.lst (k++[.ref q2]))) (D::Z)):=(bv Y.t).trans (dD ft);refine⟨S,by lia,a1 _ _ ⟨a2.put hD,ext (a6.same Y) S,ac,a5,iJ (aA (PartN.t ((bv t2).trans c3)) W) al ⟨q2,u,rfl,?_,hu.t c3⟩⟩⟩;exact(dD (o:=.lst (k++[.ref q2])) ft).at (cu M ac (λ_ z=>nomatch z))
  .rintro k d ⟨L,G,g,hi,W⟩
   rw[a0,rl,A7]at W;exact q d D k L G hD g (aA (PartN.t cuts_less) W)
end
open Nst (Mb plc szs Lf dF c7 d6 cN oT sT kA Rw Dp)
open Tb (Tr fT lT tot so)
inductive spIsW(vs:List V)(H:Hp)(Q:VK)(_E:XK):Prop
 | mk(i lo hi:Int)(h0:vs=[.int i,.int lo,.int hi])(h1:Q (.bl (decide (lo<=i/\i<=hi))) H):spIsW vs H Q _E
inductive spDrawn(K:Frag)(a:Ad)(vs:List V)(H:Hp)(Q:VK)(_E:XK):Prop
 | mk(v:V)(l:Addr)(t:Tr)(ns th:List Int)(h0:vs=[v,.ref l])(h1:IsNd K a H v t)(h2:Rw t th ns)(h3:H l=some (.lst (th.map V.int)))(h4:TabsOk (tabs a) H)(h5:∀ H' k,SameT H H'->TabsOk (tabs a) H'->H' k=some (.tup ((so ns).map V.int))->Q (.ref k) H'):spDrawn K a vs H Q _E
inductive spCan(a:Ad)(vs:List V)(H:Hp)(Q:VK)(_E:XK):Prop
 | mk(v:V)(rs:List (Int×V))(t:Int)(h0:vs=[v,.int t])(h1:IsRaw a H v rs)(h2:0<=t)(h3:t<wm rs)(h4:∀ H',Same H H'->Q (.bl true) H'):spCan a vs H Q _E
inductive spDA(K:Frag)(a:Ad)(vs:List V)(H:Hp)(Q:VK)(_E:XK):Prop
 | mk(v:V)(ps:List (Int×Tr))(u:Tr)(t:Int)(h0:vs=[v,.int t])(h1:IsNd K a H v (.die ps))(h2:0<=t)(h3:t<tot ps)(h4:dF ps t=some u)(h5:TabsOk (tabs a) H)(h6:Res K a H [] u Q):spDA K a vs H Q _E
section
variable {P:gN}{w:ml}{K:Frag}{mg:Str->Option cX}{base:Heap}{a:Ad}
def dS(T:Txt K mg a):FnX P w base 1 T.W_K spIsW:=by
 refine T.W_K.A.okz rZ λc A b s H d Q E e h=>?_
 .obtain⟨i,f,g,rfl,q⟩:=h
  refine⟨_,(ai (ap (bE (ak bB rfl T.z_isinstance aI (aa (vr 0) (aa (bS (v:=.ty "int") rfl T.z_int mF rfl) ae))) (bE (BM (ak bB rfl T.z_isinstance aI (aa (vr 0) (aa (bS (v:=.ty "bool") rfl T.z_bool uW rfl) ae)))) (bW (md jt jt (vr 1) (vr 0) (vr 2))))))),?_⟩;refine⟨_,_,_,true,rfl,rfl,.int i,rfl,?_⟩;refine⟨_,_,_,false,rfl,rfl,.int i,rfl,?_⟩;exact zg (Q:=λv=>Q v H) q
def yE(T:Txt K mg a):FnX P w base 2 T.W_W (spCan a):=by
 have b:FnO P w K mg base 1 (spV (.int 0)):=Bv T;have e:FnO P w K mg base 1 (Di a):=Bu T;refine T.W_W.A.okz ka λk A d s H o Q E c h=>?_
 .obtain⟨v,f,t,rfl,g,B,r,q⟩:=h
  obtain⟨x,i,l,p,rfl,m,_⟩:=id g;refine⟨_,(ai (ap (pec (dS T) c T.W_K (aa (vr 1) (aa ag (aa (au bZ (PE.or (bM (vr 0) T.cl_f T.mt_z b c T.W_z.B .nil aT) (bM (vr 0) T.cl_r T.mt_C e c T.W_C.B .nil aT)) ag) ae)))))),?_⟩;refine .inr ⟨x,i,_,rfl,m,rfl,_,f,rfl,g,λy j=>?_⟩;refine⟨t,0,wm f - 1,rfl,?_⟩;rw[decide_eq_true (show 0<=t/\t<=wm f - 1 by lia)];exact q _ j
def Ef(T:Txt K mg a)(L:Bm mg base):MnX P w mg base 8 T.W_u (spDA K a):=by
 have N:LamOk P w K mg base 7 bO fv1 [] (zN K a):=LamOk.mono (BN T L) (by decide);have W:LamOk P w K mg base 7 bQ fv2 [] (zB K a):=LamOk.mono (Cd T L) (by decide);have B:LamOk P w K mg base 7 bz fvA [] (AU K a):=LamOk.mono (Bw T L) (by decide);have F:LamOk P w K mg base 7 bw fvB [] (Bh K a):=LamOk.mono (Bp T L) (by decide);have y:LamOk P w K mg base 7 aX fvS [] (zT K a):=LamOk.mono (BJ T L) (by decide);have X:LamOk P w K mg base 7 bN fvP [] (Av K a):=LamOk.mono (BW T) (by decide);have S:LamOk P w K mg base 7 bP fvQ [] (Ar K a):=LamOk.mono (BD T) (by decide);refine T.W_u.A.okz sc_u λa8 A am s H vs Q E r h=>?_
 .obtain⟨v,j,u,t,rfl,hd,t0,t1,al,hT,q⟩:=h
  refine⟨_,(af (aP (bx (bK (aE (yE T) r T.W_W (aa (vr 0) (aa (vr 1) ae))))) (ai df) aC) (af (psl 2 sc_u ag) (af (psl 3 sc_u (au bZ (aj (aj (cZ (vr 0) rfl) ag) ag) ag)) (af (dM kk (aO oy (vr 3) (vr 1) (az _)) (af (t6 (i:=2) sc_u.nd rfl (m_ rfl) ag qX) (ai (t6 (i:=3) sc_u.nd rfl (m_ rfl) (aj (aj (cZ (vr 0) rfl) (vr 2)) ag) qX)))) (af (gD (aj (cZ (vr 0) rfl) (vr 2)) (bF rfl (av (ax (i:=4) sc_u.nd rfl (m_ rfl)) (av (ax (i:=5) sc_u.nd rfl (m_ rfl)) a9)))) (ai (ap (PE.or (bu (vr 5) N r) (PE.or (bu (vr 5) W r) (PE.or (bu (vr 5) B r) (PE.or (bu (vr 5) F r) (PE.or (bu (vr 5) y r) (PE.or (bu (vr 5) X r) (bu (vr 5) S r)))))))))))))),rL ?_⟩;intro a' a6 a7 a5 a3;obtain⟨ad,D,ab⟩:=m9 hd;refine⟨v,ad,t,rfl,D,t0,by rw[qG ab];exact t1,λH1 s1=>?_⟩;have a1:=hd.t s1.t;have as:=hT.same s1;obtain⟨x,dx,l,I,rfl,hx,hl,hP,bd,a4⟩:=id a1
  have O:∀ p∈j,0<=p.1:=λp hp=>by
   obtain⟨i,hi⟩:=ro hp;have a2:i<I.length:=by rw[<- hP.length];exact(b_.mp hi).1
   obtain⟨p',Z,_,_,_,_,h3,_⟩:=aV hP (c_ a2);rw[hi]at Z;cases Z;lia
  have yl:I.length=j.length:=hP.length.symm
  have C:∀ k:Nat,k<j.length->∃ o f d u,I[k]? = some (.ref o)/\j[k]? = some (d,u)/\H1 o=some (.tup [.int d,f])/\IsMk K H1 f u:=λk hk=>by
   have ah:k<I.length:=by lia
   have e:I[k]? = some I[k]:=c_ ah;obtain⟨⟨d,u⟩,m,o,f,e2,an,_,h3⟩:=aV hP e;exact⟨o,f,d,u,by rw[e,e2],m,an,h3⟩
  obtain⟨qz,fz,mz,uz,yz,pz,hz,_⟩:=C 0 (by lia);refine⟨x,_,dx,_,_,rfl,hx,T.cl_r,T.na_Die_makes,rfl,.inl ⟨l,_,_,_,rfl,rfl,SqL.of hl,ao 0 rfl yz,.inr (.inl ⟨qz,_,_,_,rfl,rfl,SqT.of hz,ao 0 rfl rfl,?_⟩)⟩⟩;have tz:tot (j.take 1)=mz:=by rw[cN pz];simp[tot]
  refine⟨λk σ H'=>H'=H1/\∃(b:Nat) (g:Int) (x4 x5:Option V),σ=[some (.ref x),some (.int t),some (.int (b:Nat)),some (.int g),x4,x5]/\b<j.length/\g=tot (j.take (b+1)) - 1/\tot (j.take b)<=t/\k=j.length - b,⟨_,rfl,0,_,_,_,rfl,by lia,by rw[tz],by simpa[tot] using t0,rfl⟩,?_⟩;rintro k σ H' ⟨rfl,b,g,x4,x5,rfl,hn,G,M,rfl⟩;refine ifC (λc=>?_) λc=>?_
  .have c:g<t:=c
   have R:b+1<j.length:=by
    rcases Io (b+1) j.length with h | h
    .exact h
    .rw[ga h]at G;lia
   obtain⟨o,f,d,u,hy,m,hq,_⟩:=C (b+1) R
   let Pw2:St->Hp->Prop:=λJ Y=>Y=H'/\J=[some (.ref x),some (.int t),some (.int ((b+1:Nat):Int)),some (.int (g+d)),x4,x5]
   refine⟨Pw2,?_,?_⟩
   .rintro J Y ⟨rfl,rfl⟩
    exact⟨_,by lia,rfl,b+1,_,_,_,rfl,R,by rw[cN m];lia,by lia,rfl⟩
   .refine⟨_,rfl,_,_,rfl,rfl,_,rfl,?_⟩
    exact⟨x,_,dx,_,_,rfl,hx,T.cl_r,T.na_Die_makes,rfl,.inl ⟨l,_,_,_,rfl,rfl,SqL.of hl,ao (b+1) (by show(b:Int)+1=((b+1:Nat):Int);lia) hy,.inr (.inl ⟨o,_,_,_,rfl,rfl,SqT.of hq,ao 0 rfl rfl,_,_,rfl,rfl,rfl,by rw[show((b+1:Nat):Int)=(b:Int)+1 by lia];rfl⟩)⟩⟩
  .have c:¬g<t:=c
   obtain⟨o,f,d,u,hy,m,hq,hf⟩:=C b hn;have eu:=d6 j b t d u O m M (by lia);rw[al]at eu;cases eu;refine⟨x,_,dx,_,_,rfl,hx,T.cl_r,T.na_Die_makes,rfl,.inl ⟨l,_,_,_,rfl,rfl,SqL.of hl,ao b (by lia) hy,o,_,rfl,SqT.of hq,rfl,_,_,rfl,_,_,rfl,rfl,?_⟩⟩;exact vv (Bd:=[]) (by rw[bV];exact hf) (l9 _) as λH2 v2 t2 a0 nd=>q _ _ (s1.t.trans t2) a0 nd
def xZ(T:Txt K mg a)(hB:Bm mg base):FnX P w base 9 T.W_ay (spDrawn K a):=by
 have O:FnO P w K mg base 8 (spDA K a):=Ef T hB;have al:FnO P w K mg base 8 (spV (.bl true)):=(Ce T).mo;have Y:FnO P w K mg base 8 (spV (.bl false)):=(BO T).mo;have ab:FnO P w K mg base 8 (CC a):=(Ch T).mo;have Z:FnO P w K mg base 8 (spV .non):=(BI T).mo;refine T.W_ay.A.okz sc_ay λa1 A am s H vs Q E k h=>?_
 .obtain⟨v,l,t,ns,r,rfl,F,I,hl,hT,q⟩:=h
  refine⟨_,(af (psl 2 sc_ay (vr 0)) (af (cj kk rfl (fo rfl T.z_enumerate (aa (vr 1) ae)) (bF rfl (av (ax (i:=3) sc_ay.nd rfl (m_ rfl)) (av (ax (i:=4) sc_ay.nd rfl (m_ rfl)) a9))) (af (aP (bx (bK (aE (yE T) k T.W_W (aa (vr 2) (aa (vr 4) ae))))) (ai df) aC) (ai (psl 2 sc_ay (cD (vr 2) T.cl_r T.mt_u O k T.W_u.B .nil aT (aa (vr 4) ae)))))) (af (aP (bx (bK (PE.or (bM (vr 2) T.cl_f T.mt_m al k T.W_m.B .nil aT) (bM (vr 2) T.cl_r T.mt_s Y k T.W_s.B .nil aT)))) (ai df) aC) (ai (ap (PE.or (bM (vr 2) T.cl_f T.mt_B ab k T.W_B.B .nil aT) (bM (vr 2) T.cl_r T.mt_M Z k T.W_M.B .nil aT))))))),mH ?_⟩;intro as a2 an
  let Pw1:PvS:=λi D f=>SameT H f/\TabsOk (tabs a) f/\∃(b:V) (x3 N:Option V) (C:Tr),D=[some v,some (.ref l),some b,x3,N]/\IsNd K a f b C/\Rw C (r.drop i) ns
  refine⟨l,_,rfl,hl,iL (a:=l) (xs:=r.map V.int) Pw1 ⟨SameT.refl,hT,v,none,none,t,rfl,F,I⟩ (λi D f h=>h.1.at hl) ?_ ?_⟩
  .rintro i x D f p d ⟨t1,g,b,x3,N,C,rfl,j,c⟩ hp
   rw[fb]at d;cases hri:r[i]? with
   | none=>rw[hri]at d;cases d
   | some tw =>
    rw[hri]at d;cases d
    have X:r.drop i=tw::r.drop (i+1):=by
     obtain⟨hi,e⟩:=b_.mp hri;rw[List.drop_eq_getElem_cons hi,e]
    rw[X]at c;obtain⟨ps,u,rfl,t0,tt,ad,G⟩:=c.cons;have L:Same f (upd f p (.tup [.int (i:Nat),.int tw])):=Same.new hp;have hd:=j.t L.t;refine⟨p,_,rfl,SqT.of ac,rfl,_,_,rfl,_,_,rfl,rfl,?_⟩;obtain⟨rs,m,W⟩:=m9 hd;refine⟨b,rs,tw,rfl,m,t0,by rw[qG W];exact tt,λH2 R=>?_⟩;have o:=hd.t R.t;obtain⟨x,B,l',a0,rfl,S,_⟩:=id o;refine⟨x,B,_,rfl,S,rfl,_,ps,u,tw,rfl,o,t0,tt,ad,(g.same L).same R,λH3 v' t4 M y=>?_⟩;rw[bV]at y;exact⟨t1.trans (L.t.trans (R.t.trans t4)),M,v',_,_,u,rfl,y,G⟩
  .rintro D f ⟨t1,g,b,x3,N,C,rfl,j,c⟩
   rw[a_,List.drop_length]at c;have e:=c.nil;subst e;obtain⟨x,B,kt,J,rfl,d,ah,hs⟩:=j;have en:J=Tb.so ns:=Tb.so_uniq hs.1 hs.2;subst en;refine .inl ⟨x,B,_,rfl,d,rfl,_,rfl,?_⟩;exact .inl ⟨x,B,_,rfl,d,rfl,x,B,kt,rfl,d,q _ kt t1 g ah⟩
end
end My
namespace FrM
theorem oJ(z:List Int)(p:Nat->Bool):∀ l:List Nat,sumL z l=sumL z (l.filter p)+sumL z (l.filter λk=>!p k)/\l.length=(l.filter p).length+(l.filter λk=>!p k).length
 | []=>⟨rfl,rfl⟩
 | x::l=>by
  obtain⟨b,f⟩:=oJ z p l;have e:sumL z (x::l)=sz z x+sumL z l:=by unfold sumL;rw[l_,BH]
  by_cases c:p x=true
  .rw[k6 c,g_ (by rw[c];decide),e,b,f_,f_]
   have a:sumL z (x::l.filter p)=sz z x+sumL z (l.filter p):=by unfold sumL;rw[l_,BH]
   rw[a];lia
  .have d:(!p x)=true:=by cases h:p x with | true=>exact absurd h c | false=>rfl
   rw[g_ c,k6 (p:=λk=>!p k) d,e,b,f_,f_];have a:sumL z (x::l.filter λk=>!p k)=sz z x+sumL z (l.filter λk=>!p k):=by unfold sumL;rw[l_,BH]
   rw[a];lia
def CF{z:List Int}{l:List Nat}{w:Int}(b:∀ k∈l,1<=sz z k)(f:w<l.length)(i:0<l.length)(g:0<w):0<w - ((l.length:Int) - ((stay z l w).length:Int)):=by
 obtain⟨d,e⟩:=oJ z (λk=>decide (sz z k*w<sumL z l)) l;have r:=nJ b f i;have p:=fF z (stay z l w) λk a=>b k (mN.mp a).1
 have j:=gq z w (sumL z l) (l.filter λk=>!decide (sz z k*w<sumL z l)) λk a=>by
  have:=(mN.mp a).2;simp at this;exact this
 have d:sumL z l=sumL z (stay z l w)+sumL z (l.filter λk=>!decide (sz z k*w<sumL z l)):=d;have e:l.length=(stay z l w).length+(l.filter λk=>!decide (sz z k*w<sumL z l)).length:=e
 have o:0<sumL z l:=by
  have:=fF z l b;lia
 generalize hA:sumL z (l.filter λk=>!decide (sz z k*w<sumL z l))=A at *;generalize (l.filter λk=>!decide (sz z k*w<sumL z l)).length=c at *;have m:A*w<sumL z l*w:=zb (by lia) g;have h:(c:Int)*sumL z l<w*sumL z l:=by rw[oD w];lia
 have:=GP h (by lia);lia
theorem BP{z:List Int}{n:Nat}{m:Int}(a:∀ k,k<n->1<=sz z k):∀(c:Nat) (l:List Nat) (w:Int),l.length<=c->Rnd z n m l w->0<w->0<(fin z l w).2
 | 0,l,w,hc,h,_=>absurd h.pos (by lia)
 | c+1,l,w,hc,h,h0=>by
  by_cases e:(stay z l w).length=l.length
  .rw[j7 e];exact h0
  .rw[qS e]
   have:=jM z l w;exact BP a c _ _ (by lia) (h.step a) (CF (λk b=>a k (h.sub k b)) h.lt h.pos h0)
def xY{t b:Int}(f:0<t):0<(c5 t b).1:=by
 have d:((n_ t b:Nat):Int) ∣ t:=Ix ..;obtain⟨k,a⟩:=d
 have c:(0:Int)<(n_ t b:Int):=by
  have:n_ t b≠0:=λz=>by rw[z]at a;simp at a;lia
  lia
 show 0<t/(n_ t b:Int);generalize hG:((n_ t b:Nat):Int)=g at *
 have e:t/g=k:=by
  rw[a];exact sn _ (by lia)
 rw[e]
 rcases Hb 0 k with h | h
 .exact h
 .have:=A5 (GL c) h
  lia
def zW{z:List Int}{m:Int}(d:∀ k,k<z.length->1<=sz z k)(g:1<=m):∀ f∈due z m,0<f.1:=by
 intro f a;unfold due at a
 by_cases c:(z.length:Int)<=m
 .rw[if_pos c]at a
  obtain⟨_,_,rfl⟩:=lz.mp a;decide
 .rw[if_neg c,if_neg (by lia)]at a
  obtain⟨k,b,rfl⟩:=lz.mp a
  split
  .next h =>
   have b:=vV.mp b;have R:=Rnd.start (z:=z) (n:=z.length) (m:=m) (by lia) (by lia);have e:=BP d _ _ _ (d_ _) R (by lia);have:=d k b;exact xY (z_ (by lia) e)
  .decide
end FrM
namespace Nst
open FrM Du Tb PySem
inductive Kn where
 | few
 | loose
 | duel
def tree:Kn->Nat->List Mb->Tr
 | .few,m,ms=>fT (plc ms) m []
 | .loose,m,ms=>lT (j9 (lsL ms m)) (fX (lsL ms m))
 | .duel,m,ms=>sT (lsL ms m) []
def cO(fs:List (Int×Int))(f:Int×Int):Int:=((fs.countP λg=>decide (g=f):Nat):Int)
def lo:Kn->Nat->List Mb->Int
 | .loose,m,ms=>cO (due (szs ms) (m:Nat)) (1,1)
 | _,m,ms=>((min m ms.length:Nat):Int)
def hi:Kn->Nat->List Mb->Int
 | .loose,m,ms=>(ms.length:Int) - cO (due (szs ms) (m:Nat)) (0,1)
 | _,m,ms=>((min m ms.length:Nat):Int)
structure Cw(ms:List Mb):Prop where
 len:ms.length<=24
 plc:plc ms=(g0 ms.length).map λ(k:Nat)=>(k:Int)
 lo:∀ x∈szs ms,1<=x
 hi:∀ x∈szs ms,x<=24000000
def Cw.sl(a:List Mb):(szs a).length=a.length:=by unfold szs;rw[a_]
def Cw.pl(a:List Mb):(Nst.plc a).length=a.length:=by unfold Nst.plc;rw[a_]
def Cw.at{a:List Mb}(k:Nat)(h:k<(szs a).length):FrM.sz (szs a) k∈szs a:=by
 unfold FrM.sz;rw[rd,c_ h];exact E_ h
def Cw.du{a:List Mb}(C:Cw a){m:Nat}(b:m<=24):∃ B qs,Due (szs a) (m:Nat) B qs:=zM (λk h=>C.lo _ (Cw.at k h)) (λk h=>C.hi _ (Cw.at k h)) (by rw[Cw.sl];exact C.len) (by lia) (by lia)
def Cw.rl{a:List Mb}(C:Cw a)(m:Nat):lsL a m=tlR (due (szs a) (m:Nat)):=by
 unfold lsL tlR;have b:(FrM.due (szs a) (m:Nat)).length=a.length:=by rw[bD,Cw.sl]
 rw[C.plc,b];apply ext_getElem
 .simp[b]
 .intro k e d
  have c:k<a.length:=by simpa using d
  rw[List.getElem_zip,Gq,Gq,Iu];simp[rd,b,c]
def Cw.mem{a:List Mb}(C:Cw a){x:Int}(h:x∈Nst.plc a):0<=x/\x.toNat<a.length:=by
 rw[C.plc]at h;obtain⟨k,b,rfl⟩:=lz.mp h;have:=vV.mp b;exact⟨by lia,by simpa using this⟩
def EU(L:List (Int×(Int×Int))):(fX L).length+(j9 L).length+L.countP (λx=>decide (x.2=(0,1)))<=L.length:=by
 induction L with
 | nil=>exact d_ _
 | cons x r ih =>
  unfold fX j9 at *;rw[List.countP_cons,f_]
  by_cases c1:x.2=(1,1)
  .rw[k6 (by exact decide_eq_true c1),g_ (by rw[c1];decide),if_neg (by rw[c1];decide),l_,f_]
   lia
  .have a:(x::r).filter (λx=>decide (x.2=(1,1)))=r.filter λx=>decide (x.2=(1,1)):=g_ (λz=>c1 (of_decide_eq_true z))
   rw[a]
   by_cases c2:x.2=(0,1)
   .rw[g_ (by rw[c2];decide),if_pos (by exact decide_eq_true c2)]
    lia
   .rw[if_neg (λz=>c2 (of_decide_eq_true z))]
    by_cases c3:Nst.uns x.2=true
    .rw[k6 (by exact c3),f_];lia
    .rw[g_ (by exact c3)];lia
def oZ{ps:List Int}{fs:List (Int×Int)}(h:fs.length<=ps.length)(g:Int×Int->Bool):(ps.zip fs).countP (λx=>g x.2)=fs.countP g:=by
 have:(ps.zip fs).map (·.2)=fs:=List.map_snd_zip h
 conv=>rhs;rw[<- this]
 rw[Lo];rfl
def vq{k:Kn}{m:Nat}{a:List Mb}(C:Cw a)(j:m<=24){d:List Int}(h:Lf (tree k m a) d):(lo k m a<=d.length/\(d.length:Int)<=hi k m a)/\∀ x∈d,0<=x/\x.toNat<a.length:=by
 have i:=Cw.pl a;cases k with
 | few =>
  obtain⟨s,l,rfl,e⟩:=xR h;rw[i]at e;refine⟨?_,λx hx=>C.mem (l.subset (by simpa using hx))⟩;show((min m a.length:Nat):Int)<=_/\_<=((min m a.length:Nat):Int);lia
 | loose =>
  have E:(due (szs a) (m:Nat)).length=a.length:=by rw[bD,Cw.sl]
  have r:=oZ (ps:=plc a) (fs:=due (szs a) (m:Nat)) (by lia) λf=>decide (f=(1,1))
  have p:=oZ (ps:=plc a) (fs:=due (szs a) (m:Nat)) (by lia) λf=>decide (f=(0,1))
  have I:=EU (lsL a m);have G:(lsL a m).length=a.length:=by unfold lsL;rw[Lr,E,i,JI]
  have H:(fX (lsL a m)).length=(due (szs a) (m:Nat)).countP λf=>decide (f=(1,1)):=by
   unfold fX;rw[a_,<- List.countP_eq_length_filter];exact r
  have v:(lsL a m).countP (λx=>decide (x.2=(0,1)))=(due (szs a) (m:Nat)).countP λf=>decide (f=(0,1)):=p
  obtain⟨s,g,rfl⟩:=zc h;have A:=g.length_le;rw[a_]at A;refine⟨?_,λx hx=>?_⟩
  .show cO _ _<=_/\_<=_ - cO _ _
   unfold cO;rw[ir];lia
  .refine C.mem ?_
   have b:∀ y∈(lsL a m).map (·.1),y∈plc a:=λy w=>by
    obtain⟨z,c,rfl⟩:=lz.mp w;exact(GB c).1
   rcases ra.mp hx with hx | hx
   .unfold fX at hx
    obtain⟨z,c,rfl⟩:=lz.mp hx;exact b _ (lz.mpr ⟨z,(mN.mp c).1,rfl⟩)
   .obtain⟨z,c,rfl⟩:=lz.mp (g.subset hx)
    exact b _ (lz.mpr ⟨z,(mN.mp c).1,rfl⟩)
 | duel =>
  obtain⟨B,F,D⟩:=C.du j;have o:Lf (sT (tlR (due (szs a) (m:Nat))) []) d:=by rw[<- C.rl];exact h
  obtain⟨e,hx⟩:=Da D (by rw[Cw.sl];exact C.len) o;rw[Cw.sl]at e hx;refine⟨?_,hx⟩;show((min m a.length:Nat):Int)<=_/\_<=((min m a.length:Nat):Int)
  split at e <;> lia
def uY{k:Kn}{m:Nat}{a:List Mb}(C:Cw a):Dp 24 (tree k m a):=by
 have b:=Cw.pl a;have e:=C.len;have c:(due (szs a) (m:Nat)).length=a.length:=by rw[bD,Cw.sl]
 have d:(lsL a m).length=a.length:=by unfold lsL;rw[Lr,c,b,JI]
 cases k with
 | few=>exact(yA _ _ _).mono (by lia)
 | loose=>exact(xt _ _).mono (mu (nn _ _) (by lia))
 | duel=>exact(Em _ _).mono (by lia)
end Nst
namespace My
open PySem L2 FrM
open Nst (Mb plc szs lsL j9 fX Kn tree Cw cO)
open Tb (Tr fT lT tot so)
def MbAt(H:Hp)(m:Mb)(x:V):Prop:=∃ q pt,x=.ref q/\H q=some (.tup [.int m.1,.int m.2.1,.ref pt])/\H pt=some (.tup (m.2.2.map V.str))
abbrev CrAt(H:Hp):List Mb->List V->Prop:=Paired (MbAt H)
theorem CrAt.tk{H a:Hp}(k:TK H a):∀{ms:List Mb}{xs:List V},CrAt H ms xs->CrAt a ms xs
 | _,_,.nil=>.nil
 | _,_,.cons ⟨q,pt,h1,h2,h3⟩ t=>.cons ⟨q,pt,h1,k _ _ h2,k _ _ h3⟩ (CrAt.tk k t)
theorem CrAt.get{H:Hp}:∀{ms:List Mb}{xs:List V}{i:Nat}{x:V},CrAt H ms xs->xs[i]? = some x->∃ r,ms[i]? = some r/\MbAt H r x
 | _,_,_,_,.nil,h=>by cases h
 | _,_,0,_,.cons r _,h=>⟨_,rfl,by cases h;exact r⟩
 | _,_,i+1,_,.cons _ t,h=>CrAt.get (i:=i) t h
def CrAt.len{H:Hp}{a:List Mb}{xs:List V}(h:CrAt H a xs):a.length=xs.length:=gp h
inductive spPlaces(vs:List V)(H:Hp)(Q:VK)(_E:XK):Prop
 | mk(l:Addr)(xs:List V)(ms:List Mb)(h0:vs=[.ref l])(h1:H l=some (.lst xs))(h2:CrAt H ms xs)(h3:ms.length<=24)(h4:∀ H' r,Same H H'->H r=none->H' r=some (.lst ((plc ms).map V.int))->Q (.ref r) H'):spPlaces vs H Q _E
inductive spNeedN(vs:List V)(H:Hp)(Q:VK)(_E:XK):Prop
 | mk(i lo hi:Int)(h0:vs=[.int i,.int lo,.int hi])(h1:lo<=i)(h2:i<=hi)(h3:Q .non H):spNeedN vs H Q _E
def pD(fs:List (Int×Int)):List HY:=fs.map λf=>.tuple [.int f.1,.int f.2]
inductive spWBy(K:Frag)(vs:List V)(H:Hp)(Q:VK)(_E:XK):Prop
 | mk(l:Addr)(xs:List V)(ms:List Mb)(m:Int)(h0:vs=[.ref l,.int m])(h1:H l=some (.lst xs))(h2:CrAt H ms xs)(h3:Szs (szs ms))(h4:0<=m)(h5:m<=24)(h6:∀ H' r ys,Same H H'->H r=none->H' r=some (.lst ys)->AllF K H' (due (szs ms) m) ys->Q (.ref r) H'):spWBy K vs H Q _E
def cF(fs:List (Int×Int))(t b:Int):Int:=(((pD fs).countP λz=>sN z (.tuple [.int t,.int b]):Nat):Int)
def IsPn(a:Ad)(H:Hp)(v:V)(m:Nat):Kn->Prop
 | .few=>∃ x dx,v=.ref x/\H x=some (.ins a.c_Z dx [("many",.int (m:Nat))])
 | .loose=>∃ x dx,v=.ref x/\H x=some (.ins a.c_w dx [("many",.int (m:Nat))])
 | .duel=>∃ x dx,v=.ref x/\H x=some (.ins a.c_L dx [("many",.int (m:Nat))])
def IsPn.n{a:Ad}{H b:Hp}{v:V}{m:Nat}(s:NC H b):∀{k:Kn},IsPn a H v m k->IsPn a b v m k
 | .few,⟨x,dx,h1,h2⟩=>⟨x,dx,h1,s _ _ rfl h2⟩
 | .loose,⟨x,dx,h1,h2⟩=>⟨x,dx,h1,s _ _ rfl h2⟩
 | .duel,⟨x,dx,h1,h2⟩=>⟨x,dx,h1,s _ _ rfl h2⟩
def me{a:Ad}{H:Hp}{v:V}{m:Nat}{k:Kn}{S:Kn->Sp}{Q:VK}{i j g:XK}(d:Str)(e:∀ x:V,[(("many" : Str),x)].lookup d=none)(W:(V->Hp->Prop)->Prop)(f:IsPn a H v m k)(h:∀ E,W λy H1=>S k [v,y] H1 Q E) :
  (∃(b dx:Addr) (fs:List (Str×V)),v=.ref b/\H b=some (.ins a.c_Z dx fs)/\fs.lookup d=none/\W λy H1=>S .few [v,y] H1 Q i)\/(∃(b dx:Addr) (fs:List (Str×V)),v=.ref b/\H b=some (.ins a.c_w dx fs)/\fs.lookup d=none/\W λy H1=>S .loose [v,y] H1 Q j)\/(∃(b dx:Addr) (fs:List (Str×V)),v=.ref b/\H b=some (.ins a.c_L dx fs)/\fs.lookup d=none/\W λy H1=>S .duel [v,y] H1 Q g):=by
 cases k with
 | few=>obtain⟨x,dx,rfl,c⟩:=f;exact .inl ⟨x,dx,_,rfl,c,e _,h _⟩
 | loose=>obtain⟨x,dx,rfl,c⟩:=f;exact .inr (.inl ⟨x,dx,_,rfl,c,e _,h _⟩)
 | duel=>obtain⟨x,dx,rfl,c⟩:=f;exact .inr (.inr ⟨x,dx,_,rfl,c,e _,h _⟩)
def kc(a:Ad):Kn->Addr
 | .few=>a.c_Z
 | .loose=>a.c_w
 | .duel=>a.c_L
inductive spPlI(a:Ad)(k:Kn)(vs:List V)(H:Hp)(Q:VK)(_E:XK):Prop
 | mk(x dx:Addr)(m:Nat)(h0:vs=[.ref x,.int (m:Nat)])(h1:H x=some (.ins (kc a k) dx []))(h2:m<=24)(h3:Q .non (upd H x (.ins (kc a k) dx [("many",.int (m:Nat))]))):spPlI a k vs H Q _E
inductive spNode(K:Frag)(a:Ad)(k:Kn)(vs:List V)(H:Hp)(Q:VK)(_E:XK):Prop
 | mk(v:V)(m:Nat)(l:Addr)(xs:List V)(ms:List Mb)(h0:vs=[v,.ref l])(h1:IsPn a H v m k)(h2:H l=some (.lst xs))(h3:CrAt H ms xs)(h4:Cw ms)(h5:m<=24)(h6:TabsOk (tabs a) H)(h7:Res K a H [] (tree k m ms) Q):spNode K a k vs H Q _E
inductive spBo(a:Ad)(k:Kn)(vs:List V)(H:Hp)(Q:VK)(_E:XK):Prop
 | mk(v:V)(m:Nat)(l:Addr)(xs:List V)(ms:List Mb)(h0:vs=[v,.ref l])(h1:IsPn a H v m k)(h2:H l=some (.lst xs))(h3:CrAt H ms xs)(h4:Cw ms)(h5:m<=24)(h6:∀ H' p,Same H H'->H' p=some (.tup [.int (Nst.lo k m ms),.int (Nst.hi k m ms)])->Q (.ref p) H'):spBo a k vs H Q _E
def mR{a:List Mb}(C:Cw a):Szs (szs a):=⟨by rw[Cw.sl];exact C.len,C.lo,C.hi⟩
theorem kW{b a:Type}{r:b->a->Prop}{c:List b}{e:List a}(d:Paired r c e):∀{as:List b}{bs:List a},Paired r as bs->Paired r (as++c) (bs++e)
 | _,_,.nil=>d
 | _,_,.cons x t=>.cons x (kW d t)
theorem nM{K:Frag}{H:Hp}:∀{ps:List Int}{fs:List (Int×Int)}{ys zs:List V},ps.length=fs.length->zs.length=ps.length->AllF K H fs ys->Zp H (ps.map V.int) ys zs->Paired (PrAt K H) (ps.zip fs) zs
 | [],[],_,[],_,_,_,_=>.nil
 | [],[],_,_::_,_,h,_,_=>by cases h
 | [],_::_,_,_,h,_,_,_=>by cases h
 | _::_,[],_,_,h,_,_,_=>by cases h
 | _::_,_::_,_,[],_,h,_,_=>by cases h
 | p::ps,f::fs,y::ys,z::zs,h1,h2,.cons hf t,hz=>by
  obtain⟨q,e,d⟩:=hz 0 z (.int p) y rfl rfl rfl;exact .cons ⟨q,y,e,d,hf⟩ (nM (by simpa using h1) (by simpa using h2) t λj a b c g k i=>hz (j+1) a b c g k i)
theorem vI:∀ L:Tl,(j9 L).length+(fX L).length<=L.length
 | []=>d_ _
 | (p,c)::L=>by
  have d:=vI L;unfold j9 fX at *
  by_cases hu:uns c=true
  .have a:0<c.1/\c.1<c.2:=of_decide_eq_true hu
   have b:¬decide (c=(1,1))=true:=λz=>by
    rw[of_decide_eq_true z]at a;simp at a
   rw[k6 (by exact hu),g_ (by exact b),f_,f_];lia
  .rw[g_ (by exact hu)]
   by_cases h1:decide (c=(1,1))=true
   .rw[k6 (by exact h1),l_,f_,f_]
    lia
   .rw[g_ (by exact h1),f_]
    lia
def vx(a:List Mb)(m:Nat):(lsL a m).length=a.length:=by
 unfold lsL;rw[Lr,bD];unfold plc szs;rw[a_,a_];exact JI _
section
variable {P:gN}{w:ml}{K:Frag}{mg:Str->Option cX}{base:Heap}{a:Ad}
def ko(T:Txt K mg a):FnX P w base 1 T.W_ai spPlaces:=by
 refine T.W_ai.A.okz qx λG A k s H L Q E X h=>?_
 .obtain⟨l,xs,J,rfl,r,p,o,q⟩:=h
  have R:sizeLine=16777216:=fE;have g:=p.len;refine⟨_,(ai (ap (aN rfl (N:=["member"]) (ix:=[none]) ay (aL (vr 0)) (aB λC s H S=>⟨aQ 0 ["member"],aM,(aY (bf (K:=K) rfl) (vr 0) ag)⟩)))),?_⟩;refine .inl ⟨⟨_,SqL.of r⟩,λD j=>?_⟩
  let Pw1:PvL:=λi c d=>i<=xs.length/\Same H d/\d D=some (.lst c)/\c=(plc (J.take i)).map V.int
  refine aD (K:=K) (a:=l) (xs:=xs) Pw1 ⟨ey _,Same.new j,ac,rfl⟩ (λi c d h=>SqL.of (h.2.1 _ _ r)) (λi c d h=>h.2.2.1) ?_ ?_
  .rintro i x c d M v ⟨Y,e,b,rfl⟩ I
   obtain⟨m,y,F,O,rfl,B,W⟩:=(p.tk e.tk).get v;have f:i<xs.length:=(b_.mp v).1;refine⟨trivial,.inr (.inl ⟨F,_,_,_,rfl,rfl,SqT.of B,ao 0 rfl rfl,b,?_,I _ _ ⟨f,e.put j,ac,?_⟩⟩)⟩
   .unfold plc;rw[a_,a_,ki];lia
   .unfold plc;rw[j_,y,gn,gn];rfl
  .rintro c d ⟨_,e,b,rfl⟩
   rw[<- g,ga (d_ _)]at b;exact q _ D e j b
def nI(T:Txt K mg a):FnX P w base 2 T.W_Y spNeedN:=by
 refine T.W_Y.A.okz nL λf A b s H k Q E c h=>?_
 .obtain⟨i,d,j,rfl,e,g,q⟩:=h
  refine⟨_,(ai (aP (bx (bK (pec (dS T) c T.W_K (aa (vr 0) (aa (vr 1) (aa (vr 2) ae)))))) (ai df) aC)),?_⟩;refine⟨i,d,j,rfl,?_⟩;rw[decide_eq_true (KO e g)];exact q
def DD(T:Txt K mg a):MnX P w mg base 3 T.Wi_Z (spPlI a .few):=by
 refine T.Wi_Z.A.okz lH λf A b s H i Q E d h=>?_
 .obtain⟨x,e,m,rfl,g,j,q⟩:=h
  refine⟨_,(af (cH (pec (nI T) d T.W_Y (aa (vr 1) (aa ag (aa (aU rfl T.g_MOST_MANY) ae))))) (ai (m3 (vr 0) (vr 1) rfl))),fc ?_⟩;intro c;refine⟨_,0,24,rfl,by lia,by lia,?_⟩;exact⟨x,a.c_Z,e,[],rfl,g,T.cl_Z,T.na_Few_many,(by decide),q⟩
def xx(T:Txt K mg a):MnX P w mg base 3 T.Wi_w (spPlI a .loose):=by
 refine T.Wi_w.A.okz jE λf A b s H i Q E d h=>?_
 .obtain⟨x,e,m,rfl,g,j,q⟩:=h
  refine⟨_,(af (cH (pec (nI T) d T.W_Y (aa (vr 1) (aa ag (aa (aU rfl T.g_MOST_MANY) ae))))) (ai (m3 (vr 0) (vr 1) rfl))),fc ?_⟩;intro c;refine⟨_,0,24,rfl,by lia,by lia,?_⟩;exact⟨x,a.c_w,e,[],rfl,g,T.cl_w,T.na_Loose_many,(by decide),q⟩
def AO(T:Txt K mg a):MnX P w mg base 3 T.Wi_L (spPlI a .duel):=by
 refine T.Wi_L.A.okz kx λf A b s H i Q E d h=>?_
 .obtain⟨x,e,m,rfl,g,j,q⟩:=h
  refine⟨_,(af (cH (pec (nI T) d T.W_Y (aa (vr 1) (aa ag (aa (aU rfl T.g_MOST_MANY) ae))))) (ai (m3 (vr 0) (vr 1) rfl))),fc ?_⟩;intro c;refine⟨_,0,24,rfl,by lia,by lia,?_⟩;exact⟨x,a.c_L,e,[],rfl,g,T.cl_L,T.na_Duel_many,(by decide),q⟩
theorem B9{H:Hp}:∀{fs:List (Int×Int)}{xs:List V},AllF K H fs xs->DVs K H (pD fs) xs
 | _,_,.nil=>by simp[DVs,pD]
 | _,_,.cons ⟨p,e,r⟩ t=>by
  unfold pD;rw[l_,DVs];exact⟨_,_,rfl,by rw[e];exact iM r.sq,B9 t⟩
theorem BX:∀(fs:List (Int×Int)),ub (pD fs)=true/\w_ (pD fs)<=3
 | []=>by simp[ub,w_,pD]
 | t::l=>by
  obtain⟨a,b⟩:=BX l;unfold pD at *;rw[l_,ub,w_,a];refine⟨by simp[GH,ub],?_⟩;simp only[G2,w_];lia
def nQ(T:Txt K mg a):FnX P w base 5 T.W_ac (spWBy K):=by
 refine T.W_ac.A.okz qN λX A p s H vs Q E j h=>?_
 .obtain⟨l,xs,k,m,rfl,F,B,y,S,R,q⟩:=h
  have br:sizeLine=16777216:=fE;have g:=B.len;have v:k.length<=24:=by have:=y.len;unfold szs at this;rw[a_]at this;exact this
  refine⟨_,(ai (ap (pec (wI T) j T.W_aN (aa (aN rfl (N:=["member"]) (ix:=[none]) ay (aL (vr 0)) (aB λC s H fp=>⟨aQ 0 ["member"],aM,(aY (bf (K:=K) rfl) (vr 0) ag)⟩)) (aa (vr 1) ae))))),?_⟩;refine .inl ⟨⟨_,SqL.of F⟩,λD G=>?_⟩
  let Pw2:PvL:=λi c d=>i<=xs.length/\Same H d/\d D=some (.lst c)/\c=(szs (k.take i)).map V.int
  refine aD (K:=K) (a:=l) (xs:=xs) Pw2 ⟨ey _,Same.new G,ac,rfl⟩ (λi c d h=>SqL.of (h.2.1 _ _ F)) (λi c d h=>h.2.2.1) ?_ ?_
  .rintro i x c d P' I ⟨hi,e,b,rfl⟩ Y
   obtain⟨mm,J,W,pt,rfl,M,g2⟩:=(B.tk e.tk).get I;have f:i<xs.length:=(b_.mp I).1;refine⟨trivial,.inr (.inl ⟨W,_,_,_,rfl,rfl,SqT.of M,ao 1 rfl rfl,b,?_,Y _ _ ⟨f,e.put G,ac,?_⟩⟩)⟩
   .unfold szs;rw[a_,a_,ki];lia
   .unfold szs;rw[j_,J,gn,gn];rfl
  .rintro c d ⟨_,e,b,rfl⟩
   rw[<- g,ga (d_ _)]at b;exact⟨D,szs k,m,rfl,b,y,S,R,λZ r c O o j L=>q Z r c (e.trans O) (e.free o) j L⟩
def xF(T:Txt K mg a)(M:Bm mg base):MnX P w mg base 4 T.W_Q (spNode K a .few):=by
 refine T.W_Q.A.okz sV λN A j s H X Q E y h=>?_
 .obtain⟨v,m,l,S,B,rfl,⟨x,O,rfl,W⟩,L,J,C,Z,F,q⟩:=h
  have c:=C.len;refine⟨_,(ai (ap (pec (yH T M) y T.W_q (aa (aE (ko T) y T.W_ai (aa (vr 1) ae)) (aa (cZ (vr 0) rfl) (aa (bn ae) ae)))))),?_⟩;refine⟨l,S,B,rfl,L,J,c,λp r k R i=>?_⟩;refine⟨x,_,O,_,_,rfl,k _ _ W,T.cl_Z,T.na_Few_many,rfl,?_⟩;refine⟨ey _,λd G=>?_⟩;have f:=Same.new (o:=.lst []) G;have D:=ac (H:=p) (a:=d) (o:=.lst []);generalize upd p d (.lst [])=H2 at f D;have b:=k.trans f;refine⟨.ref r,.ref d,plc B,[],m,[],rfl,l9 _,by rw[bV];exact⟨r,rfl,f _ _ i⟩,by rw[bV];exact⟨d,rfl,D⟩,?_,F.same b,λH' Y I e g=>q _ _ (b.t.trans I) e g⟩;unfold plc;rw[a_,Hw];lia
def zj(T:Txt K mg a)(hB:Bm mg base):MnX P w mg base 6 T.W_n (spNode K a .loose):=by
 refine T.W_n.A.okz sc_n λa5 A al s H vs Q E hr h=>?_
 .obtain⟨v,m,l,xs,I,rfl,⟨x,dx,rfl,hx⟩,hl,R,C,m2,hT,q⟩:=h
  have hz:=mR C;have br:sizeLine=16777216:=fE;have G:I.length<=24:=by have:=hz.len;unfold szs at this;rw[a_]at this;exact this
  refine⟨_,(af (psl 2 sc_n (mQ rfl rfl T.z_list rfl T.z_zip (aa (aE (ko T) hr T.W_ai (aa (vr 1) ae)) (aa (pec (nQ T) hr T.W_ac (aa (vr 1) (aa (cZ (vr 0) rfl) ae))) ae)))) (af (b7 rfl (i:=3) sc_n.nd rfl rfl (by with_unfolding_all rfl) (N:=["place","chance"]) (ix:=[none,none]) ay (aL (vr 2)) (aB λC s H fp=>⟨(bT (K:=K) (n:=2) rfl rfl (dy ["place","chance"])),cv (aO (wN (K:=K) rfl hr.units) (vr 1) (aU rfl T.g_WHOLE) (az _)),(vr 0)⟩)) (ai (ap (aE (yn T hB) hr T.W_c (aa (aN rfl (N:=["place","chance"]) (ix:=[none,none]) ay (aL (vr 2)) (aB λC s H fp=>⟨(bT (K:=K) (n:=2) rfl rfl (dy ["place","chance"])),cv (bK (aE (tM T) hr T.W_aj (aa (vr 1) ae))),(aG (aa (vr 0) (aa (vr 1) ae)))⟩)) (aa (vr 3) ae))))))),fQ ?_⟩;intro a3 a2;refine⟨l,xs,I,rfl,hl,R,G,λH1 r F a4 an=>?_⟩;refine⟨x,_,dx,_,_,rfl,F _ _ hx,T.cl_w,T.na_Loose_many,rfl,?_⟩;refine⟨l,xs,I,(m:Nat),rfl,F _ _ hl,R.tk F.tk,hz,by lia,by lia,λJ w' Z s2 a6 hw hF=>?_⟩;have yl:Z.length=I.length:=by rw[<- hF.len,bD];unfold szs;rw[a_]
  have pl:(plc I).length=I.length:=by unfold plc;rw[a_]
  refine⟨r,w',_,_,rfl,s2 _ _ an,hw,by rw[a_];lia,by rw[a_];lia,λH3 lt ps s3 a7 B M am=>?_⟩;rw[a_]at M;have hP:Paired (PrAt K H3) (lsL I m) ps:=nM (by rw[pl,bD];unfold szs;rw[a_]) M (hF.same s3) am
  obtain⟨tl,etl⟩:∃ tl,tl=lsL I m:=⟨_,rfl⟩
  have a1:tl.length<=24:=by rw[etl,vx];exact G
  have ah:WfL (j9 tl) (fX tl):=⟨by have:=vI tl;lia,λx hx=>(mN.mp hx).2⟩
  have q':Res K a H [] (lT (j9 tl) (fX tl)) Q:=by rw[etl];exact q
  rw[<- etl]at hP;have a0:=F.trans (s2.trans s3);refine .inl ⟨⟨_,SqL.of B⟩,λD hD=>?_⟩
  let Pw3:PvL:=λi j L=>Same H3 L/\L D=some (.lst j)/\i<=tl.length/\j=(((tl.take i).filter λx=>decide (x.2=(1,1))).map (·.1)).map V.int
  refine aD (K:=K) (a:=lt) (xs:=ps) Pw3 ⟨Same.new hD,ac,ey _,rfl⟩ (λi Z L h=>SqL.of (h.1 _ _ B)) (λi Z L h=>h.2.1) ?_ ?_
  .rintro i y j L P' hy ⟨F,b,hi,rfl⟩ f
   obtain⟨⟨p,c⟩,d,q1,yc,rfl,W,R⟩:=aV hP hy;have g:i<tl.length:=(b_.mp d).1;refine⟨q1,_,rfl,SqT.of (F _ _ W),rfl,_,_,rfl,_,_,rfl,rfl,?_⟩;obtain⟨pc,rfl,as⟩:=R.same F;refine⟨trivial,.tuple [.int c.1,.int c.2],.tuple [.int 1,.int 1],iM as.sq,iM (m4 T.t_WHOLE),fA _ _,fA _ _,?_⟩;rw[mj];refine ifC (λhh=>?_) λhh=>?_
   .have hw:decide (c=(1,1))=true:=decide_eq_true (show c=(1,1) from hh)
    refine⟨b,?_,f _ _ ⟨F.put hD,ac,g,?_⟩⟩
    .rw[a_,a_]
     have:=nn (λx:Int×(Int×Int)=>decide (x.2=(1,1))) (tl.take i);rw[ki]at *;lia
    .rw[j_,d,rz,gn,gn]
     congr 1
     show _=(([(p,c)].filter λx:Int×(Int×Int)=>decide (x.2=(1,1))).map (·.1)).map V.int;rw[k6 (by exact hw)];rfl
   .have hw:¬decide (c=(1,1))=true:=λz=>hh (of_decide_eq_true z)
    refine f _ _ ⟨F,b,g,?_⟩;rw[j_,d,rz];show _=(((_++[(p,c)].filter λx:Int×(Int×Int)=>decide (x.2=(1,1)))).map (·.1)).map V.int;rw[g_ (by exact hw)];simp
  .rintro j L ⟨s4,b,_,rfl⟩
   rw[show ps.length=tl.length from hP.length.symm,A7]at b;have b:L D=some (.lst ((fX tl).map V.int)):=b;refine .inl ⟨⟨_,SqL.of (s4 _ _ B)⟩,λD2 ab=>?_⟩
   let Pw4:PvL:=λi j J=>Same L J/\J D2=some (.lst j)/\i<=tl.length/\Paired (PrAt K J) ((tl.take i).filter λx=>uns x.2) j
   refine aD (K:=K) (a:=lt) (xs:=ps) Pw4 ⟨Same.new ab,ac,ey _,.nil⟩ (λi Z J h=>SqL.of (h.1 _ _ (s4 _ _ B))) (λi Z J h=>h.2.1) ?_ ?_
   .rintro i y j J P' hy ⟨X,k,hi,e⟩ f
    obtain⟨⟨p,c⟩,d,q1,yc,rfl,W,R⟩:=aV hP hy;have g:i<tl.length:=(b_.mp d).1;have O:=s4.trans X;refine⟨q1,_,rfl,SqT.of (O _ _ W),rfl,_,_,rfl,_,_,rfl,rfl,trivial,?_⟩;refine⟨yc,c,rfl,R.same O,?_⟩
    have zl:j.length<=24:=by
     rw[<- e.length];have:=nn (λx:Int×(Int×Int)=>uns x.2) (tl.take i);rw[ki]at *;lia
    refine ifB (λhu=>?_) λhu=>?_
    .refine⟨cM _ _,λq3 f3=>?_⟩
     have s6:=Same.new (o:=.tup [.int p,yc]) f3;have S:=s6 _ _ k;refine⟨S,by lia,f _ _ ⟨(X.trans s6).put ab,ac,g,?_⟩⟩;rw[j_,d,rz];refine kW ?_ (aA (λx v h=>PrAt.put S _ _ (h.t s6.t)) e);show Paired _ ([(p,c)].filter λx:Int×(Int×Int)=>uns x.2) _;rw[k6 (by exact hu)];exact .cons (PrAt.put S _ _ ⟨q3,yc,rfl,ac,R.same (O.trans s6)⟩) .nil
    .refine f _ _ ⟨X,k,g,?_⟩
     rw[j_,d,rz];show Paired _ (_++[(p,c)].filter λx:Int×(Int×Int)=>uns x.2) _;rw[g_ (by rw[hu];decide)];simpa using e
   .rintro j J ⟨X,k,_,e⟩
    rw[show ps.length=tl.length from hP.length.symm,A7]at e;have Y:=a0.trans (s4.trans X);exact⟨.ref D2,.ref D,j9 tl,fX tl,[],rfl,l9 _,by rw[bV];exact⟨D2,j,rfl,k,e⟩,by rw[bV];exact⟨D,rfl,X _ _ b⟩,ah,hT.same Y,λH4 v' t4 ad nd=>q' _ _ (Y.t.trans t4) ad nd⟩
def xa(T:Txt K mg a)(hB:Bm mg base):MnX P w mg base 6 T.W_J (spNode K a .duel):=by
 refine T.W_J.A.okz qe λad A I s H vs Q E y h=>?_
 .obtain⟨v,m,l,Z,d,rfl,⟨x,dx,rfl,J⟩,X,O,C,m2,hT,q⟩:=h
  have N:=mR C;obtain⟨B,qs,D⟩:=C.du m2;have br:sizeLine=16777216:=fE;have b:d.length<=24:=by have:=N.len;unfold szs at this;rw[a_]at this;exact this
  refine⟨_,(ai (ap (pec (mx T hB) y T.W_ap (aa (mQ rfl rfl T.z_list rfl T.z_zip (aa (aE (ko T) y T.W_ai (aa (vr 1) ae)) (aa (pec (nQ T) y T.W_ac (aa (vr 1) (aa (cZ (vr 0) rfl) ae))) ae))) (aa (bn ae) ae))))),?_⟩;refine⟨l,Z,d,rfl,X,O,b,λH1 r f al G=>?_⟩;refine⟨x,_,dx,_,_,rfl,f _ _ J,T.cl_L,T.na_Duel_many,rfl,?_⟩;refine⟨l,Z,d,(m:Nat),rfl,f _ _ X,O.tk f.tk,N,by lia,by lia,λH2 w' ys M ab hw S=>?_⟩;have yl:ys.length=d.length:=by rw[<- S.len,bD];unfold szs;rw[a_]
  have pl:(plc d).length=d.length:=by unfold plc;rw[a_]
  refine⟨r,w',_,_,rfl,M _ _ G,hw,by rw[a_];lia,by rw[a_];lia,λH3 W Y R ah k c g=>?_⟩;rw[a_]at c;have hP:Paired (PrAt K H3) (lsL d m) Y:=nM (by rw[pl,bD];unfold szs;rw[a_]) c (S.same R) g;have F:=f.trans (M.trans R);refine⟨ey _,λL j=>?_⟩;have p:=Same.new (o:=.lst []) j;have e:=F.trans p
  have i:BB (B:Int):=⟨by have:=D.B0;lia,by have:=D.B1;lia⟩
  refine⟨.ref W,.ref L,lsL d m,[],(B:Int),[],rfl,l9 _,by rw[bV];exact⟨W,Y,rfl,p _ _ k,aA (PrAt.t p.t) hP⟩,by rw[bV];exact⟨L,rfl,ac⟩,i,⟨λx J=>D.fr _ (GB J).2,by rw[vx];simpa using b⟩,hT.same e,λH5 u t5 hT5 n5=>q _ _ (e.t.trans t5) hT5 n5⟩
def yK{H:Hp}{l k:Addr}{xs:List V}{fs:List (Int×Int)}{t b:Int}{Q:VK}(d:H l=some (.lst xs))(c:AllF K H fs xs)(a:SqT K H k [.int t,.int b])(q:Q (.int (cF fs t b)) H):rCount K (.ref l) [.ref k] H Q :=
 ⟨l,xs,pD fs,.ref k,.tuple [.int t,.int b],rfl,rfl,d,B9 c,iM a,(BX fs).1,by simp[GH,ub],by simp[G2,w_],q⟩
def BE(fs:List (Int×Int))(t b:Int):cF fs t b=cO fs (t,b):=by
 unfold cF pD cO;rw[Lo]
 congr 1
 refine List.countP_congr λf _=>?_
 show sN (.tuple [.int f.1,.int f.2]) (.tuple [.int t,.int b])=true↔_;rw[mj]
def CG(T:Txt K mg a):MnX P w mg base 6 T.W_A (spBo a .loose):=by
 refine T.W_A.A.okz gQ λJ A g s H R Q E f h=>?_
 .obtain⟨v,m,l,M,b,rfl,⟨x,L,rfl,O⟩,I,B,C,W,q⟩:=h
  have j:=mR C;refine⟨_,(af (psl 2 gQ (pec (nQ T) f T.W_ac (aa (vr 1) (aa (cZ (vr 0) rfl) ae)))) (ai (ap (aG (aa (pe_m.count f.units (vr 2) (aa (aU rfl T.g_WHOLE) ae)) (aa (au bZ (ak aw rfl T.z_len aK (aa (vr 2) ae)) (pe_m.count f.units (vr 2) (aa (aU rfl T.g_NOUGHT) ae))) ae)))))),fc ?_⟩;intro i;refine⟨x,_,L,_,_,rfl,O,T.cl_w,T.na_Loose_many,rfl,?_⟩;refine⟨l,M,b,(m:Nat),rfl,I,B,j,by lia,by lia,λX S r k F c d=>?_⟩;have G:r.length=(due (szs b) (m:Nat)).length:=d.len.symm;refine⟨.inl ⟨rfl,_,SqL.of c⟩,yK c d (m4 T.t_WHOLE) ?_⟩;refine⟨_,.inl (SqL.of c),⟨.inl ⟨rfl,_,SqL.of c⟩,yK c d (m4 T.t_NOUGHT) ?_⟩⟩;rw[G];refine⟨cM _ _,λp y=>?_⟩;have D:=Same.new (o:=.tup [.int (cF (due (szs b) (m:Nat)) 1 1),.int (((due (szs b) (m:Nat)).length:Int) - cF (due (szs b) (m:Nat)) 0 1)]) y;have e:=k.trans D;refine q _ p e ?_;rw[ac];have N:(due (szs b) (m:Nat)).length=b.length:=by rw[bD,Cw.sl]
  rw[BE,BE,N];rfl
def CY(T:Txt K mg a):MnX P w mg base 1 T.W_N (spBo a .few):=by
 refine T.W_N.A.okz jm λk A b s H y Q E B h=>?_
 .obtain⟨v,m,l,c,D,rfl,⟨x,f,rfl,r⟩,i,g,C,F,q⟩:=h
  have o:=g.len;refine⟨_,(af (psl 2 jm (ak (eC rfl) rfl T.z_min jq (aa (cZ (vr 0) rfl) (aa (ak aw rfl T.z_len aK (aa (vr 1) ae)) ae)))) (ai (ap (aG (aa (vr 2) (aa (vr 2) ae)))))),fc ?_⟩;intro d;refine⟨x,_,f,_,_,rfl,r,T.cl_Z,T.na_Few_many,rfl,⟨_,.inl (SqL.of i),?_⟩⟩;refine⟨_,_,rfl,?_⟩
  have e:(if ((c.length:Int)<(m:Int)) then (c.length:Int) else (m:Int))=((min m c.length:Nat):Int):=by split <;> lia
  rw[e];refine⟨(show 2<=sizeLine by decide),λp j=>q _ p (Same.new j) ?_⟩;rw[ac,<- o];rfl
def Dn(T:Txt K mg a):MnX P w mg base 1 T.W_G (spBo a .duel):=by
 refine T.W_G.A.okz iz λk A b s H y Q E B h=>?_
 .obtain⟨v,m,l,c,D,rfl,⟨x,f,rfl,r⟩,i,g,C,F,q⟩:=h
  have o:=g.len;refine⟨_,(af (psl 2 iz (ak (eC rfl) rfl T.z_min jq (aa (cZ (vr 0) rfl) (aa (ak aw rfl T.z_len aK (aa (vr 1) ae)) ae)))) (ai (ap (aG (aa (vr 2) (aa (vr 2) ae)))))),fc ?_⟩;intro d;refine⟨x,_,f,_,_,rfl,r,T.cl_L,T.na_Duel_many,rfl,⟨_,.inl (SqL.of i),?_⟩⟩;refine⟨_,_,rfl,?_⟩
  have e:(if ((c.length:Int)<(m:Int)) then (c.length:Int) else (m:Int))=((min m c.length:Nat):Int):=by split <;> lia
  rw[e];refine⟨(show 2<=sizeLine by decide),λp j=>q _ p (Same.new j) ?_⟩;rw[ac,<- o];rfl
end
end My
namespace My
open PySem L2 FrM Du Nd
open Nst (Mb plc szs lsL Kn tree Cw)
def Pos(q:Rat):Prop:=0<q/\OkQ 96 q
def DY(a:Ad)(K:Frag)(e:EF)(n:Nat)(H:Hp)(Q:VK):Prop:=∀ H' p,SameT H H'->TabsOk (tabs a) H'->Mx K (Ex e) H' n (.ref p)->Q (.ref p) H'
def D9(a:Ad)(K:Frag)(n:Nat)(H:Hp)(Q:VK):Prop:=∀ H' p,SameT H H'->TabsOk (tabs a) H'->(∃ e:EF,(∀ i,i<n->Pos (e i i))/\Mx K (Ex e) H' n (.ref p))->Q (.ref p) H'
inductive spMat(K:Frag)(a:Ad)(k:Kn)(vs:List V)(H:Hp)(Q:VK)(_E:XK):Prop
 | mk(v:V)(m:Nat)(l:Addr)(zs:List V)(ms:List Mb)(h0:vs=[v,.ref l])(h1:IsPn a H v m k)(h2:H l=some (.lst zs))(h3:CrAt H ms zs)(h4:Cw ms)(h5:1<=m)(h6:m<=24)(h7:TabsOk (tabs a) H)(h8:D9 a K ms.length H Q):spMat K a k vs H Q _E
inductive spDM(a:Ad)(K:Frag)(vs:List V)(H:Hp)(Q:VK)(_E:XK):Prop
 | mk(ls lo:Addr)(xs:List V)(qs:List Rat)(ord:List Nat)(B:Nat)(h0:vs=[.ref ls,.ref lo])(h1:H ls=some (.lst xs))(h2:AllF K H (qs.map fr) xs)(h3:H lo=some (.lst (ord.map λ(o:Nat)=>V.int (o:Int))))(h4:qs.length<=24)(h5:ord.length<=24)(h6:(∀ o∈ord,o<qs.length))(h7:0<B)(h8:B<=1000000000)(h9:(∀ q∈qs,Bq B q))(h10:TabsOk (tabs a) H)(h11:DY a K (rY qs (uP (oh qs ord))) qs.length H Q):spDM a K vs H Q _E
def nd2(n:Nat):([n+1+1,n+1]:List Nat).Nodup:=by
 simp only[t_,i_,xo,or_false,not_or,not_false_eq_true,GV,and_true];lia
def zd{a:List Mb}(C:Cw a){m B:Nat}{d:List Rat}(f:1<=m)(D:Due (szs a) (m:Nat) B d):∀ q∈d,Pos q:=λq c=>by
 have b:=D.bq q c;refine⟨?_,b.1,b.2.1,na (wP D.B0 b) (na D.B1 (by decide))⟩;have e:fr q∈due (szs a) (m:Nat):=by rw[<- D.eq];exact lz.mpr ⟨q,c,rfl⟩
 exact num_pos.mp (zW (λk h=>C.lo _ (Cw.at k h)) (by lia) _ e)
def BU{a:List Rat}{P:Rat->Prop}(h:∀ q∈a,P q){i:Nat}(b:i<a.length):P (a.getD i 0):=h _ (by rw[rd,c_ b];exact E_ b)
def xf{a b:Rat}(c:0<a)(d:0<b):0<a/b:=by
 rw[Rat.div_def];exact JR c (Rat.inv_pos.mpr d)
def Ae{n w i:Nat}(h:1<=w)(j:w<=n)(c:n<=24):Pos (eFn n w i i):=by
 have d:0<n:=by lia
 have a:Bq n ((w:Rat)/(n:Rat)):=u7 (u:=(w:Int)) (b:=(n:Int)) (by lia) (by lia) (by lia);have e:eFn n w i i=(w:Rat)/(n:Rat):=by unfold eFn;rw[if_pos rfl]
 rw[e];refine⟨?_,a.1,a.2.1,na (wP d a) (na c (by decide))⟩;have f:(0:Rat)<(w:Rat):=by exact_mod_cast (show 0<w by lia)
 have g:(0:Rat)<(n:Rat):=by exact_mod_cast d
 exact xf f g
section
variable {P:gN}{w:ml}{K:Frag}{mg:Str->Option cX}{base:Heap}{a:Ad}
def As(T:Txt K mg a)(X:Bm mg base):MnX P w mg base 8 T.W_b (spMat K a .few):=by
 have o:FnO P w K mg base 7 (spMBy K):=tL T;refine T.W_b.A.okL T.lcd_b sc_b (by decide +kernel) (λG H Q E h=>?_) (λA outer s H G Q E hr h=>?_)
 .obtain⟨v,m,l,b,Y,rfl,_⟩:=h;rfl
 .obtain⟨v,m,l,b,Y,rfl,⟨x,Z,rfl,hx⟩,W,R,C,m1,m2,N,q⟩:=h
  have O:=R.len;have S:=C.len;refine⟨_,(cV (psr 2 sc_b (ak aw rfl T.z_len aK (aa (vr 1) ae))) (cV (psr 3 sc_b (ak (eC rfl) rfl T.z_min jq (aa (cZ (vr 0) rfl) (aa (vr 2) ae)))) (qH sc_b.nd (by decide +kernel) o hr rfl T.W_v.C T.W_v.A.kp T.W_v.B .nil (aa (vr 2) (aa (eQ (d:=ce) rfl T.lch_b X rfl (by with_unfolding_all rfl) rfl (oA a) (.head _) T.tnd ol) ae))))),?_⟩;refine⟨_,.inl (SqL.of W),?_⟩;refine⟨x,_,Z,_,_,rfl,hx,T.cl_Z,T.na_Few_many,rfl,?_⟩;refine⟨_,_,rfl,?_⟩
  have e:(if ((b.length:Int)<(m:Int)) then (b.length:Int) else (m:Int))=((min m b.length:Nat):Int):=by split <;> lia
  rw[e];refine⟨N,λf c H1 t1 p L I M=>?_⟩;intro H3 j g;have cT:=g 2 _ _ _ rfl rfl (by with_unfolding_all rfl);have J:=g 3 _ _ _ rfl rfl (by with_unfolding_all rfl);have k:=t1.trans j.t;refine⟨b.length,eFn b.length (min m b.length),.ref f,rfl,by lia,.inl ⟨by lia,min m b.length,G4 _ _,rfl,⟨f,c,_,rfl,j _ _ I,j _ _ M,rfl,by simp,.cons J (.cons cT .nil)⟩⟩,λH' r D F ab ad y B=>?_⟩;rw[<- O]at B;exact q _ r (k.trans F.t) ((p.same j).same F) ⟨_,λi hi=>Ae (by lia) (G4 _ _) S,B⟩
def wz(T:Txt K mg a)(hB:Bm mg base):MnX P w mg base 8 T.W_a (spMat K a .loose):=by
 have o:FnO P w K mg base 7 (spMBy K):=tL T;refine T.W_a.A.okL T.lcd_a sc_a (by decide +kernel) (λO H Q E h=>?_) (λA outer s H O Q E hr h=>?_)
 .obtain⟨v,m,l,I,G,rfl,_⟩:=h;rfl
 .obtain⟨v,m,l,I,G,rfl,⟨x,dx,rfl,hx⟩,hl,hc,C,Y,m2,X,q⟩:=h
  have z6:=C.len;obtain⟨B,j,D⟩:=C.du m2;have N:=zd C Y D;have ql:j.length=G.length:=by rw[D.len,Cw.sl]
  refine⟨_,(cV (psr 2 sc_a (aE (nQ T) hr T.W_ac (aa (vr 1) (aa (cZ (vr 0) rfl) ae)))) (qH sc_a.nd (by decide +kernel) o hr rfl T.W_v.C T.W_v.A.kp T.W_v.B .nil (aa (ak aw rfl T.z_len aK (aa (vr 2) ae)) (aa (eQ (d:=bL) rfl T.lch_a hB rfl (by with_unfolding_all rfl) rfl (lI a) (.head _) T.tnd lQ) ae)))),?_⟩;refine⟨x,_,dx,_,_,rfl,hx,T.cl_w,T.na_Loose_many,rfl,?_⟩;refine⟨l,I,G,(m:Nat),rfl,hl,hc,mR C,by lia,by lia,λH2 w' k J ab L y=>?_⟩;rw[<- D.eq]at y;have M:k.length=j.length:=by rw[<- y.len,a_]
  refine⟨_,.inl (SqL.of L),?_⟩;refine⟨X.same J,λf c H1 t1 p S R W=>?_⟩;intro H3 e F;have Z:=F 2 _ _ _ rfl rfl (by with_unfolding_all rfl);have b:=t1.trans e.t;have g:=J.t.trans b;refine⟨k.length,eLn j,.ref f,rfl,by lia,.inr (.inl ⟨w',_,⟨f,c,_,rfl,e _ _ R,e _ _ W,rfl,by simp,.cons Z .nil⟩,⟨⟨k,b.at L,y.tk (SameT.tk b)⟩,λq hq=>(N q hq).2⟩,M.symm,rfl⟩),λH' r rows s4 hr0 hr1 hnew hM=>?_⟩;rw[M,ql]at hM;exact q _ r (g.trans s4.t) ((p.same e).same s4) ⟨_,λi hi=>by unfold eLn;rw[if_pos rfl];exact BU N (by lia),hM⟩
def E6(T:Txt K mg a)(hB:Bm mg base):FnX P w base 8 T.W_d (spDM a K):=by
 have an:FnO P w K mg base 7 (spMBy K):=tL T;refine T.W_d.A.okL T.lcd_d sc_d (by decide +kernel) (λvs H Q E h=>?_) (λA outer s H vs Q E hr h=>?_)
 .obtain⟨ls,lo,xs,e,b,B,rfl,_⟩:=h;rfl
 .obtain⟨ls,lo,xs,e,b,B,rfl,a2,hF,a0,a8,a7,G,B0,B1,hq,hT,q⟩:=h
  have br:sizeLine=16777216:=fE;refine⟨_,(cV (psr 2 sc_d (bi ei rfl T.z_list cc (aa (vr 0) ae))) (cV (psr 3 sc_d (aE (AR T) hr T.W_h (aa (aN rfl (N:=["place","told"]) (ix:=[none,some 2]) ay (aL (vr 1)) (aB λC s H fp=>⟨aQ 0 ["place","told"],cv (bK (aE (tM T) hr T.W_aj (aa (aY (bf (K:=K) rfl) (vr 1) (vr 0)) ae))),(aG (aa (vr 0) (aa (aY (bf (K:=K) rfl) (vr 1) (vr 0)) ae)))⟩)) ae))) (qH sc_d.nd (by decide +kernel) an hr rfl T.W_v.C T.W_v.A.kp T.W_v.B .nil (aa (ak aw rfl T.z_len aK (aa (vr 2) ae)) (aa (eQ (d:=bU) rfl T.lch_d hB rfl (by with_unfolding_all rfl) rfl (m7 a) (.head _) T.tnd mE) ae))))),?_⟩;refine⟨ls,xs,rfl,.inl (SqL.of a2),λL a4=>?_⟩;have s1:=Same.new (o:=.lst xs) a4;have k:=ac (H:=H) (a:=L) (o:=.lst xs);generalize upd H L (.lst xs)=H1 at s1 k;have S:=hF.same s1;have O:xs.length=e.length:=by rw[<- hF.len,a_]
  have F:=s1 _ _ a0;refine .inl ⟨⟨_,SqL.of F⟩,λD hD=>?_⟩
  let Pw1:PvL:=λi m v=>i<=b.length/\Same H1 v/\v D=some (.lst m)/\m.length<=i/\Paired (PQ K v) (oh e (b.take i)) m
  refine aD (K:=K) (a:=lo) (xs:=b.map λ(o:Nat)=>V.int (o:Int)) Pw1 ⟨ey _,Same.new hD,ac,ey _,.nil⟩ (λi m v h=>SqL.of (h.2.1 _ _ F)) (λi m v h=>h.2.2.1) ?_ ?_
  .rintro i y m v P' hy ⟨hi,I,j,Z,g⟩ Y
   rw[fb]at hy;cases hoi:b[i]? with
   | none=>rw[hoi]at hy;cases hy
   | some o =>
    rw[hoi]at hy;cases hy;have ab:i<b.length:=(b_.mp hoi).1;have ho:=G o (eH hoi);obtain⟨M,ad,qo⟩:=xH (S.same I) ho
    have e1:oh e (b.take (i+1))=oh e (b.take i)++(if rX (e.getD o 0) then [(o,e.getD o 0)] else []):=by
     unfold oh ET;rw[j_,hoi,gn,rz]
     congr 1
     show List.filter _ [(o,e.getD o 0)]=_
     by_cases c:rX (e.getD o 0)=true
     .rw[if_pos c,k6 (p:=λz:Nat×Rat=>rX z.2) (a:=(o,e.getD o 0)) c];rfl
     .rw[if_neg c,g_ (p:=λz:Nat×Rat=>rX z.2) (a:=(o,e.getD o 0)) c];rfl
    refine⟨⟨rfl,trivial⟩,.inl ⟨L,_,_,M,rfl,rfl,SqL.of (I _ _ k),aZ ad,M,_,rfl,qo,?_⟩⟩;rw[C1];refine ifB (λc=>?_) (λc=>?_)
    .refine .inl ⟨L,_,_,M,rfl,rfl,SqL.of (I _ _ k),aZ ad,?_⟩
     refine⟨cM _ _,λnp J=>?_⟩;have s3:=Same.new (o:=.tup [.int (o:Nat),M]) J;have W:=s3 _ _ j;have ne:np≠D:=λz=>by rw[z,j]at J;cases J
     have X:TK v (upd (upd v np (.tup [.int (o:Nat),M])) D (.lst (m++[.ref np]))):=s3.tk.trans (TK.lst W);refine⟨W,by lia,Y _ _ ⟨ab,(I.trans s3).put hD,ac,by rw[ir];show m.length+1<=i+1;lia,?_⟩⟩;rw[e1,if_pos c];exact cz ⟨np,M,rfl,by rw[aq ne];exact ac,qo.tk X⟩ (aA (λz x (h:PQ K v z x)=>h.tk X) g)
    .refine Y _ _ ⟨ab,I,j,by lia,?_⟩
     rw[e1,if_neg (by rw[c];decide),y_];exact g
  .rintro m v ⟨_,I,j,Z,g⟩
   rw[a_]at Z g;rw[A7]at g;have a':(oh e b).length<=24:=by rw[gp g];lia
   have a1:∀ z∈oh e b,Bq B z.2/\Uns z.2:=λz hz=>by
    obtain⟨z1,z2⟩:=mN.mp hz;obtain⟨o,ho,rfl⟩:=lz.mp z1;have:=G o ho;exact⟨hq _ (by show e.getD o 0∈e;rw[rd,c_ this];exact E_ this),unsQ_iff.mp z2⟩
   refine⟨D,m,oh e b,B,rfl,j,g,by lia,B0,B1,a1,λH3 d ah s3 fd hd am=>?_⟩;have l:=I.trans s3;refine⟨_,.inl (SqL.of (l _ _ k)),?_⟩;have a3:=hT.same (s1.trans l);refine⟨a3,λf c H4 t4 al bm ef ec=>?_⟩;intro H5 s5 hc;have cT:=hc 2 _ _ _ rfl rfl (by with_unfolding_all rfl);have cW:=hc 3 _ _ _ rfl rfl (by with_unfolding_all rfl);have R:=t4.trans s5.t
   have M3:DMx K H3 L d e (uP (oh e b)) B:=⟨⟨xs,l _ _ k,S.same l⟩,⟨ah,hd,am⟩,by lia,B0,B1,hq⟩
   have as:=(s1.trans l).t.trans R;refine⟨xs.length,rY e (uP (oh e b)),.ref f,rfl,by lia,.inr (.inr ⟨L,d,e,_,B,⟨f,c,_,rfl,s5 _ _ ef,s5 _ _ ec,rfl,nd2 _,.cons cT (.cons cW .nil)⟩,M3.st R,O.symm,rfl⟩),λH6 r a5 s6 bd bl a6 hM=>?_⟩;exact q _ r (as.trans s6.t) ((al.same s5).same s6) (by rw[<- O];exact hM)
def xm(T:Txt K mg a)(Y:Bm mg base):MnX P w mg base 9 T.W_F (spMat K a .duel):=by
 refine T.W_F.A.okz nR λab A f s H vs Q E G h=>?_
 .obtain⟨v,m,l,c,I,rfl,⟨x,dx,rfl,hx⟩,F,k,C,M,Z,J,q⟩:=h
  have z6:=C.len;have zl:=k.len;have br:sizeLine=16777216:=fE;obtain⟨B,g,D⟩:=C.du Z;have X:=zd C M D;have W:g.length=I.length:=by rw[D.len,Cw.sl]
  refine⟨_,(ai (ap (pec (E6 T Y) G T.W_d (aa (aE (nQ T) G T.W_ac (aa (vr 1) (aa (cZ (vr 0) rfl) ae))) (aa (bi (dX rfl) rfl T.z_list cc (aa (bi iT rfl T.z_range jG (aa (ak aw rfl T.z_len aK (aa (vr 1) ae)) ae)) ae)) ae))))),?_⟩;refine⟨x,_,dx,_,_,rfl,hx,T.cl_L,T.na_Duel_many,rfl,?_⟩;refine⟨l,c,I,(m:Nat),rfl,F,k,mR C,by lia,by lia,λH2 S N j O L y=>?_⟩;rw[<- D.eq]at y;refine⟨_,.inl (SqL.of (j _ _ F)),⟨_,rfl,λp d=>⟨p,c.length,rfl,by lia,ac,λlf hlf=>?_⟩⟩⟩;have e:=(Same.new (o:=.rng 0 (c.length:Int)) d).trans (Same.new (o:=.lst ((g0 c.length).map λ(o:Nat)=>V.int (o:Int))) hlf);have b:=j.trans e;refine⟨S,lf,N,g,g0 c.length,B,rfl,e _ _ L,y.same e,ac,by lia,by rw[py];lia,λo R=>by have:=vV.mp R;lia,D.B0,D.B1,D.bq,J.same b,λH4 r t4 hT4 hM=>?_⟩;rw[W]at hM;exact q _ r (b.t.trans t4) hT4 ⟨_,λi hi=>by unfold rY;rw[if_pos rfl];exact BU X (by lia),hM⟩
end
end My
namespace My
open PySem L2 FrM Du
open Nst (Mb plc szs Cw)
def MbAt.tk{H b:Hp}{m:Mb}{x:V}(k:TK H b)(h:MbAt H m x):MbAt b m x:=let ⟨a,p,h1,h2,h3⟩:=h;⟨a,p,h1,k a _ h2,k p _ h3⟩
inductive spMade(vs:List V)(H:Hp)(Q:VK)(_E:XK):Prop
 | mk(t S:Str)(m:Int)(h0:vs=[.str t,.str S,.int m])(h1:t.length<=sizeLine)(h2:∀ H',Same H H'->Q (.bl (kY t S m)) H'):spMade vs H Q _E
inductive spName(vs:List V)(H:Hp)(Q:VK)(_E:XK):Prop
 | mk(t:Str)(h0:vs=[.str t])(h1:iw t=true)(h2:∀ H',Same H H'->Q (.bl true) H'):spName vs H Q _E
inductive spHll(vs:List V)(H:Hp)(Q:VK)(_E:XK):Prop
 | mk(l:Addr)(xs:List V)(h0:vs=[.ref l])(h1:H l=some (.lst xs))(h2:1<=xs.length)(h3:xs.length<=24)(h4:Q (.bl true) H):spHll vs H Q _E
inductive spPath(vs:List V)(H:Hp)(Q:VK)(_E:XK):Prop
 | mk(p:Addr)(ts:List Str)(h0:vs=[.ref p])(h1:H p=some (.tup (ts.map V.str)))(h2:ts.length<=3)(h3:(∀ t∈ts,iw t=true))(h4:∀ H',Same H H'->Q (.bl true) H'):spPath vs H Q _E
inductive spUnit(vs:List V)(H:Hp)(Q:VK)(_E:XK):Prop
 | mk(x:V)(u:U)(h0:vs=[x])(h1:IsU H u x)(h2:GoodU u)(h3:∀ H',Same H H'->Q (.bl true) H'):spUnit vs H Q _E
def zy(ts:List Str):List U->Bool
 | []=>true
 | u::_=>decide (ts.length=u.path.length)
inductive spPlen(vs:List V)(H:Hp)(Q:VK)(_E:XK):Prop
 | mk(p l:Addr)(ts:List Str)(us:List U)(xs:List V)(h0:vs=[.ref p,.ref l])(h1:H p=some (.tup (ts.map V.str)))(h2:H l=some (.lst xs))(h3:AllU H us xs)(h4:Q (.bl (zy ts us)) H):spPlen vs H Q _E
inductive spNew(vs:List V)(H:Hp)(Q:VK)(_E:XK):Prop
 | mk(n:Str)(l:Addr)(us:List U)(xs:List V)(h0:vs=[.str n,.ref l])(h1:H l=some (.lst xs))(h2:AllU H us xs)(h3:xs.length<=sizeLine)(h4:∀ H',Same H H'->Q (.bl (!decide (n∈us.map U.name))) H'):spNew vs H Q _E
inductive spNeed(vs:List V)(H:Hp)(Q:VK)(_E:XK):Prop
 | mk(l:Addr)(us:List U)(xs:List V)(h0:vs=[.ref l])(h1:H l=some (.lst xs))(h2:AllU H us xs)(h3:GoodL us)(h4:∀ H',Same H H'->Q .non H'):spNeed vs H Q _E
abbrev crU(us:List U):List Mb:=us.mapIdx λi u=>((i:Int),u.size,u.path)
def nO(us:List U):(crU us).length=us.length:=List.length_mapIdx
def CO{us:List U}{i:Nat}{u:U}(h:us[i]? = some u):(crU us)[i]? = some ((i:Int),u.size,u.path):=by simp[crU,List.getElem?_mapIdx,h]
inductive spCrowd(vs:List V)(H:Hp)(Q:VK)(_E:XK):Prop
 | mk(l:Addr)(us:List U)(xs:List V)(h0:vs=[.ref l])(h1:H l=some (.lst xs))(h2:AllU H us xs)(h3:GoodL us)(h4:∀ H' r cs,Same H H'->H' r=some (.lst cs)->CrAt H' (crU us) cs->Q (.ref r) H'):spCrowd vs H Q _E
def za{us:List U}(h:(us.map U.name).Nodup){i:Nat}{u:U}(k:us[i]? = some u):u.name ∉ (us.take i).map U.name:=by
 intro d;obtain⟨v,g,e⟩:=lz.mp d;obtain⟨j,a⟩:=ro g
 have b:j<i:=by
  by_cases z:j<i
  .exact z
  .rw[List.getElem?_take_eq_none (by lia)]at a;cases a
 rw[Jg b]at a;have f:(us.map U.name)[j]? = some u.name:=by rw[fb,a];show some v.name=_;rw[e]
 have m:(us.map U.name)[i]? = some u.name:=by rw[fb,k];rfl
 obtain⟨o,l⟩:=b_.mp f;obtain⟨p,c⟩:=b_.mp m;have:=(Kp h).mp (l.trans c.symm);lia
def CV(us:List U):plc (crU us)=(g0 (crU us).length).map λ(k:Nat)=>(k:Int):=by
 rw[nO];apply ext_getElem
 .simp[plc]
 .intro k b a
  simp[plc]
def Cr(us:List U):szs (crU us)=us.map U.size:=by
 apply ext_getElem
 .simp[szs]
 .intro k b a
  simp[szs]
def Ev{us:List U}(G:GoodL us):Cw (crU us):=by
 refine⟨by rw[nO];exact G.l2,CV us,λx a=>?_,λx a=>?_⟩ <;> rw[Cr]at a <;> obtain⟨u,hu,rfl⟩:=lz.mp a
 .exact(G.each u hu).s0
 .have:=(G.each u hu).s1
  lia
section
variable {P:gN}{w:ml}{K:Frag}{mg:Str->Option cX}{base:Heap}{a:Ad}
def zQ(T:Txt K mg a):FnX P w base 1 T.W_aq spMade:=by
 refine T.W_aq.A.okz oj λx A j s H B Q E F h=>?_
 .obtain⟨t,S,m,rfl,o,q⟩:=h
  refine⟨_,(ai (ap (bE (md jt jt ag (ak aw rfl T.z_len aK (aa (vr 0) ae)) (vr 2)) (bW (ak (gg rfl) rfl T.z_all mw (aa (aN rfl (N:=["sign","signs"]) (ix:=[none,some 1]) ay (aL (vr 0)) (aB λC s H G=>⟨aQ 0 ["sign","signs"],aM,(ba EM (vr 0) (vr 1) (by with_unfolding_all rfl))⟩)) ae)))))),?_⟩
  have k:∀ b,Same H b->¬(1<=(t.cps.size:Int)/\(t.cps.size:Int)<=m)->Q (.bl false) b:=λb e c=>by
   have:=q b e;unfold kY at this;rw[decide_eq_false c]at this;exact this
  refine⟨o,?_⟩;refine ifC (λg=>?_) (λg=>(k H (Same.refl H) λz=>g z.1));refine ifC (λf=>?_) (λf=>k H (Same.refl H) λz=>f z.2)
  have c:1<=(t.cps.size:Int)/\(t.cps.size:Int)<=m:=⟨g,f⟩
  intro D p;refine yQ (λi d b=>b=upd H D (.lst d)/\d=(t.cps.toList.take i).map λc=>V.bl (decide (c∈S.cps.toList))) ⟨rfl,rfl⟩ (λi d b ⟨e,_⟩=>by rw[e];exact ac) ?_ ?_
  .rintro i c d b P r ⟨rfl,rfl⟩ y
   refine⟨⟨rfl,trivial⟩,?_⟩;have l:t.cps.toList[i]? = some c:=by simpa using r
   refine⟨ac,?_,y _ _ ⟨cq,?_⟩⟩
   .rw[a_,ki]
    have J:i<t.cps.toList.length:=(b_.mp l).1;have:t.cps.toList.length=t.cps.size:=by simp
    have I:t.cps.size<=sizeLine:=o;lia
   .rw[j_,l,gn]
    show _=_++[V.bl (decide (c∈S.cps.toList))]
    congr 2
    show V.bl (!(rc _ _ 0 _ 1).isEmpty)=_;rw[PySem.StrLaws.found_one]
  .rintro d b ⟨rfl,rfl⟩
   refine⟨D,_,t.cps.toList.map λc=>decide (c∈S.cps.toList),rfl,SqL.of ac,?_,?_⟩
   .rw[map_map,ga (by simp)]
    rfl
   .have v:(t.cps.toList.map λc=>decide (c∈S.cps.toList)).all id=kY t S m:=by
     unfold kY;rw[decide_eq_true c,Jl,List.all_map];rfl
    rw[v];exact q _ (Same.new p)
def vT(T:Txt K mg a):FnX P w base 2 T.W_aD spName:=by
 refine T.W_aD.A.okz tU λg A c s H i Q E d h=>?_
 .obtain⟨t,rfl,b,q⟩:=h
  refine⟨_,(ai (ap (bE (ak bB rfl T.z_isinstance aI (aa (vr 0) (aa (bS (v:=.ty "str") rfl T.z_str Dg rfl) ae))) (bW (pec (zQ T) d T.W_aq (aa (vr 0) (aa (aU rfl T.g_LETTERS) (aa (aU rfl T.g_MOST_LETTERS) ae)))))))),?_⟩;refine⟨_,_,_,true,rfl,rfl,.str t,rfl,?_⟩;refine⟨t,_,_,rfl,tO b,λf e=>?_⟩;have b:kY t "abcdefghijklmnopqrstuvwxyz" 8=true:=b;rw[b];exact q f e
def C8(T:Txt K mg a):FnX P w base 1 T.W_I spHll:=by
 refine T.W_I.A.okz gU λe A b s H f Q E g h=>?_
 .obtain⟨l,d,rfl,c,i,j,q⟩:=h
  refine⟨_,(ai (ap (bE (ak bB rfl T.z_isinstance aI (aa (vr 0) (aa (bS (v:=.ty "list") rfl T.z_list cc rfl) ae))) (bW (md jt jt ag (ak aw rfl T.z_len aK (aa (vr 0) ae)) (aU rfl T.g_MOST_UNITS_listings)))))),?_⟩;refine⟨_,_,_,true,rfl,rfl,.lst c,rfl,d,.inl (SqL.of c),?_⟩;refine zg (Q:=λv=>Q v H) ?_;rw[decide_eq_true (by lia)];exact q
def zL(T:Txt K mg a):FnX P w base 3 T.W_aI spPath:=by
 refine T.W_aI.A.okz uA λB A m s H M Q E G h=>?_
 .obtain⟨p,g,rfl,j,X,I,q⟩:=h
  refine⟨_,(ai (ap (bE (ak bB rfl T.z_isinstance aI (aa (vr 0) (aa (bS (v:=.ty "tuple") rfl T.z_tuple fV rfl) ae))) (bE (ba jt (ak aw rfl T.z_len aK (aa (vr 0) ae)) (aU rfl T.g_MOST_LEVELS) (az _)) (bW (ak (gg rfl) rfl T.z_all mw (aa (aN rfl (N:=["name"]) (ix:=[none]) ay (aL (vr 0)) (aB λC s H S=>⟨aQ 0 ["name"],aM,(pec (vT T) G T.W_aD (aa (vr 0) ae))⟩)) ae))))))),?_⟩;have R:sizeLine=16777216:=fE;refine⟨_,_,_,true,rfl,rfl,.tup j,rfl,_,.inr (SqT.of j),?_⟩;refine ifC (λc=>?_) (λc=>?_)
  .refine .inr ⟨⟨_,SqT.of j⟩,λD r=>?_⟩
   let Pw1:PvL:=λi e f=>Same H f/\f D=some (.lst e)/\i<=g.length/\e=(l4 i true).map V.bl
   refine nj (K:=K) (a:=p) (xs:=g.map V.str) Pw1 ⟨(Same.refl H).put r,ac,ey _,rfl⟩ (λi e f h=>SqT.of (h.1 _ _ j)) (λi e f h=>h.2.1) ?_ ?_
   .rintro i x e f O y ⟨l,d,W,rfl⟩ F
    obtain⟨t,J,rfl⟩:=lz.mp (eH y);have k:i<g.length:=by have:=(b_.mp y).1;rwa [a_]at this
    refine⟨trivial,t,rfl,I t J,λY o=>⟨o _ _ d,?_,F _ _ ⟨(l.trans o).put r,ac,k,?_⟩⟩⟩
    .rw[a_,qi];lia
    .rw[F1,gn];rfl
   .rintro e f ⟨l,d,_,rfl⟩
    refine⟨D,_,_,rfl,SqL.of d,rfl,?_⟩;have:(l4 (g.map V.str).length true).all id=true:=by rw[F8];intro b L;exact(JU.mp L).2
    rw[this];exact q _ l
  .have c:¬(((g.map V.str).length:Nat):Int)<=3:=c
   rw[a_]at c;lia
def AI(T:Txt K mg a):FnX P w base 4 T.W_aJ spUnit:=by
 refine T.W_aJ.A.okz uE λk A f s H m Q E b h=>?_
 .obtain⟨x,u,rfl,⟨c,p,rfl,d,j⟩,g,q⟩:=h
  refine⟨_,(ai (ap (bE (ak bB rfl T.z_isinstance aI (aa (vr 0) (aa (bS (v:=.ty "tuple") rfl T.z_tuple fV rfl) ae))) (bE (ba dJ (ak aw rfl T.z_len aK (aa (vr 0) ae)) (aU rfl T.g_UNIT_PARTS) (az _)) (bE (aE (vT T) b T.W_aD (aa (aj (vr 0) ag) ae)) (bE (aE (dS T) b T.W_K (aa (aj (vr 0) ag) (aa (nT mZ (aU rfl T.g_VALUE_BOUND)) (aa (aU rfl T.g_VALUE_BOUND) ae)))) (bE (aE (dS T) b T.W_K (aa (aj (vr 0) ag) (aa ag (aa (aU rfl T.g_MOST_SIZE) ae)))) (bW (pec (zL T) b T.W_aI (aa (aj (vr 0) ag) ae)))))))))),?_⟩;refine⟨_,_,_,true,rfl,rfl,.tup d,rfl,_,.inr (SqT.of d),?_⟩;refine .inr (.inl ⟨c,_,_,_,rfl,rfl,SqT.of d,ao 0 rfl rfl,_,rfl,g.nm,λo e=>?_⟩);have i:=e _ _ d;refine .inr (.inl ⟨c,_,_,_,rfl,rfl,SqT.of i,ao 1 rfl rfl,_,_,_,rfl,?_⟩);rw[decide_eq_true (KO g.v0 g.v1)];refine .inr (.inl ⟨c,_,_,_,rfl,rfl,SqT.of i,ao 2 rfl rfl,_,_,_,rfl,?_⟩);rw[decide_eq_true (KO g.s0 g.s1)];exact .inr (.inl ⟨c,_,_,_,rfl,rfl,SqT.of i,ao 3 rfl rfl,p,u.path,rfl,e _ _ j,g.pl,g.pn,λr l=>q _ (e.trans l)⟩)
def Cy(T:Txt K mg a):FnX P w base 1 T.W_am spNew:=by
 refine T.W_am.A.okz nU λG A r s H J Q E W h=>?_
 .obtain⟨n,l,f,xs,rfl,j,v,c,q⟩:=h
  refine⟨_,(ai (ap (ba gw (vr 0) (aN rfl (N:=["unit"]) (ix:=[none]) ay (aL (vr 1)) (aB λC s H R=>⟨aQ 0 ["unit"],aM,(aY (bf (K:=K) rfl) (vr 0) ag)⟩)) (by with_unfolding_all rfl)))),?_⟩;have O:sizeLine=16777216:=fE;refine .inl ⟨⟨_,SqL.of j⟩,λD m=>?_⟩
  let Pw2:PvL:=λi b d=>i<=xs.length/\d=upd H D (.lst b)/\b=(f.take i).map λu=>V.str u.name
  refine aD (K:=K) (a:=l) (xs:=xs) Pw2 ⟨ey _,rfl,rfl⟩ (λi b d h=>by rw[h.2.1];exact SqL.of (by rw[aq (ar j m)];exact j)) (λi b d h=>by rw[h.2.1];exact ac) ?_ ?_
  .rintro i x b d L B ⟨X,rfl,rfl⟩ I
   obtain⟨u,k,F,p,rfl,y,S⟩:=v.get B;have g:i<xs.length:=(b_.mp B).1;have M:xs.length<=sizeLine:=c;refine⟨trivial,.inr (.inl ⟨F,_,_,_,rfl,rfl,SqT.of (by rw[aq (ar y m)];exact y),ao 0 rfl rfl,ac,?_,I _ _ ⟨g,cq,?_⟩⟩)⟩
   .rw[a_,ki];lia
   .rw[j_,k,gn];rfl
  .rintro b d ⟨_,rfl,rfl⟩
   rw[<- v.len,ga (d_ _)];have e:(f.map λu=>V.str u.name)=(f.map U.name).map V.str:=by rw[map_map];rfl
   refine⟨D,_,rfl,.inl (SqL.of ac),rfl,by rw[e];exact pk _,?_⟩;have:=q _ ((Same.refl H).put (o:=.lst (f.map λu=>V.str u.name)) m);rw[<- sf]at this;rw[e];rw[e]at this;exact this
def AC(T:Txt K mg a):FnX P w base 1 T.W_T spPlen:=by
 refine T.W_T.A.okz ju λv A d s H y Q E C h=>?_
 .obtain⟨p,l,b,i,f,rfl,k,g,o,q⟩:=h
  refine⟨_,(ai (ap (Do (AQ (vr 1)) (bW (ba dJ (ak aw rfl T.z_len aK (aa (vr 0) ae)) (ak aw rfl T.z_len aK (aa (aj (aj (vr 1) ag) ag) ae)) (az _)))))),?_⟩;refine⟨!f.isEmpty,.inl ⟨f,SqL.of g,rfl⟩,?_⟩;cases o with
  | nil=>exact q
  | @cons u x i f r t =>
   obtain⟨j,B,rfl,m,c⟩:=r;refine⟨_,.inr (SqT.of k),.inl ⟨l,_,_,_,rfl,rfl,SqL.of g,ao 0 rfl rfl,.inr (.inl ⟨j,_,_,_,rfl,rfl,SqT.of m,ao 3 rfl rfl,_,.inr (SqT.of c),?_⟩)⟩⟩
   have e:decide (((b.map V.str).length:Int)=((u.path.map V.str).length:Int))=zy b (u::i):=by
    show _=decide (b.length=u.path.length);rw[decide_eq_decide,a_,a_];lia
   show Q (.bl (decide (((b.map V.str).length:Int)=((u.path.map V.str).length:Int)))) H;rw[e];exact q
def AJ(T:Txt K mg a):FnX P w base 5 T.W_V spNeed:=by
 refine T.W_V.A.okz sc_V λah A N s H vs Q E y h=>?_
 .obtain⟨l,k,xs,rfl,r,F,j,q⟩:=h
  have br:sizeLine=16777216:=fE;refine⟨_,(af (aP (bx (bK (aE (C8 T) y T.W_I (aa (vr 0) ae)))) (ai df) aC) (ai (cj kk rfl (fo rfl T.z_enumerate (aa (vr 0) ae)) (bF rfl (av (ax (i:=1) sc_V.nd rfl (m_ rfl)) (av (ax (i:=2) sc_V.nd rfl (m_ rfl)) a9))) (af (aP (bx (bK (pec (AI T) y T.W_aJ (aa (vr 2) ae)))) (ai df) aC) (ai (aP (PW.pt (kO (bx (bK (aE (Cy T) y T.W_am (aa (aj (vr 2) ag) (aa (dL g9 (vr 0) fq (fe (vr 1))) ae))))) (hZ (bx (bK (aE (AC T) y T.W_T (aa (aj (vr 2) ag) (aa (dL g9 (vr 0) fq (fe (vr 1))) ae)))))))) (ai df) aC)))))),fc ?_⟩;intro ab;have S:=F.len;have g1:=j.l1;have g2:=j.l2;refine⟨l,xs,rfl,r,by lia,by lia,?_⟩
  let Pw3:PvS:=λi o c=>Same H c/\∃ B I,o=[some (.ref l),B,I]
  refine⟨l,xs,rfl,r,iL (a:=l) (xs:=xs) Pw3 ⟨Same.refl H,none,none,rfl⟩ (λi o c h=>h.1 _ _ r) ?_ ?_⟩
  .rintro i x o c p hx ⟨J,B,I,rfl⟩ hp
   obtain⟨u,f,W⟩:=F.get hx;have O:=eH f;have hi:i<xs.length:=(b_.mp hx).1;have b:Same H (upd c p (.tup [.int (i:Nat),x])):=J.trans (Same.new hp);refine⟨p,_,rfl,SqT.of ac,rfl,_,_,rfl,_,_,rfl,rfl,?_⟩;generalize upd c p (.tup [.int (i:Nat),x])=H1 at b;refine⟨x,u,rfl,W.tk b.tk,j.each u O,λH2 m=>?_⟩;obtain⟨R,pp,rfl,ha,C⟩:=W.tk (b.trans m).tk;have d:=(b.trans m) _ _ r;have e:=F.tk (b.trans m).tk;have M:cQ xs none (some (i:Int))=xs.take i:=pJ xs i (by lia);refine .inr (.inl ⟨R,_,_,_,rfl,rfl,SqT.of ha,ao 0 rfl rfl,_,rfl,.inl ⟨xs,SqL.of d,λp2 D=>?_⟩⟩);have Z:Same H2 (upd H2 p2 (.lst (cQ xs none (some (i:Int))))):=Same.new D;refine⟨u.name,p2,k.take i,cQ xs none (some (i:Int)),rfl,ac,by have h:=e.take i;rw[<- M]at h;exact h.tk Z.tk,by rw[M,ki];lia,λY s5=>?_⟩;rw[decide_eq_false (za j.nd f)];have g:=Z.trans s5;refine .inr (.inl ⟨R,_,_,_,rfl,rfl,SqT.of (g _ _ ha),ao 3 rfl rfl,_,rfl,.inl ⟨xs,SqL.of (g _ _ d),λX L=>?_⟩⟩);have G:Same Y (upd Y X (.lst (cQ xs none (some (i:Int))))):=Same.new L;refine⟨pp,X,u.path,k.take i,cQ xs none (some (i:Int)),rfl,G _ _ (g _ _ C),ac,by have h:=e.take i;rw[<- M]at h;exact h.tk (g.trans G).tk,?_⟩
   have pl:zy u.path (k.take i)=true:=by
    cases ht:k.take i with
    | nil=>rfl
    | cons v vs =>
     have hv:v∈k:=JL (i:=i) (by rw[ht];exact ft);exact decide_eq_true (j.pth u O v hv)
   rw[pl];exact⟨((b.trans m).trans g).trans G,_,_,rfl⟩
  .rintro o c ⟨J,B,I,rfl⟩
   exact q _ J
def yJ(T:Txt K mg a):FnX P w base 1 T.W_aB spCrowd:=by
 refine T.W_aB.A.okz rW λZ A J s H vs Q E hr h=>?_
 .obtain⟨l,R,xs,rfl,M,L,hg,q⟩:=h
  have br:sizeLine=16777216:=fE;have e:=L.len;have g2:=hg.l2;refine⟨_,(ai (ap (aN rfl (N:=["place","unit"]) (ix:=[none,none]) ay (fo rfl T.z_enumerate (aa (vr 0) ae)) (aB λC s H fp=>⟨(bT (K:=K) (n:=2) rfl rfl (dy ["place","unit"])),aM,(aG (aa (vr 0) (aa (aY (bf (K:=K) rfl) (vr 1) ag) (aa (aY (bf (K:=K) rfl) (vr 1) ag) ae))))⟩)))),?_⟩;refine⟨l,xs,rfl,M,λD O=>?_⟩;refine kJ (a:=l) (xs:=xs) (λi c b=>i<=xs.length/\Same H b/\b D=some (.lst c)/\Paired (MbAt b) ((crU R).take i) c) ⟨ey _,Same.new O,ac,.nil⟩ (λi c b h=>h.2.1 _ _ M) (λi c b h=>h.2.2.1) ?_ ?_
  .rintro i x c b p P' S ⟨hi,r,d,k⟩ Y hP
   obtain⟨u,F,W⟩:=L.get S;have B:i<xs.length:=(b_.mp S).1;have j:Same b (upd b p (.tup [.int (i:Nat),x])):=Same.new Y;obtain⟨v,G,rfl,I,f⟩:=W.tk (r.trans j).tk;refine⟨p,_,rfl,SqT.of ac,rfl,_,_,rfl,_,_,rfl,rfl,trivial,?_⟩;generalize upd b p (.tup [.int (i:Nat),.ref v])=H1 at j I f;refine .inr (.inl ⟨v,_,_,_,rfl,rfl,SqT.of I,ao 2 rfl rfl,.inr (.inl ⟨v,_,_,_,rfl,rfl,SqT.of I,ao 3 rfl rfl,by show 3<=sizeLine;lia,λt ht=>?_⟩)⟩);have o:Same H1 (upd H1 t (.tup [.int (i:Nat),.int u.size,.ref G])):=Same.new ht;have g:=(j.trans o) _ _ d;have X:c.length=i:=by rw[<- gp k,ki,nO];lia
   have y:TK _ (upd (upd H1 t (.tup [.int (i:Nat),.int u.size,.ref G])) D (.lst (c++[.ref t]))):=TK.lst g;refine⟨g,by lia,hP _ _ ⟨B,((r.trans j).trans o).put O,ac,iJ (aA (λm z h=>MbAt.tk ((j.trans o).tk.trans y) h) k) (CO F) ⟨t,G,rfl,y _ _ ac,y _ _ (o _ _ f)⟩⟩⟩
  .rintro c b ⟨_,r,d,k⟩
   rw[<- e,<- nO R,A7]at k;exact q _ _ _ r d k
end
end My
namespace L2
open PySem PySem.Spec PyProof.Rows
section
variable {X:Cx}{k:Nat}{f:Addr}{fd:ri}{ps:List Str}{sp:Sp}{x:Str}{p pos:Pos}{e:Expr}{es:List Expr}{t:TA}{tf:TE}{ds:List cX}{dvs:List V}{CX:CXT}{E:XK}
def rh(i:PE X (.Name x p) tf)(F:FnOk X.prog X.w X.K X.mg X.base CX k f fd ps sp)(g:Room k X.A)(j:HR X.K (.ref f)=true)(y:Binds X.K fd ps ds)(o:Vals dvs ds)(w:iI CX X E)
  (m:PA X (e::es) t) (B:fI (e::es) X.env=(false,eval e X.env)::fI es X.env:=by rfl) (c:(tp pos (fI es X.env)).any (·.1)=false:=by rfl) :
  PE X (.Call (.Name x p) (e::es) [] pos) (λσ H Q=>tf σ H λv H1=>v=.ref f/\uT sp dvs E t σ H1 Q):=by
 intro a s σ H Q I h;refine oI (thn (i a s σ H _ I h) λu d ⟨v,H1,b,A,l,q⟩=>?_);subst l;obtain rfl:u=mr f:=A;refine Hu (h₀:=X.base) b.ok.mod.kin j (thn (m pos a d σ H1 _ b q) λD d ⟨C,H1,b,r,q⟩=>⟨b.kIn,?_⟩) B c;exact qr F g y o w b r q
end
end L2
namespace Led
def sI(f:Nat->Int):Nat->Int
 | 0=>0
 | n+1=>sI f n+f n
theorem bp{f g:Nat->Int}:∀{n:Nat},(∀ i<n,f i=g i)->sI f n=sI g n
 | 0,_=>rfl
 | n+1,h=>by rw[sI,sI,bp (λi a=>h i (by lia)),h n (by lia)]
theorem tK(f g:Nat->Int):∀ n,sI (λi=>f i+g i) n=sI f n+sI g n
 | 0=>rfl
 | n+1=>by rw[sI,sI,sI,tK f g n];lia
theorem nC(f g:Nat->Int):∀ n,sI (λi=>f i - g i) n=sI f n - sI g n
 | 0=>rfl
 | n+1=>by rw[sI,sI,sI,nC f g n];lia
theorem dj{f:Nat->Int}:∀{n:Nat},(∀ i<n,f i=0)->sI f n=0
 | 0,_=>rfl
 | n+1,h=>by rw[sI,dj (λi a=>h i (by lia)),h n (by lia)];rfl
theorem i6{f g:Nat->Int}:∀{n:Nat},(∀ i<n,f i<=g i)->sI f n<=sI g n
 | 0,_=>wk _
 | n+1,h=>by
  rw[sI,sI];have:=i6 (n:=n) (λi a=>h i (by lia));have:=h n (by lia);lia
theorem mJ{f g:Nat->Int}:∀{n j:Nat},j<n->(∀ i<n,f i<=g i)->f j<g j->sI f n<sI g n
 | 0,j,hj,_,_=>by lia
 | n+1,j,hj,h,hlt=>by
  rw[sI,sI]
  by_cases c:j=n
  .subst c
   have:=i6 (n:=j) (λi a=>h i (by lia));lia
  .have:=mJ (n:=n) (j:=j) (by lia) (λi a=>h i (by lia)) hlt
   have:=h n (by lia);lia
theorem qf(f:Nat->Int)(j:Nat):∀ n,(∀ i,i≠j->f i=0)->sI f n=if j<n then f j else 0
 | 0,_=>by rw[if_neg (by lia)];rfl
 | n+1,h=>by
  rw[sI,qf f j n h]
  by_cases c:j=n
  .subst c
   rw[if_neg (by lia),if_pos (by lia)];lia
  .rw[h n (λz=>c z.symm)]
   by_cases c2:j<n
   .rw[if_pos c2,if_pos (by lia)];lia
   .rw[if_neg c2,if_neg (by lia)];rfl
theorem qD(f:Nat->Nat->Int)(m:Nat):∀ n,sI (λi=>sI (f i) m) n=sI (λp=>sI (λi=>f i p) n) m
 | 0=>(dj λ_ _=>rfl).symm
 | n+1=>by
  rw[sI,qD f m n,<- tK];exact bp λp _=>rfl
structure Un where
 r:Nat
 c:Nat
 lo:Int
 hi:Int
instance:Inhabited Un:=⟨⟨0,0,0,0⟩⟩
abbrev En:=Nat×Nat
def uAt(us:List Un)(p:Nat):Un:=us.getD p default
def wAt(ws:List Int)(p:Nat):Int:=ws.getD p 0
def oth(u:Un)(h:En):Option En:=if h=(0,u.r) then some (1,u.c) else if h=(1,u.c) then some (0,u.r) else none
def room(u:Un)(w:Int)(h:En):Int:=if h.1=0 then u.hi - w else w - u.lo
def vS(u:Un):oth u (0,u.r)=some (1,u.c):=if_pos rfl
def vi(u:Un):oth u (1,u.c)=some (0,u.r):=by unfold oth;rw[if_neg (λz=>by cases z),if_pos rfl]
def eF{u:Un}{h t:En}(e:oth u h=some t):(h=(0,u.r)/\t=(1,u.c))\/(h=(1,u.c)/\t=(0,u.r)):=by
 unfold oth at e
 split at e
 .rename_i c;exact .inl ⟨c,(ll e).symm⟩
 .split at e
  .rename_i c;exact .inr ⟨c,(ll e).symm⟩
  .cases e
def sR{u:Un}{h t:En}(e:oth u h=some t):oth u t=some h:=by
 rcases eF e with⟨rfl,rfl⟩ | ⟨rfl,rfl⟩
 .exact vi u
 .exact vS u
def Ak{u:Un}{h t h':En}(e:oth u h=some t)(a:(oth u h').isSome=true):h'=h\/h'=t:=by
 cases e2:oth u h' with
 | none=>rw[e2]at a;cases a
 | some t'=>rcases eF e with⟨rfl,rfl⟩ | ⟨rfl,rfl⟩ <;> rcases eF e2 with⟨rfl,_⟩ | ⟨rfl,_⟩ <;> simp
section
variable (us:List Un)
def ox(ws:List Int)(i:Nat):Int:=sI (λp=>if (uAt us p).r=i then wAt ws p else 0) us.length
def nZ(ws:List Int)(j:Nat):Int:=sI (λp=>if (uAt us p).c=j then wAt ws p else 0) us.length
variable (rows cols:List Int)
def sp(ws:List Int)(e:En):Int:=if e.1=0 then wAt rows e.2 - ox us ws e.2 else nZ us ws e.2 - wAt cols e.2
def jK{a:List Int}{p:Nat}(b:p<a.length)(v:Int)(q:Nat):wAt (a.set p v) q=if q=p then v else wAt a q:=by
 unfold wAt;rw[rd,rd,Ko]
 by_cases c:p=q
 .subst c;rw[if_pos rfl,if_pos rfl,if_pos b];rfl
 .rw[if_neg c,if_neg (λz=>c z.symm)]
def rE{n p:Nat}(g:p<n)(f:Nat->Bool)(w a:Nat->Int)(d:Int)(b:∀ q,q≠p->a q=w q)(h:a p=w p+d):sI (λq=>if f q=true then a q else 0) n=sI (λq=>if f q=true then w q else 0) n+if f p=true then d else 0:=by
 have e:sI (λq=>if f q=true then a q else 0) n=sI (λq=>(if f q=true then w q else 0)+(if q=p then (if f p=true then d else 0) else 0)) n:=bp λq _=>by
  by_cases c:q=p
  .subst c;rw[if_pos rfl,h];split <;> lia
  .rw[if_neg c,b q c];lia
 rw[e,tK,qf _ p n (λi j=>if_neg j),if_pos g,if_pos rfl]
def ge(m:Int)(ws:List Int)(x:En×Nat):List Int:=ws.set x.2 (wAt ws x.2+if x.1.1=0 then m else -m)
def nB(m:Int)(a:List Int)(x:En×Nat):(ge m a x).length=a.length:=KE
def AN{d:List Int}(v:d.length=us.length){h t:En}{p:Nat}(o:p<us.length)(e:oth (uAt us p) h=some t)(m:Int)(k:En)(l:k.1<=1):sp us rows cols (ge m d (h,p)) k=sp us rows cols d k - (if k=h then m else 0)+(if k=t then m else 0):=by
 unfold sp ox nZ;have r:∀ q,q≠p->wAt (ge m d (h,p)) q=wAt d q:=λq s=>by unfold ge;rw[jK (by lia),if_neg s]
 have j:wAt (ge m d (h,p)) p=wAt d p+if h.1=0 then m else -m:=by unfold ge;rw[jK (by show p<d.length;lia),if_pos rfl]
 have g:=λi=>rE o (λq=>decide ((uAt us q).r=i)) (wAt d) (wAt (ge m d (h,p))) _ r j
 have f:=λi=>rE o (λq=>decide ((uAt us q).c=i)) (wAt d) (wAt (ge m d (h,p))) _ r j
 simp only[decide_eq_true_eq]at g f;obtain⟨a,b⟩:=k
 rcases eF e with⟨rfl,rfl⟩ | ⟨rfl,rfl⟩
 .by_cases c:a=0
  .subst c
   simp only[if_true];rw[g]
   by_cases c2:(uAt us p).r=b
   .subst c2;simp;lia
   .rw[if_neg c2,if_neg (λz=>c2 (Gu z).2.symm),if_neg (λz=>by cases z)];lia
  .have:a=1:=by have:a<=1:=l;lia
   subst this;simp only[IR,if_false];rw[f]
   by_cases c2:(uAt us p).c=b
   .subst c2;simp;lia
   .rw[if_neg c2,if_neg (λz=>by cases z),if_neg (λz=>c2 (Gu z).2.symm)];lia
 .by_cases c:a=0
  .subst c
   simp only[if_true];rw[g]
   by_cases c2:(uAt us p).r=b
   .subst c2;simp;lia
   .rw[if_neg c2,if_neg (λz=>by cases z),if_neg (λz=>c2 (Gu z).2.symm)];lia
  .have:a=1:=by have:a<=1:=l;lia
   subst this;simp only[IR,if_false];rw[f]
   by_cases c2:(uAt us p).c=b
   .subst c2;simp;lia
   .rw[if_neg c2,if_neg (λz=>c2 (Gu z).2.symm),if_neg (λz=>by cases z)];lia
variable (ws:List Int)
def IsP:List (En×Nat)->En->En->Prop
 | [],s,e=>s=e
 | (h,p)::P,s,e=>h=s/\p<us.length/\∃ t,oth (uAt us p) h=some t/\0<room (uAt us p) (wAt ws p) h/\IsP P t e
theorem su:∀{P:List (En×Nat)}{s e:En},IsP us ws P s e->∀{h:En}{p:Nat},(h,p)∈P->∀{t:En},oth (uAt us p) h=some t->t∈P.map (·.1)\/t=e
 | [],_,_,_,_,_,hm,_,_=>by cases hm
 | (h0,p0)::P,s,e,hP,h,p,hm,t,ht=>by
  obtain⟨rfl,_,f,b,_,a⟩:=hP
  rcases i_.mp hm with z | z
  .cases z
   rw[b]at ht;cases ht;cases P with
   | nil=>exact .inr a
   | cons x P=>obtain⟨d,c⟩:=x;obtain⟨rfl,_⟩:=a;exact .inl (by simp)
  .rcases su a z ht with q | q
   .exact .inl (fy _ q)
   .exact .inr q
theorem mP:∀{P:List (En×Nat)}{s e:En},IsP us ws P s e->(P.map (·.1)++[e]).Nodup->(P.map (·.2)).Nodup
 | [],_,_,_,_=>GV
 | (h0,p0)::P,s,e,hP,nd=>by
  obtain⟨rfl,_,l,d,_,a⟩:=hP;rw[l_,HX,t_]at nd;rw[l_,t_];refine⟨λz=>?_,mP a nd.2⟩;obtain⟨⟨h,p⟩,b,rfl⟩:=lz.mp z
  have i:(oth (uAt us p) h).isSome=true:=by
   have:∀{P:List (En×Nat)}{s e:En},IsP us ws P s e->(h,p)∈P->(oth (uAt us p) h).isSome=true:=by
    intro P
    induction P with
    | nil=>intro s e _ z;cases z
    | cons x P ih =>
     intro s e q z;obtain⟨k,j⟩:=x;obtain⟨rfl,_,t,f,_,g⟩:=q
     rcases i_.mp z with z | z
     .cases z;rw[f];rfl
     .exact ih g z
   exact this a b
  rcases Ak d i with c | c
  .subst c
   exact nd.1 (B_ _ (lz.mpr ⟨_,b,rfl⟩))
  .subst c
   rcases su us ws a b (sR d) with q | q
   .exact nd.1 (B_ _ q)
   .exact nd.1 (pf _ (by rw[q];exact Go _))
theorem gZ:∀{P:List (En×Nat)}{s e:En},IsP us ws P s e->∀ x∈P,x.1.1<=1/\x.2<us.length/\0<room (uAt us x.2) (wAt ws x.2) x.1
 | [],_,_,_,_,hm=>by cases hm
 | (h0,p0)::P,s,e,hP,x,hm=>by
  obtain⟨rfl,c,f,d,b,a⟩:=hP
  rcases i_.mp hm with z | z
  .subst z
   refine⟨?_,c,b⟩
   rcases eF d with⟨z,_⟩ | ⟨z,_⟩ <;> rw[z] <;> first | exact ey _ | exact d_ _
  .exact gZ a x z
def dq(m:Int)(P:List (En×Nat))(ws:List Int):List Int:=P.foldl (ge m) ws
theorem kD(m:Int):∀(P:List (En×Nat)) (ws:List Int),(dq m P ws).length=ws.length
 | [],_=>rfl
 | x::P,ws=>by
  show(dq m P (ge m ws x)).length=_;rw[kD m P,nB]
theorem rq(m:Int):∀{P:List (En×Nat)}{s e:En}(ws':List Int),ws'.length=us.length->IsP us ws P s e->∀ k:En,k.1<=1->sp us rows cols (dq m P ws') k=sp us rows cols ws' k - (if k=s then m else 0)+(if k=e then m else 0)
 | [],s,e,ws',_,hP,k,_=>by
  have:s=e:=hP;subst this;show sp us rows cols ws' k=_;lia
 | (h,p)::P,s,e,ws',hl,hP,k,hk=>by
  obtain⟨rfl,c,t,b,_,a⟩:=hP;show sp us rows cols (dq m P (ge m ws' (h,p))) k=_;rw[rq m (ge m ws' (h,p)) (by rw[nB];exact hl) a k hk,AN us rows cols hl c b m k hk];lia
theorem sY(m:Int):∀{P:List (En×Nat)}{ws':List Int},(∀ x∈P,x.2<ws'.length)->(P.map (·.2)).Nodup->∀ q,(q ∉ P.map (·.2)->wAt (dq m P ws') q=wAt ws' q)/\∀ x∈P,x.2=q->wAt (dq m P ws') q=wAt ws' q+if x.1.1=0 then m else -m
 | [],_,_,_,q=>⟨λ_=>rfl,λx hx=>by cases hx⟩
 | y::P,ws',hb,nd,q=>by
  rw[l_,t_]at nd;have a:=hb y (ft ..);obtain⟨d,f⟩:=sY m (P:=P) (ws':=ge m ws' y) (λx hx=>by rw[nB];exact hb x (fy _ hx)) nd.2 q;refine⟨λb=>?_,λx hx e=>?_⟩
  .rw[l_,i_]at b
   show wAt (dq m P (ge m ws' y)) q=_;rw[d λz=>b (.inr z)];unfold ge;rw[jK a,if_neg λz=>b (.inl z)]
  .show wAt (dq m P (ge m ws' y)) q=_
   rcases i_.mp hx with z | z
   .subst z
    rw[d (by rw[<- e];exact nd.1)];unfold ge;rw[jK a,if_pos e.symm,e]
   .rw[f x z e]
    unfold ge;rw[jK a,if_neg];intro c;exact nd.1 (lz.mpr ⟨x,z,by rw[e,c]⟩)
structure Wi(ws:List Int):Prop where
 len:ws.length=us.length
 bd:∀ p<us.length,(uAt us p).lo<=wAt ws p/\wAt ws p<=(uAt us p).hi
def wY{m:Int}{P:List (En×Nat)}{s e:En}(g:Wi us ws)(h:IsP us ws P s e)(v:(P.map (·.1)++[e]).Nodup)(w:0<=m)(i:∀ x∈P,m<=room (uAt us x.2) (wAt ws x.2) x.1):Wi us (dq m P ws):=by
 have b:=mP us ws h v;have a:=gZ us ws h;refine⟨by rw[kD];exact g.len,λp l=>?_⟩;obtain⟨o,k⟩:=sY m (P:=P) (ws':=ws) (λx f=>by rw[g.len];exact(a x f).2.1) b p;have j:=g.bd p l
 by_cases c:p∈P.map (·.2)
 .obtain⟨x,f,e⟩:=lz.mp c
  rw[k x f e];have d:=i x f;have r:x.2=p:=e;rw[r]at d;unfold room at d
  by_cases c2:x.1.1=0
  .rw[if_pos c2]at d ⊢;lia
  .rw[if_neg c2]at d ⊢;lia
 .rw[o c];exact j
end
abbrev By:=List (En×Option Nat)
def aJ(b:By):List En:=b.map (·.1)
section
variable (us:List Un)(ws:List Int)
def tD(h:En)(st:By×List En)(p:Nat):By×List En:=match oth (uAt us p) h with
 | none=>st
 | some t=>if t∈aJ st.1 then st else if 0<room (uAt us p) (wAt ws p) h then (st.1++[(t,some p)],st.2++[t]) else st
def dm(h:En)(b:By)(ah:List En)(n:Nat):By×List En:=(g0 n).foldl (tD us ws h) (b,ah)
def kE(h:En)(b:By)(a:List En)(n:Nat):dm us ws h b a (n+1)=tD us ws h (dm us ws h b a n) n:=by
 unfold dm;rw[HE,IQ];rfl
def bfs:Nat->By->List En->By
 | 0,b,_=>b
 | _+1,b,[]=>b
 | n+1,b,h::t=>bfs n (dm us ws h b t us.length).1 (dm us ws h b t us.length).2
structure Tree(S:List En)(b:By):Prop where
 nd:(aJ b).Nodup
 par:∀(i:Nat) (e:En) (p:Nat),b[i]? = some (e,some p)->p<us.length/\∃ j h,j<i/\(aJ b)[j]? = some h/\oth (uAt us p) h=some e/\0<room (uAt us p) (wAt ws p) h
 st:∀ e,(e,none)∈b->e∈S
def cU(b c:By):aJ (b++c)=aJ b++aJ c:=gn
def Tree.more{S:List En}{b:By}{h t:En}{p:Nat}(T:Tree us ws S b)(s:p<us.length)(g:h∈aJ b)(m:oth (uAt us p) h=some t)(k:t ∉ aJ b)(f:0<room (uAt us p) (wAt ws p) h):Tree us ws S (b++[(t,some p)]):=by
 refine⟨?_,λi e q a=>?_,λe he=>?_⟩
 .rw[cU]
  refine Hz.mpr ⟨T.nd,t_.mpr ⟨(λz=>by cases z),GV⟩,λx hx y hy z=>?_⟩;have:y=t:=k_.mp hy;exact k (by rw[<- this,<- z];exact hx)
 .by_cases c:i<b.length
  .rw[oN c]at a
   obtain⟨r,j,o,A,l,B,w⟩:=T.par i e q a;refine⟨r,j,o,A,?_,B,w⟩;rw[cU,oN (by unfold aJ;rw[a_];lia)];exact l
  .rw[rn (by lia)]at a
   have C:i - b.length=0:=by
    by_cases z:i - b.length=0
    .exact z
    .rw[nr (by rw[Ga];lia)]at a;cases a
   rw[C]at a;cases a;obtain⟨j,d⟩:=ro g;have v:j<b.length:=by have:=(b_.mp d).1;unfold aJ at this;rw[a_]at this;exact this
   refine⟨s,j,h,by lia,?_,m,f⟩;rw[cU,oN (by unfold aJ;rw[a_];lia)];exact d
 .rcases ra.mp he with z | z
  .exact T.st e z
  .cases k_.mp z
structure Sc(S:List En)(h:En)(b:By)(t:List En)(n:Nat)(b':By)(t':List En):Prop where
 tree:Tree us ws S b'
 new:∃ c,b'=b++c/\t'=t++aJ c
 done:∀ p<n,∀ e,oth (uAt us p) h=some e->e∈aJ b'\/¬0<room (uAt us p) (wAt ws p) h
theorem gd{S:List En}{h:En}{b:By}{t:List En}(T:Tree us ws S b)(i:h∈aJ b):∀ n,n<=us.length->Sc us ws S h b t n (dm us ws h b t n).1 (dm us ws h b t n).2
 | 0,_=>⟨T,⟨[],by rw[y_];rfl,by unfold aJ;rw[Lz,y_];rfl⟩,λp f=>by lia⟩
 | n+1,hn=>by
  have d:=gd (t:=t) T i n (by lia);rw[kE];generalize dm us ws h b t n=st at d;obtain⟨c,j,k⟩:=d.new;have g:h∈aJ st.1:=by rw[j,cU];exact B_ _ i
  unfold tD;cases eo:oth (uAt us n) h with
  | none=>exact⟨d.tree,d.new,λp f e a=>by
    by_cases z:p=n
    .subst z;rw[eo]at a;cases a
    .exact d.done p (by lia) e a⟩
  | some x =>
   simp only
   by_cases c1:x∈aJ st.1
   .rw[if_pos c1]
    exact⟨d.tree,d.new,λp f e a=>by
     by_cases z:p=n
     .subst z;rw[eo]at a;cases a;exact .inl c1
     .exact d.done p (by lia) e a⟩
   .rw[if_neg c1]
    by_cases c2:0<room (uAt us n) (wAt ws n) h
    .rw[if_pos c2]
     refine⟨d.tree.more us ws (by lia) g eo c1 c2,⟨c++[(x,some n)],by rw[j,append_assoc],by rw[k,cU,append_assoc];rfl⟩,λp f e a=>?_⟩;rw[cU]
     by_cases z:p=n
     .subst z;rw[eo]at a;cases a;exact .inl (pf _ (Go _))
     .exact(d.done p (by lia) e a).imp (B_ _) id
    .rw[if_neg c2]
     exact⟨d.tree,d.new,λp f e a=>by
      by_cases z:p=n
      .subst z;rw[eo]at a;cases a;exact .inr c2
      .exact d.done p (by lia) e a⟩
structure Fr(S:List En)(b:By)(ah:List En):Prop where
 tree:Tree us ws S b
 sub:∀ e∈ah,e∈aJ b
 start:∀ e∈S,e∈aJ b
 shut:∀ h∈aJ b,h∈ah\/∀ p<us.length,∀ e,oth (uAt us p) h=some e->e∈aJ b\/¬0<room (uAt us p) (wAt ws p) h
def Fr.next{S:List En}{b:By}{h:En}{t:List En}(F:Fr us ws S b (h::t)):Fr us ws S (dm us ws h b t us.length).1 (dm us ws h b t us.length).2:=by
 have f:=gd us ws (t:=t) F.tree (F.sub h (ft ..)) us.length (d_ _);generalize dm us ws h b t us.length=st at f;obtain⟨c,g,i⟩:=f.new;have a:∀ e∈aJ b,e∈aJ st.1:=λe d=>by rw[g,cU];exact B_ _ d
 refine⟨f.tree,λe d=>?_,λe d=>a e (F.start e d),λk hk=>?_⟩
 .rw[i]at d
  rcases ra.mp d with z | z
  .exact a e (F.sub e (fy _ z))
  .rw[g,cU];exact pf _ z
 .rw[g,cU]at hk
  rcases ra.mp hk with z | z
  .rcases F.shut k z with q | q
   .rcases i_.mp q with q | q
    .subst q;exact .inr f.done
    .exact .inl (by rw[i];exact B_ _ q)
   .exact .inr λp j e d=>(q p j e d).imp (a e) id
  .exact .inl (by rw[i];exact pf _ z)
def mB(M:Nat)(b:By)(ah:List En):Nat:=2*(M - b.length)+ah.length
def Ax{S:List En}{b:By}{h:En}{t:List En}{M:Nat}(F:Fr us ws S b (h::t))(a:(dm us ws h b t us.length).1.length<=M):mB M (dm us ws h b t us.length).1 (dm us ws h b t us.length).2<mB M b (h::t):=by
 have d:=gd us ws (t:=t) F.tree (F.sub h (ft ..)) us.length (d_ _);generalize dm us ws h b t us.length=st at d a;obtain⟨c,e,f⟩:=d.new;unfold mB;rw[e]at a ⊢;rw[f];unfold aJ;rw[ir]at a;rw[ir,ir,a_,f_];lia
end
def look(b:By)(e:En):Option (Option Nat):=(b.find? λx=>decide (x.1=e)).map (·.2)
def vP{b:By}(p:(aJ b).Nodup){i:Nat}{x:En×Option Nat}(h:b[i]? = some x):look b x.1=some x.2:=by
 unfold look;have l:x∈b:=eH h;cases hf:b.find? (λy=>decide (y.1=x.1)) with
 | none =>
  have:=J7.mp hf x l;exact absurd (decide_eq_true rfl) this
 | some y =>
  have o:=List.mem_of_find?_eq_some hf;have s:y.1=x.1:=by have:=KP hf;exact of_decide_eq_true this
  obtain⟨j,a⟩:=ro o;have m:(aJ b)[i]? = some x.1:=by unfold aJ;rw[fb,h];rfl
  have r:(aJ b)[j]? = some x.1:=by unfold aJ;rw[fb,a,<- s];rfl
  have:i=j:=by
   obtain⟨e,f⟩:=b_.mp m;obtain⟨g,k⟩:=b_.mp r;have d:=Jc.mp p
   rcases Kx i j with c | c | c
   .exact absurd (f.trans k.symm) (d i j e g c)
   .exact c
   .exact absurd (k.trans f.symm) (d j i g e c)
  subst this;rw[h]at a;cases a;rfl
def yj{b:By}(l:(aJ b).Nodup){i j:Nat}{e:En}(k:(aJ b)[i]? = some e)(m:(aJ b)[j]? = some e):i=j:=by
 obtain⟨d,f⟩:=b_.mp k;obtain⟨g,h⟩:=b_.mp m;have a:=Jc.mp l
 rcases Kx i j with c | c | c
 .exact absurd (f.trans h.symm) (a i j d g c)
 .exact c
 .exact absurd (h.trans f.symm) (a j i g d c)
section
variable (us:List Un)(ws:List Int)
def bG(b:By):Nat->En->List (En×Nat)->List (En×Nat)
 | 0,_,acc=>acc
 | n+1,e,acc=>match look b e with
  | some (some p)=>match oth (uAt us p) e with
   | some h=>bG b n h ((h,p)::acc)
   | none=>acc
  | _=>acc
structure Wy(b:By)(i:Nat)(e l:En)(acc:List (En×Nat)):Prop where
 at_:(aJ b)[i]? = some e
 path:IsP us ws acc e l
 nd:(acc.map (·.1)++[l]).Nodup
 far:∀ x∈acc.map (·.1)++[l],∃ j,i<=j/\(aJ b)[j]? = some x
def Wy.first{S:List En}{b:By}{i:Nat}{e:En}(h:(aJ b)[i]? = some e):Wy us ws b i e e [] :=
 ⟨h,rfl,t_.mpr ⟨(λz=>by cases z),GV⟩,λx hx=>⟨i,d_ _,by rw[k_.mp hx];exact h⟩⟩
def Wy.back{S:List En}{b:By}{i:Nat}{e l:En}{d:List (En×Nat)}{p:Nat}(T:Tree us ws S b)(W:Wy us ws b i e l d)(y:look b e=some (some p)):p<us.length/\∃ j h,j<i/\oth (uAt us p) e=some h/\Wy us ws b j h l ((h,p)::d):=by
 have A:b[i]? = some (e,some p):=by
  have c:=W.at_;unfold aJ at c;rw[fb]at c;cases hc:b[i]? with
  | none=>rw[hc]at c;cases c
  | some x =>
   rw[hc]at c;have r:x.1=e:=ll c;have:=vP T.nd hc;rw[r,y]at this;have B:x.2=some p:=(ll this).symm;obtain⟨C,D⟩:=x;subst r B;rfl
 obtain⟨o,j,h,w,f,m,v⟩:=T.par i e p A;refine⟨o,j,h,w,sR m,⟨f,⟨rfl,o,e,m,v,W.path⟩,?_,λx s=>?_⟩⟩
 .rw[l_,HX,t_]
  refine⟨λz=>?_,W.nd⟩;obtain⟨k,g,a⟩:=W.far h z;have:=yj T.nd f a;lia
 .rw[l_,HX]at s
  rcases i_.mp s with z | z
  .exact⟨j,d_ _,by rw[z];exact f⟩
  .obtain⟨k,g,a⟩:=W.far x z
   exact⟨k,by lia,a⟩
theorem pM{S:List En}{b:By}(T:Tree us ws S b):∀(n i:Nat) (e l:En) (acc:List (En×Nat)),i<n->Wy us ws b i e l acc->∃ s∈S,IsP us ws (bG us b n e acc) s l/\((bG us b n e acc).map (·.1)++[l]).Nodup
 | 0,i,e,l,acc,hi,_=>by lia
 | n+1,i,e,l,acc,hi,W=>by
  have a:=W.at_;unfold aJ at a;rw[fb]at a
  obtain⟨x,hx⟩:∃ x,b[i]? = some x:=by
   cases hc:b[i]? with
   | none=>rw[hc]at a;cases a
   | some x=>exact⟨x,rfl⟩
  rw[hx]at a;have f:x.1=e:=ll a;have c:=vP T.nd hx;rw[f]at c;cases hp:x.2 with
  | none =>
   rw[hp]at c;have d:bG us b (n+1) e acc=acc:=by rw[bG,c]
   rw[d];refine⟨e,T.st e ?_,W.path,W.nd⟩;have:=eH hx;obtain⟨m,o⟩:=x;subst f hp;exact this
  | some p =>
   rw[hp]at c;obtain⟨_,j,h,r,g,k⟩:=W.back us ws T c;have d:bG us b (n+1) e acc=bG us b n h ((h,p)::acc):=by rw[bG,c];simp only[g]
   rw[d];exact pM T n j h l _ (by lia) k
variable (rows cols:List Int)(R C:Nat)
def OkU:Prop:=∀ p<us.length,(uAt us p).r<R/\(uAt us p).c<C/\(uAt us p).lo<=(uAt us p).hi
def yV(a:OkU us R C)(k:En->Bool):sI (λi=>if k (0,i)=true then ox us ws i else 0) R=sI (λp=>if k (0,(uAt us p).r)=true then wAt ws p else 0) us.length:=by
 have e:sI (λi=>if k (0,i)=true then ox us ws i else 0) R=sI (λi=>sI (λp=>if k (0,i)=true then (if (uAt us p).r=i then wAt ws p else 0) else 0) us.length) R:=bp λi _=>by
  by_cases c:k (0,i)=true
  .rw[if_pos c];exact bp λp _=>by rw[if_pos c]
  .rw[if_neg c];exact(dj λp _=>if_neg c).symm
 rw[e,qD];refine bp λp d=>?_
 rw[qf _ (uAt us p).r R λi b=>by
  by_cases c:k (0,i)=true
  .rw[if_pos c,if_neg λz=>b z.symm]
  .rw[if_neg c]]
 rw[if_pos (a p d).1,if_pos rfl]
def wT(a:OkU us R C)(k:En->Bool):sI (λj=>if k (1,j)=true then nZ us ws j else 0) C=sI (λp=>if k (1,(uAt us p).c)=true then wAt ws p else 0) us.length:=by
 have e:sI (λi=>if k (1,i)=true then nZ us ws i else 0) C=sI (λi=>sI (λp=>if k (1,i)=true then (if (uAt us p).c=i then wAt ws p else 0) else 0) us.length) C:=bp λi _=>by
  by_cases c:k (1,i)=true
  .rw[if_pos c];exact bp λp _=>by rw[if_pos c]
  .rw[if_neg c];exact(dj λp _=>if_neg c).symm
 rw[e,qD];refine bp λp d=>?_
 rw[qf _ (uAt us p).c C λi b=>by
  by_cases c:k (1,i)=true
  .rw[if_pos c,if_neg λz=>b z.symm]
  .rw[if_neg c]]
 rw[if_pos (a p d).2.1,if_pos rfl]
def inS(k:En->Bool):Int:=sI (λi=>if k (0,i)=true then wAt rows i else 0) R
def inT(k:En->Bool):Int:=sI (λj=>if k (1,j)=true then wAt cols j else 0) C
def outer(k:En->Bool)(g:Un->Int->Int):Int:=sI (λp=>if k (0,(uAt us p).r)=true/\¬k (1,(uAt us p).c)=true then g (uAt us p) (wAt ws p) else 0) us.length
def ij(k:En->Bool)(g:Un->Int->Int):Int:=sI (λp=>if ¬k (0,(uAt us p).r)=true/\k (1,(uAt us p).c)=true then g (uAt us p) (wAt ws p) else 0) us.length
def vm(a:OkU us R C)(k:En->Bool):sI (λi=>if k (0,i)=true then sp us rows cols ws (0,i) else 0) R+sI (λj=>if k (1,j)=true then sp us rows cols ws (1,j) else 0) C=inS rows R k - inT cols C k - outer us ws k (λ_ w=>w)+ij us ws k (λ_ w=>w):=by
 have b:sI (λi=>if k (0,i)=true then sp us rows cols ws (0,i) else 0) R=inS rows R k - sI (λi=>if k (0,i)=true then ox us ws i else 0) R:=by
  unfold inS;rw[<- nC]
  exact bp λi _=>by unfold sp;split <;> simp
 have c:sI (λj=>if k (1,j)=true then sp us rows cols ws (1,j) else 0) C=sI (λj=>if k (1,j)=true then nZ us ws j else 0) C - inT cols C k:=by
  unfold inT;rw[<- nC]
  exact bp λi _=>by unfold sp;split <;> simp
 rw[b,c,yV us ws R C a,wT us ws R C a]
 have d:sI (λp=>if k (0,(uAt us p).r)=true then wAt ws p else 0) us.length - sI (λp=>if k (1,(uAt us p).c)=true then wAt ws p else 0) us.length=outer us ws k (λ_ w=>w) - ij us ws k (λ_ w=>w):=by
  unfold outer ij;rw[<- nC,<- nC];refine bp λp _=>?_
  by_cases c1:k (0,(uAt us p).r)=true <;> by_cases c2:k (1,(uAt us p).c)=true <;> simp[c1,c2]
 lia
def yb{k:En->Bool}(D:OkU us R C)(m:Wi us ws)(E:∀ p<us.length,k (0,(uAt us p).r)=true->¬k (1,(uAt us p).c)=true->¬0<(uAt us p).hi - wAt ws p)(B:∀ p<us.length,k (1,(uAt us p).c)=true->¬k (0,(uAt us p).r)=true->¬0<wAt ws p - (uAt us p).lo)
  (v:∀ e:En,k e=true->0<=sp us rows cols ws e){s:En}(x:k s=true) (d:0<sp us rows cols ws s) (A:(s.1=0/\s.2<R)\/(s.1=1/\s.2<C)) :
  inT cols C k - ij us ws k (λu _=>u.lo)<inS rows R k - outer us ws k (λu _=>u.hi):=by
 have G:=vm us ws rows cols R C D k
 have H:outer us ws k (λ_ w=>w)=outer us ws k (λu _=>u.hi):=bp λp hp=>by
  by_cases c:k (0,(uAt us p).r)=true/\¬k (1,(uAt us p).c)=true
  .rw[if_pos c,if_pos c]
   have:=E p hp c.1 c.2;have:=(m.bd p hp).2;show wAt ws p=(uAt us p).hi;lia
  .rw[if_neg c,if_neg c]
 have F:ij us ws k (λ_ w=>w)=ij us ws k (λu _=>u.lo):=bp λp hp=>by
  by_cases c:¬k (0,(uAt us p).r)=true/\k (1,(uAt us p).c)=true
  .rw[if_pos c,if_pos c]
   have:=B p hp c.2 c.1;have:=(m.bd p hp).1;show wAt ws p=(uAt us p).lo;lia
  .rw[if_neg c,if_neg c]
 have o:∀ i<R,(λ_=>(0:Int)) i<=(λi=>if k (0,i)=true then sp us rows cols ws (0,i) else 0) i:=λi _=>by
  show 0<=if k (0,i)=true then sp us rows cols ws (0,i) else 0
  split
  .rename_i c;exact v _ c
  .exact wk _
 have r:∀ i<C,(λ_=>(0:Int)) i<=(λi=>if k (1,i)=true then sp us rows cols ws (1,i) else 0) i:=λi _=>by
  show 0<=if k (1,i)=true then sp us rows cols ws (1,i) else 0
  split
  .rename_i c;exact v _ c
  .exact wk _
 have z:∀ n,sI (λ_=>(0:Int)) n=0:=λn=>dj λ_ _=>rfl
 have y:0<sI (λi=>if k (0,i)=true then sp us rows cols ws (0,i) else 0) R+sI (λj=>if k (1,j)=true then sp us rows cols ws (1,j) else 0) C:=by
  obtain⟨a,b⟩:=s
  rcases A with⟨e,h⟩ | ⟨e,h⟩
  .have g:a=0:=e
   subst g;have f:=mJ (j:=b) h o (by show 0<if k (0,b)=true then _ else _;rw[if_pos x];exact d);have l:=i6 r;rw[z]at f l;lia
  .have g:a=1:=e
   subst g;have f:=mJ (j:=b) h r (by show 0<if k (1,b)=true then _ else _;rw[if_pos x];exact d);have l:=i6 o;rw[z]at f l;lia
 lia
def AM(o:OkU us R C)(v:inS rows R (λ_=>true)=inT cols C (λ_=>true))(b:∀ i<R,sp us rows cols ws (0,i)<=0)(d:∀ j<C,sp us rows cols ws (1,j)<=0):(∀ i<R,ox us ws i=wAt rows i)/\∀ j<C,nZ us ws j=wAt cols j:=by
 have k:=vm us ws rows cols R C o λ_=>true
 have s:outer us ws (λ_=>true) (λ_ w=>w)=0:=dj λp _=>if_neg λz=>z.2 rfl
 have r:ij us ws (λ_=>true) (λ_ w=>w)=0:=dj λp _=>if_neg λz=>z.1 rfl
 simp only[if_true]at k;have z:∀ n,sI (λ_=>(0:Int)) n=0:=λn=>dj λ_ _=>rfl
 have h:=i6 (f:=λi=>sp us rows cols ws (0,i)) (g:=λ_=>0) b;have l:=i6 (f:=λi=>sp us rows cols ws (1,i)) (g:=λ_=>0) d;rw[z]at h l;refine⟨λi e=>?_,λj hj=>?_⟩
 .refine FY λc=>?_
  have:=b i e;have m:sp us rows cols ws (0,i)≠0:=λq=>c (by unfold sp at q;simp only[if_true]at q;lia)
  have a:=mJ (f:=λi=>sp us rows cols ws (0,i)) (g:=λ_=>0) e b (by show sp us rows cols ws (0,i)<0;lia);rw[z]at a;lia
 .refine FY λc=>?_
  have:=d j hj;have m:sp us rows cols ws (1,j)≠0:=λq=>c (by unfold sp at q;simp only[IR,if_false]at q;lia)
  have a:=mJ (f:=λi=>sp us rows cols ws (1,i)) (g:=λ_=>0) hj d (by show sp us rows cols ws (1,j)<0;lia);rw[z]at a;lia
def pos(x:Int):Int:=if 0<x then x else 0
def mS:Int:=sI (λi=>pos (sp us rows cols ws (0,i))) R+sI (λj=>pos (sp us rows cols ws (1,j))) C
def Cg:0<=mS us ws rows cols R C:=by
 unfold mS;have z:∀ n,sI (λ_=>(0:Int)) n=0:=λn=>dj λ_ _=>rfl
 have a:=i6 (f:=λ_=>(0:Int)) (g:=λi=>pos (sp us rows cols ws (0,i))) (n:=R) λi _=>by show 0<=pos _;unfold pos;split <;> lia
 have b:=i6 (f:=λ_=>(0:Int)) (g:=λi=>pos (sp us rows cols ws (1,i))) (n:=C) λi _=>by show 0<=pos _;unfold pos;split <;> lia
 rw[z]at a b;lia
def Af{ws':List Int}{s l:En}{m:Int}(h:∀ k:En,k.1<=1->sp us rows cols ws' k=sp us rows cols ws k - (if k=s then m else 0)+(if k=l then m else 0))(w:0<m)(x:m<=sp us rows cols ws s)(y:sp us rows cols ws l<=-m)(v:(s.1=0/\s.2<R)\/(s.1=1/\s.2<C)):mS us ws' rows cols R C<mS us ws rows cols R C:=by
 have c:s≠l:=λz=>by subst z;lia
 have d:∀ k:En,k.1<=1->pos (sp us rows cols ws' k)<=pos (sp us rows cols ws k):=λk o=>by
  rw[h k o];unfold pos
  by_cases c1:k=s
  .subst c1
   rw[if_pos rfl,if_neg c]
   split <;> split <;> lia
  .rw[if_neg c1]
   by_cases c2:k=l
   .subst c2
    rw[if_pos rfl]
    split <;> split <;> lia
   .rw[if_neg c2]
    split <;> split <;> lia
 have r:s.1<=1->pos (sp us rows cols ws' s)<pos (sp us rows cols ws s):=λo=>by
  rw[h s o,if_pos rfl,if_neg c];unfold pos
  split <;> split <;> lia
 unfold mS;obtain⟨a,b⟩:=s
 rcases v with⟨e,p⟩ | ⟨e,p⟩
 .have j:a=0:=e
  subst j;have:=mJ (f:=λi=>pos (sp us rows cols ws' (0,i))) (g:=λi=>pos (sp us rows cols ws (0,i))) p (λi _=>d (0,i) (ey _)) (r (ey _));have:=i6 (f:=λi=>pos (sp us rows cols ws' (1,i))) (g:=λi=>pos (sp us rows cols ws (1,i))) (n:=C) (λi _=>d (1,i) (d_ _));lia
 .have j:a=1:=e
  subst j;have:=mJ (f:=λi=>pos (sp us rows cols ws' (1,i))) (g:=λi=>pos (sp us rows cols ws (1,i))) p (λi _=>d (1,i) (d_ _)) (r (d_ _));have:=i6 (f:=λi=>pos (sp us rows cols ws' (0,i))) (g:=λi=>pos (sp us rows cols ws (0,i))) (n:=R) (λi _=>d (0,i) (ey _));lia
end
def sd(s:Nat)(u:Un):Nat:=if s=0 then u.r else u.c
def sumL(us:List Un)(ws:List Int)(s R k:Nat):List Int:=(g0 R).map λi=>sI (λp=>if sd s (uAt us p)=i then wAt ws p else 0) k
def bg(us:List Un)(a:List Int)(s R k:Nat):(sumL us a s R k).length=R:=by unfold sumL;rw[a_,py]
def iO(us:List Un)(a:List Int)(s:Nat){R:Nat}(k:Nat){i:Nat}(h:i<R):(sumL us a s R k)[i]? = some (sI (λp=>if sd s (uAt us p)=i then wAt a p else 0) k):=by
 unfold sumL;rw[fb,GD h];rfl
def o0(us:List Un)(a:List Int)(s R:Nat):sumL us a s R 0=l4 R 0:=by
 refine GR λi=>?_
 by_cases h:i<R
 .rw[iO us a s 0 h,GY,if_pos h];rfl
 .rw[nr (by rw[bg];lia),nr (by rw[qi];lia)]
def oU(us:List Un)(a:List Int)(s R k:Nat):sumL us a s R (k+1)=(sumL us a s R k).set (sd s (uAt us k)) ((sumL us a s R k).getD (sd s (uAt us k)) 0+wAt a k):=by
 refine GR λi=>?_
 rw[Ko]
 by_cases h:i<R
 .rw[iO us a s _ h]
  by_cases c:sd s (uAt us k)=i
  .rw[if_pos c,bg,if_pos (by lia),rd,c,iO us a s k h]
   rw[sI,if_pos c];rfl
  .rw[if_neg c,iO us a s k h,sI,if_neg c,Int.add_zero]
 .rw[nr (by rw[bg];lia)]
  by_cases c:sd s (uAt us k)=i
  .rw[if_pos c,bg,if_neg (by lia)]
  .rw[if_neg c,nr (by rw[bg];lia)]
def rO(us:List Un)(a:List Int){R i:Nat}(h:i<R):(sumL us a 0 R us.length)[i]? = some (ox us a i):=by rw[iO us a 0 _ h];rfl
def rC(us:List Un)(a:List Int){R i:Nat}(h:i<R):(sumL us a 1 R us.length)[i]? = some (nZ us a i):=by rw[iO us a 1 _ h];rfl
def dg{us:List Un}{i:Nat}{u:Un}(h:us[i]? = some u):uAt us i=u:=by unfold uAt;rw[rd,h];rfl
def dh{a:List Int}{i:Nat}{v:Int}(h:a[i]? = some v):wAt a i=v:=by unfold wAt;rw[rd,h];rfl
def ends(R C:Nat):List En:=(g0 R).map (λi=>(0,i))++(g0 C).map (λj=>(1,j))
def ends_mem{R C:Nat}{e:En}:e∈ends R C↔(e.1=0/\e.2<R)\/(e.1=1/\e.2<C):=by
 unfold ends;rw[ra,lz,lz]
 constructor
 .rintro(⟨i,d,rfl⟩ | ⟨i,d,rfl⟩)
  .exact .inl ⟨rfl,vV.mp d⟩
  .exact .inr ⟨rfl,vV.mp d⟩
 .obtain⟨a,b⟩:=e
  rintro(⟨f,c⟩ | ⟨f,c⟩)
  .exact .inl ⟨b,vV.mpr c,by have:a=0:=f;rw[this]⟩
  .exact .inr ⟨b,vV.mpr c,by have:a=1:=f;rw[this]⟩
def dN(R C:Nat):(ends R C).length=R+C:=by unfold ends;rw[ir,a_,a_,py,py]
def Bc(R C:Nat):(ends R C).Nodup:=by
 unfold ends;rw[Hz];refine⟨?_,?_,λa c b d z=>?_⟩
 .exact FW.mpr (F6 (λh z=>h (Gu z).2) (Jm (n:=_)))
 .exact FW.mpr (F6 (λh z=>h (Gu z).2) (Jm (n:=_)))
 .obtain⟨i,_,rfl⟩:=lz.mp c
  obtain⟨j,_,rfl⟩:=lz.mp d;cases z
end Led
namespace My
open PySem L2 FrM Led
def fi{lo a i:Int}(b:lo<=i)(c:i<=a):decide (lo<=i/\i<=a)=true:=decide_eq_true ⟨b,c⟩
theorem gx{a:Type}{R:a->V->Prop}:∀{fs:List a}{xs:List V}{i:Nat}{x:V},GE R fs xs->xs[i]? = some x->∃ f,fs[i]? = some f/\R f x
 | _,_,_,_,.nil,h=>by cases h
 | _,_,0,_,.cons r _,h=>⟨_,rfl,by cases h;exact r⟩
 | _,_,i+1,_,.cons _ t,h=>gx (i:=i) t h
abbrev Ab(u:Un):List V:=[.int (u.r:Nat),.int (u.c:Nat),.int u.lo,.int u.hi]
def IsUn(H:Hp)(u:Un)(x:V):Prop:=∃ p,x=.ref p/\H p=some (.tup (Ab u))
def IsUn.tu{H a:Hp}{u:Un}{x:V}(s:kF H a)(h:IsUn H u x):IsUn a u x:=let ⟨p,e,q⟩:=h;⟨p,e,s _ _ q⟩
abbrev AllUn(H:Hp):List Un->List V->Prop:=GE (IsUn H)
theorem AllUn.tu{H a:Hp}(s:kF H a):∀{us:List Un}{xs:List V},AllUn H us xs->AllUn a us xs
 | _,_,.nil=>.nil
 | _,_,.cons r t=>.cons (r.tu s) (AllUn.tu s t)
theorem AllUn.snoc{H:Hp}{u:Un}{x:V}(r:IsUn H u x):∀{us:List Un}{xs:List V},AllUn H us xs->AllUn H (us++[u]) (xs++[x])
 | _,_,.nil=>.cons r .nil
 | _,_,.cons q t=>.cons q (AllUn.snoc r t)
def de{H:Hp}{D:Addr}{ys:List V}{o:HO}(h:H D=some (.lst ys)):kF H (upd H D o):=λb a e=>by rw[aq (λz=>by rw[z,h]at e;cases e)];exact e
def OkN(u:Un)(R C:Nat):Prop:=u.r<R/\u.c<C/\0<=u.lo/\u.lo<=u.hi/\u.hi<=1000000
def ug(ns:List Int):Prop:=ns.length<=6/\∀ v∈ns,0<=v/\v<=24000000
structure In(H:Hp)(lr lc lu:Addr)(rows cols:List Int)(us:List Un)(xs:List V):Prop where
 r:H lr=some (.lst (rows.map V.int))
 c:H lc=some (.lst (cols.map V.int))
 u:H lu=some (.lst xs)
 all:AllUn H us xs
 rs:ug rows
 cs:ug cols
 n:us.length<=24
 ok:∀ u∈us,OkN u rows.length cols.length
def In.same{H b:Hp}{a d c:Addr}{rows cols:List Int}{us:List Un}{xs:List V}(s:Same H b)(h:In H a d c rows cols us xs):In b a d c rows cols us xs:=⟨s _ _ h.r,s _ _ h.c,s _ _ h.u,h.all.tu s.tu,h.rs,h.cs,h.n,h.ok⟩
def In.t{H c:Hp}{a f d:Addr}{rows cols:List Int}{us:List Un}{xs:List V}(s:SameT H c)(h:In H a f d rows cols us xs):In c a f d rows cols us xs:=⟨s.at h.r,s.at h.c,s.at h.u,h.all.tu λb xs e=>s.at e,h.rs,h.cs,h.n,h.ok⟩
def rG(n:Nat):(l4 n true).all id=true:=by rw[F8];intro b a;rw[(JU.mp a).2];rfl
def FL(n:Nat):([n+1,n+1+1]:List Nat).Nodup:=by
 simp only[t_,i_,xo,or_false,not_or,not_false_eq_true,GV,and_true];lia
inductive spWish(vs:List V)(H:Hp)(Q:VK)(_E:XK):Prop
 | mk(v:Int)(h0:vs=[.int v])(h1:0<=v)(h2:v<=24000000)(h3:Q (.bl true) H):spWish vs H Q _E
inductive spBnd(vs:List V)(H:Hp)(Q:VK)(_E:XK):Prop
 | mk(x:V)(u:Un)(R C:Nat)(h0:vs=[x,.int (R:Nat),.int (C:Nat)])(h1:IsUn H u x)(h2:OkN u R C)(h3:Q (.bl true) H):spBnd vs H Q _E
abbrev fvR:List Str:=["rows","columns"]
def lsR:LamScope bY fvR ["thing"]:=⟨rfl,rfl,rfl,by decide +kernel,by decide +kernel,by decide +kernel,by decide +kernel,by decide +kernel⟩
def Cb:List V->Sp:=λvals vs H Q _=>∃(lr lc:Addr) (rows cols:List Int) (x:V) (u:Un),vals=[.ref lr,.ref lc]/\vs=[x]/\H lr=some (.lst (rows.map V.int))/\H lc=some (.lst (cols.map V.int))/\IsUn H u x/\OkN u rows.length cols.length/\∀ H',Same H H'->Q (.bl true) H'
inductive spListW(f:Addr)(vs:List V)(H:Hp)(Q:VK)(_E:XK):Prop
 | mk(l:Addr)(ns:List Int)(h0:vs=[.ref l,.int 6,.ref f])(h1:H l=some (.lst (ns.map V.int)))(h2:ug ns)(h3:∀ H',Same H H'->Q (.bl true) H'):spListW f vs H Q _E
inductive spListL(vs:List V)(H:Hp)(Q:VK)(_E:XK):Prop
 | mk(v:V)(lr lc lu:Addr)(rows cols:List Int)(us:List Un)(xs:List V)(h0:vs=[.ref lu,.int 24,v])(h1:In H lr lc lu rows cols us xs)(h2:IsLam H bY fvR v [.ref lr,.ref lc])(h3:∀ H',Same H H'->Q (.bl true) H'):spListL vs H Q _E
inductive spNeedB(a:Ad)(vs:List V)(H:Hp)(Q:VK)(_E:XK):Prop
 | mk(lr lc lu:Addr)(rows cols:List Int)(us:List Un)(xs:List V)(h0:vs=[.ref lr,.ref lc,.ref lu])(h1:In H lr lc lu rows cols us xs)(h2:TabsOk (tabs a) H)(h3:∀ H',SameT H H'->TabsOk (tabs a) H'->Q .non H'):spNeedB a vs H Q _E
section
variable {P:gN}{w:ml}{K:Frag}{mg:Str->Option cX}{base:Heap}{a:Ad}
def AB(T:Txt K mg a):FnX P w base 2 T.W_k spWish:=by
 refine T.W_k.A.okz kH λe A b s H g Q E c h=>?_
 .obtain⟨v,rfl,d,f,q⟩:=h
  refine⟨_,(ai (ap (pec (dS T) c T.W_K (aa (vr 0) (aa ag (aa (aU rfl T.g_MOST_SUM) ae)))))),?_⟩;refine⟨_,_,_,rfl,?_⟩;rw[fi d f];exact q
def Cm(T:Txt K mg a):MnX P w mg base 2 T.W_is_bounded_led spBnd:=by
 refine T.W_is_bounded_led.A.okz jW λe A d s H g Q E c h=>?_
 .obtain⟨x,u,R,C,rfl,⟨p,rfl,b⟩,f,q⟩:=h
  refine⟨_,(ai (ap (bE (ak bB rfl T.z_isinstance aI (aa (vr 0) (aa (bS (v:=.ty "tuple") rfl T.z_tuple fV rfl) ae))) (bE (ba dJ (ak aw rfl T.z_len aK (aa (vr 0) ae)) ag (az _)) (bE (pec (dS T) c T.W_K (aa (aj (vr 0) ag) (aa ag (aa (au bZ (vr 1) ag) ae)))) (bE (pec (dS T) c T.W_K (aa (aj (vr 0) ag) (aa ag (aa (au bZ (vr 2) ag) ae)))) (bE (pec (dS T) c T.W_K (aa (aj (vr 0) ag) (aa ag (aa (aU rfl T.g_MOST_WEIGHT_led) ae)))) (bW (pec (dS T) c T.W_K (aa (aj (vr 0) ag) (aa (aj (vr 0) ag) (aa (aU rfl T.g_MOST_WEIGHT_led) ae)))))))))))),?_⟩;obtain⟨m,l,k,i,j⟩:=f;refine⟨_,_,_,true,rfl,rfl,.tup b,rfl,⟨_,.inr (SqT.of b),?_⟩⟩;refine .inr (.inl ⟨p,_,_,_,rfl,rfl,SqT.of b,ao 0 rfl rfl,⟨_,_,_,rfl,?_⟩⟩);rw[fi (by lia) (by lia)];refine .inr (.inl ⟨p,_,_,_,rfl,rfl,SqT.of b,ao 1 rfl rfl,⟨_,_,_,rfl,?_⟩⟩);rw[fi (by lia) (by lia)];refine .inr (.inl ⟨p,_,_,_,rfl,rfl,SqT.of b,ao 2 rfl rfl,⟨_,_,_,rfl,?_⟩⟩);rw[fi (by lia) (by lia)];refine .inr (.inl ⟨p,_,_,_,rfl,rfl,SqT.of b,ao 3 rfl rfl,?_⟩);refine .inr (.inl ⟨p,_,_,_,rfl,rfl,SqT.of b,ao 2 rfl rfl,⟨_,_,_,rfl,?_⟩⟩);rw[fi (by lia) (by lia)];exact q
def Ay(T:Txt K mg a):LamOk P w K mg base 3 bY fvR ["thing"] Cb:=by
 have b:FnO P w K mg base 2 spBnd:=Cm T;refine eP lsR (λJ I g c G B=>match G,B with | [_],_=>rfl) (λvals vs H Q E h=>?_) (λA outer s H f c g vals vs Q E hr hfv ca h=>?_)
 .obtain⟨l,i,d,e,x,u,rfl,rfl,_⟩:=h;rfl
 .obtain⟨l,i,d,e,x,u,rfl,rfl,j,D,⟨p,rfl,C⟩,r,q⟩:=h
  refine⟨_,(mf b hr rfl T.m_is_bounded_led T.W_is_bounded_led.A.kp T.W_is_bounded_led.B .nil aT (aa (vr 0) (aa (ak aw rfl T.z_len aK (aa (vr 1) ae)) (aa (ak aw rfl T.z_len aK (aa (vr 2) ae)) ae)))),?_⟩;have k:=bC ca j (λv z=>by cases z);have F:=bC ca D (λv z=>by cases z);have y:=bC ca C (λv z=>by cases z);refine⟨_,.inl (SqL.of k),⟨_,.inl (SqL.of F),?_⟩⟩;refine⟨.ref p,u,d.length,e.length,by rw[a_,a_];rfl,⟨p,rfl,y⟩,r,λL o m=>?_⟩;exact q _ (rB (Same.refl _) o m)
def y8(T:Txt K mg a):FnX P w base 3 T.W_o (spListW a.f_k):=by
 have i:FnO P w K mg base 2 spWish:=AB T;refine T.W_o.A.okz fN λG A p s H L Q E J h=>?_
 .obtain⟨l,c,rfl,g,⟨O,x⟩,q⟩:=h
  refine⟨_,(ai (ap (bE (ak bB rfl T.z_isinstance aI (aa (vr 0) (aa (bS (v:=.ty "list") rfl T.z_list cc rfl) ae))) (bE (ba jt (ak aw rfl T.z_len aK (aa (vr 0) ae)) (vr 1) (az _)) (bW (ak (gg rfl) rfl T.z_all mw (aa (aN rfl (N:=["part","is_one"]) (ix:=[none,some 2]) ay (aL (vr 0)) (aB λC s H W=>⟨aQ 0 ["part","is_one"],aM,(rh (vr 1) i J T.W_k.A.kp T.W_k.B .nil aT (aa (vr 0) ae))⟩)) ae))))))),?_⟩;have R:sizeLine=16777216:=fE;refine⟨_,_,_,true,rfl,rfl,.lst g,rfl,⟨_,.inl (SqL.of g),?_⟩⟩;refine ifP (by show((c.map V.int).length:Int)<=6;rw[a_];lia) ?_;refine .inl ⟨⟨_,SqL.of g⟩,λD r=>?_⟩
  let Pw1:PvL:=λj d e=>j<=c.length/\Same H e/\e D=some (.lst d)/\d=(l4 j true).map V.bl
  refine aD (K:=K) (a:=l) (xs:=c.map V.int) Pw1 ⟨ey _,Same.new r,ac,rfl⟩ (λj d e k=>SqL.of (k.2.1 _ _ g)) (λj d e k=>k.2.2.1) ?_ ?_
  .rintro j y d e M f ⟨S,o,b,rfl⟩ I
   obtain⟨v,hv,rfl⟩:∃ v,c[j]? = some v/\y=.int v:=by
    rw[fb]at f;cases hc:c[j]? with
    | none=>rw[hc]at f;cases f
    | some z=>rw[hc]at f;cases f;exact⟨z,rfl,rfl⟩
   have m:j<c.length:=(b_.mp hv).1;obtain⟨B,F⟩:=x v (eH hv);refine⟨⟨rfl,trivial⟩,rfl,v,rfl,B,F,b,by rw[a_,qi];lia,I _ _ ⟨m,o.put r,ac,?_⟩⟩;rw[F1,gn];rfl
  rintro d e ⟨_,o,b,rfl⟩;refine⟨D,_,_,rfl,SqL.of b,rfl,?_⟩;rw[rG];exact q _ o
def xL(T:Txt K mg a):FnX P w base 4 T.W_o spListL:=by
 have b:LamOk P w K mg base 3 bY fvR ["thing"] Cb:=Ay T;refine T.W_o.A.okz fN λZ A B s H vs Q E hr h=>?_
 .obtain⟨v,W,J,M,m,o,us,xs,rfl,d,hL,q⟩:=h
  refine⟨_,(ai (ap (bE (ak bB rfl T.z_isinstance aI (aa (vr 0) (aa (bS (v:=.ty "list") rfl T.z_list cc rfl) ae))) (bE (ba jt (ak aw rfl T.z_len aK (aa (vr 0) ae)) (vr 1) (az _)) (bW (ak (gg rfl) rfl T.z_all mw (aa (aN rfl (N:=["part","is_one"]) (ix:=[none,some 2]) ay (aL (vr 0)) (aB λC s H fp=>⟨aQ 0 ["part","is_one"],aM,(j5 (vr 1) b hr (aa (vr 0) ae))⟩)) ae))))))),?_⟩;have sl:sizeLine=16777216:=fE;have xl:us.length=xs.length:=gp d.all;have S:=d.n;refine⟨_,_,_,true,rfl,rfl,.lst d.u,rfl,⟨_,.inl (SqL.of d.u),?_⟩⟩;refine ifP (by show(xs.length:Int)<=24;lia) ?_;refine .inl ⟨⟨_,SqL.of d.u⟩,λD I=>?_⟩
  let Pw2:PvL:=λj i k=>j<=xs.length/\Same H k/\k D=some (.lst i)/\i=(l4 j true).map V.bl
  refine aD (K:=K) (a:=M) (xs:=xs) Pw2 ⟨ey _,Same.new I,ac,rfl⟩ (λj i k r=>SqL.of (r.2.1 _ _ d.u)) (λj i k r=>r.2.2.1) ?_ ?_
  .rintro j y i k P' F ⟨hj,p,g,rfl⟩ hP
   have x:j<xs.length:=(b_.mp F).1;have e:=d.same p;obtain⟨u,O,R⟩:=gx e.all F;obtain⟨f,c,l,rfl,G,e2,e3,X,Y⟩:=hL.t p.t;refine⟨⟨rfl,trivial⟩,⟨f,_,_,_,rfl,G⟩,?_⟩;refine⟨λf' d' L c' _ z=>z,f,c,l,_,rfl,G,e2,e3,X,Y,W,J,m,o,y,u,rfl,rfl,e.r,e.c,R,d.ok u (eH O),λH2 s2=>?_⟩;refine⟨s2 _ _ g,by rw[a_,qi];lia,hP _ _ ⟨x,(p.trans s2).put I,ac,?_⟩⟩;rw[F1,gn];rfl
  rintro i k ⟨_,p,g,rfl⟩;refine⟨D,_,_,rfl,SqL.of g,rfl,?_⟩;rw[rG];exact q _ p
def zH(f:Addr):Sp:=λvs H Q E=>spListW f vs H Q E\/spListL vs H Q E
def xT(T:Txt K mg a)(S:Bm mg base):FnX P w base 5 T.W_e (spNeedB a):=by
 have g:FnO P w K mg base 4 (zH a.f_k):=((y8 T).mo).or (xL T);refine T.W_e.A.okN T.lcd_e sc_e (by decide +kernel) (λG H Q E h=>?_) (λA outer s H G Q E hr h=>?_)
 .obtain⟨p,o,x,b,e,D,F,rfl,_⟩:=h;rfl
 .obtain⟨p,o,x,b,e,D,F,rfl,m,M,q⟩:=h
  refine⟨_,(zP (aP (PW.pt (kO (bx (bK (pec g hr T.W_o (aa (vr 0) (aa (aU rfl T.g_MOST_SUMS) (aa (aU (v:=.ref a.f_k) rfl ⟨_,T.W_k.C,rfl⟩) ae)))))) (hZ (bx (bK (pec g hr T.W_o (aa (vr 1) (aa (aU rfl T.g_MOST_SUMS) (aa (aU (v:=.ref a.f_k) rfl ⟨_,T.W_k.C,rfl⟩) ae))))))))) (ai df) aC) (C5 sc_e.nd (by decide +kernel) g hr rfl T.W_o.C T.W_o.A.kp T.W_o.B .nil (aa (vr 2) (aa (aU rfl T.g_MOST_UNITS_led) (aa (eQ (d:=bY) rfl T.lch_e S rfl (by with_unfolding_all rfl) rfl (nF a) (.head _) T.tnd ny) ae))))),?_⟩;refine .inl ⟨p,b,rfl,m.r,m.rs,λH1 C=>?_⟩;have k:=m.same C;refine .inl ⟨o,e,rfl,k.c,k.cs,λH2 N=>?_⟩;have i:=C.trans N;refine⟨M.same i,λf c Z Y r J I L=>?_⟩;intro R l B;have W:=B 0 _ _ _ rfl rfl (by with_unfolding_all rfl);have X:=B 1 _ _ _ rfl rfl (by with_unfolding_all rfl);have O:=Y.trans l.t;have j:SameT H R:=i.t.trans O;refine .inr ⟨.ref f,p,o,x,b,e,D,F,rfl,m.t j,⟨f,c,_,rfl,l _ _ I,l _ _ L,rfl,FL _,.cons W (.cons X .nil)⟩,λH5 y=>⟨rfl,?_⟩⟩;exact q _ (j.trans y.t) ((r.same l).same y)
end
def lW{k n:Nat}(h:k<n):ixN n (k:Int)=some k:=by
 unfold ixN;rw[if_pos (by lia)]
 first | rfl | (simp;done) | (simp;exact h)
def pT{s:Nat}(a:s<=1)(u:Un):atI (Ab u) (s:Int)=some (.int (sd s u:Nat)):=by
 rcases(show s=0\/s=1 by lia) with rfl | rfl
 .exact ao 0 rfl rfl
 .exact ao 1 rfl rfl
def dY{a:List Int}{i:Nat}{v:Int}(h:a[i]? = some v):atI (a.map V.int) (i:Int)=some (.int v):=aZ (by rw[fb,h];rfl)
def dQ{a:List Int}{i:Nat}{y:V}(h:(a.map V.int)[i]? = some y):∃ v,a[i]? = some v/\y=.int v:=by
 rw[fb]at h;cases hc:a[i]? with
 | none=>rw[hc]at h;cases h
 | some z=>rw[hc]at h;cases h;exact⟨z,rfl,rfl⟩
def zk{a b:Addr}{xs ys:List V}{g:TG}{k:TS}{D:Ends}{d:St}{H:Hp}(E:xs.length<=ys.length)(f:Nat->St->Hp->Prop)(A:f 0 d H)(r:∀ i d H,f i d H->H a=some (.lst xs)/\H b=some (.lst ys))
  (B:∀(i:Nat) x y d H p,xs[i]? = some x->ys[i]? = some y->f i d H->H p=none->g (.ref p) d (upd H p (.tup [x,y])) λσ2 H2=>k { D with nx:=f (i+1),ct:=f (i+1),bk:=D.nx } σ2 H2) (w:∀ d H,f xs.length d H->D.nx d H) :
  ∃ W:Nat->Nat->St->Hp->Prop,(∃ m,W 0 m d H)/\∀ i m d H,W i m d H ->
   ((Itz a b).stop i H/\D.nx d H)\/((Itz a b).go i H/\∃ N:St->Hp->Prop,(∀ σ' H',N σ' H'->∃ m',m'<m/\W (i+1) m' σ' H')/\∀ x H',(Itz a b).yld i H x H'->g x d H' λσ2 H2=>k { D with nx:=N,ct:=N,bk:=D.nx } σ2 H2):=by
 refine⟨λi m d H=>m=xs.length - i/\i<=xs.length/\f i d H,⟨_,rfl,ey _,A⟩,?_⟩;rintro i m d H ⟨rfl,F,p⟩;obtain⟨h,j⟩:=r i d H p
 by_cases hlt:i<xs.length
 .refine .inr ⟨⟨xs,ys,xs[i],ys[i]'(by lia),h,j,by simp[hlt],by simp[show i<ys.length by lia]⟩,f (i+1),λσ' H' l=>⟨_,by lia,rfl,hlt,l⟩,λv H' y=>?_⟩
  obtain⟨c,x,y,o,rfl,s,C,rfl⟩:=y;exact B i x y d H c (s xs h) (C ys j) p o
 .have e:i=xs.length:=by lia
  subst e;exact .inl ⟨⟨xs,ys,h,j,.inl (d_ _)⟩,w d H p⟩
inductive spSums(vs:List V)(H:Hp)(Q:VK)(_E:XK):Prop
 | mk(lw lu:Addr)(ws:List Int)(us:List Un)(xs:List V)(s R:Nat)(h0:vs=[.ref lw,.ref lu,.int (s:Nat),.int (R:Nat)])(h1:H lw=some (.lst (ws.map V.int)))(h2:H lu=some (.lst xs))(h3:AllUn H us xs)(h4:ws.length=us.length)(h5:s<=1)(h6:R<=6)(h7:(∀ u∈us,sd s u<R))(h8:∀ D H',Same H H'->H D=none->H' D=some (.lst ((sumL us ws s R us.length).map V.int))->Q (.ref D) H'):spSums vs H Q _E
inductive spSumsL(vs:List V)(H:Hp)(Q:VK)(_E:XK):Prop
 | mk(lw lu:Addr)(ws:List Int)(us:List Un)(xs:List V)(s R:Nat)(h0:vs=[.ref lu,.ref lw,.int (s:Nat),.int (R:Nat)])(h1:H lw=some (.lst (ws.map V.int)))(h2:H lu=some (.lst xs))(h3:AllUn H us xs)(h4:us.length<=ws.length)(h5:s<=1)(h6:R<=6)(h7:(∀ u∈us,sd s u<R))(h8:∀ D H',Same H H'->H D=none->H' D=some (.lst ((sumL us ws s R us.length).map V.int))->Q (.ref D) H'):spSumsL vs H Q _E
abbrev enV(e:En):List V:=[.int (e.1:Nat),.int (e.2:Nat)]
def IsE(H:Hp)(e:En)(x:V):Prop:=∃ p,x=.ref p/\H p=some (.tup (enV e))
def IsE.tu{H a:Hp}{e:En}{x:V}(s:kF H a)(h:IsE H e x):IsE a e x:=let ⟨p,q,r⟩:=h;⟨p,q,s _ _ r⟩
def IsO(H:Hp)(o:Option En)(x:V):Prop:=match o with | none=>x=.non | some e=>IsE H e x
inductive spOther(vs:List V)(H:Hp)(Q:VK)(_E:XK):Prop
 | mk(u:Un)(e:En)(x y:V)(h0:vs=[x,y])(h1:IsUn H u x)(h2:IsE H e y)(h3:∀ v H',Same H H'->IsO H' (oth u e) v->Q v H'):spOther vs H Q _E
inductive spRoom(vs:List V)(H:Hp)(Q:VK)(_E:XK):Prop
 | mk(u:Un)(e:En)(x y:V)(v:Int)(h0:vs=[x,.int v,y])(h1:IsUn H u x)(h2:IsE H e y)(h3:Q (.int (room u v e)) H):spRoom vs H Q _E
section
variable {P:gN}{w:ml}{K:Frag}{mg:Str->Option cX}{base:Heap}{a:Ad}
def vo(T:Txt K mg a):FnX P w base 1 T.W_af spSums:=by
 refine T.W_af.A.okz sc_af λah A ab s H vs Q E hr h=>?_
 .obtain⟨I,B,J,L,xs,g,R,rfl,S,O,hA,wl,Z,r6,Y,q⟩:=h
  refine⟨_,(af (b7 rfl (i:=4) sc_af.nd rfl rfl (by with_unfolding_all rfl) (N:=["number"]) (ix:=[none]) ay (dw rfl T.z_range (aa (vr 3) ae)) (aB λC s H fp=>⟨aQ 0 ["number"],aM,ag⟩)) (af (cj kk rfl (qp rfl T.z_zip (aa (vr 1) (aa (vr 0) ae))) (bF rfl (av (ax (i:=5) sc_af.nd rfl (m_ rfl)) (av (ax (i:=6) sc_af.nd rfl (m_ rfl)) a9))) (ai (vw (vr 4) (aj (vr 5) (vr 2)) tm (vr 6) qX m6))) (ai (ap (vr 4))))),fQ ?_⟩;intro al ad;have xl:L.length=xs.length:=gp hA;have sl:sizeLine=16777216:=fE;refine⟨R,rfl,by lia,by lia,λD e=>?_⟩
  let Pw3:PvL:=λj ys d=>j<=R/\Same H d/\d D=some (.lst ys)/\ys=(l4 j (0:Int)).map V.int
  refine iC (lo:=0) (n:=R) Pw3 ⟨ey _,Same.new e,ac,rfl⟩ (λj ys d h=>h.2.2.1) ?_ ?_
  .rintro j ys d P' hj ⟨am,l,f,rfl⟩ hP
   refine⟨trivial,f,by rw[a_,qi];lia,hP _ _ ⟨hj,l.put e,ac,?_⟩⟩;rw[F1,gn];rfl
  rintro ys H1 ⟨_,l,f,rfl⟩;have nw:D≠I:=λz=>by rw[z,S]at e;cases e
  have nu:D≠B:=λz=>by rw[z,O]at e;cases e
  refine⟨B,I,_,_,rfl,l _ _ O,l _ _ S,?_⟩
  let Pw4:PvS:=λi G d=>Same H d/\d D=some (.lst ((sumL L J g R i).map V.int))/\∃(M W:Option V),G=[some (.ref I),some (.ref B),some (.int (g:Nat)),some (.int (R:Nat)),some (.ref D),M,W]
  refine qF (a:=B) (b:=I) (xs:=xs) (ys:=J.map V.int) (by rw[a_];lia) Pw4 ⟨l,by rw[o0];exact f,none,none,rfl⟩ (λi G d h=>⟨h.1 _ _ O,h.1 _ _ S⟩) ?_ ?_
  .rintro i x y G H2 pt hx hy ⟨F,c,M,W,rfl⟩ r
   obtain⟨u,m,hU⟩:=gx hA hx;obtain⟨v,hv,rfl⟩:=dQ hy;have X:=Same.new (o:=.tup [x,.int v]) r;obtain⟨p,rfl,hp⟩:=hU.tu (F.trans X).tu;have nD:D≠pt:=λz=>by rw[z,r]at c;cases c
   have k:=X _ _ c;have lt:=Y u (eH m);have ea:(sumL L J g R i)[sd g u]? = some ((sumL L J g R i).getD (sd g u) 0):=by rw[rd,c_ (by rw[bg];exact lt)];rfl
   refine⟨pt,_,rfl,SqT.of ac,rfl,_,_,rfl,_,_,rfl,rfl,?_⟩;refine .inr (.inl ⟨p,_,_,_,rfl,rfl,SqT.of hp,pT Z u,?_⟩);refine⟨D,_,_,_,rfl,rfl,SqL.of k,by lia,dY ea,?_⟩;refine⟨_,_,rfl,rfl,D,_,_,_,rfl,rfl,k,lW (by rw[a_,bg];exact lt),?_⟩;refine⟨(F.trans X).put e,?_,_,_,rfl⟩;rw[ac,oU,dg m,dh hv,LF]
  .rintro G H2 ⟨F,c,M,W,rfl⟩
   rw[<- xl]at c;exact q D _ F e c
def fY(T:Txt K mg a):FnX P w base 1 T.W_ad spSumsL:=by
 refine T.W_ad.A.okz sc_ad λah A ab s H vs Q E hr h=>?_
 .obtain⟨J,F,L,M,xs,g,R,rfl,W,S,hA,wl,B,r6,Z,q⟩:=h
  refine⟨_,(af (b7 rfl (i:=4) sc_ad.nd rfl rfl (by with_unfolding_all rfl) (N:=["_law_k"]) (ix:=[none]) ay (dw rfl T.z_range (aa (vr 3) ae)) (aB λC s H fp=>⟨aQ 0 ["_law_k"],aM,ag⟩)) (af (cj kk rfl (qp rfl T.z_zip (aa (vr 0) (aa (vr 1) ae))) (bF rfl (av (ax (i:=5) sc_ad.nd rfl (m_ rfl)) (av (ax (i:=6) sc_ad.nd rfl (m_ rfl)) a9))) (ai (gD (au cK (aj (vr 4) (aj (vr 5) (vr 2))) (vr 6)) (DG (vr 4) (aj (vr 5) (vr 2)) m6)))) (ai (ap (vr 4))))),fQ ?_⟩;intro al ad;have xl:M.length=xs.length:=gp hA;have sl:sizeLine=16777216:=fE;refine⟨R,rfl,by lia,by lia,λD e=>?_⟩
  let Pw5:PvL:=λj ys d=>j<=R/\Same H d/\d D=some (.lst ys)/\ys=(l4 j (0:Int)).map V.int
  refine iC (lo:=0) (n:=R) Pw5 ⟨ey _,Same.new e,ac,rfl⟩ (λj ys d h=>h.2.2.1) ?_ ?_
  .rintro j ys d P' hj ⟨am,l,f,rfl⟩ hP
   refine⟨trivial,f,by rw[a_,qi];lia,hP _ _ ⟨hj,l.put e,ac,?_⟩⟩;rw[F1,gn];rfl
  rintro ys H1 ⟨_,l,f,rfl⟩;have nw:D≠J:=λz=>by rw[z,W]at e;cases e
  have nu:D≠F:=λz=>by rw[z,S]at e;cases e
  refine⟨F,J,_,_,rfl,l _ _ S,l _ _ W,?_⟩;refine zk (a:=F) (b:=J) (xs:=xs) (ys:=L.map V.int) (by rw[a_];lia) (λi I d=>Same H d/\d D=some (.lst ((sumL M L g R i).map V.int))/\∃(O X:Option V),I=[some (.ref F),some (.ref J),some (.int (g:Nat)),some (.int (R:Nat)),some (.ref D),O,X]) ⟨l,by rw[o0];exact f,none,none,rfl⟩ (λi I d h=>⟨h.1 _ _ S,h.1 _ _ W⟩) ?_ ?_
  .rintro i x y I H2 pt hx hy ⟨G,c,O,X,rfl⟩ r
   obtain⟨u,m,hU⟩:=gx hA hx;obtain⟨v,hv,rfl⟩:=dQ hy;have Y:=Same.new (o:=.tup [x,.int v]) r;obtain⟨p,rfl,hp⟩:=hU.tu (G.trans Y).tu;have nD:D≠pt:=λz=>by rw[z,r]at c;cases c
   have k:=Y _ _ c;have lt:=Z u (eH m);have ea:(sumL M L g R i)[sd g u]? = some ((sumL M L g R i).getD (sd g u) 0):=by rw[rd,c_ (by rw[bg];exact lt)];rfl
   refine⟨pt,_,rfl,SqT.of ac,rfl,_,_,rfl,_,_,rfl,rfl,?_⟩;refine .inr (.inl ⟨p,_,_,_,rfl,rfl,SqT.of hp,pT B u,?_⟩);refine .inl ⟨D,_,_,_,rfl,rfl,SqL.of k,dY ea,?_⟩;refine .inr (.inl ⟨p,_,_,_,rfl,rfl,SqT.of hp,pT B u,?_⟩);refine⟨D,_,_,_,rfl,rfl,k,lW (by rw[a_,bg];exact lt),?_⟩;refine⟨(G.trans Y).put e,?_,_,_,rfl⟩;rw[ac,oU,dg m,dh hv,LF]
  .rintro I H2 ⟨G,c,O,X,rfl⟩
   rw[<- xl]at c;exact q D _ G e c
def vg(T:Txt K mg a):FnX P w base 1 T.W_aS spRoom:=by
 refine T.W_aS.A.okz Be λi A d s H j Q E k h=>?_
 .obtain⟨u,e,x,y,v,rfl,⟨p,rfl,f⟩,⟨g,rfl,b⟩,q⟩:=h
  refine⟨_,(ai (ap (eM (aO dJ (aj (vr 2) ag) ag (az _)) (au bZ (aj (vr 0) ag) (vr 1)) (au bZ (vr 1) (aj (vr 0) ag))))),?_⟩;refine .inr (.inl ⟨g,_,_,_,rfl,rfl,SqT.of b,ao 0 rfl rfl,?_⟩);unfold room at q;refine ifC (λc=>?_) λc=>?_
  .rw[if_pos (by lia)]at q
   exact .inr (.inl ⟨p,_,_,_,rfl,rfl,SqT.of f,ao 3 rfl rfl,q⟩)
  .rw[if_neg (by lia)]at q
   exact .inr (.inl ⟨p,_,_,_,rfl,rfl,SqT.of f,ao 2 rfl rfl,q⟩)
def dvE{H:Hp}{e:En}{p:Addr}(h:H p=some (.tup (enV e))):DV K H (.tuple [.int (e.1:Nat),.int (e.2:Nat)]) (.ref p):=⟨p,_,rfl,SqT.of h,_,_,rfl,rfl,_,_,rfl,rfl,rfl⟩
def eqE(e f:En):sN (.tuple [.int ((e.1:Nat):Int),.int ((e.2:Nat):Int)]) (.tuple [.int ((f.1:Nat):Int),.int ((f.2:Nat):Int)])=decide (e=f):=by
 obtain⟨a,b⟩:=e;obtain⟨c,d⟩:=f;rw[ue,decide_eq_true_iff];simp[sN,HD];lia
def rA(T:Txt K mg a):FnX P w base 1 T.W_ar spOther:=by
 refine T.W_ar.A.okz qV λD A r s H I Q E B h=>?_
 .obtain⟨u,e,x,y,rfl,⟨p,rfl,j⟩,⟨J,rfl,d⟩,q⟩:=h
  refine⟨_,(af (aP (aO (lB B.units) (vr 1) (aG (aa ag (aa (aj (vr 0) ag) ae))) (az _)) (ai (ap (aG (aa ag (aa (aj (vr 0) ag) ae))))) aC) (af (aP (aO (lB B.units) (vr 1) (aG (aa ag (aa (aj (vr 0) ag) ae))) (az _)) (ai (ap (aG (aa ag (aa (aj (vr 0) ag) ae))))) aC) (ai (ap fJ)))),fQ ?_⟩;intro F C;have g:∀ x y:V,[x,y].length<=sizeLine:=λx y=>by rw[show sizeLine=16777216 from fE];exact(by decide:2<=16777216)
  refine .inr (.inl ⟨p,_,_,_,rfl,rfl,SqT.of j,ao 0 rfl rfl,g _ _,λL m=>?_⟩);have f:=Same.new (o:=.tup (enV (0,u.r))) m;refine⟨_,_,dvE (e:=e) (f _ _ d),dvE (e:=(0,u.r)) ac,rfl,rfl,?_⟩;rw[eqE];refine ifC (λc=>?_) λc=>?_
  .refine .inr (.inl ⟨p,_,_,_,rfl,rfl,SqT.of (f _ _ j),ao 1 rfl rfl,g _ _,λv b=>?_⟩)
   refine q _ _ (f.trans (Same.new b)) ?_;unfold oth;rw[if_pos c];exact⟨v,rfl,ac⟩
  .refine .inr (.inl ⟨p,_,_,_,rfl,rfl,SqT.of (f _ _ j),ao 1 rfl rfl,g _ _,λv b=>?_⟩)
   have i:=f.trans (Same.new (o:=.tup (enV (1,u.c))) b);refine⟨_,_,dvE (e:=e) (i _ _ d),dvE (e:=(1,u.c)) ac,rfl,rfl,?_⟩;rw[eqE];refine ifC (λk=>?_) λk=>?_
   .refine .inr (.inl ⟨p,_,_,_,rfl,rfl,SqT.of (i _ _ j),ao 0 rfl rfl,g _ _,λG l=>?_⟩)
    refine q _ _ (i.trans (Same.new l)) ?_;unfold oth;rw[if_neg c,if_pos k];exact⟨G,rfl,ac⟩
   .refine q _ _ i ?_
    unfold oth;rw[if_neg c,if_neg k];rfl
end
end My
namespace Led
theorem eD:∀{l m:List En},l.Nodup->(∀ x∈l,x∈m)->l.length<=m.length
 | [],_,_,_=>ey _
 | x::l,m,nd,h=>by
  rw[t_]at nd;have b:=h x (ft ..);have:=eD (l:=l) (m:=m.erase x) nd.2 λy a=>(List.mem_erase_of_ne (λz=>nd.1 (by rw[<- z];exact a))).mpr (h y (fy _ a))
  rw[List.length_erase_of_mem b]at this;have:=List.length_pos_of_mem b;rw[f_];lia
def b0(S:List En):By:=S.map λe=>(e,none)
def iQ(S:List En):aJ (b0 S)=S:=by unfold aJ b0;rw[map_map];exact map_id _
section
variable (us:List Un)(ws:List Int)
def jp(M:Nat)(S:List En):By:=bfs us ws (mB M (b0 S) S) (b0 S) S
def wX{S:List En}(c:S.Nodup):Fr us ws S (b0 S) S:=by
 refine⟨⟨by rw[iQ];exact c,λi e p h=>?_,λe he=>?_⟩,λe he=>by rw[iQ];exact he,λe he=>by rw[iQ];exact he,λh hh=>.inl (by rw[iQ]at hh;exact hh)⟩
 .unfold b0 at h
  rw[fb]at h;cases hc:S[i]? with
  | none=>rw[hc]at h;cases h
  | some x=>rw[hc]at h;cases h
 .unfold b0 at he
  obtain⟨x,b,a⟩:=lz.mp he;cases a;exact b
theorem qM{R C:Nat}(c:OkU us R C){h:En}{b:By}{t:List En}(d:∀ e∈aJ b,e∈ends R C):∀ n,n<=us.length->∀ e∈aJ (dm us ws h b t n).1,e∈ends R C
 | 0,_=>d
 | n+1,hn=>by
  have a:=qM c d (h:=h) (t:=t) n (by lia);rw[kE];generalize dm us ws h b t n=st at a;unfold tD;cases eo:oth (uAt us n) h with
  | none=>exact a
  | some x =>
   simp only
   split
   .exact a
   .split
    .intro e f
     rw[cU]at f
     rcases ra.mp f with z | z
     .exact a e z
     .have:e=x:=k_.mp z
      subst this;obtain⟨i,g,_⟩:=c n (by lia);rw[ends_mem]
      rcases eF eo with⟨_,rfl⟩ | ⟨_,rfl⟩
      .exact .inr ⟨rfl,g⟩
      .exact .inl ⟨rfl,i⟩
    .exact a
structure Bs(R C:Nat)(S:List En)(b:By)(ah:List En):Prop where
 fr:Fr us ws S b ah
 sub:∀ e∈aJ b,e∈ends R C
 few:ah.length<=b.length
 res:∃ n,mB (R+C) b ah<=n/\bfs us ws n b ah=jp us ws (R+C) S
def Bs.len{R C:Nat}{S:List En}{b:By}{a:List En}(B:Bs us ws R C S b a):b.length<=R+C:=by
 have:=eD B.fr.tree.nd B.sub;rw[dN]at this;unfold aJ at this;rw[a_]at this;exact this
def Bs.first{R C:Nat}{S:List En}(c:S.Nodup)(b:∀ e∈S,e∈ends R C):Bs us ws R C S (b0 S) S :=
 ⟨wX us ws c,λe a=>b e (by rw[iQ]at a;exact a),by unfold b0;rw[a_];exact d_ _,_,d_ _,rfl⟩
def sK{S:List En}{h:En}{b:By}{t:List En}(T:Tree us ws S b)(a:h∈aJ b)(g:t.length<=b.length)(n:Nat)(d:n<=us.length):(dm us ws h b t n).2.length<=(dm us ws h b t n).1.length:=by
 obtain⟨c,e,f⟩:=(gd us ws (t:=t) T a n d).new;rw[e,f,ir,ir];unfold aJ;rw[a_];lia
def Bs.next{R C:Nat}{S:List En}{b:By}{h:En}{t:List En}(e:OkU us R C)(B:Bs us ws R C S b (h::t)):Bs us ws R C S (dm us ws h b t us.length).1 (dm us ws h b t us.length).2/\mB (R+C) (dm us ws h b t us.length).1 (dm us ws h b t us.length).2<mB (R+C) b (h::t):=by
 have F:=B.fr.next;have a:=qM us ws e (h:=h) (t:=t) B.sub us.length (d_ _)
 have c:(dm us ws h b t us.length).1.length<=R+C:=by
  have:=eD F.tree.nd a;rw[dN]at this;unfold aJ at this;rw[a_]at this;exact this
 have d:=Ax us ws B.fr c;refine⟨⟨F,a,sK us ws B.fr.tree (B.fr.sub h (ft ..)) (by have:=B.few;rw[f_]at this;lia) _ (d_ _),?_⟩,d⟩;obtain⟨n,g,f⟩:=B.res;cases n with
 | zero=>lia
 | succ n=>exact⟨n,by lia,f⟩
def Bs.done{R C:Nat}{S:List En}{b:By}(B:Bs us ws R C S b []):b=jp us ws (R+C) S:=by
 obtain⟨n,_,h⟩:=B.res;rw[<- h]
 cases n <;> rfl
end
end Led
namespace My
open PySem L2 FrM Led
abbrev key(e:En):List Key:=[.inl (e.1:Nat),.inl (e.2:Nat)]
def uQ{e f:En}(h:key e=key f):e=f:=by
 obtain⟨a,b⟩:=e;obtain⟨c,d⟩:=f;simp[key]at h;obtain⟨i,g⟩:=h;have:a=c:=by lia
 have:b=d:=by lia
 subst_vars
 rfl
def dE(l:List (En×V)):List (List Key×V):=l.map λx=>(key x.1,x.2)
def jo(l:List (En×V)):(dE l).length=l.length:=a_ ..
theorem uf(e:En):∀ l:List (En×V),dG (dE l) (key e)=(l.find? λx=>decide (x.1=e)).map (·.2)
 | []=>rfl
 | x::l=>by
  show dG ((key x.1,x.2)::dE l) (key e)=_
  by_cases c:x.1=e
  .rw[cf (by rw[c]),List.find?_cons_of_pos (p:=λx:En×V=>decide (x.1=e)) (decide_eq_true c)];rfl
  .rw[cg (λz=>c (uQ z)),List.find?_cons_of_neg (p:=λx:En×V=>decide (x.1=e)) (λz=>c (of_decide_eq_true z)),uf e l]
def uw{l:List (En×V)}{e:En}(h:e ∉ l.map (·.1))(v:V):dR (dE l) (key e) v=dE (l++[(e,v)]):=by
 unfold dR;rw[if_neg]
 .unfold dE;rw[gn];rfl
 .intro z
  obtain⟨x,a,b⟩:=Kw.mp z;unfold dE at a;obtain⟨y,c,rfl⟩:=lz.mp a;exact h (lz.mpr ⟨y,c,uQ (of_decide_eq_true b)⟩)
def oV:Option Nat->V
 | none=>.non
 | some p=>.int (p:Nat)
def byL(b:By):List (En×V):=b.map λx=>(x.1,oV x.2)
def zn(b:By):(byL b).map (·.1)=aJ b:=by unfold byL aJ;rw[map_map];rfl
def uk(b:By)(e:En):dG (dE (byL b)) (key e)=(look b e).map oV:=by
 rw[uf];unfold look byL;rw[K5,IB,IB];rfl
def look_some{b:By}{e:En}:(look b e).isSome=true↔e∈aJ b:=by
 unfold look aJ;rw[Gd,List.find?_isSome,lz]
 constructor
 .rintro⟨x,a,h⟩;exact⟨x,a,of_decide_eq_true h⟩
 .rintro⟨x,a,h⟩;exact⟨x,a,decide_eq_true h⟩
def xw{b:By}{e:En}(h:e ∉ aJ b)(o:Option Nat):dR (dE (byL b)) (key e) (oV o)=dE (byL (b++[(e,o)])):=by
 rw[uw (by rw[zn];exact h)];unfold byL;rw[gn];rfl
def spE(us:List Un)(rows cols ws:List Int)(R C:Nat):List (En×V):=(ends R C).map λe=>(e,.int (sp us rows cols ws e))
def sQ(us:List Un)(rows cols a:List Int)(R C:Nat):(spE us rows cols a R C).map (·.1)=ends R C:=by unfold spE;rw[map_map];exact map_id _
def zS(us:List Un)(rows cols a:List Int)(i:Nat):spE us rows cols a (i+1) 0=spE us rows cols a i 0++[((0,i),.int (sp us rows cols a (0,i)))]:=by
 unfold spE ends;rw[HE];simp
def AK(us:List Un)(rows cols a:List Int)(R i:Nat):spE us rows cols a R (i+1)=spE us rows cols a R i++[((1,i),.int (sp us rows cols a (1,i)))]:=by
 unfold spE ends;rw[HE];simp
def qd{us:List Un}{rows cols a:List Int}{R C:Nat}{e:En}(h:e∈ends R C):dG (dE (spE us rows cols a R C)) (key e)=some (.int (sp us rows cols a e)):=by
 rw[uf];unfold spE;rw[K5,IB]
 have:((ends R C).find? ((λx:En×V=>decide (x.1=e)) ∘ λe=>(e,V.int (sp us rows cols a e))))=some e:=by
  cases hf:(ends R C).find? ((λx:En×V=>decide (x.1=e)) ∘ λe=>(e,V.int (sp us rows cols a e))) with
  | none=>exact absurd (decide_eq_true rfl) (J7.mp hf e h)
  | some y=>have:=KP hf;rw[show y=e from of_decide_eq_true this]
 rw[this];rfl
abbrev AllE(H:Hp):List En->List V->Prop:=GE (IsE H)
theorem AllE.tu{H a:Hp}(s:kF H a):∀{es:List En}{xs:List V},AllE H es xs->AllE a es xs
 | _,_,.nil=>.nil
 | _,_,.cons r t=>.cons (r.tu s) (AllE.tu s t)
theorem AllE.snoc{H:Hp}{e:En}{x:V}(r:IsE H e x):∀{es:List En}{xs:List V},AllE H es xs->AllE H (es++[e]) (xs++[x])
 | _,_,.nil=>.cons r .nil
 | _,_,.cons q t=>.cons q (AllE.snoc r t)
def Ey{H:Hp}{D:Addr}{kvs:List (List Key×V)}{o:HO}(h:H D=some (.dT kvs)):kF H (upd H D o):=λb a e=>by rw[aq (λz=>by rw[z,h]at e;cases e)];exact e
structure Uw(H:Hp)(lu lw:Addr)(us:List Un)(xs:List V)(ws:List Int):Prop where
 w:H lw=some (.lst (ws.map V.int))
 u:H lu=some (.lst xs)
 all:AllUn H us xs
 len:ws.length=us.length
 n:us.length<=24
def Uw.same{H a:Hp}{d b:Addr}{us:List Un}{xs:List V}{c:List Int}(s:Same H a)(h:Uw H d b us xs c):Uw a d b us xs c:=⟨s _ _ h.w,s _ _ h.u,h.all.tu s.tu,h.len,h.n⟩
inductive spSpare(vs:List V)(H:Hp)(Q:VK)(_E:XK):Prop
 | mk(lr lc lu lw:Addr)(rows cols ws:List Int)(us:List Un)(xs:List V)(h0:vs=[.ref lr,.ref lc,.ref lu,.ref lw])(h1:In H lr lc lu rows cols us xs)(h2:H lw=some (.lst (ws.map V.int)))(h3:ws.length=us.length)(h4:∀ D H',Same H H'->H D=none->H' D=some (.dT (dE (spE us rows cols ws rows.length cols.length)))->Q (.ref D) H'):spSpare vs H Q _E
inductive spReach(vs:List V)(H:Hp)(Q:VK)(_E:XK):Prop
 | mk(ls lu lw:Addr)(S:List En)(ss:List V)(ws:List Int)(us:List Un)(xs:List V)(R C:Nat)(h0:vs=[.ref ls,.ref lu,.ref lw])(h1:Uw H lu lw us xs ws)(h2:H ls=some (.lst ss))(h3:AllE H S ss)(h4:S.Nodup)(h5:(∀ e∈S,e∈ends R C))(h6:OkU us R C)(h7:R<=6)(h8:C<=6)(h9:∀ D H',Same H H'->H D=none->Bs us ws R C S (jp us ws (R+C) S) []->H' D=some (.dT (dE (byL (jp us ws (R+C) S))))->Q (.ref D) H'):spReach vs H Q _E
def Cs{n:Nat}(h:0<n):IY 0 n=some 0:=by
 unfold IY
 first | (rw[if_pos (by lia)];rfl) | simp[h]
section
variable {P:gN}{w:ml}{K:Frag}{mg:Str->Option cX}{base:Heap}{a:Ad}
def yX(T:Txt K mg a):FnX P w base 2 T.W_X spSpare:=by
 refine T.W_X.A.okz sc_X λas A ah s H vs Q E R h=>?_
 .obtain⟨Z,S,L,M,b,c,f,e,xs,rfl,j,hw,wl,q⟩:=h
  refine⟨_,(af (psl 4 sc_X nH) (af (cj kk rfl (fo rfl T.z_enumerate (aa (pec (vo T) R T.W_af (aa (vr 3) (aa (vr 2) (aa ag (aa (ak aw rfl T.z_len aK (aa (vr 0) ae)) ae))))) ae)) (bF rfl (av (ax (i:=5) sc_X.nd rfl (m_ rfl)) (av (ax (i:=6) sc_X.nd rfl (m_ rfl)) a9))) (ai (iS (eJ R) (vr 4) (aG (aa ag (aa (vr 5) ae))) (au bZ (aj (vr 0) (vr 5)) (vr 6)) rfl))) (af (cj kk rfl (fo rfl T.z_enumerate (aa (pec (vo T) R T.W_af (aa (vr 3) (aa (vr 2) (aa ag (aa (ak aw rfl T.z_len aK (aa (vr 1) ae)) ae))))) ae)) (bF rfl (av (ax (i:=5) sc_X.nd rfl (m_ rfl)) (av (ax (i:=6) sc_X.nd rfl (m_ rfl)) a9))) (ai (iS (eJ R) (vr 4) (aG (aa ag (aa (vr 5) ae))) (au bZ (vr 6) (aj (vr 1) (vr 5))) rfl))) (ai (ap (vr 4)))))),mH ?_⟩;intro an a0 am;have sl:sizeLine=16777216:=fE;have z2:∀ x y:V,[x,y].length<=sizeLine:=λx y=>by rw[sl];exact(by decide:2<=16777216)
  have r6:=j.rs.1;have c6:=j.cs.1;intro d O;have J:=Same.new (o:=.dT []) O;refine⟨_,.inl (SqL.of (J _ _ j.r)),?_⟩;refine⟨M,L,f,e,xs,0,b.length,by rw[a_];rfl,J _ _ hw,J _ _ j.u,j.all.tu J.tu,wl,by lia,r6,λu Y=>(j.ok u Y).1,λD1 H1 s1 f1 h1=>?_⟩;have d1:=s1 _ _ (ac (H:=H) (a:=d) (o:=.dT []));have ab:D1≠d:=λz=>by rw[z,ac]at f1;cases f1
  have W:=J.trans s1;refine⟨D1,_,rfl,h1,?_⟩;refine iL (a:=D1) (xs:=(sumL e f 0 b.length e.length).map V.int) (λi l m=>Same H m/\m d=some (.dT (dE (spE e b c f i 0)))/\m D1=some (.lst ((sumL e f 0 b.length e.length).map V.int))/\∃(B C:Option V),l=[some (.ref Z),some (.ref S),some (.ref L),some (.ref M),some (.ref d),B,C]) ⟨W,d1,h1,none,none,rfl⟩ (λi l m h=>h.2.2.1) ?_ ?_
  .rintro i x l H2 X hx ⟨p,I,h2,B,C,rfl⟩ D
   obtain⟨v,F,rfl⟩:=dQ hx;have g:i<b.length:=by have:=(b_.mp F).1;rw[bg]at this;exact this
   rw[rO e f g]at F;cases F;have G:=Same.new (o:=.tup [.int (i:Nat),.int (ox e f i)]) D;refine⟨X,_,rfl,SqT.of ac,rfl,_,_,rfl,_,_,rfl,rfl,?_⟩;refine .inl ⟨Z,_,_,_,rfl,rfl,SqL.of ((p.trans G) _ _ j.r),dY (c_ g),?_⟩;refine⟨z2 _ _,λt ht=>?_⟩;have r:=G.trans (Same.new (o:=.tup (enV (0,i))) ht);refine⟨d,_,rfl,DPut.t (k:=key (0,i)) (r _ _ I) ac (by rw[jo];unfold spE;rw[a_,dN];lia),?_⟩;have ew:b[i]=wAt b i:=(dh (c_ g)).symm;refine⟨(p.trans r).put O,?_,by rw[aq ab];exact r _ _ h2,_,_,rfl⟩;rw[ac,zS,uw]
   .have es:sp e b c f (0,i)=b[i] - ox e f i:=by rw[ew];rfl
    rw[es]
   .rw[sQ,ends_mem]
    rintro(⟨_,z⟩ | ⟨z,_⟩)
    .exact absurd z (pw _)
    .cases z
  .rintro l H2 ⟨p,I,_,B,C,rfl⟩
   rw[a_,bg]at I;refine⟨_,.inl (SqL.of (p _ _ j.c)),?_⟩;refine⟨M,L,f,e,xs,1,c.length,by rw[a_];rfl,p _ _ hw,p _ _ j.u,j.all.tu p.tu,wl,by lia,c6,λu Y=>(j.ok u Y).2.1,λD3 H3 G f3 h3=>?_⟩;have d3:=G _ _ I;have al:D3≠d:=λz=>by rw[z,I]at f3;cases f3
   have ad:=p.trans G;refine⟨D3,_,rfl,h3,?_⟩;refine iL (a:=D3) (xs:=(sumL e f 1 c.length e.length).map V.int) (λi l m=>Same H m/\m d=some (.dT (dE (spE e b c f b.length i)))/\m D3=some (.lst ((sumL e f 1 c.length e.length).map V.int))/\∃(B C:Option V),l=[some (.ref Z),some (.ref S),some (.ref L),some (.ref M),some (.ref d),B,C]) ⟨ad,d3,h3,_,_,rfl⟩ (λi l m h=>h.2.2.1) ?_ ?_
   .rintro i x l H4 X hx ⟨r,N,h4,B,C,rfl⟩ D
    obtain⟨v,F,rfl⟩:=dQ hx;have g:i<c.length:=by have:=(b_.mp F).1;rw[bg]at this;exact this
    rw[rC e f g]at F;cases F;have s5:=Same.new (o:=.tup [.int (i:Nat),.int (nZ e f i)]) D;refine⟨X,_,rfl,SqT.of ac,rfl,_,_,rfl,_,_,rfl,rfl,?_⟩;refine .inl ⟨S,_,_,_,rfl,rfl,SqL.of ((r.trans s5) _ _ j.c),dY (c_ g),?_⟩;refine⟨z2 _ _,λt ht=>?_⟩;have s6:=s5.trans (Same.new (o:=.tup (enV (1,i))) ht);refine⟨d,_,rfl,DPut.t (k:=key (1,i)) (s6 _ _ N) ac (by rw[jo];unfold spE;rw[a_,dN];lia),?_⟩;have ew:c[i]=wAt c i:=(dh (c_ g)).symm;refine⟨(r.trans s6).put O,?_,by rw[aq al];exact s6 _ _ h4,_,_,rfl⟩;rw[ac,AK,uw]
    .have es:sp e b c f (1,i)=nZ e f i - c[i]:=by rw[ew];rfl
     rw[es]
    .rw[sQ,ends_mem]
     rintro(⟨z,_⟩ | ⟨_,z⟩)
     .cases z
     .exact absurd z (pw _)
   .rintro l H4 ⟨r,N,_,B,C,rfl⟩
    rw[a_,bg]at N;exact q d _ r O N
def yI(T:Txt K mg a):FnX P w base 2 T.W_p spReach:=by
 refine T.W_p.A.okz sc_p λb6 A a' s H vs Q E hr h=>?_
 .obtain⟨ls,lu,lw,S,ss,r,y,xs,R,C,rfl,hU,hs,hS,nd,a2,an,r6,c6,q⟩:=h
  refine⟨_,(af (psl 3 sc_p nH) (af (cj kk rfl (aL (vr 0)) (ax (i:=4) sc_p.nd rfl (m_ rfl)) (ai (iS (eJ hr) (vr 3) (vr 4) fJ rfl))) (af (psl 5 sc_p (bi ei rfl T.z_list cc (aa (vr 0) ae))) (af (dM kk (hJ (vr 5) (λ_=>rfl)) (af (psl 6 sc_p (pe_m.popAt (vr 5) (aa ag ae))) (ai (cj kk rfl (fo rfl T.z_enumerate (aa (vr 1) ae)) (bF rfl (av (ax (i:=7) sc_p.nd rfl (m_ rfl)) (av (ax (i:=8) sc_p.nd rfl (m_ rfl)) a9))) (af (psl 9 sc_p (pec (rA T) hr T.W_ar (aa (vr 8) (aa (vr 6) ae)))) (ai (aP (PW.pt (pR (aO lY (vr 9) fJ (az _)) (pR (Co (wx (eJ hr) (vr 9) (vr 3))) (qJ (aO yx (pec (vg T) hr T.W_aS (aa (vr 8) (aa (aj (vr 2) (vr 7)) (aa (vr 6) ae)))) ag (az _)))))) (af (iS (eJ hr) (vr 3) (vr 9) (vr 7) rfl) (ai (cH (pe_m.append (vr 5) (aa (vr 9) ae))))) aC))))))) (ai (ap (vr 3))))))),rf ?_⟩;intro b4 b5 b3 b2;have sl:sizeLine=16777216:=fE;have Sl:S.length=ss.length:=gp hS;have xl:y.length=xs.length:=gp hU.all;have b9:S.length<=R+C:=by have:=eD nd a2;rw[dN]at this;exact this
  intro d hd;have s0:=Same.new (o:=.dT []) hd;refine .inl ⟨⟨_,SqL.of (s0 _ _ hs)⟩,?_⟩;refine eV (K:=K) (a:=ls) (xs:=ss) (λi l c=>i<=S.length/\Same H c/\c d=some (.dT (dE (byL (b0 (S.take i)))))/\∃(O:Option V),l=[some (.ref ls),some (.ref lu),some (.ref lw),some (.ref d),O,none,none,none,none,none]) ⟨ey _,s0,ac,none,rfl⟩ (λi l c _ h=>SqL.of (h.2.1 _ _ hs)) ?_ ?_
  .rintro i x l H1 hx ⟨il,s1,d1,O,rfl⟩
   obtain⟨e,he,hE⟩:=gx hS hx;obtain⟨p,rfl,hp⟩:=hE.tu s1.tu;have f:=(b_.mp he).1;refine⟨d,_,rfl,DPut.t (k:=key e) d1 hp (by rw[jo];unfold byL b0;rw[a_,a_,ki];lia),?_⟩;refine⟨f,s1.put hd,?_,_,rfl⟩;have tk:S.take (i+1)=S.take i++[e]:=by rw[j_,he];rfl
   rw[ac,tk]
   have:=xw (b:=b0 (S.take i)) (e:=e) (by
    rw[iQ];intro z;have bl:(S.take i++[e]).Nodup:=by rw[<- tk];exact nd.sublist (Kb ..)
    exact(Hz.mp bl).2.2 e z e (Go _) rfl) none
   unfold b0 at this ⊢;rw[gn];exact congrArg (λz=>some (HO.dT z)) this
  rintro l H1 ⟨_,s1,d1,O,rfl⟩;rw[<- Sl,ga (d_ _)]at d1;refine⟨ls,_,rfl,.inl (SqL.of (s1 _ _ hs)),λg G=>?_⟩;have s2:=s1.trans (Same.new (o:=.lst ss) G);have F:g≠d:=λz=>by rw[z,d1]at G;cases G
  have ab:H g=none:=by
   cases hh:H g with
   | none=>rfl
   | some o=>rw[s1 _ _ hh]at G;cases G
  refine⟨λm l c=>∃(b:By) (ah:List En) (j:List V) (O x6 X Z Y:Option V),m=mB (R+C) b ah/\Same H c/\Bs y r R C S b ah/\c d=some (.dT (dE (byL b)))/\c g=some (.lst j)/\AllE c ah j/\l=[some (.ref ls),some (.ref lu),some (.ref lw),some (.ref d),O,some (.ref g),x6,X,Z,Y],⟨_,b0 S,S,ss,_,_,_,_,_,rfl,s2,Bs.first y r nd a2,by rw[aq (FZ F)];exact d1,ac,hS.tu s2.tu,rfl⟩,?_⟩;rintro m l H3 ⟨b,ah,j,O,x6,X,Z,Y,rfl,s3,B,d3,a3,hA,rfl⟩;refine⟨_,.inl ⟨_,SqL.of a3,rfl⟩,?_⟩;cases hA with
  | nil =>
   have e:=Bs.done y r B;refine vA (show ¬((!([]:List V).isEmpty)=true) from λz=>by cases z) ?_;rw[e]at d3 B;exact q d _ s3 hd B d3
  | @cons h x t j hE hT =>
   refine⟨λl c=>∃ m',m'<mB (R+C) b (h::t)/\∃(b:By) (ah:List En) (j:List V) (O x6 X Z Y:Option V),m'=mB (R+C) b ah/\Same H c/\Bs y r R C S b ah/\c d=some (.dT (dE (byL b)))/\c g=some (.lst j)/\AllE c ah j/\l=[some (.ref ls),some (.ref lu),some (.ref lw),some (.ref d),O,some (.ref g),x6,X,Z,Y],λσ' c h=>h,?_⟩;refine⟨.inl ⟨rfl,_,SqL.of a3⟩,g,_,0,0,x,rfl,rfl,a3,by decide,by decide,Cs (by rw[f_];lia),rfl,?_⟩;have s4:Same H (upd H3 g (.lst ((x::j).eraseIdx 0))):=s3.put ab;have d4:(upd H3 g (.lst ((x::j).eraseIdx 0))) d=_:=(aq (FZ F)).trans d3;have a4:(upd H3 g (.lst ((x::j).eraseIdx 0))) g=some (.lst j):=ac;have u4:kF H3 (upd H3 g (.lst ((x::j).eraseIdx 0))):=de a3;generalize upd H3 g (.lst ((x::j).eraseIdx 0))=H4 at s4 d4 a4 u4;obtain⟨px,rfl,bt⟩:=hE.tu u4;have a6:=AllE.tu u4 hT;have bo:=hU.same s4;have b1:=B.len;have as:=B.fr.sub h (ft ..);have a0:t.length<=b.length:=by have:=B.few;rw[f_]at this;lia
   refine⟨lu,_,rfl,bo.u,?_⟩;refine iL (a:=lu) (xs:=xs) (λi l c=>i<=y.length/\Same H c/\c px=some (.tup (enV h))/\∃(j:List V) (X Z Y:Option V),c d=some (.dT (dE (byL (dm y r h b t i).1)))/\c g=some (.lst j)/\AllE c (dm y r h b t i).2 j/\l=[some (.ref ls),some (.ref lu),some (.ref lw),some (.ref d),O,some (.ref g),some (.ref px),X,Z,Y]) ⟨ey _,s4,bt,j,X,Z,Y,d4,a4,a6,rfl⟩ (λi l c h=>h.2.1 _ _ hU.u) ?_ ?_
   .rintro i x l H5 pt hx ⟨il,s5,al,N,X,Z,Y,d5,a5,L,rfl⟩ bm
    obtain⟨u,hu,a1⟩:=gx hU.all hx;have f:=(b_.mp hu).1;have s6:=Same.new (o:=.tup [.int (i:Nat),x]) bm;have bd:=s5.trans s6;refine⟨pt,_,rfl,SqT.of ac,rfl,_,_,rfl,_,_,rfl,rfl,?_⟩;refine⟨u,h,x,.ref px,rfl,a1.tu bd.tu,⟨px,rfl,s6 _ _ al⟩,λv H7 s7 hv=>?_⟩;have M:=s6.trans s7;have D:=s5.trans M;have d7:=M _ _ d5;have a7:=M _ _ a5;have J:=M _ _ al;have I:=AllE.tu M.tu L;have sc:=gd y r (t:=t) B.fr.tree as i (by lia);have W:=eD sc.tree.nd (qM y r an (h:=h) (t:=t) B.sub i (by lia));have bA:=sK y r (t:=t) B.fr.tree as a0 i (by lia);rw[dN]at W;unfold aJ at W;rw[a_]at W;have zl:(dm y r h b t i).2.length=N.length:=gp L;rw[kE];generalize dm y r h b t i=st at d7 a7 I W bA zl;unfold tD;rw[dg hu];cases ho:oth u h with
    | none =>
     rw[ho]at hv;have bq:v=.non:=hv;subst bq;exact⟨f,D,J,N,_,_,_,d7,a7,I,rfl⟩
    | some e =>
     rw[ho]at hv
     obtain⟨pv,rfl,ad⟩:=(hv:IsE H7 e v)
     refine⟨d,_,rfl,DGet.t (k:=key e) d7 ad,?_⟩;rw[uk];simp only
     by_cases c1:e∈aJ st.1
     .rw[if_pos c1]
      have am:=look_some.mpr c1;rw[Gd,am];refine⟨_,rfl,?_⟩;exact⟨f,D,J,N,_,_,_,d7,a7,I,rfl⟩
     .rw[if_neg c1]
      have am:(look st.1 e).isSome=false:=by
       cases hh:(look st.1 e).isSome with
       | false=>rfl
       | true=>exact absurd (look_some.mp hh) c1
      rw[Gd,am];refine⟨_,rfl,?_⟩;refine .inl ⟨lw,_,_,_,rfl,rfl,SqL.of (D _ _ hU.w),dY (c_ (by rw[hU.len];exact f)),?_⟩;have ew:r[i]'(by rw[hU.len];exact f)=wAt r i:=(dh (c_ (by rw[hU.len];exact f))).symm;rw[ew];refine⟨u,h,x,.ref px,_,rfl,a1.tu D.tu,⟨px,rfl,J⟩,?_⟩;refine ifC (λc2=>?_) λc2=>?_
      .rw[if_pos c2]
       refine⟨d,_,rfl,DPut.t (k:=key e) d7 ad (by rw[jo];unfold byL;rw[a_];lia),?_⟩;have n1:d≠g:=FZ F;refine⟨.inl ⟨rfl,_,SqL.of (by rw[aq F];exact a7)⟩,g,N,_,rfl,rfl,by rw[aq F];exact a7,by lia,?_⟩;have u8:kF H7 (upd H7 d (.dT (dR (dE (byL st.1)) (key e) (.int (i:Nat))))):=Ey d7;have a8:(upd H7 d (.dT (dR (dE (byL st.1)) (key e) (.int (i:Nat))))) g=some (.lst N):=by rw[aq F];exact a7
       have u9:=de (o:=.lst (N++[.ref pv])) a8;refine⟨f,(D.put hd).put ab,u9 _ _ (u8 _ _ J),N++[.ref pv],_,_,_,?_,ac,(AllE.tu u9 (AllE.tu u8 I)).snoc ⟨pv,rfl,u9 _ _ (u8 _ _ ad)⟩,rfl⟩;rw[aq n1,ac];exact congrArg (λz=>some (HO.dT z)) (xw c1 (some i))
      .rw[if_neg c2]
       exact⟨f,D,J,N,_,_,_,d7,a7,I,rfl⟩
   .rintro l H5 ⟨_,s5,al,N,X,Z,Y,d5,a5,L,rfl⟩
    rw[<- xl]at d5 L;obtain⟨B',lt⟩:=B.next y r an;exact⟨_,lt,_,_,N,_,_,_,_,_,rfl,s5,B',d5,a5,L,rfl⟩
end
end My
namespace Led
def iV(a:Int)(l:List Int):Int:=l.foldl (λx y=>if y<x then y else x) a
theorem kh:∀(l:List Int) (a:Int),iV a l∈a::l/\∀ x∈a::l,iV a l<=x
 | [],a=>⟨Go _,λx c=>by rw[k_.mp c];exact wk _⟩
 | y::l,a=>by
  have b:=kh l (if y<a then y else a);have e:iV a (y::l)=iV (if y<a then y else a) l:=rfl;rw[e];refine⟨?_,λx c=>?_⟩
  .rcases i_.mp b.1 with z | z
   .rw[z]
    split
    .exact fy _ (ft ..)
    .exact ft ..
   .exact fy _ (fy _ z)
  .have f:=b.2 _ (ft ..)
   rcases i_.mp c with z | z
   .rw[z];have d:(if y<a then y else a)<=a:=by split <;> lia
    lia
   .rcases i_.mp z with z | z
    .rw[z];have d:(if y<a then y else a)<=y:=by split <;> lia
     lia
    .exact b.2 x (fy _ z)
def v3{m a:Int}{l:List Int}(c:m∈a::l)(b:∀ x∈a::l,m<=x):m=iV a l:=by
 have s:=kh l a;exact K6 (b _ s.1) (s.2 _ c)
def onF(b:By)(s R:Nat):List Int:=((g0 R).filter λi=>decide ((s,i)∈aJ b)).map λ(i:Nat)=>(i:Int)
def Dq{b:By}{s R:Nat}{v:Int}:v∈onF b s R↔∃ i:Nat,i<R/\(s,i)∈aJ b/\v=(i:Int):=by
 unfold onF;rw[lz]
 constructor
 .rintro⟨i,d,rfl⟩
  obtain⟨c,a⟩:=mN.mp d;exact⟨i,vV.mp c,of_decide_eq_true a,rfl⟩
 .rintro⟨i,c,a,rfl⟩
  exact⟨i,mN.mpr ⟨vV.mpr c,decide_eq_true a⟩,rfl⟩
def ER(b:By)(s R:Nat):(onF b s R).Nodup:=FW.mpr (F6 (λh z=>h (by lia)) ((Jm (n:=R)).sublist Ib))
def D5(b:By)(s R:Nat):(onF b s R).Pairwise (·<=·):=FW.mpr (F6 (λh=>by lia) ((List.pairwise_lt_range (n:=R)).sublist Ib))
def wy{b:By}{s R:Nat}{g:List Int}(p:(aJ b).Nodup)(k:∀ e∈aJ b,e.1=s->e.2<R)(o:g.Perm (((aJ b).filter λe=>decide (e.1=s)).map λe=>(e.2:Int)))(m:g.Pairwise (·<=·)):g=onF b s R:=by
 have j:(((aJ b).filter λe=>decide (e.1=s)).map λe=>(e.2:Int)).Nodup:=by
  refine FW.mpr ?_;refine Ic (R:=λa b=>a≠b) (λ{x y} hx hy h z=>?_) (p.sublist Ib);have r:x.1=s:=of_decide_eq_true (mN.mp hx).2;have w:y.1=s:=of_decide_eq_true (mN.mp hy).2;exact h (Prod.ext (r.trans w.symm) (by lia))
 have l:(((aJ b).filter λe=>decide (e.1=s)).map λe=>(e.2:Int)).Perm (onF b s R):=by
  refine(List.perm_ext_iff_of_nodup j (ER b s R)).mpr λv=>?_
  rw[Dq,lz]
  constructor
  .rintro⟨e,A,rfl⟩
   obtain⟨c,f⟩:=mN.mp A;have d:e.1=s:=of_decide_eq_true f;exact⟨e.2,k e c d,by rw[<- d];exact c,rfl⟩
  .rintro⟨i,c,f,rfl⟩
   exact⟨(s,i),mN.mpr ⟨f,decide_eq_true rfl⟩,rfl⟩
 exact List.Perm.eq_of_pairwise (λa b _ _ c f=>K6 c f) m (D5 b s R) (o.trans l)
section
variable (us:List Un)(rows cols:List Int)(R C:Nat)
def lR(ws:List Int):List En:=(ends R C).filter λe=>decide (0<sp us rows cols ws e)
def oB(ws:List Int)(b:By):List En:=(aJ b).filter λe=>decide (sp us rows cols ws e<0)
def ck(ws:List Int)(P:List (En×Nat)):List Int:=P.map λx=>room (uAt us x.2) (wAt ws x.2) x.1
def hdF(P:List (En×Nat)):En:=(P.headD ((0,0),0)).1
def pP(ws:List Int)(P:List (En×Nat))(l:En):Int:=if -sp us rows cols ws l<sp us rows cols ws (hdF P) then -sp us rows cols ws l else sp us rows cols ws (hdF P)
def i9(ws:List Int)(b:By)(l:En):List Int:=dq (iV (pP us rows cols ws (bG us b b.length l []) l) (ck us ws (bG us b b.length l []))) (bG us b b.length l []) ws
def byF(ws:List Int):By:=jp us ws (R+C) (lR us rows cols R C ws)
inductive Told
 | ws (w:List Int)
 | no (over:Bool) (so ot:List Int)
def jN:Nat->List Int->Told
 | 0,ws=>.ws ws
 | n+1,ws=>match oB us rows cols ws (byF us rows cols R C ws) with
  | []=>if (byF us rows cols R C ws).isEmpty then .ws ws else .no true (onF (byF us rows cols R C ws) 0 R) (onF (byF us rows cols R C ws) 1 C)
  | l::_=>jN n (i9 us rows cols ws (byF us rows cols R C ws) l)
def lows:List Int:=us.map (·.lo)
def rD(n:Nat):List Int:=(g0 n).map λ(i:Nat)=>(i:Int)
def uH:Told:=if rows.sum=cols.sum then jN us rows cols R C ((mS us (lows us) rows cols R C).toNat+1) (lows us) else .no (decide (cols.sum<rows.sum)) (rD R) (rD C)
variable {us rows cols R C}
def uJ(a:List Int):(lR us rows cols R C a).Nodup:=(Bc R C).sublist Ib
def g8(a:List Int):∀ e∈lR us rows cols R C a,e∈ends R C:=λe b=>(mN.mp b).1
def vD(b:OkU us R C):Wi us (lows us):=by
 refine⟨a_ ..,λp a=>?_⟩
 have e:wAt (lows us) p=(uAt us p).lo:=by
  unfold wAt lows uAt;rw[rd,rd,fb,c_ a];rfl
 rw[e];exact⟨wk _,(b p a).2.2⟩
def way{a:List Int}{S:List En}{b:By}{l:En}(B:Bs us a R C S b [])(m:∀ e∈S,0<sp us rows cols a e)(r:l∈oB us rows cols a b):∃ s p P,s∈S/\bG us b b.length l []=(s,p)::P/\IsP us a ((s,p)::P) s l/\(((s,p)::P).map (·.1)++[l]).Nodup/\sp us rows cols a l<0:=by
 obtain⟨v,w⟩:=mN.mp r;have d:sp us rows cols a l<0:=of_decide_eq_true w;obtain⟨i,k⟩:=ro v;have f:i<b.length:=by have:=(b_.mp k).1;unfold aJ at this;rw[a_]at this;exact this
 obtain⟨s,j,c,h⟩:=pM us a B.fr.tree b.length i l l [] f (Wy.first us a (S:=S) k);cases hc:bG us b b.length l [] with
 | nil =>
  rw[hc]at c;have e:s=l:=c;subst e;have:=m s j;lia
 | cons x P =>
  obtain⟨g,o⟩:=x;rw[hc]at c h;have e:g=s:=c.1;subst e;exact⟨g,o,P,j,rfl,c,h,d⟩
def uU{a:List Int}{b:By}{l:En}(h:Wi us a)(B:Bs us a R C (lR us rows cols R C a) b [])(w:l∈oB us rows cols a b):Wi us (i9 us rows cols a b l)/\mS us (i9 us rows cols a b l) rows cols R C<mS us a rows cols R C:=by
 obtain⟨s,p,P,k,e,f,A,i⟩:=way (rows:=rows) (cols:=cols) B (λe he=>of_decide_eq_true (mN.mp he).2) w;have j:0<sp us rows cols a s:=of_decide_eq_true (mN.mp k).2;unfold i9;rw[e];have E:hdF ((s,p)::P)=s:=rfl;have c:=kh (ck us a ((s,p)::P)) (pP us rows cols a ((s,p)::P) l);have o:pP us rows cols a ((s,p)::P) l=if -sp us rows cols a l<sp us rows cols a s then -sp us rows cols a l else sp us rows cols a s:=rfl
 generalize iV (pP us rows cols a ((s,p)::P) l) (ck us a ((s,p)::P))=m at c;have d:=c.2 _ (ft ..);have v:∀ x∈(s,p)::P,m<=room (uAt us x.2) (wAt a x.2) x.1:=λx g=>c.2 _ (fy _ (lz.mpr ⟨x,g,rfl⟩))
 have D:0<m:=by
  rcases i_.mp c.1 with z | z
  .rw[z,o];split <;> lia
  .obtain⟨x,g,e⟩:=lz.mp z
   have:=(gZ us a f x g).2.2;lia
 rw[o]at d
 have r:m<=sp us rows cols a s:=by split at d <;> lia
 have y:sp us rows cols a l<=-m:=by split at d <;> lia
 refine⟨wY us a h f A (by lia) v,?_⟩;exact Af us a rows cols R C (rq us rows cols a m a h.len f) D r y (ends_mem.mp (g8 a s k))
end
end Led
namespace My
open PySem L2 FrM Led
def IsPt(H:Hp)(x:En×Nat)(v:V):Prop:=∃ t p,v=.ref t/\H t=some (.tup [.ref p,.int (x.2:Nat)])/\H p=some (.tup (enV x.1))
def IsPt.tu{H a:Hp}{x:En×Nat}{v:V}(s:kF H a)(h:IsPt H x v):IsPt a x v:=let ⟨t,p,q,r,z⟩:=h;⟨t,p,q,s _ _ r,s _ _ z⟩
abbrev AllP(H:Hp):List (En×Nat)->List V->Prop:=GE (IsPt H)
theorem AllP.tu{H a:Hp}(s:kF H a):∀{es:List (En×Nat)}{xs:List V},AllP H es xs->AllP a es xs
 | _,_,.nil=>.nil
 | _,_,.cons r t=>.cons (r.tu s) (AllP.tu s t)
inductive spPathL(vs:List V)(H:Hp)(Q:VK)(_E:XK):Prop
 | mk(x:V)(db lu lw:Addr)(o:Obj)(l:En)(b:By)(S:List En)(ws:List Int)(us:List Un)(xs:List V)(i:Nat)(h0:vs=[x,.ref db,.ref lu])(h1:IsE H l x)(h2:H db=some (.frz o (.dT (dE (byL b)))))(h3:Uw H lu lw us xs ws)(h4:Tree us ws S b)(h5:(aJ b)[i]? = some l)(h6:b.length<=12)(h7:∀ L H' ps,Same H H'->H L=none->H' L=some (.lst ps)->AllP H' (bG us b b.length l []) ps->Q (.ref L) H'):spPathL vs H Q _E
inductive spGiven(vs:List V)(H:Hp)(Q:VK)(_E:XK):Prop
 | mk(lp lu lw:Addr)(most:Int)(P:List (En×Nat))(ps:List V)(ws:List Int)(us:List Un)(xs:List V)(h0:vs=[.ref lp,.int most,.ref lu,.ref lw])(h1:H lp=some (.lst ps))(h2:AllP H P ps)(h3:Uw H lu lw us xs ws)(h4:(∀ x∈P,x.2<us.length))(h5:P.length<=24)(h6:∀ L H',Same H H'->H L=none->H' L=some (.lst ((dq (iV most (ck us ws P)) P ws).map V.int))->Q (.ref L) H'):spGiven vs H Q _E
inductive spOn(vs:List V)(H:Hp)(Q:VK)(_E:XK):Prop
 | mk(db:Addr)(o:Obj)(b:By)(s R:Nat)(h0:vs=[.int (s:Nat),.ref db])(h1:H db=some (.frz o (.dT (dE (byL b)))))(h2:(aJ b).Nodup)(h3:(∀ e∈aJ b,e.1=s->e.2<R))(h4:b.length<=12)(h5:∀ L H',Same H H'->H L=none->H' L=some (.lst ((onF b s R).map V.int))->Q (.ref L) H'):spOn vs H Q _E
section
variable {P:gN}{w:ml}{K:Frag}{mg:Str->Option cX}{base:Heap}{a:Ad}
def y9(T:Txt K mg a):FnX P w base 2 T.W_aH spPathL:=by
 refine T.W_aH.A.okz eO λa1 A am s H vs Q E hr h=>?_
 .obtain⟨x,R,lu,lw,o,l,b,S,Y,d,xs,i,rfl,hl,G,hU,hT,hi,a2,q⟩:=h
  refine⟨_,(af (psl 3 eO (bn ae)) (af (psl 4 eO (vr 0)) (af (dM kk (aO lY (gz (eJ hr) (vr 1) (vr 4) (λ_ _=>rfl)) fJ (az _)) (af (psl 5 eO (gz (eJ hr) (vr 1) (vr 4) (λ_ _=>rfl))) (af (psl 4 eO (pec (rA T) hr T.W_ar (aa (aj (vr 2) (vr 5)) (aa (vr 4) ae)))) (ai (cH (pe_m.insert0 (vr 3) (aa ag (aa (aG (aa (vr 4) (aa (vr 5) ae))) ae)))))))) (ai (ap (vr 3)))))),mH ?_⟩;intro as a3 an;have sl:sizeLine=16777216:=fE;have z2:∀ x y:V,[x,y].length<=sizeLine:=λx y=>by rw[sl];exact(by decide:2<=16777216)
  have ad:i<b.length:=by have:=(b_.mp hi).1;unfold aJ at this;rw[a_]at this;exact this
  refine⟨ey _,λL hL=>?_⟩;have s0:=Same.new (o:=.lst []) hL;refine⟨λm O f=>∃(e:En) (y:V) (c:List (En×Nat)) (g:List V) (n:Nat) (N:Option V),Wy d Y b m e l c/\m<n/\bG d b n e c=bG d b b.length l []/\c.length+m<=i/\Same H f/\f L=some (.lst g)/\AllP f c g/\IsE f e y/\O=[some x,some (.ref R),some (.ref lu),some (.ref L),some y,N],⟨i,l,x,[],[],b.length,none,Wy.first d Y (S:=S) hi,ad,rfl,by rw[Hw];lia,s0,ac,.nil,hl.tu s0.tu,rfl⟩,?_⟩;rintro m O H1 ⟨e,y,c,g,n,N,W,mn,Z,al,I,B,M,⟨pe,rfl,C⟩,rfl⟩
  obtain⟨r,hr'⟩:∃ r,look b e=some r:=by
   have:=look_some.mpr (eH W.at_);cases hc:look b e with
   | none=>rw[hc]at this;cases this
   | some r=>exact⟨r,rfl⟩
  refine⟨R,oV r,rfl,.inr ⟨_,key e,pe,.inr ⟨o,I _ _ G⟩,rfl,C,by rw[uk,hr'];rfl⟩,?_⟩;cases r with
  | none =>
   obtain⟨n',rfl⟩:∃ n',n=n'+1:=⟨n - 1,by lia⟩
   have e0:bG d b (n'+1) e c=c:=by rw[bG,hr']
   rw[e0]at Z;rw[Z]at M;exact q L _ _ I hL B M
  | some p =>
   obtain⟨hp,j,h,hj,ho,W'⟩:=W.back d Y hT hr'
   obtain⟨n',rfl⟩:∃ n',n=n'+1:=⟨n - 1,by lia⟩
   have e0:bG d b (n'+1) e c=bG d b n' h ((h,p)::c):=by rw[bG,hr'];simp only[ho]
   rw[e0]at Z;refine⟨λO f=>∃ m',m'<m/\∃(e:En) (y:V) (c:List (En×Nat)) (g:List V) (n:Nat) (N:Option V),Wy d Y b m' e l c/\m'<n/\bG d b n e c=bG d b b.length l []/\c.length+m'<=i/\Same H f/\f L=some (.lst g)/\AllP f c g/\IsE f e y/\O=[some x,some (.ref R),some (.ref lu),some (.ref L),some y,N],λσ' f h=>h,?_⟩;refine⟨R,oV (some p),rfl,.inr ⟨_,key e,pe,.inr ⟨o,I _ _ G⟩,rfl,C,by rw[uk,hr'];rfl⟩,?_⟩;have J:=hU.same I;have xl:d.length=xs.length:=gp hU.all;have hx:xs[p]? = some (xs[p]'(by lia)):=c_ (by lia);obtain⟨u,hu,ah⟩:=gx J.all hx;rw[dg hu]at ho;refine .inl ⟨lu,_,_,_,rfl,rfl,SqL.of J.u,aZ hx,?_⟩;refine⟨u,e,_,_,rfl,ah,⟨pe,rfl,C⟩,λv H2 s2 hv=>?_⟩;rw[ho]at hv
   obtain⟨D,rfl,ab⟩:=(hv:IsE H2 h v)
   refine⟨.inl ⟨rfl,_,SqL.of (s2 _ _ B)⟩,?_⟩;refine⟨z2 _ _,λt ht=>?_⟩;have s3:=s2.trans (Same.new (o:=.tup [.ref D,.int (p:Nat)]) ht);have F:=s3 _ _ B;have a0:c.length=g.length:=gp M;refine⟨L,_,_,rfl,rfl,F,by lia,?_⟩;have X:=de (o:=.lst (.ref t::g)) F;have k:=(Same.new (o:=.tup [.ref D,.int (p:Nat)]) ht) _ _ ab;exact⟨j,hj,h,.ref D,(h,p)::c,.ref t::g,n',_,W',by lia,Z,by rw[f_];lia,(I.trans s3).put hL,ac,.cons ⟨t,D,rfl,X _ _ ac,X _ _ k⟩ (AllP.tu X (AllP.tu s3.tu M)),⟨D,rfl,X _ _ k⟩,rfl⟩
def yi(T:Txt K mg a):FnX P w base 2 T.W_E spGiven:=by
 refine T.W_E.A.okz sc_E λa5 A a1 s H vs Q E hr h=>?_
 .obtain⟨lp,lu,lw,b,d,W,e,f,xs,rfl,Z,hA,I,hb,a4,q⟩:=h
  refine⟨_,(af (psl 4 sc_E (ak (we rfl) rfl T.z_min jq (aa (au gt (bn (aa (vr 1) ae)) (aN rfl (N:=["end","place","units","weights"]) (ix:=[none,none,some 2,some 3]) ay (aL (vr 0)) (aB λC s H fp=>⟨(bT (K:=K) (n:=2) rfl rfl (dy ["end","place","units","weights"])),aM,(pec (vg T) hr T.W_aS (aa (aY (bf (K:=K) rfl) (vr 2) (vr 1)) (aa (aY (bf (K:=K) rfl) (vr 3) (vr 1)) (aa (vr 0) ae))))⟩))) ae))) (af (psl 5 sc_E (bi ei rfl T.z_list cc (aa (vr 3) ae))) (af (cj kk rfl (aL (vr 0)) (bF rfl (av (ax (i:=6) sc_E.nd rfl (m_ rfl)) (av (ax (i:=7) sc_E.nd rfl (m_ rfl)) a9))) (ai (vw (vr 5) (vr 7) tm (eM (aO dJ (aj (vr 6) ag) ag (az _)) (vr 4) (nT mZ (vr 4))) qX m6))) (ai (ap (vr 5)))))),mH ?_⟩;intro a3 a6 a2;have sl:sizeLine=16777216:=fE;have xl:f.length=xs.length:=gp I.all;have pl:d.length=W.length:=gp hA;refine⟨Gj (by rw[sl];exact(by decide:1<16777216)),λl1 al=>?_⟩;have s0:=Same.new (o:=.lst [.int b]) al;refine .inl ⟨⟨_,SqL.of (s0 _ _ Z)⟩,λD X=>?_⟩;have a0:=s0.trans (Same.new (o:=.lst []) X)
  have as:H D=none:=by
   cases hh:H D with
   | none=>rfl
   | some o=>rw[s0 _ _ hh]at X;cases X
  have nD:l1≠D:=λz=>by rw[<- z,ac]at X;cases X
  refine aD (K:=K) (a:=lp) (xs:=W) (λj J k=>j<=W.length/\Same H k/\k l1=some (.lst [.int b])/\k D=some (.lst J)/\J=(ck f e (d.take j)).map V.int) ⟨ey _,a0,by rw[aq nD];exact ac,ac,rfl⟩ (λj J k h'=>SqL.of (h'.2.1 _ _ Z)) (λj J k h'=>h'.2.2.2.1) ?_ ?_
  .rintro j y J k P' hy ⟨hj,O,h1,l,rfl⟩ hP
   have am:j<W.length:=(b_.mp hy).1;obtain⟨x,hx,r⟩:=gx hA hy;obtain⟨t,pe,rfl,ht,F⟩:=r.tu O.tu;have L:=hb x (eH hx);have B:=I.same O;have M:xs[x.2]? = some (xs[x.2]'(by lia)):=c_ (by lia);obtain⟨u,hu,an⟩:=gx B.all M;refine⟨t,_,rfl,SqT.of ht,rfl,_,_,rfl,_,_,rfl,rfl,⟨rfl,rfl,trivial⟩,?_⟩;refine .inl ⟨lu,_,_,_,rfl,rfl,SqL.of B.u,aZ M,?_⟩;refine .inl ⟨lw,_,_,_,rfl,rfl,SqL.of B.w,dY (c_ (by rw[I.len];exact L)),?_⟩;refine⟨u,x.1,_,_,_,rfl,an,⟨pe,rfl,F⟩,l,by unfold ck;rw[a_,a_,ki];lia,hP _ _ ⟨am,O.put as,by rw[aq nD];exact h1,ac,?_⟩⟩;have tk:d.take (j+1)=d.take j++[x]:=by rw[j_,hx];rfl
   rw[tk];unfold ck;rw[gn,gn];show _=_++[V.int (room (uAt f x.2) (wAt e x.2) x.1)];rw[dg hu,dh (c_ (by rw[I.len];exact L))]
  rintro J H1 ⟨_,O,h1,l,rfl⟩;rw[<- pl,ga (d_ _)]at l;refine⟨l1,D,_,_,rfl,rfl,h1,l,by unfold ck;rw[a_,a_];show 1+_<=_;lia,λl2 ah=>?_⟩;have s2:=O.trans (Same.new (o:=.lst ([.int b]++(ck f e d).map V.int)) ah);refine⟨l2,b::ck f e d,rfl,SqL.of ac,by rw[f_];lia,λm hm ad=>?_⟩;rw[v3 hm ad];have ab:=I.same s2;refine⟨lw,_,rfl,.inl (SqL.of ab.w),λp v=>?_⟩;have s3:=s2.trans (Same.new (o:=.lst (e.map V.int)) v)
  have g:H p=none:=by
   cases hh:H p with
   | none=>rfl
   | some o=>rw[s2 _ _ hh]at v;cases v
  refine .inl ⟨⟨_,SqL.of (s3 _ _ Z)⟩,?_⟩;refine eV (K:=K) (a:=lp) (xs:=W) (λi Y k=>Same H k/\k p=some (.lst ((dq (iV b (ck f e d)) (d.take i) e).map V.int))/\∃(x6 x7:Option V),Y=[some (.ref lp),some (.int b),some (.ref lu),some (.ref lw),some (.int (iV b (ck f e d))),some (.ref p),x6,x7]) ⟨s3,ac,none,none,rfl⟩ (λi Y k _ h=>SqL.of (h.1 _ _ Z)) ?_ ?_
  .rintro i x Y H4 hx ⟨S,G,x6,x7,rfl⟩
   obtain⟨z,hz,r⟩:=gx hA hx;obtain⟨t,pe,rfl,ht,F⟩:=r.tu S.tu;have R:=hb z (eH hz);refine⟨t,_,rfl,SqT.of ht,rfl,_,_,rfl,_,_,rfl,rfl,?_⟩;have gl:(dq (iV b (ck f e d)) (d.take i) e).length=f.length:=by rw[kD,I.len]
   have tk:d.take (i+1)=d.take i++[z]:=by rw[j_,hz];rfl
   have ez:dq (iV b (ck f e d)) (d.take (i+1)) e=ge (iV b (ck f e d)) (dq (iV b (ck f e d)) (d.take i) e) z:=by
    rw[tk];unfold dq;rw[IQ];rfl
   rw[ez];generalize dq (iV b (ck f e d)) (d.take i) e=gs at G gl;have eg:gs[z.2]? = some (wAt gs z.2):=by rw[dh (c_ (by lia))];exact c_ (by lia)
   refine⟨p,_,_,_,rfl,rfl,SqL.of G,by lia,dY eg,?_⟩;refine .inr (.inl ⟨pe,_,_,_,rfl,rfl,SqT.of F,ao 0 rfl rfl,?_⟩);unfold ge;refine ifC (λc=>?_) λc=>?_
   .rw[if_pos (by lia)]
    refine⟨_,_,rfl,rfl,p,_,_,_,rfl,rfl,G,lW (by rw[a_,gl];exact R),?_⟩;refine⟨S.put g,?_,_,_,rfl⟩;rw[ac,LF]
   .rw[if_neg (by lia)]
    refine⟨_,_,rfl,rfl,p,_,_,_,rfl,rfl,G,lW (by rw[a_,gl];exact R),?_⟩;refine⟨S.put g,?_,_,_,rfl⟩;rw[ac,LF]
  .rintro Y H4 ⟨S,G,x6,x7,rfl⟩
   rw[<- pl,ga (d_ _)]at G;exact q p _ S g G
def Ca(T:Txt K mg a):FnX P w base 1 T.W_ah spOn:=by
 refine T.W_ah.A.okz oz λab A S s H vs Q E hr h=>?_
 .obtain⟨J,o,b,m,R,rfl,k,nd,Z,ad,q⟩:=h
  refine⟨_,(ai (ap (ak jJ rfl T.z_sorted oC (aa (aN rfl (N:=["end","side"]) (ix:=[none,some 0]) ay (E7 (vr 1)) (aB λC s H fp=>⟨aQ 0 ["end","side"],cv (aO dJ (aY (bf (K:=K) rfl) (vr 0) ag) (vr 1) (az _)),(aY (bf (K:=K) rfl) (vr 0) ag)⟩)) ae)))),?_⟩;have sl:sizeLine=16777216:=fE;refine⟨J,o,_,rfl,k,λD G=>?_⟩;have nD:J≠D:=λz=>by rw[<- z,k]at G;cases G
  have kl:(aJ b).length=b.length:=by unfold aJ;rw[a_]
  have dl:(dE (byL b)).length=b.length:=by rw[jo];unfold byL;rw[a_]
  refine pQ (d:=J) (o:=o) (kvs:=dE (byL b)) (λj r v=>j<=b.length/\Same H v/\v D=some (.lst r)/\r=(((((aJ b).take j).filter λe=>decide (e.1=m)).map λe=>(e.2:Int))).map V.int) ⟨ey _,Same.new G,ac,rfl⟩ (λj r v h=>h.2.1 _ _ k) (λj r v h=>h.2.2.1) ?_ ?_
  .rintro j kv p r v P' f X ⟨hj,B,g,rfl⟩ M
   obtain⟨e,he,ek⟩:∃ e,(aJ b)[j]? = some e/\kv.1=key e:=by
    unfold dE byL at f;rw[fb,fb]at f;cases hc:b[j]? with
    | none=>rw[hc]at f;cases f
    | some x=>rw[hc]at f;cases f;exact⟨x.1,by unfold aJ;rw[fb,hc];rfl,rfl⟩
   rw[ek]at X;have F:v p=some (.tup (enV e)):=X;have y:j<b.length:=by have:=(b_.mp he).1;lia
   have Y:(aJ b).take (j+1)=(aJ b).take j++[e]:=by rw[j_,he];rfl
   rw[Y,rz]at M;have fl:(((aJ b).take j).filter λe=>decide (e.1=m)).length<=j:=mu (nn ..) (by rw[ki];lia);refine⟨⟨rfl,trivial⟩,?_⟩;refine .inr (.inl ⟨p,_,_,_,rfl,rfl,SqT.of F,ao 0 rfl rfl,ifC (λc=>?_) λc=>?_⟩)
   .have W:e.1=m:=by lia
    refine .inr (.inl ⟨p,_,_,_,rfl,rfl,SqT.of F,ao 1 rfl rfl,g,by rw[a_,a_];lia,M _ _ ⟨y,B.put G,ac,?_⟩⟩);rw[k6 (p:=λe:En=>decide (e.1=m)) (decide_eq_true W),gn,gn];rfl
   .have W:¬e.1=m:=by lia
    refine M _ _ ⟨y,B,g,?_⟩;rw[g_ (p:=λe:En=>decide (e.1=m)) (λz=>W (of_decide_eq_true z)),Iz,y_]
  rintro r H1 ⟨_,B,g,rfl⟩;rw[dl,<- kl,ga (d_ _)]at g;have fl:((aJ b).filter λe=>decide (e.1=m)).length<=12:=mu (nn ..) (by lia);refine⟨D,_,rfl,SqL.of g,by rw[a_];lia,λL ns i l O=>?_⟩
  have I:H L=none:=by
   cases hh:H L with
   | none=>rfl
   | some o=>rw[B _ _ hh]at O;cases O
  refine q L _ (B.trans (Same.new O)) I ?_;rw[ac,wy nd Z i l]
end
def Same.free{H a:Hp}(s:Same H a){l:Addr}(h:a l=none):H l=none:=by
 cases hh:H l with
 | none=>rfl
 | some o=>rw[s _ _ hh]at h;cases h
def jS(ov:Bool):Str:=if ov then "over" else "under"
def IsT(H H':Hp)(t:Told)(x:V):Prop:=match t with
 | .ws w=>∃ p l,x=.ref p/\H' p=some (.tup [.str "weights",.ref l])/\H' l=some (.lst (w.map V.int))/\H l=none
 | .no ov so ot=>∃ p l1 l2,x=.ref p/\H' p=some (.tup [.str "none",.str (jS ov),.ref l1,.ref l2])/\H' l1=some (.lst (so.map V.int))/\H' l2=some (.lst (ot.map V.int))/\H l1=none/\H l2=none/\l1≠l2
inductive spLed(a:Ad)(vs:List V)(H:Hp)(Q:VK)(_E:XK):Prop
 | mk(lr lc lu:Addr)(rows cols:List Int)(us:List Un)(xs:List V)(h0:vs=[.ref lr,.ref lc,.ref lu])(h1:In H lr lc lu rows cols us xs)(h2:TabsOk (tabs a) H)(h3:∀ x H',SameT H H'->TabsOk (tabs a) H'->IsT H H' (uH us rows cols rows.length cols.length) x->Q x H'):spLed a vs H Q _E
def In.okU{H:Hp}{d b f:Addr}{rows cols:List Int}{us:List Un}{xs:List V}(h:In H d b f rows cols us xs):OkU us rows.length cols.length:=λp a=>by
 have e:uAt us p=us[p]:=dg (c_ a);rw[e];obtain⟨g,i,_,c,_⟩:=h.ok _ (E_ a);exact⟨g,i,c⟩
def xK{us:List Un}{a:List Int}{P:List (En×Nat)}{s e:En}(b:IsP us a P s e)(f:(P.map (·.1)++[e]).Nodup):P.length<=us.length:=by
 have d:=mP us a b f;have c:((P.map (·.2)).map λi=>((0,i):En)).Nodup:=FW.mpr (F6 (λh z=>h (Gu z).2) d)
 have:=eD (m:=ends us.length 0) c λx g=>by
  obtain⟨i,k,rfl⟩:=lz.mp g;obtain⟨y,j,rfl⟩:=lz.mp k;exact ends_mem.mpr (.inl ⟨rfl,(gZ us a b y j).2.1⟩)
 rw[dN,a_,a_]at this;lia
def fP{a:Type}{l:List a}{i:Nat}{x:a}(h:l[i]? = some x):l.take (i+1)=l.take i++[x]:=by rw[j_,h];rfl
section
variable {P:gN}{w:ml}{K:Frag}{mg:Str->Option cX}{base:Heap}{a:Ad}
def Cz(T:Txt K mg a)(hB:Bm mg base):FnX P w base 6 T.W_aM (spLed a):=by
 refine T.W_aM.A.okz sc_aM λdd A ch s H vs Q E hr h=>?_
 .obtain⟨lr,lc,lu,rows,cols,f,xs,rfl,hI,hT,q⟩:=h
  refine⟨_,(af (cH (pec (xT T hB) hr T.W_e (aa (vr 0) (aa (vr 1) (aa (vr 2) ae))))) (af (aP (aO CM (ak (cG rfl) rfl T.z_sum gA (aa (vr 0) ae)) (ak (cG rfl) rfl T.z_sum gA (aa (vr 1) ae)) (az _)) (af (psl 3 sc_aM (eM (aO yx (ak (cG rfl) rfl T.z_sum gA (aa (vr 0) ae)) (ak (cG rfl) rfl T.z_sum gA (aa (vr 1) ae)) (az _)) b8 b8)) (ai (ap (aG (aa b8 (aa (vr 3) (aa (bi (dX rfl) rfl T.z_list cc (aa (bi iT rfl T.z_range jG (aa (ak aw rfl T.z_len aK (aa (vr 0) ae)) ae)) ae)) (aa (bi (dX rfl) rfl T.z_list cc (aa (bi iT rfl T.z_range jG (aa (ak aw rfl T.z_len aK (aa (vr 1) ae)) ae)) ae)) ae)))))))) aC) (af (b7 rfl (i:=4) sc_aM.nd rfl rfl (by with_unfolding_all rfl) (N:=["row","column","low","high"]) (ix:=[none,none,none,none]) ay (aL (vr 2)) (aB λC s H fp=>⟨(bT (K:=K) (n:=4) rfl rfl (av (aQ 0 ["row","column","low","high"]) (av (aQ 1 ["row","column","low","high"]) (av (aQ 2 ["row","column","low","high"]) (av (aQ 3 ["row","column","low","high"]) a9))))),aM,(vr 2)⟩)) (af (dM kk (bK fB) (af (psr 5 sc_aM (aE (yX T) hr T.W_X (aa (vr 0) (aa (vr 1) (aa (vr 2) (aa (vr 4) ae)))))) (af (psl 6 sc_aM (aE (yI T) hr T.W_p (aa (aN rfl (N:=["end","spare"]) (ix:=[none,some 5]) ay (BL (vr 5)) (aB λC s H fp=>⟨aQ 0 ["end","spare"],cv (aO yx (gz (eJ hr) (vr 1) (vr 0) (λ_ _=>rfl)) ag (az _)),(vr 0)⟩)) (aa (vr 2) (aa (vr 4) ae))))) (af (b7 rfl (i:=7) sc_aM.nd rfl rfl (by with_unfolding_all rfl) (N:=["end","spare"]) (ix:=[none,some 5]) ay (BL (vr 6)) (aB λC s H fp=>⟨aQ 0 ["end","spare"],cv (aO oy (gz (eJ hr) (vr 1) (vr 0) (λ_ _=>rfl)) ag (az _)),(vr 0)⟩)) (af (aP (bx (hJ (vr 7) (λ_=>rfl))) (ai se) aC) (af (psl 8 sc_aM (aE (y9 T) hr T.W_aH (aa (aj (vr 7) ag) (aa (vr 6) (aa (vr 2) ae))))) (ai (psl 4 sc_aM (aE (yi T) hr T.W_E (aa (vr 8) (aa (ak (eC rfl) rfl T.z_min jq (aa (gz (eJ hr) (vr 5) (aj (aj (vr 8) ag) ag) (λ_ _=>rfl)) (aa (nT mZ (gz (eJ hr) (vr 5) (aj (vr 7) ag) (λ_ _=>rfl))) ae))) (aa (vr 2) (aa (vr 4) ae))))))))))))) (af (aP (wE (vr 6) (λ_=>rfl)) (ai (ap (aG (aa b8 (aa b8 (aa (aE (Ca T) hr T.W_ah (aa ag (aa (vr 6) ae))) (aa (aE (Ca T) hr T.W_ah (aa ag (aa (vr 6) ae))) ae))))))) aC) (ai (ap (aG (aa b8 (aa (vr 4) ae)))))))))),rL ?_⟩
  intro dn da dc c9 c4;have sl:sizeLine=16777216:=fE;have r6:=hI.rs.1;have c6:=hI.cs.1;have bm:=hI.okU;have a5:=hI.n;refine⟨lr,lc,lu,rows,cols,f,xs,rfl,hI,hT,λH1 Z a0=>?_⟩;have k:=hI.t Z;have xl:f.length=xs.length:=gp hI.all;refine⟨lr,rows,rfl,SqL.of k.r,lc,cols,rfl,SqL.of k.c,?_⟩;refine Es (λc'=>?_) λc'=>?_
  .have c:¬rows.sum=cols.sum:=by simpa using c'
   refine⟨lr,rows,rfl,SqL.of k.r,lc,cols,rfl,SqL.of k.c,?_⟩;refine ifC (λc2=>?_) λc2=>?_
   .refine⟨_,.inl (SqL.of k.r),_,rfl,λp1 bd=>?_⟩
    have s2:=Same.new (o:=.rng 0 ((rows.map V.int).length:Nat)) bd;refine⟨p1,(rows.map V.int).length,rfl,by rw[a_];lia,ac,λl1 an=>?_⟩;have s3:=s2.trans (Same.new (o:=.lst ((g0 (rows.map V.int).length).map λ(i:Nat)=>V.int (i:Int))) an);refine⟨_,.inl (SqL.of (s3 _ _ k.c)),_,rfl,λp2 M=>?_⟩;have s4:=s3.trans (Same.new (o:=.rng 0 ((cols.map V.int).length:Nat)) M);refine⟨p2,(cols.map V.int).length,rfl,by rw[a_];lia,ac,λl2 I=>?_⟩;have s5:=s4.trans (Same.new (o:=.lst ((g0 (cols.map V.int).length).map λ(i:Nat)=>V.int (i:Int))) I);have a2:=(Same.new (o:=.rng 0 ((cols.map V.int).length:Nat)) M).trans (Same.new (o:=.lst ((g0 (cols.map V.int).length).map λ(i:Nat)=>V.int (i:Int))) I);refine⟨by show 4<=sizeLine;lia,λt ht=>?_⟩;have Y:=Same.new (o:=.tup [.str "none",.str "over",.ref l1,.ref l2]) ht;have e1:=Y _ _ (a2 _ _ (ac (a:=l1) (o:=.lst ((g0 (rows.map V.int).length).map λ(i:Nat)=>V.int (i:Int)))));have e2:=Y _ _ (ac (a:=l2) (o:=.lst ((g0 (cols.map V.int).length).map λ(i:Nat)=>V.int (i:Int))));have f1:=s2.free an;have f2:=s4.free I;have h0:=(Same.new (o:=.rng 0 ((cols.map V.int).length:Nat)) M) _ _ (ac (a:=l1) (o:=.lst ((g0 (rows.map V.int).length).map λ(i:Nat)=>V.int (i:Int))));have a':l1≠l2:=λz=>by rw[<- z,h0]at I;cases I
    refine q _ _ (Z.trans (s5.trans Y).t) (a0.same (s5.trans Y)) ?_;unfold uH;rw[if_neg c,decide_eq_true c2];refine⟨t,l1,l2,rfl,ac,?_,?_,Z.free f1,Z.free f2,a'⟩
    .rw[e1,a_];unfold rD;rw[map_map];rfl
    .rw[e2,a_];unfold rD;rw[map_map];rfl
   .refine⟨_,.inl (SqL.of k.r),_,rfl,λp1 bd=>?_⟩
    have s2:=Same.new (o:=.rng 0 ((rows.map V.int).length:Nat)) bd;refine⟨p1,(rows.map V.int).length,rfl,by rw[a_];lia,ac,λl1 an=>?_⟩;have s3:=s2.trans (Same.new (o:=.lst ((g0 (rows.map V.int).length).map λ(i:Nat)=>V.int (i:Int))) an);refine⟨_,.inl (SqL.of (s3 _ _ k.c)),_,rfl,λp2 M=>?_⟩;have s4:=s3.trans (Same.new (o:=.rng 0 ((cols.map V.int).length:Nat)) M);refine⟨p2,(cols.map V.int).length,rfl,by rw[a_];lia,ac,λl2 I=>?_⟩;have s5:=s4.trans (Same.new (o:=.lst ((g0 (cols.map V.int).length).map λ(i:Nat)=>V.int (i:Int))) I);have a2:=(Same.new (o:=.rng 0 ((cols.map V.int).length:Nat)) M).trans (Same.new (o:=.lst ((g0 (cols.map V.int).length).map λ(i:Nat)=>V.int (i:Int))) I);refine⟨by show 4<=sizeLine;lia,λt ht=>?_⟩;have Y:=Same.new (o:=.tup [.str "none",.str "under",.ref l1,.ref l2]) ht;have e1:=Y _ _ (a2 _ _ (ac (a:=l1) (o:=.lst ((g0 (rows.map V.int).length).map λ(i:Nat)=>V.int (i:Int)))));have e2:=Y _ _ (ac (a:=l2) (o:=.lst ((g0 (cols.map V.int).length).map λ(i:Nat)=>V.int (i:Int))));have f1:=s2.free an;have f2:=s4.free I;have h0:=(Same.new (o:=.rng 0 ((cols.map V.int).length:Nat)) M) _ _ (ac (a:=l1) (o:=.lst ((g0 (rows.map V.int).length).map λ(i:Nat)=>V.int (i:Int))));have a':l1≠l2:=λz=>by rw[<- z,h0]at I;cases I
    refine q _ _ (Z.trans (s5.trans Y).t) (a0.same (s5.trans Y)) ?_;unfold uH;rw[if_neg c,decide_eq_false c2];refine⟨t,l1,l2,rfl,ac,?_,?_,Z.free f1,Z.free f2,a'⟩
    .rw[e1,a_];unfold rD;rw[map_map];rfl
    .rw[e2,a_];unfold rD;rw[map_map];rfl
  .have cs:rows.sum=cols.sum:=by simpa using c'
   refine .inl ⟨⟨_,SqL.of k.u⟩,λD hD=>?_⟩;refine aD (K:=K) (a:=lu) (xs:=xs) (λj G r=>j<=xs.length/\Same H1 r/\r D=some (.lst G)/\G=(lows (f.take j)).map V.int) ⟨ey _,Same.new hD,ac,rfl⟩ (λj G r h'=>SqL.of (h'.2.1 _ _ k.u)) (λj G r h'=>h'.2.2.1) ?_ ?_
   .rintro j y G r P' hy ⟨hj,s1,ad,rfl⟩ X
    have cR:j<xs.length:=(b_.mp hy).1;obtain⟨u,hu,hU⟩:=gx k.all hy;obtain⟨p,rfl,hp⟩:=hU.tu s1.tu;refine⟨p,_,rfl,SqT.of hp,rfl,_,_,rfl,_,_,rfl,_,_,rfl,_,_,rfl,rfl,trivial,ad,by unfold lows;rw[a_,a_,ki];lia,X _ _ ⟨cR,s1.put hD,ac,?_⟩⟩;rw[fP hu];unfold lows;rw[gn,gn];rfl
   rintro G H2 ⟨_,s2,S,rfl⟩;rw[<- xl,ga (d_ _)]at S;have bA:uH f rows cols rows.length cols.length=jN f rows cols rows.length cols.length ((mS f (lows f) rows cols rows.length cols.length).toNat+1) (lows f):=if_pos cs;rw[bA]at q
   obtain⟨told,etold⟩:∃ told,jN f rows cols rows.length cols.length ((mS f (lows f) rows cols rows.length cols.length).toNat+1) (lows f)=told:=⟨_,rfl⟩
   rw[etold]at q;refine⟨λm σ r=>∃(g:List Int) (J:Addr) (n:Nat) (x3 x5 x6 x7 x8:Option V),m=(mS f g rows cols rows.length cols.length).toNat/\Wi f g/\m<n/\jN f rows cols rows.length cols.length n g=told/\Same H1 r/\r J=some (.lst (g.map V.int))/\H1 J=none/\σ=[some (.ref lr),some (.ref lc),some (.ref lu),x3,some (.ref J),x5,x6,x7,x8],⟨_,lows f,D,_,none,none,none,none,none,rfl,vD bm,G3 _,etold,s2,S,hD,rfl⟩,?_⟩;rintro m σ H3 ⟨g,J,n,x3,x5,x6,x7,x8,rfl,hW,mn,el,s3,h3,f3,rfl⟩;refine⟨λσ r=>∃ m',m'<(mS f g rows cols rows.length cols.length).toNat/\∃(g:List Int) (J:Addr) (n:Nat) (x3 x5 x6 x7 x8:Option V),m'=(mS f g rows cols rows.length cols.length).toNat/\Wi f g/\m'<n/\jN f rows cols rows.length cols.length n g=told/\Same H1 r/\r J=some (.lst (g.map V.int))/\H1 J=none/\σ=[some (.ref lr),some (.ref lc),some (.ref lu),x3,some (.ref J),x5,x6,x7,x8],λσ' r h=>h,?_⟩
   obtain⟨n',rfl⟩:∃ n',n=n'+1:=⟨n - 1,by lia⟩
   refine⟨lr,lc,lu,J,rows,cols,g,f,xs,rfl,k.same s3,h3,hW.len,λDs H4 s4 f4 h4=>?_⟩;refine⟨Ds,_,rfl,.inl h4,λo D1 ad=>?_⟩;have s5:Same H3 (upd H4 Ds (.frz o (.dT (dE (spE f rows cols g rows.length cols.length))))):=s4.put f4;have h5:(upd H4 Ds (.frz o (.dT (dE (spE f rows cols g rows.length cols.length))))) Ds=_:=ac;generalize upd H4 Ds (.frz o (.dT (dE (spE f rows cols g rows.length cols.length))))=H5 at s5 h5 ad;have db:=dN rows.length cols.length;have c0:(dE (spE f rows cols g rows.length cols.length)).length=(ends rows.length cols.length).length:=by rw[jo];unfold spE;rw[a_]
   refine pQ (d:=Ds) (o:=o) (kvs:=dE (spE f rows cols g rows.length cols.length)) (λj G r=>j<=(ends rows.length cols.length).length/\Same H5 r/\r D1=some (.lst G)/\AllE r (((ends rows.length cols.length).take j).filter λe=>decide (0<sp f rows cols g e)) G) ⟨ey _,Same.new ad,ac,.nil⟩ (λj G r h=>h.2.1 _ _ h5) (λj G r h=>h.2.2.1) ?_ ?_
   .rintro j kv p G r P' F hp ⟨hj,s1,hy,hA⟩ X
    obtain⟨e,W,ek⟩:∃ e,(ends rows.length cols.length)[j]? = some e/\kv.1=key e:=by
     unfold dE spE at F;rw[fb,fb]at F;cases hc:(ends rows.length cols.length)[j]? with
     | none=>rw[hc]at F;cases F
     | some x=>rw[hc]at F;cases F;exact⟨x,rfl,rfl⟩
    rw[ek]at hp;have am:r p=some (.tup (enV e)):=hp;have ah:=(b_.mp W).1;have hm:=eH W;rw[fP W,rz]at X;have al:(((ends rows.length cols.length).take j).filter λe=>decide (0<sp f rows cols g e)).length=G.length:=gp hA;have fl:(((ends rows.length cols.length).take j).filter λe=>decide (0<sp f rows cols g e)).length<=j:=mu (nn ..) (by rw[ki];lia);refine⟨⟨rfl,trivial⟩,?_⟩;refine⟨Ds,_,rfl,.inr ⟨_,key e,p,.inr ⟨o,s1 _ _ h5⟩,rfl,am,(qd hm).symm⟩,ifC (λc=>?_) λc=>?_⟩
    .refine⟨hy,by lia,X _ _ ⟨ah,s1.put ad,ac,?_⟩⟩
     rw[k6 (p:=λe:En=>decide (0<sp f rows cols g e)) (decide_eq_true c)];have u:=de (o:=.lst (G++[.ref p])) hy;exact(AllE.tu u hA).snoc ⟨p,rfl,u _ _ am⟩
    .refine X _ _ ⟨ah,s1,hy,?_⟩
     rw[g_ (p:=λe:En=>decide (0<sp f rows cols g e)) (λz=>c (of_decide_eq_true z)),Iz,y_];exact hA
   rintro G H6 ⟨_,Y,co,bl⟩;rw[c0,ga (d_ _)]at bl;have a8:=s5.trans Y;have cm:=s3.trans a8;have b4:=k.same cm;refine⟨D1,lu,J,lR f rows cols rows.length cols.length g,G,g,f,xs,rows.length,cols.length,rfl,⟨a8 _ _ h3,b4.u,b4.all,hW.len,a5⟩,co,bl,uJ g,g8 g,bm,r6,c6,λDb H7 s7 f7 B hb=>?_⟩;have eb:jp f g (rows.length+cols.length) (lR f rows cols rows.length cols.length g)=byF f rows cols rows.length cols.length g:=rfl;rw[eb]at B hb;unfold jN at el;generalize byF f rows cols rows.length cols.length g=b at B hb el;have dp:=B.len;refine⟨Db,_,rfl,.inl hb,λo2 D2 S=>?_⟩;have s8:Same H6 (upd H7 Db (.frz o2 (.dT (dE (byL b))))):=s7.put f7;have h8:(upd H7 Db (.frz o2 (.dT (dE (byL b))))) Db=_:=ac;generalize upd H7 Db (.frz o2 (.dT (dE (byL b))))=H8 at s8 h8 S;have cA:=Y.trans s8;have d8:=cA _ _ h5;have kl:(aJ b).length=b.length:=by unfold aJ;rw[a_]
   have b5:(dE (byL b)).length=(aJ b).length:=by rw[jo,kl];unfold byL;rw[a_]
   refine pQ (d:=Db) (o:=o2) (kvs:=dE (byL b)) (λj G r=>j<=(aJ b).length/\Same H8 r/\r D2=some (.lst G)/\AllE r (((aJ b).take j).filter λe=>decide (sp f rows cols g e<0)) G) ⟨ey _,Same.new S,ac,.nil⟩ (λj G r h=>h.2.1 _ _ h8) (λj G r h=>h.2.2.1) ?_ ?_
   .rintro j kv p G r P' F hp ⟨hj,s1,hy,hA⟩ X
    obtain⟨e,W,ek⟩:∃ e,(aJ b)[j]? = some e/\kv.1=key e:=by
     unfold dE byL at F;rw[fb,fb]at F;cases hc:b[j]? with
     | none=>rw[hc]at F;cases F
     | some x=>rw[hc]at F;cases F;exact⟨x.1,by unfold aJ;rw[fb,hc];rfl,rfl⟩
    rw[ek]at hp;have am:r p=some (.tup (enV e)):=hp;have ah:=(b_.mp W).1;have hm:=B.sub e (eH W);rw[fP W,rz]at X;have al:(((aJ b).take j).filter λe=>decide (sp f rows cols g e<0)).length=G.length:=gp hA;have fl:(((aJ b).take j).filter λe=>decide (sp f rows cols g e<0)).length<=j:=mu (nn ..) (by rw[ki];lia);refine⟨⟨rfl,trivial⟩,?_⟩;refine⟨Ds,_,rfl,.inr ⟨_,key e,p,.inr ⟨o,s1 _ _ d8⟩,rfl,am,(qd hm).symm⟩,ifC (λc=>?_) λc=>?_⟩
    .refine⟨hy,by lia,X _ _ ⟨ah,s1.put S,ac,?_⟩⟩
     rw[k6 (p:=λe:En=>decide (sp f rows cols g e<0)) (decide_eq_true c)];have u:=de (o:=.lst (G++[.ref p])) hy;exact(AllE.tu u hA).snoc ⟨p,rfl,u _ _ am⟩
    .refine X _ _ ⟨ah,s1,hy,?_⟩
     rw[g_ (p:=λe:En=>decide (sp f rows cols g e<0)) (λz=>c (of_decide_eq_true z)),Iz,y_];exact hA
   rintro dl H9 ⟨_,s9,a4,a1⟩;rw[b5,ga (d_ _)]at a1;have es:((aJ b).filter λe=>decide (sp f rows cols g e<0))=oB f rows cols g b:=rfl;rw[es]at a1;have c1:∀ e∈oB f rows cols g b,e∈oB f rows cols g b:=λe h=>h
   have cT:=s8.trans s9;have bt:=a8.trans cT;have O:=s3.trans bt;have b9:=s9 _ _ h8;have d9:=s9 _ _ d8;have h9:=bt _ _ h3;have b1:=k.same O;refine⟨_,.inl ⟨_,SqL.of a4,rfl⟩,?_⟩;generalize hsh:oB f rows cols g b=sh at a1 el;cases a1 with
   | nil =>
    simp only at el;refine⟨Db,_,rfl,.inr ⟨o2,b9⟩,?_⟩;cases b with
    | nil =>
     refine⟨by show 2<=sizeLine;lia,λt ht=>?_⟩;have v:=O.trans (Same.new (o:=.tup [.str "weights",.ref J]) ht);refine q _ _ (Z.trans v.t) (a0.same v) ?_;rw[<- el];exact⟨t,J,rfl,ac,(Same.new (o:=.tup [.str "weights",.ref J]) ht) _ _ h9,Z.free f3⟩
    | cons x b' =>
     generalize hbb:x::b'=b at *;have eI:(!(dE (byL b)).isEmpty)=true:=by rw[<- hbb];rfl
     have eN:b.isEmpty=false:=by rw[<- hbb];rfl
     rw[eN]at el;rw[eI];refine⟨Db,o2,b,0,rows.length,rfl,b9,B.fr.tree.nd,λe W h0=>?_,by lia,λL1 cW v b2 R=>?_⟩
     .rcases ends_mem.mp (B.sub e W) with z | z
      .exact z.2
      .lia
     refine⟨Db,o2,b,1,cols.length,rfl,v _ _ b9,B.fr.tree.nd,λe W h0=>?_,by lia,λL2 H11 s11 f11 h11=>?_⟩
     .rcases ends_mem.mp (B.sub e W) with z | z
      .lia
      .exact z.2
     refine⟨by show 4<=sizeLine;lia,λt ht=>?_⟩;have a6:=Same.new (o:=.tup [.str "none",.str "over",.ref L1,.ref L2]) ht;have a3:=O.trans ((v.trans s11).trans a6);refine q _ _ (Z.trans a3.t) (a0.same a3) ?_;rw[<- el];exact⟨t,L1,L2,rfl,ac,a6 _ _ (s11 _ _ R),a6 _ _ h11,Z.free (Same.free O b2),Z.free (Same.free (O.trans v) f11),λz=>by rw[z]at R;rw[R]at f11;cases f11⟩
   | @cons l x sh' ys' hE hR =>
    have hl:l∈oB f rows cols g b:=by rw[hsh];exact ft ..
    obtain⟨sE,pE,Pt,ca,ab,X,cB,c3⟩:=way (rows:=rows) (cols:=cols) B (λe W=>of_decide_eq_true (mN.mp W).2) hl;obtain⟨a7,cS⟩:=uU (rows:=rows) (cols:=cols) hW B hl;obtain⟨i,hi⟩:=ro (mN.mp hl).1;have lE:=B.sub l (mN.mp hl).1;have b6:=g8 g sE ca
    have bq:Uw H9 lu J f xs g:=⟨h9,b1.u,b1.all,hW.len,a5⟩
    refine .inl ⟨D2,_,_,_,rfl,rfl,SqL.of a4,ao 0 rfl rfl,?_⟩;refine⟨x,Db,lu,J,o2,l,b,_,g,f,xs,i,rfl,hE,b9,bq,B.fr.tree,hi,by lia,λL cW ps v b2 R as=>?_⟩;have cb:i9 f rows cols g b l=dq (iV (pP f rows cols g ((sE,pE)::Pt) l) (ck f g ((sE,pE)::Pt))) ((sE,pE)::Pt) g:=by unfold i9;rw[ab]
    rw[ab]at as;obtain⟨pl,rfl,cP⟩:=hE;have bo:=v _ _ cP;have b3:=v _ _ d9;have cC:=as;cases cC with
    | @cons _ y _ ps' hY hPs =>
     obtain⟨t,pe,rfl,ht,ct⟩:=hY;refine .inl ⟨L,_,_,_,rfl,rfl,SqL.of R,ao 0 rfl rfl,?_⟩;refine .inr (.inl ⟨t,_,_,_,rfl,rfl,SqT.of ht,ao 0 rfl rfl,?_⟩);refine⟨Ds,_,rfl,.inr ⟨_,key sE,pe,.inr ⟨o,b3⟩,rfl,ct,(qd b6).symm⟩,?_⟩;refine .inl ⟨D2,_,_,_,rfl,rfl,SqL.of (v _ _ a4),ao 0 rfl rfl,?_⟩;refine⟨Ds,_,rfl,.inr ⟨_,key l,pl,.inr ⟨o,b3⟩,rfl,bo,(qd lE).symm⟩,?_⟩;refine⟨_,_,rfl,?_⟩;refine⟨L,lu,J,_,(sE,pE)::Pt,_,g,f,xs,rfl,R,as,bq.same v,λx hx=>(gZ f g X x hx).2.1,mu (xK X cB) a5,λL2 H11 s11 f11 h11=>?_⟩;have em:(if -sp f rows cols g l<sp f rows cols g sE then -sp f rows cols g l else sp f rows cols g sE)=pP f rows cols g ((sE,pE)::Pt) l:=rfl;rw[em,<- cb]at h11;have m0:=Cg f (i9 f rows cols g b l) rows cols rows.length cols.length;refine⟨_,(by lia:(mS f (i9 f rows cols g b l) rows cols rows.length cols.length).toNat<_),i9 f rows cols g b l,L2,n',_,_,_,_,_,rfl,a7,by lia,el,O.trans (v.trans s11),h11,Same.free (O.trans v) f11,rfl⟩
end
end My
namespace Led
def onK(k:En->Bool)(s R:Nat):List Int:=((g0 R).filter λi=>k (s,i)).map λ(i:Nat)=>(i:Int)
section
variable (us:List Un)(rows cols:List Int)(R C:Nat)
def Met(ws:List Int):Prop:=Wi us ws/\(∀ i<R,ox us ws i=wAt rows i)/\∀ j<C,nZ us ws j=wAt cols j
def oLo(k:En->Bool):Int:=outer us [] k (λu _=>u.lo)
def oHi(k:En->Bool):Int:=outer us [] k (λu _=>u.hi)
def iLo(k:En->Bool):Int:=ij us [] k (λu _=>u.lo)
def iHi(k:En->Bool):Int:=ij us [] k (λu _=>u.hi)
def Cut(ov:Bool)(k:En->Bool):Prop:=match ov with
 | true=>inT cols C k - iLo us k<inS rows R k - oHi us k
 | false=>inS rows R k - oLo us k<inT cols C k - iHi us k
def mK:Told->Prop
 | .ws w=>Met us rows cols R C w
 | .no ov so ot=>∃ k:En->Bool,so=onK k 0 R/\ot=onK k 1 C/\Cut us rows cols R C ov k
def xg(l:List Int):l.sum=sI (wAt l) l.length:=by
 suffices h:∀ n,n<=l.length->(l.take n).sum=sI (wAt l) n by
  have:=h l.length (d_ _);rw[ga (d_ _)]at this;exact this
 intro n
 induction n with
 | zero=>intro _;rfl
 | succ n ih =>
  intro a;have e:l[n]? = some l[n]:=c_ (by lia);rw[j_,e,Lu,ih (by lia),sI,dh e];simp
def vO(g:Un->Int->Int)(a:List Int):outer us a (λ_=>true) g=0:=dj λp _=>if_neg λz=>z.2 rfl
def zx(g:Un->Int->Int)(a:List Int):ij us a (λ_=>true) g=0:=dj λp _=>if_neg λz=>z.1 rfl
def qK(h:rows.length=R):inS rows R (λ_=>true)=rows.sum:=by
 subst h;rw[xg];exact bp λi _=>if_pos rfl
def p8(h:cols.length=C):inT cols C (λ_=>true)=cols.sum:=by
 subst h;rw[xg];exact bp λi _=>if_pos rfl
def uO(s n:Nat):rD n=onK (λ_=>true) s n:=by
 unfold rD onK;rw[JP.mpr λ_ _=>rfl]
variable {us rows cols R C}
theorem pr(r:OkU us R C)(H:rows.length=R)(E:cols.length=C)(c:rows.sum=cols.sum):∀(n:Nat) (ws:List Int),Wi us ws->(mS us ws rows cols R C).toNat<n->mK us rows cols R C (jN us rows cols R C n ws)
 | 0,_,_,h=>by lia
 | n+1,ws,hW,hn=>by
  have L:=Bs.first us ws (uJ (us:=us) (rows:=rows) (cols:=cols) (R:=R) (C:=C) ws) (g8 ws)
  have y:∀(m:Nat) (b:By) (d:List En),mB (R+C) b d<=m->Bs us ws R C (lR us rows cols R C ws) b d->Bs us ws R C (lR us rows cols R C ws) (jp us ws (R+C) (lR us rows cols R C ws)) []:=by
   intro m
   induction m with
   | zero =>
    intro b d w B;cases d with
    | nil=>rw[<- Bs.done us ws B];exact B
    | cons h t=>unfold mB at w;rw[f_]at w;lia
   | succ m ih =>
    intro b d w B;cases d with
    | nil=>rw[<- Bs.done us ws B];exact B
    | cons h t =>
     obtain⟨I,P⟩:=B.next us ws r;exact ih _ _ (by lia) I
  have B:Bs us ws R C (lR us rows cols R C ws) (byF us rows cols R C ws) []:=y _ _ _ (d_ _) L;unfold jN;generalize byF us rows cols R C ws=b at B;cases hsh:oB us rows cols ws b with
  | cons l t =>
   obtain⟨f,v⟩:=uU (rows:=rows) (cols:=cols) hW B (by rw[hsh];exact ft ..);have O:=Cg us (i9 us rows cols ws b l) rows cols R C;exact pr r H E c n _ f (by lia)
  | nil =>
   have M:∀ e∈aJ b,0<=sp us rows cols ws e:=λe c=>by
    refine FY λz=>?_
    have:e∈oB us rows cols ws b:=mN.mpr ⟨c,decide_eq_true (by lia)⟩;rw[hsh]at this;cases this
   simp only;cases hb:b.isEmpty with
   | true =>
    have e:b=[]:=Ky.mp hb;subst e;simp only[if_true]
    have G:∀ e∈ends R C,sp us rows cols ws e<=0:=λe c=>by
     refine FY λz=>?_
     have:e∈lR us rows cols R C ws:=mN.mpr ⟨c,decide_eq_true (by lia)⟩;have:=B.fr.start e this;cases this
    have F:=AM us ws rows cols R C r (by rw[qK rows R H,p8 cols C E,c]) (λi N=>G _ (ends_mem.mpr (.inl ⟨rfl,N⟩))) (λj D=>G _ (ends_mem.mpr (.inr ⟨rfl,D⟩)));exact⟨hW,F.1,F.2⟩
   | false =>
    simp only[DQ,if_false];refine⟨λe=>decide (e∈aJ b),rfl,rfl,?_⟩
    obtain⟨s,hs⟩:∃ s,s∈lR us rows cols R C ws:=by
     cases b with
     | nil=>cases hb
     | cons x b =>
      obtain⟨e,o⟩:=x;cases o with
      | none=>exact⟨e,B.fr.tree.st e (ft ..)⟩
      | some p =>
       obtain⟨_,j,_,D,_⟩:=B.fr.tree.par 0 e p rfl;lia
    have J:decide (s∈aJ b)=true:=decide_eq_true (B.fr.start s hs);have g:0<sp us rows cols ws s:=of_decide_eq_true (mN.mp hs).2
    have a:∀ h∈aJ b,∀ p<us.length,∀ e,oth (uAt us p) h=some e->e∈aJ b\/¬0<room (uAt us p) (wAt ws p) h:=λh K=>by
     rcases B.fr.shut h K with z | z
     .cases z
     .exact z
    have:=yb us ws rows cols R C (k:=λe=>decide (e∈aJ b)) r hW
     (λp A f v=>by
      rcases a _ (of_decide_eq_true f) p A _ (vS _) with z | z
      .exact absurd (decide_eq_true z) v
      .exact z)
     (λp A f v=>by
      rcases a _ (of_decide_eq_true f) p A _ (vi _) with z | z
      .exact absurd (decide_eq_true z) v
      .exact z)
     (λe c=>M e (of_decide_eq_true c)) J g (ends_mem.mp (g8 ws s hs))
    exact this
def xD(c:OkU us R C)(b:rows.length=R)(a:cols.length=C):mK us rows cols R C (uH us rows cols R C):=by
 unfold uH
 by_cases he:rows.sum=cols.sum
 .rw[if_pos he]
  exact pr c b a he _ _ (vD c) (G3 _)
 .rw[if_neg he]
  refine⟨λ_=>true,uO 0 R,uO 1 C,?_⟩
  by_cases h:cols.sum<rows.sum
  .rw[decide_eq_true h]
   show inT cols C _ - iLo us _<inS rows R _ - oHi us _;unfold iLo oHi;rw[zx,vO,qK rows R b,p8 cols C a];lia
  .rw[decide_eq_false h]
   show inS rows R _ - oLo us _<inT cols C _ - iHi us _;unfold iHi oLo;rw[zx,vO,qK rows R b,p8 cols C a];lia
end
def onK_mem{k:En->Bool}{s R:Nat}{v:Int}:v∈onK k s R↔∃ i:Nat,i<R/\k (s,i)=true/\v=(i:Int):=by
 unfold onK;rw[lz]
 constructor
 .rintro⟨i,c,rfl⟩
  obtain⟨b,a⟩:=mN.mp c;exact⟨i,vV.mp b,a,rfl⟩
 .rintro⟨i,b,a,rfl⟩
  exact⟨i,mN.mpr ⟨vV.mpr b,a⟩,rfl⟩
def Ap{k:En->Bool}{s R i:Nat}(h:i<R):((i:Int)∈onK k s R)↔k (s,i)=true:=by
 rw[onK_mem]
 constructor
 .rintro⟨j,_,a,e⟩
  have:i=j:=by lia
  rw[this];exact a
 .intro a;exact⟨i,h,a,rfl⟩
def jT(k:En->Bool)(s R:Nat):(onK k s R).length<=R:=by
 unfold onK;rw[a_];exact mu (nn ..) (by rw[py];exact d_ _)
theorem tq(f:Nat->Int)(k:Nat->Bool):∀ R,(((g0 R).filter k).map f).sum=sI (λi=>if k i=true then f i else 0) R
 | 0=>rfl
 | R+1=>by
  rw[HE,rz,gn,Lu,tq f k R,sI];cases h:k R with
  | true=>rw[k6 h];simp
  | false=>rw[g_ (by rw[h];exact fx)];simp
def vM(k:En->Bool)(s R:Nat)(l:List Int):((onK k s R).map λv=>wAt l v.toNat).sum=sI (λi=>if k (s,i)=true then wAt l i else 0) R:=by
 unfold onK;rw[map_map];exact tq (wAt l) (λi=>k (s,i)) R
def mO(k:En->Bool)(u:Un):Bool:=k (0,u.r) && !k (1,u.c)
def inB(k:En->Bool)(u:Un):Bool:=k (1,u.c) && !k (0,u.r)
def wW(us:List Un)(k:En->Bool)(g:Un->Int):outer us [] k (λu _=>g u)=sI (λq=>if mO k (uAt us q)=true then g (uAt us q) else 0) us.length:=bp λp _=>by
 unfold mO
 by_cases c1:k (0,(uAt us p).r)=true <;> by_cases c2:k (1,(uAt us p).c)=true <;> simp[c1,c2]
def xr(us:List Un)(k:En->Bool)(g:Un->Int):ij us [] k (λu _=>g u)=sI (λq=>if inB k (uAt us q)=true then g (uAt us q) else 0) us.length:=bp λp _=>by
 unfold inB
 by_cases c1:k (0,(uAt us p).r)=true <;> by_cases c2:k (1,(uAt us p).c)=true <;> simp[c1,c2]
def xz{us:List Un}{rows cols a:List Int}{R C:Nat}(f:rows.length=R)(g:cols.length=C)(b:Met us rows cols R C a):sumL us a 0 R us.length=rows/\sumL us a 1 C us.length=cols:=by
 obtain⟨_,c,d⟩:=b;refine⟨GR λi=>?_,GR λi=>?_⟩
 .by_cases h:i<R
  .rw[rO us a h,c i h]
   have e:rows[i]? = some rows[i]:=c_ (by lia);rw[e,dh e]
  .rw[nr (by rw[bg];lia),nr (by lia)]
 .by_cases h:i<C
  .rw[rC us a h,d i h]
   have e:cols[i]? = some cols[i]:=c_ (by lia);rw[e,dh e]
  .rw[nr (by rw[bg];lia),nr (by lia)]
end Led
namespace My
open PySem L2 FrM Led
theorem eE:∀ vs:List Int,(vs.map V.int).all iA=true
 | []=>rfl
 | _::vs=>by rw[l_,KF,eE vs];rfl
theorem tj(v:Int):∀ vs:List Int,inV (.int v) (vs.map V.int)=decide (v∈vs)
 | []=>rfl
 | x::vs=>by
  have a:=tj v vs;unfold inV at a ⊢;rw[l_,HV,a];have e:eqV (.int x) (.int v)=decide (x=v):=rfl;rw[e,ue];simp only[Bool.or_eq_true,decide_eq_true_eq,i_]
  constructor
  .rintro(h | h)
   .exact .inl h.symm
   .exact .inr h
  .rintro(h | h)
   .exact .inl h.symm
   .exact .inr h
def inK{k:En->Bool}{s R i:Nat}(h:i<R):inV (.int (i:Nat)) ((onK k s R).map V.int)=k (s,i):=by
 rw[tj,ue,decide_eq_true_iff];exact Ap h
structure Rc(H:Hp)(lr lc lu:Addr)(rows cols:List Int)(us:List Un)(xs:List V)(R C:Nat):Prop where
 r:H lr=some (.lst (rows.map V.int))
 c:H lc=some (.lst (cols.map V.int))
 u:H lu=some (.lst xs)
 all:AllUn H us xs
 lr:rows.length=R
 lc:cols.length=C
 r6:R<=6
 c6:C<=6
 n:us.length<=24
 ok:∀ u∈us,OkN u R C
def Rc.same{H b:Hp}{a d c:Addr}{rows cols:List Int}{us:List Un}{xs:List V}{R C:Nat}(s:Same H b)(h:Rc H a d c rows cols us xs R C):Rc b a d c rows cols us xs R C:=⟨s _ _ h.r,s _ _ h.c,s _ _ h.u,h.all.tu s.tu,h.lr,h.lc,h.r6,h.c6,h.n,h.ok⟩
def Rc.t{H c:Hp}{a f d:Addr}{rows cols:List Int}{us:List Un}{xs:List V}{R C:Nat}(s:SameT H c)(h:Rc H a f d rows cols us xs R C):Rc c a f d rows cols us xs R C:=⟨s.at h.r,s.at h.c,s.at h.u,h.all.tu λb xs e=>s.at e,h.lr,h.lc,h.r6,h.c6,h.n,h.ok⟩
inductive spWeights(vs:List V)(H:Hp)(Q:VK)(_E:XK):Prop
 | mk(lr lc lu lw:Addr)(rows cols w:List Int)(us:List Un)(xs:List V)(R C:Nat)(h0:vs=[.ref lr,.ref lc,.ref lu,.ref lw])(h1:Rc H lr lc lu rows cols us xs R C)(h2:H lw=some (.lst (w.map V.int)))(h3:Met us rows cols R C w)(h4:∀ H',Same H H'->Q (.bl true) H'):spWeights vs H Q _E
inductive spNums(vs:List V)(H:Hp)(Q:VK)(_E:XK):Prop
 | mk(l:Addr)(k:En->Bool)(s R:Nat)(h0:vs=[.ref l,.int (R:Nat)])(h1:H l=some (.lst ((onK k s R).map V.int)))(h2:R<=6)(h3:∀ H',Same H H'->Q (.bl true) H'):spNums vs H Q _E
inductive spCut(vs:List V)(H:Hp)(Q:VK)(_E:XK):Prop
 | mk(lr lc lu l1 l2:Addr)(rows cols:List Int)(us:List Un)(xs:List V)(R C:Nat)(ov:Bool)(k:En->Bool)(h0:vs=[.ref lr,.ref lc,.ref lu,.str (jS ov),.ref l1,.ref l2])(h1:Rc H lr lc lu rows cols us xs R C)(h2:H l1=some (.lst ((onK k 0 R).map V.int)))(h3:H l2=some (.lst ((onK k 1 C).map V.int)))(h4:Cut us rows cols R C ov k)(h5:∀ H',Same H H'->Q (.bl true) H'):spCut vs H Q _E
inductive spWholeL(vs:List V)(H:Hp)(Q:VK)(_E:XK):Prop
 | mk(i:Int)(h0:vs=[.int i])(h1:Q (.bl true) H):spWholeL vs H Q _E
section
variable {P:gN}{w:ml}{K:Frag}{mg:Str->Option cX}{base:Heap}{a:Ad}
theorem yk{K:Frag}{H:Hp}:∀(l:List Int),DVs K H (l.map BQ) (l.map V.int)
 | []=>by simp[DVs]
 | c::l=>by rw[l_,l_,DVs];exact⟨_,_,rfl,by simp[DV],yk l⟩
def jQ{K:Frag}{H:Hp}{p:Addr}{l:List Int}(h:H p=some (.lst (l.map V.int))):DV K H (.list (l.map BQ)) (.ref p):=by
 rw[DV];exact⟨p,_,rfl,SqL.of h,yk l⟩
theorem yR:∀(l:List Int),ub (l.map BQ)=true/\w_ (l.map BQ)<=1
 | []=>by simp[ub,w_]
 | t::l=>by
  obtain⟨a,b⟩:=yR l;rw[l_,ub,w_,a,GH];refine⟨rfl,?_⟩;simp only[G2];lia
def dH(l:List Int):DB (.list (l.map BQ))=true:=by
 obtain⟨a,b⟩:=yR l;unfold DB;rw[GH,a,Jl];refine decide_eq_true ?_;simp only[G2];lia
def At{K:Frag}{H:Hp}{d:HY}{x y:V}{Q:VK}(c:DV K H d x)(b:DV K H d y)(a:DB d=true)(q:Q (.bl true) H):rEqD K false x y H Q:=by
 refine⟨_,_,c,b,a,a,?_⟩;rw[KQ _ (Js a)];exact q
def Ah{K:Frag}{H:Hp}{d:HY}{x y:V}{Q:VK}(c:DV K H d x)(b:DV K H d y)(a:DB d=true)(q:Q (.bl false) H):rEqD K true x y H Q:=by
 refine⟨_,_,c,b,a,a,?_⟩;rw[KQ _ (Js a)];exact q
def pC(T:Txt K mg a):FnX P w base 1 T.W_aE spWholeL:=by
 refine T.W_aE.A.okz tN λc A b s H d Q E e h=>?_
 .obtain⟨i,rfl,q⟩:=h
  exact⟨_,(ai (ap (bE (ak bB rfl T.z_isinstance aI (aa (vr 0) (aa (bS (v:=.ty "int") rfl T.z_int mF rfl) ae))) (bW (BM (ak bB rfl T.z_isinstance aI (aa (vr 0) (aa (bS (v:=.ty "bool") rfl T.z_bool uW rfl) ae)))))))),⟨_,_,_,true,rfl,rfl,.int i,rfl,⟨_,_,_,false,rfl,rfl,.int i,rfl,q⟩⟩⟩
def tS(T:Txt K mg a):FnX P w base 2 T.W_ab spWeights:=by
 refine T.W_ab.A.okz sc_ab λah A W s H vs Q E r h=>?_
 .obtain⟨lr,lc,l,m,X,Y,N,S,xs,R,C,rfl,c,k,I,q⟩:=h
  refine⟨_,(af (aP (PW.pt (kO (bx (bK (ak bB rfl T.z_isinstance aI (aa (vr 3) (aa (bS (v:=.ty "list") rfl T.z_list cc rfl) ae))))) (hZ (aO CM (ak aw rfl T.z_len aK (aa (vr 3) ae)) (ak aw rfl T.z_len aK (aa (vr 2) ae)) (az _))))) (ai (ap fB)) aC) (af (cj kk rfl (qp rfl T.z_zip (aa (vr 2) (aa (vr 3) ae))) (bF rfl (av (ax (i:=4) sc_ab.nd rfl (m_ rfl)) (av (ax (i:=5) sc_ab.nd rfl (m_ rfl)) a9))) (ai (aP (PW.pt (kO (bx (bK (pec (pC T) r T.W_aE (aa (vr 5) ae)))) (hZ (bx (vH jt jt (aj (vr 4) ag) (vr 5) (aj (vr 4) ag)))))) (ai (ap fB)) aC))) (af (aP (aO (rj r.units) (pec (fY T) r T.W_ad (aa (vr 2) (aa (vr 3) (aa ag (aa (ak aw rfl T.z_len aK (aa (vr 0) ae)) ae))))) (vr 0) (az _)) (ai (ap fB)) aC) (ai (ap (ba (lB r.units) (pec (fY T) r T.W_ad (aa (vr 2) (aa (vr 3) (aa ag (aa (ak aw rfl T.z_len aK (aa (vr 1) ae)) ae))))) (vr 1) (az _))))))),mH ?_⟩;intro ad al ab;have xl:S.length=xs.length:=gp c.all;have L:=I.1.len;refine⟨_,_,_,true,rfl,rfl,.lst k,rfl,⟨_,.inl (SqL.of k),⟨_,.inl (SqL.of c.u),?_⟩⟩⟩;rw[a_,L,xl];refine vA rfl ?_;refine⟨l,m,_,_,rfl,c.u,k,?_⟩;refine qF (a:=l) (b:=m) (xs:=xs) (ys:=N.map V.int) (by rw[a_];lia) (λi B H'=>Same H H'/\∃(J G:Option V),B=[some (.ref lr),some (.ref lc),some (.ref l),some (.ref m),J,G]) ⟨Same.refl H,none,none,rfl⟩ (λi B H' h=>⟨h.1 _ _ c.u,h.1 _ _ k⟩) ?_ ?_
  .rintro i x y B H1 pt hx hy ⟨f,J,G,rfl⟩ O
   obtain⟨u,g,hU⟩:=gx c.all hx;obtain⟨v,hv,rfl⟩:=dQ hy;have M:=(b_.mp g).1;have F:=I.1.bd i M;rw[dg g,dh hv]at F;have j:=Same.new (o:=.tup [x,.int v]) O;obtain⟨p,rfl,Z⟩:=hU.tu (f.trans j).tu;refine⟨pt,_,rfl,SqT.of ac,rfl,_,_,rfl,_,_,rfl,rfl,?_⟩;refine⟨v,rfl,?_⟩;refine .inr (.inl ⟨p,_,_,_,rfl,rfl,SqT.of Z,ao 2 rfl rfl,?_⟩);refine ifP F.1 ?_;refine .inr (.inl ⟨p,_,_,_,rfl,rfl,SqT.of Z,ao 3 rfl rfl,?_⟩);refine vA F.2 ?_;exact⟨f.trans j,_,_,rfl⟩
  .rintro B H1 ⟨f,J,G,rfl⟩
   have e:=c.same f;obtain⟨e0,e1⟩:=xz c.lr c.lc I;refine⟨_,.inl (SqL.of e.r),?_⟩;refine⟨m,l,N,S,xs,0,R,by rw[a_,c.lr];rfl,f _ _ k,e.u,e.all,Il L.symm,by lia,c.r6,λu g=>(c.ok u g).1,λD H2 j fD hD=>?_⟩;rw[e0]at hD;have d:=e.same j;refine Ah (jQ hD) (jQ d.r) (dH _) ?_;refine⟨_,.inl (SqL.of d.c),?_⟩;refine⟨m,l,N,S,xs,1,C,by rw[a_,c.lc];rfl,j _ _ (f _ _ k),d.u,d.all,Il L.symm,by lia,c.c6,λu g=>(c.ok u g).2.1,λD3 H3 s3 fD3 hD3=>?_⟩;rw[e1]at hD3;exact At (jQ hD3) (jQ (s3 _ _ d.c)) (dH _) (q _ ((f.trans j).trans s3))
def vf(T:Txt K mg a):FnX P w base 2 T.W_av spNums:=by
 refine T.W_av.A.okz qg λah A Z s H vs Q E Y h=>?_
 .obtain⟨l,k,f,R,rfl,M,r6,q⟩:=h
  refine⟨_,(af (aP (PW.pt (kO (bx (bK (ak bB rfl T.z_isinstance aI (aa (vr 0) (aa (bS (v:=.ty "list") rfl T.z_list cc rfl) ae))))) (hZ (aO (rj Y.units) (aN rfl (N:=["_law_number"]) (ix:=[none]) ay (aL (vr 0)) (aB λC s H fp=>⟨aQ 0 ["_law_number"],cv (bx (bK (pec (pC T) Y T.W_aE (aa (vr 0) ae)))),(vr 0)⟩)) (bn ae) (az _))))) (ai (ap fB)) aC) (ai (ap (ba (lB Y.units) (vr 0) (aN rfl (N:=["_law_number","_law_some"]) (ix:=[none,some 0]) ay (dw rfl T.z_range (aa (vr 1) ae)) (aB λC s H fp=>⟨aQ 0 ["_law_number","_law_some"],cv (aO (mV (K:=K) rfl) (vr 0) (vr 1) (by with_unfolding_all rfl)),(vr 0)⟩)) (az _))))),fc ?_⟩;intro ab;have sl:sizeLine=16777216:=fE;refine⟨_,_,_,true,rfl,rfl,.lst M,rfl,?_⟩;refine .inl ⟨⟨_,SqL.of M⟩,λD hD=>?_⟩;refine aD (K:=K) (a:=l) (xs:=(onK k f R).map V.int) (λj b g=>Same H g/\g D=some (.lst b)/\b=[]) ⟨Same.new hD,ac,rfl⟩ (λj b g h'=>SqL.of (h'.1 _ _ M)) (λj b g h'=>h'.2.1) ?_ ?_
  .rintro j y b g P' hy ⟨X,B,rfl⟩ O
   obtain⟨v,hv,rfl⟩:=dQ hy;exact⟨trivial,v,rfl,O _ _ ⟨X,B,rfl⟩⟩
  rintro b H1 ⟨X,B,rfl⟩;refine⟨ey _,λe he=>?_⟩;have S:=Same.new (o:=.lst []) he;refine Ah (d:=.list (([]:List Int).map BQ)) (jQ (l:=[]) (S _ _ B)) (jQ (l:=[]) ac) (dH []) ?_;have x:=X.trans S;generalize upd H1 e (.lst [])=H2 at S x;refine⟨R,rfl,by lia,by lia,λD3 G=>?_⟩;have I:=x _ _ M;refine iC (lo:=0) (n:=R) (λj b g=>j<=R/\Same H2 g/\g D3=some (.lst b)/\b=(onK k f j).map V.int) ⟨ey _,Same.new G,ac,rfl⟩ (λj b g h=>h.2.2.1) ?_ ?_
  .rintro j b g P' L ⟨al,F,m,rfl⟩ O
   have W:(0+(j:Int))=((j:Nat):Int):=by lia
   have ad:=jT k f j
   have r:onK k f (j+1)=onK k f j++if k (f,j)=true then [(j:Int)] else []:=by
    unfold onK;rw[HE,rz,gn];cases hk:k (f,j) with
    | true=>rw[k6 (p:=λi=>k (f,i)) hk];rfl
    | false=>rw[g_ (p:=λi=>k (f,i)) (by rw[hk];exact fx)];rfl
   refine⟨⟨rfl,trivial⟩,?_⟩;refine⟨l,_,rfl,.inl (SqL.of (F _ _ I)),rfl,eE _,?_⟩;refine ifB (λc=>?_) λc=>?_
   .have J:inV (.int (0+(j:Int))) ((onK k f R).map V.int)=true:=c
    rw[W,inK L]at J;refine⟨m,by rw[a_];lia,O _ _ ⟨L,F.put G,ac,?_⟩⟩;rw[r,if_pos J,gn,W];rfl
   .have J:inV (.int (0+(j:Int))) ((onK k f R).map V.int)=false:=c
    rw[W,inK L]at J;refine O _ _ ⟨L,F,m,?_⟩;rw[r,if_neg (by rw[J];exact fx),y_]
  rintro b H3 ⟨_,F,m,rfl⟩;exact At (jQ (F _ _ I)) (jQ m) (dH _) (q _ (x.trans F))
def DC(T:Txt K mg a):FnX P w base 3 T.W_ao spCut:=by
 refine T.W_ao.A.okz sc_ao λbo A a5 s H vs Q E hr h=>?_
 .obtain⟨lr,lc,lu,W,X,e,b,l,xs,R,C,O,k,rfl,m,h1,h2,hC,q⟩:=h
  refine⟨_,(af (aP (PW.pt (kO (bx (bK (pec (vf T) hr T.W_av (aa (vr 4) (aa (ak aw rfl T.z_len aK (aa (vr 0) ae)) ae))))) (hZ (bx (bK (pec (vf T) hr T.W_av (aa (vr 5) (aa (ak aw rfl T.z_len aK (aa (vr 1) ae)) ae)))))))) (ai (ap fB)) aC) (af (psl 6 sc_ao (ak (cG rfl) rfl T.z_sum gA (aa (aN rfl (N:=["_law_row_here","_law_rows"]) (ix:=[none,some 0]) ay (aL (vr 4)) (aB λC s H fp=>⟨aQ 0 ["_law_row_here","_law_rows"],aM,(aY (bf (K:=K) rfl) (vr 1) (vr 0))⟩)) ae))) (af (psl 7 sc_ao (ak (cG rfl) rfl T.z_sum gA (aa (aN rfl (N:=["_law_column","_law_columns"]) (ix:=[none,some 1]) ay (aL (vr 5)) (aB λC s H fp=>⟨aQ 0 ["_law_column","_law_columns"],aM,(aY (bf (K:=K) rfl) (vr 1) (vr 0))⟩)) ae))) (af (cj kk rfl (aL (vr 2)) (bF rfl (av (ax (i:=8) sc_ao.nd rfl (m_ rfl)) (av (ax (i:=9) sc_ao.nd rfl (m_ rfl)) (av (ax (i:=10) sc_ao.nd rfl (m_ rfl)) (av (ax (i:=11) sc_ao.nd rfl (m_ rfl)) a9))))) (oX (aP (PW.pt (pR (aO km (vr 8) (vr 4) (by with_unfolding_all rfl)) (qJ (aO gw (vr 9) (vr 5) (by with_unfolding_all rfl))))) (ai (psl 6 sc_ao (au bZ (vr 6) (aj (bn (aa (vr 10) (aa (vr 11) ae))) (bi kg rfl T.z_int mF (aa (ba dJ (vr 3) b8 (az _)) ae)))))) aC) (ai (aP (PW.pt (pR (aO gw (vr 8) (vr 4) (by with_unfolding_all rfl)) (qJ (aO km (vr 9) (vr 5) (by with_unfolding_all rfl))))) (ai (psl 7 sc_ao (au bZ (vr 7) (aj (bn (aa (vr 11) (aa (vr 10) ae))) (bi kg rfl T.z_int mF (aa (ba dJ (vr 3) b8 (az _)) ae)))))) aC)))) (ai (ap (Do (bE (ba dJ (vr 3) b8 (az _)) (bW (ba yx (vr 6) (vr 7) (az _)))) (bW (bE (ba dJ (vr 3) b8 (az _)) (bW (ba yx (vr 7) (vr 6) (az _)))))))))))),rf ?_⟩;intro bl bm bd a';have sl:sizeLine=16777216:=fE;have r6:=m.r6;have c6:=m.c6;refine⟨_,.inl (SqL.of m.r),?_⟩;refine⟨W,k,0,R,by rw[a_,m.lr];rfl,h1,r6,λH1 s1=>?_⟩;have a4:=m.same s1;refine⟨_,.inl (SqL.of a4.c),?_⟩;refine⟨X,k,1,C,by rw[a_,m.lc];rfl,s1 _ _ h2,c6,λH2 s2=>?_⟩;have M:=s1.trans s2;have a3:=m.same M;have a1:=M _ _ h1;have a2:=M _ _ h2;have bt:=jT k 0 R
  have bq:=jT k 1 C;refine .inl ⟨⟨_,SqL.of a1⟩,λD hD=>?_⟩;refine aD (K:=K) (a:=W) (xs:=(onK k 0 R).map V.int) (λj o f=>Same H2 f/\f D=some (.lst o)/\o=(((onK k 0 R).take j).map λv=>wAt e v.toNat).map V.int) ⟨Same.new hD,ac,rfl⟩ (λj o f h'=>SqL.of (h'.1 _ _ a1)) (λj o f h'=>h'.2.1) ?_ ?_
  .rintro j y o f P' hy ⟨s3,Z,rfl⟩ hP
   obtain⟨v,hv,rfl⟩:=dQ hy;obtain⟨i,hi,_,rfl⟩:=onK_mem.mp (eH hv);have a6:=(b_.mp hv).1;have er:e[i]? = some (wAt e i):=by rw[dh (c_ (by have:=m.lr;lia))];exact c_ _
   refine⟨⟨rfl,trivial⟩,.inl ⟨lr,_,_,_,rfl,rfl,SqL.of (s3 _ _ a3.r),dY er,Z,by rw[a_,a_,ki];lia,hP _ _ ⟨s3.put hD,ac,?_⟩⟩⟩;rw[fP hv,gn,gn];rfl
  rintro o H3 ⟨s3,am,rfl⟩;rw[a_,ga (d_ _)]at am;refine⟨D,_,rfl,SqL.of am,?_⟩;rw[vM];have L:=M.trans s3;have a8:=m.same L;refine .inl ⟨⟨_,SqL.of (L _ _ h2)⟩,λD4 a0=>?_⟩;refine aD (K:=K) (a:=X) (xs:=(onK k 1 C).map V.int) (λj o f=>Same H3 f/\f D4=some (.lst o)/\o=(((onK k 1 C).take j).map λv=>wAt b v.toNat).map V.int) ⟨Same.new a0,ac,rfl⟩ (λj o f h'=>SqL.of (h'.1 _ _ (L _ _ h2))) (λj o f h'=>h'.2.1) ?_ ?_
  .rintro j y o f P' hy ⟨s4,Z,rfl⟩ hP
   obtain⟨v,hv,rfl⟩:=dQ hy;obtain⟨i,hi,_,rfl⟩:=onK_mem.mp (eH hv);have a6:=(b_.mp hv).1;have er:b[i]? = some (wAt b i):=by rw[dh (c_ (by have:=m.lc;lia))];exact c_ _
   refine⟨⟨rfl,trivial⟩,.inl ⟨lc,_,_,_,rfl,rfl,SqL.of (s4 _ _ a8.c),dY er,Z,by rw[a_,a_,ki];lia,hP _ _ ⟨s4.put a0,ac,?_⟩⟩⟩;rw[fP hv,gn,gn];rfl
  rintro o H4 ⟨s4,ah,rfl⟩;rw[a_,ga (d_ _)]at ah;refine⟨D4,_,rfl,SqL.of ah,?_⟩;rw[vM];have as:=L.trans s4;have a7:=m.same as;have xl:l.length=xs.length:=gp m.all
  obtain⟨gO,hgO⟩:∃ g:Un->Int,g=λu=>if O then u.hi else u.lo:=⟨_,rfl⟩
  obtain⟨gI,hgI⟩:∃ g:Un->Int,g=λu=>if O then u.lo else u.hi:=⟨_,rfl⟩
  refine .inl ⟨⟨_,SqL.of a7.u⟩,?_⟩;refine eV (K:=K) (a:=lu) (xs:=xs) (λi σ f=>Same H f/\∃(x8 x9 F I:Option V),σ=[some (.ref lr),some (.ref lc),some (.ref lu),some (.str (jS O)),some (.ref W),some (.ref X),some (.int (sI (λi=>if k (0,i)=true then wAt e i else 0) R - sI (λq=>if mO k (uAt l q)=true then gO (uAt l q) else 0) i)),some (.int (sI (λi=>if k (1,i)=true then wAt b i else 0) C - sI (λq=>if inB k (uAt l q)=true then gI (uAt l q) else 0) i)),x8,x9,F,I]) ⟨as,none,none,none,none,by rw[sI,sI,Int.sub_zero,Int.sub_zero];rfl⟩ (λi σ f _ h=>SqL.of (h.1 _ _ m.u)) ?_ ?_
  .rintro i x σ H5 hx ⟨S,x8,x9,F,I,rfl⟩
   obtain⟨u,Y,hU⟩:=gx m.all hx;obtain⟨p,rfl,hp⟩:=hU.tu S.tu;obtain⟨u1,u2,_⟩:=m.ok u (eH Y);refine⟨p,_,rfl,SqT.of hp,rfl,_,_,rfl,_,_,rfl,_,_,rfl,_,_,rfl,rfl,?_⟩;refine⟨λal f=>Same H f/\∃ J:Int,J=sI (λi=>if k (0,i)=true then wAt e i else 0) R - sI (λq=>if mO k (uAt l q)=true then gO (uAt l q) else 0) (i+1)/\al=[some (.ref lr),some (.ref lc),some (.ref lu),some (.str (jS O)),some (.ref W),some (.ref X),some (.int J),some (.int (sI (λi=>if k (1,i)=true then wAt b i else 0) C - sI (λq=>if inB k (uAt l q)=true then gI (uAt l q) else 0) i)),some (.int (u.r:Nat)),some (.int (u.c:Nat)),some (.int u.lo),some (.int u.hi)],?_,?_⟩
   .refine⟨W,_,rfl,.inl (SqL.of (S _ _ h1)),rfl,eE _,?_⟩
    refine ifB (λc=>?_) λc=>?_
    .have r:inV (.int (u.r:Nat)) ((onK k 0 R).map V.int)=true:=c
     rw[inK u1]at r;refine⟨X,_,rfl,.inl (SqL.of (S _ _ h2)),rfl,eE _,?_⟩;refine ifB (λd=>?_) λd=>?_
     .have B:(!inV (.int (u.c:Nat)) ((onK k 1 C).map V.int))=true:=d
      rw[inK u2]at B;have G:mO k u=true:=by unfold mO;rw[r,B];rfl
      refine⟨by show 2<=sizeLine;lia,λt ht=>?_⟩;refine .inr ⟨_,rfl,?_⟩;refine .inl ⟨t,_,_,.int (gO u),rfl,rfl,SqL.of ac,?_,⟨S.trans (Same.new ht),_,?_,rfl⟩⟩
      .rw[hgO]
       cases O with
       | true=>exact ao 1 (by decide +kernel) rfl
       | false=>exact ao 0 (by decide +kernel) rfl
      .rw[sI,dg Y,if_pos G];lia
     .have B:(!inV (.int (u.c:Nat)) ((onK k 1 C).map V.int))=false:=d
      rw[inK u2]at B;have G:mO k u=false:=by unfold mO;rw[r,B];rfl
      refine⟨S,_,?_,rfl⟩;rw[sI,dg Y,G,if_neg fx];lia
    .have r:inV (.int (u.r:Nat)) ((onK k 0 R).map V.int)=false:=c
     rw[inK u1]at r;have G:mO k u=false:=by unfold mO;rw[r];rfl
     refine⟨S,_,?_,rfl⟩;rw[sI,dg Y,G,if_neg fx];lia
   rintro al H6 ⟨s6,J,an,rfl⟩
   have ab:∀(f:Hp) (other:Int),Same H f->other=sI (λi=>if k (1,i)=true then wAt b i else 0) C - sI (λq=>if inB k (uAt l q)=true then gI (uAt l q) else 0) (i+1)->Same H f/\∃(x8 x9 F I:Option V),[some (V.ref lr),some (.ref lc),some (.ref lu),some (.str (jS O)),some (.ref W),some (.ref X),some (.int J),some (.int other),some (.int (u.r:Nat)),some (.int (u.c:Nat)),some (.int u.lo),some (.int u.hi)]=[some (.ref lr),some (.ref lc),some (.ref lu),some (.str (jS O)),some (.ref W),some (.ref X),some (.int (sI (λi=>if k (0,i)=true then wAt e i else 0) R - sI (λq=>if mO k (uAt l q)=true then gO (uAt l q) else 0) (i+1))),some (.int (sI (λi=>if k (1,i)=true then wAt b i else 0) C - sI (λq=>if inB k (uAt l q)=true then gI (uAt l q) else 0) (i+1))),x8,x9,F,I]:=λf other sx eo=>⟨sx,some (.int (u.r:Nat)),some (.int (u.c:Nat)),some (.int u.lo),some (.int u.hi),by rw[an,eo]⟩
   refine⟨W,_,rfl,.inl (SqL.of (s6 _ _ h1)),rfl,eE _,?_⟩;refine ifB (λc=>?_) λc=>?_
   .have r:(!inV (.int (u.r:Nat)) ((onK k 0 R).map V.int))=true:=c
    rw[inK u1]at r;refine⟨X,_,rfl,.inl (SqL.of (s6 _ _ h2)),rfl,eE _,?_⟩;refine ifB (λd=>?_) λd=>?_
    .have B:inV (.int (u.c:Nat)) ((onK k 1 C).map V.int)=true:=d
     rw[inK u2]at B;have G:inB k u=true:=by unfold inB;rw[r,B];rfl
     refine⟨by show 2<=sizeLine;lia,λt ht=>?_⟩;refine .inr ⟨_,rfl,?_⟩;refine .inl ⟨t,_,_,.int (gI u),rfl,rfl,SqL.of ac,?_,ab _ _ (s6.trans (Same.new ht)) ?_⟩
     .rw[hgI]
      cases O with
      | true=>exact ao 1 (by decide +kernel) rfl
      | false=>exact ao 0 (by decide +kernel) rfl
     .rw[sI,dg Y,if_pos G];lia
    .have B:inV (.int (u.c:Nat)) ((onK k 1 C).map V.int)=false:=d
     rw[inK u2]at B;have G:inB k u=false:=by unfold inB;rw[B];rfl
     refine ab _ _ s6 ?_;rw[sI,dg Y,G,if_neg fx];lia
   .have r:(!inV (.int (u.r:Nat)) ((onK k 0 R).map V.int))=false:=c
    rw[inK u1]at r;have G:inB k u=false:=by unfold inB;rw[r,Bool.and_false]
    refine ab _ _ s6 ?_;rw[sI,dg Y,G,if_neg fx];lia
  .rintro σ H5 ⟨S,x8,x9,F,I,rfl⟩
   rw[<- xl,<- wW,<- xr];have q5:=q _ S;subst hgO hgI;cases O with
   | true =>
    have ad:inT b C k - iLo l k<inS e R k - oHi l k:=hC;exact ifP ad q5
   | false =>
    have ad:inS e R k - oLo l k<inT b C k - iHi l k:=hC;rw[<- decide_eq_true ad]at q5;exact q5
end
def ToldAt(H:Hp)(t:Told)(p:Addr)(Ls:List Addr):Prop:=match t with
 | .ws w=>∃ l,Ls=[l]/\H p=some (.tup [.str "weights",.ref l])/\H l=some (.lst (w.map V.int))
 | .no ov so ot=>∃ l1 l2,Ls=[l1,l2]/\l1≠l2/\H p=some (.tup [.str "none",.str (jS ov),.ref l1,.ref l2])/\H l1=some (.lst (so.map V.int))/\H l2=some (.lst (ot.map V.int))
def ToldAt.t{H a:Hp}(s:SameT H a):∀{t:Told}{p:Addr}{Ls:List Addr},ToldAt H t p Ls->ToldAt a t p Ls
 | .ws _,_,_,⟨l,e,h1,h2⟩=>⟨l,e,s.at h1,s.at h2⟩
 | .no _ _ _,_,_,⟨l1,l2,e,n,h1,h2,h3⟩=>⟨l1,l2,e,n,s.at h1,s.at h2,s.at h3⟩
inductive spRight(vs:List V)(H:Hp)(Q:VK)(_E:XK):Prop
 | mk(lr lc lu p:Addr)(Ls:List Addr)(rows cols:List Int)(us:List Un)(xs:List V)(R C:Nat)(t:Told)(h0:vs=[.ref lr,.ref lc,.ref lu,.ref p])(h1:Rc H lr lc lu rows cols us xs R C)(h2:ToldAt H t p Ls)(h3:mK us rows cols R C t)(h4:(∀ ov so ot,t=.no ov so ot->so.length<=6/\ot.length<=6))(h5:∀ H',Same H H'->Q (.bl true) H'):spRight vs H Q _E
def br:Told->Prop
 | .ws w=>w.length<=24
 | .no _ so ot=>so.length<=6/\ot.length<=6
def lX{K:Frag}{H:Hp}{p:Addr}{z:Str}(h:H p=some (.tup [.str z])):DV K H (.tuple [.str z]) (.ref p):=by
 rw[DV];exact⟨p,_,rfl,SqT.of h,by simp[DVs,DV]⟩
section
variable {P:gN}{w:ml}{K:Frag}{mg:Str->Option cX}{base:Heap}{a:Ad}
def yL(T:Txt K mg a):FnX P w base 4 T.W_aK spRight:=by
 refine T.W_aK.A.okz uI λad A I s H vs Q E G h=>?_
 .obtain⟨N,J,L,p,Ls,d,e,W,X,R,C,t,rfl,M,S,O,hs,q⟩:=h
  refine⟨_,(af (aP (PW.pt (kO (bx (bK (ak bB rfl T.z_isinstance aI (aa (vr 3) (aa (bS (v:=.ty "tuple") rfl T.z_tuple fV rfl) ae))))) (hZ (aO CM (ak aw rfl T.z_len aK (aa (vr 3) ae)) (aj (bn (aa ag (aa ag ae))) (bi kg rfl T.z_int mF (aa (ba (lB G.units) (dL g9 (vr 3) fq (fe ag)) (aG (aa b8 ae)) (az _)) ae))) (az _))))) (ai (ap fB)) aC) (af (aP (aO dJ (aj (vr 3) ag) b8 (az _)) (ai (ap (aE (tS T) G T.W_ab (aa (vr 0) (aa (vr 1) (aa (vr 2) (aa (aj (vr 3) ag) ae))))))) aC) (ai (ap (bE (ba dJ (aj (vr 3) ag) b8 (az _)) (bW (pec (DC T) G T.W_ao (f9 (vr 0) (f9 (vr 1) (f9 (vr 2) (f9 (aj (vr 3) ag) (f9 (aj (vr 3) ag) (f9 (aj (vr 3) ag) ae))))))))))))),fQ ?_⟩;intro ah Y;have sl:sizeLine=16777216:=fE;cases t with
  | ws w =>
   obtain⟨l,rfl,c,hl⟩:=S;refine⟨_,_,_,true,rfl,rfl,.tup c,rfl,⟨_,.inr (SqT.of c),?_⟩⟩;refine⟨by show 2<=sizeLine;lia,λD j=>?_⟩;have m:=Same.new (o:=.lst [.int 2,.int 4]) j;refine⟨1,rfl,.inr ⟨_,SqT.of (m _ _ c),(λz=>absurd z.2 (show ¬(HT.sIx 2 2 (some 1)=2) by decide +kernel)),λp2 hp2=>?_⟩⟩;have r:=m.trans (Same.new (o:=.tup (cQ [V.str "weights",.ref l] none (some 1))) hp2);refine⟨by show 1<=sizeLine;lia,λp3 g=>?_⟩;have f:=Same.new (o:=.tup [.str "none"]) g;refine⟨_,_,lX (z := "weights") (f _ _ ac),lX (z := "none") ac,by decide +kernel,by decide +kernel,?_⟩;have y:sN (.tuple [.str "weights"]) (.tuple [.str "none"])=false:=by decide +kernel
   rw[y];refine .inr ⟨_,rfl,?_⟩;have i:=(Same.new (o:=.tup (cQ [V.str "weights",.ref l] none (some 1))) hp2).trans f;refine .inl ⟨D,_,_,_,rfl,rfl,SqL.of (i _ _ ac),ao 0 rfl rfl,?_⟩;have b:=r.trans f;refine .inr (.inl ⟨p,_,_,_,rfl,rfl,SqT.of (b _ _ c),ao 0 rfl rfl,?_⟩);refine .inr (.inl ⟨p,_,_,_,rfl,rfl,SqT.of (b _ _ c),ao 1 rfl rfl,?_⟩);exact⟨N,J,L,l,d,e,w,W,X,R,C,rfl,M.same b,b _ _ hl,O,λH4 F=>q _ (b.trans F)⟩
  | no ov so ot =>
   obtain⟨x,B,rfl,ab,c,Z,h2⟩:=S;obtain⟨k,rfl,rfl,hC⟩:=O;refine⟨_,_,_,true,rfl,rfl,.tup c,rfl,⟨_,.inr (SqT.of c),?_⟩⟩;refine⟨by show 2<=sizeLine;lia,λD j=>?_⟩;have m:=Same.new (o:=.lst [.int 2,.int 4]) j;refine⟨1,rfl,.inr ⟨_,SqT.of (m _ _ c),(λz=>absurd z.2 (show ¬(HT.sIx 4 4 (some 1)=4) by decide +kernel)),λp2 hp2=>?_⟩⟩;have r:=m.trans (Same.new (o:=.tup (cQ [V.str "none",.str (jS ov),.ref x,.ref B] none (some 1))) hp2);refine⟨by show 1<=sizeLine;lia,λp3 g=>?_⟩;have f:=Same.new (o:=.tup [.str "none"]) g;refine⟨_,_,lX (z := "none") (f _ _ ac),lX (z := "none") ac,by decide +kernel,by decide +kernel,?_⟩;have y:sN (.tuple [.str "none"]) (.tuple [.str "none"])=true:=by decide +kernel
   rw[y];refine .inr ⟨_,rfl,?_⟩;have i:=(Same.new (o:=.tup (cQ [V.str "none",.str (jS ov),.ref x,.ref B] none (some 1))) hp2).trans f;refine .inl ⟨D,_,_,_,rfl,rfl,SqL.of (i _ _ ac),ao 1 rfl rfl,?_⟩;have b:=r.trans f;refine .inr (.inl ⟨p,_,_,_,rfl,rfl,SqT.of (b _ _ c),ao 0 rfl rfl,?_⟩);refine .inr (.inl ⟨p,_,_,_,rfl,rfl,SqT.of (b _ _ c),ao 0 rfl rfl,?_⟩);refine .inr (.inl ⟨p,_,_,_,rfl,rfl,SqT.of (b _ _ c),ao 1 rfl rfl,?_⟩);refine .inr (.inl ⟨p,_,_,_,rfl,rfl,SqT.of (b _ _ c),ao 2 rfl rfl,?_⟩);refine .inr (.inl ⟨p,_,_,_,rfl,rfl,SqT.of (b _ _ c),ao 3 rfl rfl,?_⟩);exact⟨N,J,L,x,B,d,e,W,X,R,C,ov,k,rfl,M.same b,b _ _ Z,b _ _ h2,hC,λH4 F=>q _ (b.trans F)⟩
end
end My
namespace My
open PySem L2 FrM
abbrev A3:=Int×Int×Int
def OkA(z:A3):Prop:=1<=z.1/\z.1<=1000000/\-1000000000<=z.2.1/\z.2.1<=z.2.2/\z.2.2<=1000000000
def IsA(H:Hp)(z:A3)(x:V):Prop:=∃ p,x=.ref p/\H p=some (.tup [.int z.1,.int z.2.1,.int z.2.2])
def IsA.same{H a:Hp}{z:A3}{x:V}(s:Same H a)(h:IsA H z x):IsA a z x:=let ⟨p,e,q⟩:=h;⟨p,e,s _ _ q⟩
abbrev AllA(H:Hp):List A3->List V->Prop:=GE (IsA H)
theorem AllA.same{H a:Hp}(s:Same H a):∀{zs:List A3}{xs:List V},AllA H zs xs->AllA a zs xs
 | _,_,.nil=>.nil
 | _,_,.cons r t=>.cons (r.same s) (AllA.same s t)
theorem AllA.snoc{H:Hp}{z:A3}{x:V}(r:IsA H z x):∀{zs:List A3}{xs:List V},AllA H zs xs->AllA H (zs++[z]) (xs++[x])
 | _,_,.nil=>.cons r .nil
 | _,_,.cons q t=>.cons q (AllA.snoc r t)
structure AnsT(H:Hp)(l:Addr)(xs:List V)(zs:List A3):Prop where
 at_:H l=some (.lst xs)
 all:AllA H zs xs
 len:zs.length<=24
 ok:∀ z∈zs,OkA z
def AnsT.same{H a:Hp}{l:Addr}{xs:List V}{b:List A3}(s:Same H a)(h:AnsT H l xs b):AnsT a l xs b:=⟨s _ _ h.at_,h.all.same s,h.len,h.ok⟩
def AnsT.xl{H:Hp}{l:Addr}{xs:List V}{a:List A3}(h:AnsT H l xs a):xs.length=a.length:=(gp h.all).symm
def kC(z:A3):Int:=z.2.1
def lN(z:A3):Int:=z.2.2
def lJ(zs:List A3)(f:A3->Int):Int:=(zs.map λz=>z.1*f z).sum
def FB(f:A3->Int):Prop:=∀ z,OkA z->z.2.1<=f z/\f z<=z.2.2
def CD:FB kC:=λz h=>⟨wk _,h.2.2.2.1⟩
def CA:FB lN:=λz h=>⟨h.2.2.2.1,wk _⟩
inductive spBnA(vs:List V)(H:Hp)(Q:VK)(_E:XK):Prop
 | mk(z:A3)(h0:vs=[.int z.1,.int z.2.1,.int z.2.2])(h1:OkA z)(h2:Q (.bl true) H):spBnA vs H Q _E
inductive spAnswer(vs:List V)(H:Hp)(Q:VK)(_E:XK):Prop
 | mk(x:V)(z:A3)(h0:vs=[x])(h1:IsA H z x)(h2:OkA z)(h3:Q (.bl true) H):spAnswer vs H Q _E
inductive spListA(f:Addr)(vs:List V)(H:Hp)(Q:VK)(_E:XK):Prop
 | mk(l:Addr)(xs:List V)(zs:List A3)(h0:vs=[.ref l,.int 24,.ref f])(h1:AnsT H l xs zs)(h2:∀ H',Same H H'->Q (.bl true) H'):spListA f vs H Q _E
inductive spNeedA(f:Addr)(vs:List V)(H:Hp)(Q:VK)(_E:XK):Prop
 | mk(l:Addr)(xs:List V)(zs:List A3)(h0:vs=[.ref l,.ref f])(h1:AnsT H l xs zs)(h2:∀ H',Same H H'->Q .non H'):spNeedA f vs H Q _E
inductive spTotal(vs:List V)(H:Hp)(Q:VK)(_E:XK):Prop
 | mk(l p:Addr)(xs:List V)(zs:List A3)(f:A3->Int)(h0:vs=[.ref l,.ref p])(h1:AnsT H l xs zs)(h2:H p=some (.lst ((zs.map f).map V.int)))(h3:FB f)(h4:∀ H',Same H H'->Q (.int (lJ zs f)) H'):spTotal vs H Q _E
structure ToldA(H0 H:Hp)(t pl ph:Addr)(zs:List A3):Prop where
 at_:H t=some (.tup [.int (lJ zs kC),.int (lJ zs lN),.ref pl,.ref ph])
 lo:H pl=some (.lst ((zs.map kC).map V.int))
 hi:H ph=some (.lst ((zs.map lN).map V.int))
 ne:pl≠ph
 fl:H0 pl=none
 fh:H0 ph=none
inductive spStretch(vs:List V)(H:Hp)(Q:VK)(_E:XK):Prop
 | mk(l:Addr)(xs:List V)(zs:List A3)(h0:vs=[.ref l])(h1:AnsT H l xs zs)(h2:∀ H' t pl ph,Same H H'->ToldA H H' t pl ph zs->Q (.ref t) H'):spStretch vs H Q _E
def mG{a b:Type}{f:a->b}{l:List a}{i:Nat}{x:a}(h:l[i]? = some x):(l.take (i+1)).map f=(l.take i).map f++[f x]:=by
 rw[j_,h,gn];rfl
section
variable {P:gN}{w:ml}{K:Frag}{mg:Str->Option cX}{base:Heap}{a:Ad}
def Dk(T:Txt K mg a):MnX P w mg base 2 T.W_is_bounded_lacking spBnA:=by
 refine T.W_is_bounded_lacking.A.okz gT λi A c s H k Q E b h=>?_
 .obtain⟨z,rfl,⟨e,f,g,d,j⟩,q⟩:=h
  refine⟨_,(ai (ap (bE (pec (dS T) b T.W_K (aa (vr 0) (aa ag (aa (aU rfl T.g_MOST_WEIGHT_lacking) ae)))) (bE (pec (dS T) b T.W_K (aa (vr 1) (aa (nT mZ (aU rfl T.g_ANSWER_BOUND)) (aa (aU rfl T.g_ANSWER_BOUND) ae)))) (bW (pec (dS T) b T.W_K (aa (vr 2) (aa (vr 1) (aa (aU rfl T.g_ANSWER_BOUND) ae))))))))),?_⟩;refine⟨_,_,_,rfl,?_⟩;rw[fi e f];refine⟨_,_,_,rfl,?_⟩;rw[fi g (by lia)];refine⟨_,_,_,rfl,?_⟩;rw[fi d j];exact q
def wJ(T:Txt K mg a):FnX P w base 3 T.W_P spAnswer:=by
 have b:FnO P w K mg base 2 spBnA:=Dk T;refine T.W_P.A.okz qQ λf A d s H i Q E e h=>?_
 .obtain⟨x,z,rfl,⟨p,rfl,c⟩,g,q⟩:=h
  refine⟨_,(ai (ap (bE (ak bB rfl T.z_isinstance aI (aa (vr 0) (aa (bS (v:=.ty "tuple") rfl T.z_tuple fV rfl) ae))) (bE (ba dJ (ak aw rfl T.z_len aK (aa (vr 0) ae)) ag (az _)) (bW (mf b e rfl T.m_is_bounded_lacking T.W_is_bounded_lacking.A.kp T.W_is_bounded_lacking.B .nil aT (aa (aj (vr 0) ag) (aa (aj (vr 0) ag) (aa (aj (vr 0) ag) ae))))))))),?_⟩;refine⟨_,_,_,true,rfl,rfl,.tup c,rfl,⟨_,.inr (SqT.of c),?_⟩⟩;refine .inr (.inl ⟨p,_,_,_,rfl,rfl,SqT.of c,ao 0 rfl rfl,?_⟩);refine .inr (.inl ⟨p,_,_,_,rfl,rfl,SqT.of c,ao 1 rfl rfl,?_⟩);refine .inr (.inl ⟨p,_,_,_,rfl,rfl,SqT.of c,ao 2 rfl rfl,?_⟩);exact⟨z,rfl,g,q⟩
def yW(T:Txt K mg a):FnX P w base 4 T.W_o (spListA a.f_P):=by
 have k:FnO P w K mg base 3 spAnswer:=wJ T;refine T.W_o.A.okz fN λG A m s H L Q E J h=>?_
 .obtain⟨l,xs,O,rfl,c,q⟩:=h
  refine⟨_,(ai (ap (bE (ak bB rfl T.z_isinstance aI (aa (vr 0) (aa (bS (v:=.ty "list") rfl T.z_list cc rfl) ae))) (bE (ba jt (ak aw rfl T.z_len aK (aa (vr 0) ae)) (vr 1) (az _)) (bW (ak (gg rfl) rfl T.z_all mw (aa (aN rfl (N:=["part","is_one"]) (ix:=[none,some 2]) ay (aL (vr 0)) (aB λC s H W=>⟨aQ 0 ["part","is_one"],aM,(rh (vr 1) k J T.W_P.A.kp T.W_P.B .nil aT (aa (vr 0) ae))⟩)) ae))))))),?_⟩;have R:sizeLine=16777216:=fE;have Y:=c.xl;have r:=c.len;refine⟨_,_,_,true,rfl,rfl,.lst c.at_,rfl,⟨_,.inl (SqL.of c.at_),?_⟩⟩;refine ifP (by show(xs.length:Int)<=24;lia) ?_;refine .inl ⟨⟨_,SqL.of c.at_⟩,λD g=>?_⟩;have X:=Same.new (o:=.lst []) g
  let Pw1:PvL:=λj d f=>j<=xs.length/\f=upd H D (.lst d)/\d=(l4 j true).map V.bl
  refine aD (K:=K) (a:=l) (xs:=xs) Pw1 ⟨ey _,rfl,rfl⟩ (λj d f i=>by rw[i.2.1];exact SqL.of (by rw[aq (ar c.at_ g)];exact c.at_)) (λj d f i=>by rw[i.2.1];exact ac) ?_ ?_
  .rintro j x d f M p ⟨S,rfl,rfl⟩ I
   obtain⟨z,B,y⟩:=gx c.all p;have F:j<xs.length:=(b_.mp p).1;refine⟨⟨rfl,trivial⟩,rfl,x,z,rfl,y.same (Same.new g),c.ok _ (eH B),ac,?_,I _ _ ⟨by lia,cq,?_⟩⟩
   .rw[a_,qi];lia
   .rw[F1,gn];rfl
  rintro d f ⟨_,rfl,rfl⟩;refine⟨D,_,_,rfl,SqL.of ac,rfl,?_⟩;have e:∀ n,(l4 n true).all id=true:=λn=>by rw[F8];intro b hb;rw[(JU.mp hb).2];rfl
  rw[e];exact q _ (Same.new g)
def xA(T:Txt K mg a):FnX P w base 5 T.W_ae (spNeedA a.f_P):=by
 refine T.W_ae.A.okz lL λi A b s H j Q E c h=>?_
 .obtain⟨l,g,f,rfl,e,q⟩:=h
  refine⟨_,(ai (aP (bx (bK (pec (yW T) c T.W_o (aa (vr 0) (aa (aU rfl T.g_MOST_ANSWERS) (aa (vr 1) ae)))))) (ai df) aC)),?_⟩;exact⟨l,g,f,rfl,e,λk d=>q _ d⟩
def sW(T:Txt K mg a):FnX P w base 1 T.W_ax spTotal:=by
 refine T.W_ax.A.okz rT λX A I s H Z Q E hr h=>?_
 .obtain⟨l,p,xs,c,f,rfl,m,J,W,q⟩:=h
  refine⟨_,(ai (ap (ak (cG rfl) rfl T.z_sum gA (aa (aN rfl (N:=["place","told","answers"]) (ix:=[none,none,some 0]) ay (fo rfl T.z_enumerate (aa (vr 1) ae)) (aB λC s H fp=>⟨(bT (K:=K) (n:=2) rfl rfl (dy ["place","told","answers"])),cv (aO lY (vr 1) fJ (az _)),(au aR (aY (bf (K:=K) rfl) (aY (bf (K:=K) rfl) (vr 2) (vr 0)) ag) (vr 1))⟩)) ae)))),?_⟩;have sl:sizeLine=16777216:=fE;have xl:=m.xl;have R:=m.len;refine⟨p,_,rfl,J,λD L=>?_⟩;refine kJ (a:=p) (xs:=(c.map f).map V.int) (λi d e=>i<=c.length/\Same H e/\e D=some (.lst d)/\d=((c.take i).map λz=>z.1*f z).map V.int) ⟨ey _,Same.new L,ac,rfl⟩ (λi d e h=>h.2.1 _ _ J) (λi d e h=>h.2.2.1) ?_ ?_
  .rintro i v d e O P' r ⟨hi,g,b,rfl⟩ G Y
   obtain⟨z,hz,rfl⟩:∃ z,c[i]? = some z/\v=.int (f z):=by
    rw[fb,fb]at r;cases hc:c[i]? with
    | none=>rw[hc]at r;cases r
    | some z=>rw[hc]at r;cases r;exact⟨z,rfl,rfl⟩
   have B:i<c.length:=(b_.mp hz).1;have k:=m.ok _ (eH hz);obtain⟨f1,f2⟩:=W z k;obtain⟨a1,a2,a3,a4,a5⟩:=k;have y:=Same.new (o:=.tup [.int (i:Nat),.int (f z)]) G
   obtain⟨x,hx'⟩:∃ x,xs[i]? = some x:=⟨_,c_ (by lia)⟩
   obtain⟨z',j,S⟩:=gx m.all hx';rw[hz]at j;cases j;obtain⟨M,rfl,F⟩:=S.same (g.trans y);refine⟨O,_,rfl,SqT.of ac,rfl,_,_,rfl,_,_,rfl,rfl,⟨rfl,trivial⟩,?_⟩;refine .inl ⟨l,_,_,_,rfl,rfl,SqL.of ((g.trans y) _ _ m.at_),aZ hx',?_⟩;refine .inr (.inl ⟨M,_,_,_,rfl,rfl,SqT.of F,ao 0 rfl rfl,?_⟩);refine⟨clB (by lia) (by lia),y _ _ b,?_,Y _ _ ⟨B,(g.trans y).put L,ac,?_⟩⟩
   .rw[a_,a_,ki];lia
   .rw[mG hz,gn];rfl
  .rintro d e ⟨_,g,b,rfl⟩
   rw[a_,a_,ga (d_ _)]at b;exact⟨D,_,rfl,SqL.of b,q _ g⟩
def tX(T:Txt K mg a):FnX P w base 6 T.W_D spStretch:=by
 refine T.W_D.A.okz sc_D λam A ab s H vs Q E hr h=>?_
 .obtain⟨l,xs,b,rfl,O,q⟩:=h
  refine⟨_,(af (cH (pec (xA T) hr T.W_ae (aa (vr 0) (aa (aU (v:=.ref a.f_P) rfl ⟨_,T.W_P.C,rfl⟩) ae)))) (af (b7 rfl (i:=1) sc_D.nd rfl rfl (by with_unfolding_all rfl) (N:=["weight","low","high"]) (ix:=[none,none,none]) ay (aL (vr 0)) (aB λC s H fp=>⟨(bT (K:=K) (n:=3) rfl rfl (jH ["weight","low","high"])),aM,(vr 1)⟩)) (af (b7 rfl (i:=2) sc_D.nd rfl rfl (by with_unfolding_all rfl) (N:=["weight","low","high"]) (ix:=[none,none,none]) ay (aL (vr 0)) (aB λC s H fp=>⟨(bT (K:=K) (n:=3) rfl rfl (jH ["weight","low","high"])),aM,(vr 2)⟩)) (ai (ap (aG (aa (aE (sW T) hr T.W_ax (aa (vr 0) (aa (vr 1) ae))) (aa (aE (sW T) hr T.W_ax (aa (vr 0) (aa (vr 2) ae))) (aa (vr 1) (aa (vr 2) ae)))))))))),mH ?_⟩;intro al an ad;have sl:sizeLine=16777216:=fE;have xl:=O.xl;have ah:=O.len;refine⟨l,xs,b,rfl,O,λZ J=>?_⟩;have e:=O.same J;refine .inl ⟨⟨_,SqL.of e.at_⟩,λD M=>?_⟩
  let Pw2:PvL:=λj c g=>j<=xs.length/\g=upd Z D (.lst c)/\c=((b.take j).map kC).map V.int
  refine aD (K:=K) (a:=l) (xs:=xs) Pw2 ⟨ey _,rfl,rfl⟩ (λj c g p=>by rw[p.2.1];exact SqL.of (by rw[aq (ar e.at_ M)];exact e.at_)) (λj c g p=>by rw[p.2.1];exact ac) ?_ ?_
  .rintro j x c g P' G ⟨hj,rfl,rfl⟩ hP
   obtain⟨z,W,S⟩:=gx e.all G;have Y:j<xs.length:=(b_.mp G).1;obtain⟨R,rfl,y⟩:=S.same (Same.new (o:=.lst (((b.take j).map kC).map V.int)) M);refine⟨R,_,rfl,SqT.of y,rfl,_,_,rfl,_,_,rfl,_,_,rfl,rfl,trivial,ac,?_,hP _ _ ⟨by lia,cq,?_⟩⟩
   .rw[a_,a_,ki];lia
   .rw[mG W,gn];rfl
  rintro c g ⟨_,rfl,rfl⟩;rw[xl,ga (d_ _)];have I:=Same.new (o:=.lst ((b.map kC).map V.int)) M;have k:=ac (H:=Z) (a:=D) (o:=.lst ((b.map kC).map V.int));have fD:H D=none:=J.free M;generalize upd Z D (.lst ((b.map kC).map V.int))=g at I k;have d:=e.same I;refine .inl ⟨⟨_,SqL.of d.at_⟩,λm f=>?_⟩;have ne:D≠m:=ar k f
  let Pw3:PvL:=λj c L=>j<=xs.length/\L=upd g m (.lst c)/\c=((b.take j).map lN).map V.int
  refine aD (K:=K) (a:=l) (xs:=xs) Pw3 ⟨ey _,rfl,rfl⟩ (λj c g p=>by rw[p.2.1];exact SqL.of (by rw[aq (ar d.at_ f)];exact d.at_)) (λj c g p=>by rw[p.2.1];exact ac) ?_ ?_
  .rintro j x c L P' G ⟨hj,rfl,rfl⟩ hP
   obtain⟨z,W,S⟩:=gx d.all G;have Y:j<xs.length:=(b_.mp G).1;obtain⟨R,rfl,y⟩:=S.same (Same.new (o:=.lst (((b.take j).map lN).map V.int)) f);refine⟨R,_,rfl,SqT.of y,rfl,_,_,rfl,_,_,rfl,_,_,rfl,rfl,trivial,ac,?_,hP _ _ ⟨by lia,cq,?_⟩⟩
   .rw[a_,a_,ki];lia
   .rw[mG W,gn];rfl
  rintro c L ⟨_,rfl,rfl⟩;rw[xl,ga (d_ _)];have F:=Same.new (o:=.lst ((b.map lN).map V.int)) f;have B:=ac (H:=g) (a:=m) (o:=.lst ((b.map lN).map V.int));generalize upd g m (.lst ((b.map lN).map V.int))=L at F B;have X:H m=none:=(J.trans I).free f;refine⟨l,D,xs,b,kC,rfl,d.same F,F _ _ k,CD,λH4 s4=>?_⟩;refine⟨l,m,xs,b,lN,rfl,(d.same F).same s4,s4 _ _ B,CA,λH5 s5=>?_⟩;refine⟨(by decide:4<=sizeLine),λt ht=>?_⟩;have s6:=Same.new (o:=.tup [.int (lJ b kC),.int (lJ b lN),.ref D,.ref m]) ht;have r:=(s4.trans s5).trans s6;exact q _ t D m (((J.trans I).trans F).trans r) ⟨ac,r _ _ (F _ _ k),r _ _ B,ne,fD,X⟩
end
open Nst (Mb plc szs Lf dF c7 d6 cN Rw Dp)
open Tb (Tr tot so)
inductive spThrows(K:Frag)(a:Ad)(vs:List V)(H:Hp)(Q:VK)(_E:XK):Prop
 | mk(v:V)(l:Addr)(rs:List Int)(t:Tr)(d:Nat)(h0:vs=[v,.ref l])(h1:IsNd K a H v t)(h2:Dp d t)(h3:d<rs.length)(h4:rs.length<=100)(h5:(∀ x∈rs,0<=x))(h6:H l=some (.lst (rs.map V.int)))(h7:TabsOk (tabs a) H)(h8:∀ H' p lt k th ns,SameT H H'->TabsOk (tabs a) H'->H' p=some (.tup [.ref lt,.ref k])->H' lt=some (.lst (th.map V.int))->H' k=some (.tup ((so ns).map V.int))->Rw t th ns->Q (.ref p) H'):spThrows K a vs H Q _E
def AW(xs:List V):cQ xs (some 1) none=xs.drop 1:=iR _ 1
def Bk{K:Frag}{a:Ad}{H:Hp}{v:V}{ps:List (Int×Tr)}(h:IsNd K a H v (.die ps)):(∀ p∈ps,1<=p.1)/\0<tot ps:=by
 obtain⟨w,A,k⟩:=m9 h;obtain⟨x,F,l,C,rfl,G,E,j,s,o⟩:=A;have e:=k.length
 have b:∀ p∈ps,1<=p.1:=λp f=>by
  obtain⟨i,m⟩:=ro f;have d:i<w.length:=by rw[<- e];exact(b_.mp m).1
  obtain⟨D,c,_,y,_⟩:=aV k (c_ d);rw[m]at c;cases c;exact y
 refine⟨b,?_⟩;cases ps with
 | nil=>simp at e;lia
 | cons p r =>
  have B:∀ l:List (Int×Tr),(∀ p∈l,1<=p.1)->0<=tot l:=λl=>by
   induction l with
   | nil=>intro _;simp[tot]
   | cons p r ih =>
    intro h;have:=h p ft;have:=ih λq g=>h q (fy _ g)
    simp[tot]at *;lia
  have:=B r λq g=>b q (fy _ g)
  have:=b p ft;simp[tot]at *;lia
section
variable {P:gN}{w:ml}{K:Frag}{mg:Str->Option cX}{base:Heap}{a:Ad}
def wq(T:Txt K mg a)(hB:Bm mg base):FnX P w base 9 T.W_aC (spThrows K a):=by
 have cA:FnO P w K mg base 8 (spV (.bl true)):=(Ce T).mo;have b5:FnO P w K mg base 8 (spV (.bl false)):=(BO T).mo;have bt:FnO P w K mg base 8 (spV (.int 0)):=(Bv T).mo;have bo:FnO P w K mg base 8 (Di a):=(Bu T).mo;have cm:MnX P w mg base 8 T.W_R DH:=BK;have cb:FnO P w K mg base 8 (D7 K a):=Ep T hB;have bA:FnO P w K mg base 8 (CC a):=(Ch T).mo;have co:FnO P w K mg base 8 (spV .non):=(BI T).mo;refine T.W_aC.A.okz cx λcS A b1 s H vs Q E hr h=>?_
 .obtain⟨v,l,rs,t,d,rfl,a2,bl,c0,cW,a1,hl,hT,q⟩:=h
  have br:sizeLine=16777216:=fE;refine⟨_,(af (psl 2 cx (bn ae)) (af (dM kk (bx (bK (PE.or (bM (vr 0) T.cl_f T.mt_m cA hr T.W_m.B .nil aT) (bM (vr 0) T.cl_r T.mt_s b5 hr T.W_s.B .nil aT)))) (af (cH (pe_m.append (vr 2) (aa (au cJ (aj (vr 1) (ak aw rfl T.z_len aK (aa (vr 2) ae))) (PE.or (bM (vr 0) T.cl_f T.mt_z bt hr T.W_z.B .nil aT) (bM (vr 0) T.cl_r T.mt_C bo hr T.W_C.B .nil aT))) ae))) (af (psl 3 cx (PE.or (bM (vr 0) T.cl_f T.mt_R cm hr T.W_R.B .nil aT) (bM (vr 0) T.cl_r T.mt_U cb hr T.W_U.B .nil aT))) (af (psl 4 cx (aj (vr 2) (nT mZ ag))) (af (dM kk (aO EG (vr 4) (aj (aj (vr 3) ag) ag) (az _)) (af (psl 4 cx (au bZ (vr 4) (aj (aj (vr 3) ag) ag))) (ai (psl 3 cx (dL g9 (vr 3) (fe ag) fq))))) (ai (psl 0 cx (aj (aj (vr 3) ag) ag)))))))) (ai (ap (aG (aa (vr 2) (aa (PE.or (bM (vr 0) T.cl_f T.mt_B bA hr T.W_B.B .nil aT) (bM (vr 0) T.cl_r T.mt_M co hr T.W_M.B .nil aT)) ae))))))),fQ ?_⟩;intro cP cC;refine⟨ey _,λD hD=>?_⟩;have ext:∀{i:Hp},TabsOk (tabs a) i->∀{ys:List V}{ys':List V},i D=some (.lst ys)->TabsOk (tabs a) (upd i D (.lst ys')):=λcs ys ys' e=>cs.put (λps z=>by rw[e]at z;cases z) λφ z=>by rw[e]at z;cases z
  have s0:=Same.new (o:=.lst []) hD
  have a0:∀{i:Hp}{ys:List V},i D=some (.lst ys)->Bad i (D::[]):=λe b hb=>by
   rcases i_.mp hb with rfl | hb
   .exact⟨_,e⟩
   .cases hb
  refine⟨λm σ i=>∃(I:V) (g:List Int) (M:Tr) (x3 x4:Option V),m=d - g.length/\g.length<=d/\SameT H i/\TabsOk (tabs a) i/\i D=some (.lst (g.map V.int))/\IsNd K a (untrs i (D::[])) I M/\Dp (d - g.length) M/\(∀ ts F,Rw M ts F->Rw t (g++ts) F)/\σ=[some I,some (.ref l),some (.ref D),x3,x4],
   ⟨_,v,[],t,none,none,rfl,ey _,s0.t,hT.same s0,ac,(by rw[<- bV (H:=H)]at a2;exact a2.t (kj s0.t hD)),bl,λts F h=>h,rfl⟩,?_⟩
  rintro m σ H1 ⟨I,g,M,x3,x4,rfl,cR,t1,a6,C,X,ab,hR,rfl⟩;have cB:=a0 C;cases M with
  | leaf F =>
   obtain⟨x,dx,kt,b3,rfl,N,ah,hs⟩:=X;have N:=(aF N).2;have ah:=(aF ah).2;have en:b3=Tb.so F:=Tb.so_uniq hs.1 hs.2;subst en;refine .inl ⟨x,dx,_,rfl,N,rfl,_,rfl,?_⟩;refine .inl ⟨x,dx,_,rfl,N,rfl,x,dx,kt,rfl,N,?_⟩;refine⟨(by decide:2<=sizeLine),λp hp=>?_⟩;have O:=Same.new (o:=.tup [.ref D,.ref kt]) hp;have:=hR [] F (.leaf F);rw[y_]at this;exact q _ p D kt g F (t1.trans O.t) (a6.same O) ac (O _ _ C) (O _ _ ah) this
  | die ps =>
   obtain⟨d',hd'⟩:∃ d',d - g.length=d'+1:=by
    generalize d - g.length=dd at ab;cases ab with
    | die h=>exact⟨_,rfl⟩
   have ca:∀ p∈ps,Dp d' p.2:=by
    rw[hd']at ab;cases ab with
    | die h=>exact h
   obtain⟨a8,J⟩:=Bk X;obtain⟨b4,an,ct⟩:=m9 X;have ad:=an.t bX;obtain⟨x,dx,_,_,rfl,N,_⟩:=id ad;refine .inr ⟨x,dx,_,rfl,N,rfl,_,rfl,?_⟩
   have b2:∃ z:Int,rs[g.length]? = some z:=⟨_,c_ (by have:=congrArg (· + g.length) hd';lia)⟩
   obtain⟨z,hz⟩:=b2;have z0:0<=z:=a1 z (eH hz);have cT:g.length+1<=d:=by lia
   let Pw1:St->Hp->Prop:=λy i=>∃(j:V) (B:List Int) (G:Tr) (y3 y4:Option V),B.length=g.length+1/\SameT H i/\TabsOk (tabs a) i/\i D=some (.lst (B.map V.int))/\IsNd K a (untrs i (D::[])) j G/\Dp (d - B.length) G/\(∀ ts F,Rw G ts F->Rw t (B++ts) F)/\y=[some j,some (.ref l),some (.ref D),y3,y4]
   refine⟨Pw1,?_,?_⟩
   .rintro y i ⟨j,B,G,y3,y4,e1,e2,e3,e4,e5,e6,e7,e8⟩
    exact⟨d - B.length,by lia,j,B,G,y3,y4,rfl,by lia,e2,e3,e4,e5,e6,e7,e8⟩
   refine⟨.inl ⟨rfl,_,SqL.of C⟩,⟨_,.inl (SqL.of C),?_⟩⟩;rw[a_];refine .inl ⟨l,_,_,.int z,rfl,rfl,SqL.of (t1.at hl),aZ (by rw[fb,hz];rfl),?_⟩;refine .inr ⟨x,dx,_,rfl,N,rfl,_,b4,rfl,ad,λH2 O=>?_⟩;rw[qG ct];refine⟨J,?_⟩;have am:=o_ z (show tot ps≠0 by lia);have bd:=nt z J;have a4:=O _ _ C;refine⟨D,_,.int (z % tot ps),rfl,rfl,a4,by rw[a_];lia,?_⟩;have e2:g.map V.int++[V.int (z % tot ps)]=(g++[(z % tot ps)]).map V.int:=by rw[gn];rfl
   rw[e2];have n2:=(X.t (bv O.t)).t (dD (b:=D) (o:=.lst ((g++[(z % tot ps)]).map V.int)) ft);have a3:=(t1.trans O.t).put (o:=.lst ((g++[(z % tot ps)]).map V.int)) hD;have a7:=ext (ys':=(g++[(z % tot ps)]).map V.int) (a6.same O) a4;have W:(upd H2 D (.lst ((g++[(z % tot ps)]).map V.int))) D=some (.lst ((g++[(z % tot ps)]).map V.int)):=ac;have a':(upd H2 D (.lst ((g++[(z % tot ps)]).map V.int))) x=some (.ins a.c_r dx _):=(aq (λz=>by rw[z,C]at N;cases N)).trans (O _ _ N);generalize upd H2 D (.lst ((g++[(z % tot ps)]).map V.int))=H3 at n2 a3 a7 W a';generalize z % tot ps=t0 at am bd W;refine .inr ⟨x,dx,_,rfl,a',rfl,_,ps,_,rfl,a0 W,n2,a7,λH4 L zs t4 bq L0 hL hP=>?_⟩;have a5:=t4.at W;refine .inl ⟨D,_,_,.int t0,rfl,rfl,SqL.of a5,(by rw[gn];exact yU _ _),?_⟩;have b6:∀ p∈ps,0<=p.1:=λp hp=>by have:=a8 p hp;lia
   have zl:zs.length=ps.length:=hP.length.symm
   have b9:∀ k:Nat,k<ps.length->∃ Z u f M,zs[k]? = some (.ref Z)/\ps[k]? = some (f,M)/\H4 Z=some (.tup [.int f,u])/\IsNd K a (untrs H4 (D::[])) u M:=λk hk=>by
    have e:zs[k]? = some zs[k]:=c_ (by lia);obtain⟨⟨f,u'⟩,ch,Z,u,e2,b',h3⟩:=aV hP e;exact⟨Z,u,f,u',by rw[e,e2],ch,(aF b').2,h3⟩
   have p0:0<ps.length:=by
    cases ps with
    | nil=>simp[tot]at J
    | cons p r=>exact Nat.succ_pos _
   refine⟨λm y i=>∃(k:Nat) (lp:Addr),m=ps.length - k/\k<ps.length/\Same H4 i/\i lp=some (.lst (zs.drop k))/\tot (ps.take k)<=t0/\y=[some (.ref x),some (.ref l),some (.ref D),some (.ref lp),some (.int (t0 - tot (ps.take k)))],⟨_,0,L,rfl,p0,Same.refl _,hL,(by simpa[tot] using am),(by simp[tot])⟩,?_⟩;rintro m y H5 ⟨k,lp,rfl,hk,s5,Y,as,rfl⟩;obtain⟨Z,u,f,M,bm,S,hq,hn⟩:=b9 k hk;have h0:(zs.drop k)[0]? = some (.ref Z):=by rw[List.getElem?_drop];exact bm
   have al:=s5 _ _ hq;refine .inl ⟨lp,_,_,_,rfl,rfl,SqL.of Y,ao 0 rfl h0,.inr (.inl ⟨Z,_,_,_,rfl,rfl,SqT.of al,ao 0 rfl rfl,?_⟩)⟩;refine ifC (λc=>?_) λc=>?_
   .have c:f<=t0 - tot (ps.take k):=c
    have es:=cN S
    have k1:k+1<ps.length:=by
     rcases Io (k+1) ps.length with h | h
     .exact h
     .rw[ga h]at es;lia
    let Pw2:St->Hp->Prop:=λy i=>∃ R:Addr,Same H4 i/\i R=some (.lst (zs.drop (k+1)))/\y=[some (.ref x),some (.ref l),some (.ref D),some (.ref R),some (.int (t0 - tot (ps.take (k+1))))]
    refine⟨Pw2,?_,?_⟩
    .rintro y i ⟨R,g1,g2,rfl⟩
     exact⟨_,by lia,k+1,R,rfl,k1,g1,g2,by lia,rfl⟩
    refine .inl ⟨lp,_,_,_,rfl,rfl,SqL.of Y,ao 0 rfl h0,.inr (.inl ⟨Z,_,_,_,rfl,rfl,SqT.of al,ao 0 rfl rfl,?_⟩)⟩;refine⟨_,rfl,.inl ⟨_,SqL.of Y,λr fr=>?_⟩⟩;exact⟨r,s5.trans (Same.new fr),by rw[ac,AW,List.drop_drop],by rw[show t0 - tot (ps.take (k+1))=t0 - tot (ps.take k) - f by lia];rfl⟩
   .have c:¬f<=t0 - tot (ps.take k):=c
    have es:=cN S;have eu:=d6 ps k t0 f M b6 S as (by lia);refine .inl ⟨lp,_,_,_,rfl,rfl,SqL.of Y,ao 0 rfl h0,.inr (.inl ⟨Z,_,_,_,rfl,rfl,SqT.of al,ao 1 rfl rfl,?_⟩)⟩;have l1:(g++[t0]).length=g.length+1:=by simp
    refine⟨u,g++[t0],M,_,_,l1,a3.trans (t4.trans s5.t),bq.same s5,s5 _ _ a5,hn.t (bv s5.t),?_,λts F h=>?_,rfl⟩
    .have:=ca _ (eH S)
     rw[l1,show d - (g.length+1)=d' by lia];exact this
    .rw[append_assoc]
     exact hR _ _ (.die am bd eu h)
end
open Nst (Mb plc szs Kn)
def FT:∀ i:Int,0<=i->i<26->atI ("abcdefghijklmnopqrstuvwxyz" : Str).cps.toList i=some (97+i.toNat):=by
 have h:∀ n:Nat,n<26->atI ("abcdefghijklmnopqrstuvwxyz" : Str).cps.toList (n:Int)=some (97+n):=by decide +kernel
 intro i a b;have:=h i.toNat (by lia);rwa [show((i.toNat:Nat):Int)=i by lia]at this
def o9(x y:Str):(x++y).cps.toList=x.cps.toList++y.cps.toList:=PySem.W.KT.app_list _ _
def zq(x y:Str):(x++y).cps.size=x.cps.size+y.cps.size:=by
 have:=congrArg Hm (o9 x y);simpa using this
def EZ{us:List U}{n:Nat}{f:Nat->Option Nat}(c:us.map (λu=>u.name.cps.toList.head?)=(g0 n).map f)(h:∀ i j,i<n->j<n->f i=f j->i=j):(us.map U.name).Nodup:=by
 have b:((g0 n).map f).Nodup:=by
  rw[F2,FW];refine Ic (λ{x y} d e a z=>a ?_) (F2.mp Jm);exact h x y (vV.mp d) (vV.mp e) z
 rw[<- c,F2,FW]at b;rw[F2,FW];exact b.imp λa z=>a (by rw[z])
def chS(i:Nat):Str:=⟨#[97+i]⟩
def six:∀ i:Int,0<=i->i<6->atI ("abcdef" : Str).cps.toList i=some (97+i.toNat):=by
 have h:∀ n:Nat,n<6->atI ("abcdef" : Str).cps.toList (n:Int)=some (97+n):=by decide +kernel
 intro i a b;have:=h i.toNat (by lia);rwa [show((i.toNat:Nat):Int)=i by lia]at this
def xyz:∀ i:Int,0<=i->i<3->atI ("xyz" : Str).cps.toList i=some (120+i.toNat):=by
 have h:∀ n:Nat,n<3->atI ("xyz" : Str).cps.toList (n:Int)=some (120+n):=by decide +kernel
 intro i a b;have:=h i.toNat (by lia);rwa [show((i.toNat:Nat):Int)=i by lia]at this
def C3{i j:Nat}(f:i<26)(d:j<3):iw ((⟨#[97+i]⟩:Str)++⟨#[120+j]⟩)=true/\((⟨#[97+i]⟩:Str)++⟨#[120+j]⟩).cps.toList.head? = some (97+i):=by
 have b:=o9 (⟨#[97+i]⟩:Str) ⟨#[120+j]⟩;have e:((⟨#[97+i]⟩:Str)++⟨#[120+j]⟩).cps.size=2:=by rw[zq];rfl
 refine⟨rR (by lia) (by lia) λc a=>?_,by rw[b];rfl⟩;rw[b]at a
 rcases ra.mp a with h | h
 .rw[k_.mp h];lia
 .rw[k_.mp h];lia
def Cl{i:Nat}(h:i<6):iw (chS i)=true:=rR (by show 1<=1;lia) (by show 1<=8;lia) λc a=>by
 rw[k_.mp (show c∈[97+i] from a)];lia
def Grp(u:U):Prop:=∃ i,i<6/\u.path=[chS i]
inductive spListing(K:Frag)(vs:List V)(H:Hp)(Q:VK)(_E:XK):Prop
 | mk(p:Addr)(ns:List Int)(h0:vs=[.ref p])(h1:SqL K H p (ns.map V.int))(h2:ns.length<=63)(h3:∀ H' l us xs,Same H H'->H' l=some (.lst xs)->AllU H' us xs->GoodL us->4<=us.length->(∀ u∈us,Grp u)->Q (.ref l) H'):spListing K vs H Q _E
inductive spPlan(K:Frag)(a:Ad)(vs:List V)(H:Hp)(Q:VK)(_E:XK):Prop
 | mk(p:Addr)(ns:List Int)(n:Nat)(h0:vs=[.ref p,.int (n:Nat)])(h1:SqL K H p (ns.map V.int))(h2:ns.length<=63)(h3:4<=n)(h4:n<=24)(h5:∀ H' v m k,Same H H'->IsPn a H' v m k->1<=m->m<=24->Q v H'):spPlan K a vs H Q _E
section
variable {P:gN}{w:ml}{K:Frag}{mg:Str->Option cX}{base:Heap}{a:Ad}
def tQ{H:Hp}{x a:Addr}{h f d:HO}(c:H x=none)(g:H a=none):Same H (upd (upd (upd H a h) x f) x d):=λb o e=>by
 rw[aq (λz=>by rw[z,c]at e;cases e)];exact sG c g b o e
def zJ(T:Txt K mg a):FnX P w base 5 T.W_aO (spPlan K a):=by
 have o:FnO P w K mg base 3 (spPlI a .few):=DD T;have l:FnO P w K mg base 3 (spPlI a .loose):=xx T;have k:FnO P w K mg base 3 (spPlI a .duel):=AO T;refine T.W_aO.A.okz kI λJ A r s H O Q E i h=>?_
 .obtain⟨p,v,n,rfl,L,I,W,F,q⟩:=h
  refine⟨_,(af (psl 2 kI (aE (fm T) i T.W_an (aa (vr 0) (aa ag ae)))) (af (psl 3 kI (au cK ag (au cJ (au dk (vr 2) ag) (au bZ (vr 1) ag)))) (af (aP (aO dJ (au cJ (vr 2) ag) ag (az _)) (ai (ap (cI T.mk_Z o i rfl T.mc_Z T.Wi_Z.B .nil aT (aa (vr 3) ae)))) aC) (af (aP (aO dJ (au cJ (vr 2) ag) ag (az _)) (ai (ap (cI T.mk_L k i rfl T.mc_L T.Wi_L.B .nil aT (aa (vr 3) ae)))) aC) (ai (ap (cI T.mk_w l i rfl T.mc_w T.Wi_w.B .nil aT (aa (vr 3) ae)))))))),rf ?_⟩;intro N C M B;refine⟨p,v,3,rfl,L,I,by decide,by decide,?_⟩;generalize jv v 3=c;have y:(0:Int)<(n:Int) - 1:=by lia
  refine⟨cdB (by decide) (show Bt 40 (3:Int) by unfold Bt;decide),y,?_⟩;have S:=o_ (c/3) (show(n:Int) - 1≠0 by lia);have R:=nt (c/3) y
  obtain⟨m,em⟩:∃ m:Nat,(m:Int)=2+c/3 % ((n:Int) - 1):=⟨(2+c/3 % ((n:Int) - 1)).toNat,by lia⟩
  have j:1<=m:=by lia
  have e:m<=24:=by lia
  refine⟨cp,?_⟩;refine ifC (λG=>?_) λG=>?_
  .intro x d g b f
   exact⟨x,d,m,by rw[em];rfl,ac,e,rfl,q _ _ m .few (tQ g b) ⟨x,d,rfl,ac⟩ j e⟩
  refine⟨cp,?_⟩;refine ifC (λD=>?_) λD=>?_
  .intro x d g b f
   exact⟨x,d,m,by rw[em];rfl,ac,e,rfl,q _ _ m .duel (tQ g b) ⟨x,d,rfl,ac⟩ j e⟩
  .intro x d g b f
   exact⟨x,d,m,by rw[em];rfl,ac,e,rfl,q _ _ m .loose (tQ g b) ⟨x,d,rfl,ac⟩ j e⟩
def ut(T:Txt K mg a):FnX P w base 3 T.W_H (spListing K):=by
 refine T.W_H.A.okz sc_H λa4 A ab s H vs Q E hr h=>?_
 .obtain⟨p,C,rfl,hS,hl,q⟩:=h
  have br:sizeLine=16777216:=fE;have R:(10:Int) ^ (9:Int).toNat=1000000000:=by decide
  refine⟨_,(af (psl 1 sc_H (au cK ag (au cJ (aE (fm T) hr T.W_an (aa (vr 0) (aa ag ae))) ag))) (af (psl 2 sc_H (aE (fm T) hr T.W_an (aa (vr 0) (aa ag ae)))) (af (psl 3 sc_H (pec (yh T) hr T.W_az (aa (aE (fm T) hr T.W_an (aa (vr 0) (aa ag ae))) (aa (vr 2) (aa (au aR ag (vr 1)) (aa (au cK (au aR ag (au xn ag ag)) ag) ae)))))) (af (psl 4 sc_H (bn ae)) (af (cj kk rfl (dw rfl T.z_range (aa (vr 1) ae)) (ax (i:=5) sc_H.nd rfl (m_ rfl)) (af (psl 6 sc_H (au cK (aj b8 (vr 5)) (aj b8 (au cJ (aj (vr 3) (au cK (au aR ag (vr 5)) ag)) ag)))) (af (psl 7 sc_H (au cK ag (au cJ (aj (vr 3) (au cK (au aR ag (vr 5)) ag)) (aj (bn (aa ag (aa ag (aa ag ae)))) (au cJ (au dk (vr 2) ag) ag))))) (ai (cH (pe_m.append (vr 4) (aa (aG (aa (vr 6) (aa (au bZ (aj (vr 3) (au aR ag (vr 5))) (au xn ag ag)) (aa (vr 7) (aa (aG (aa (aj b8 (au cJ (au dk (aj (vr 3) (au cK (au aR ag (vr 5)) ag)) ag) (au cK ag (au cJ (au dk (vr 2) ag) ag)))) ae)) ae))))) ae))))))) (ai (ap (vr 4)))))))),rL ?_⟩;intro a8 a2 a3 a0 an;refine⟨p,C,0,rfl,hS,hl,by decide,by decide,cp,?_⟩;have c0:=o_ (jv C 0) (show(21:Int)≠0 by decide);have c1:=nt (jv C 0) (show(0:Int)<21 by decide);refine⟨p,C,1,rfl,hS,hl,by decide,by decide,?_⟩;refine⟨p,C,2,rfl,hS,hl,by decide,by decide,?_⟩;generalize jv C 1=bt;generalize jv C 0 % 21=cm at c0 c1;refine⟨clB (by lia) (by lia),cw,clB,?_⟩;refine⟨_,_,_,_,rfl,by lia,by lia,by rw[R];decide,by rw[R];decide,λH1 L Z s1 f1 ah rl rb=>?_⟩;rw[R]at rb
  have d:∀ j:Int,0<=j->j<3*(4+cm)->∃ z:Int,atI (Z.map V.int) j=some (.int z)/\0<=z/\z<2*1000000000+1:=λj j0 j1=>by
   have hj:j.toNat<Z.length:=by lia
   refine⟨Z[j.toNat],?_,rb _ (E_ hj)⟩;have g:atI (Z.map V.int) ((j.toNat:Nat):Int)=some (.int Z[j.toNat]):=aZ (by rw[fb,c_ hj];rfl);rwa [show((j.toNat:Nat):Int)=j by lia]at g
  refine⟨ey _,λr F=>?_⟩;have a1:H r=none:=s1.free F
  let Pw1:PvS:=λi σ H'=>(i:Int)<=4+cm/\Same H1 H'/\∃(B:List U) (xs:List V) (x5 x6 x7:Option V),
    σ=[some (.ref p),some (.int (4+cm)),some (.int bt),some (.ref L),some (.ref r),x5,x6,x7]/\H' r=some (.lst xs)/\AllU H' B xs /\
    B.map (λu=>u.name.cps.toList.head?)=(g0 i).map (λ(k:Nat)=>some (97+k))/\∀ u∈B,GoodU u/\Grp u
  refine⟨4+cm,rfl,by lia,by lia,oE Pw1
   ⟨by lia,Same.new F,[],[],none,none,none,rfl,ac,.nil,rfl,λu x=>by cases x⟩ ?_ ?_⟩
  .rintro i σ H5 hi ⟨_,s5,B,xs,x5,x6,x7,rfl,G,hU,b,c⟩
   have bd:(i:Int)<4+cm:=by lia
   have X:B.length=i:=by
    have:=congrArg Hm b;rw[a_,a_,py]at this;exact this
   have as:xs.length=i:=by rw[<- hU.len,X]
   have D:=s5 _ _ ah;obtain⟨I,g1,a7,a6⟩:=d (3*(0+(i:Int))+2) (by lia) (by lia);obtain⟨f,g2,bl,a'⟩:=d (3*(0+(i:Int))+1) (by lia) (by lia);obtain⟨y,g3,a5,bm⟩:=d (3*(0+(i:Int))) (by lia) (by lia);refine .inr (.inr ⟨_,_,_,rfl,rfl,by decide +kernel,FT _ (by lia) (by lia),?_⟩);refine⟨clB,.inl ⟨L,_,_,_,rfl,rfl,SqL.of D,g1,cp,?_⟩⟩;have y0:=o_ I (show(3:Int)≠0 by decide);have y1:=nt I (show(0:Int)<3 by decide);refine .inr (.inr ⟨_,_,_,rfl,rfl,by decide +kernel,xyz _ y0 y1,?_⟩);obtain⟨S,W⟩:=C3 (i:=(0+(i:Int)).toNat) (j:=(I % 3).toNat) (by lia) (by lia);refine⟨by show 1+1<=sizeLine;lia,?_⟩;generalize (⟨#[97+(0+(i:Int)).toNat]⟩:Str)++⟨#[120+(I % 3).toNat]⟩=nm at S W
   refine⟨clB,.inl ⟨L,_,_,_,rfl,rfl,SqL.of D,g2,?_⟩⟩;refine⟨by show 3<=sizeLine;decide,λq1 al=>?_⟩;refine⟨cdB (by decide) (show Bt 40 (2:Int) by unfold Bt;decide),cp,?_⟩;have w0:=o_ (bt/2) (show(3:Int)≠0 by decide);have w1:=nt (bt/2) (show(0:Int)<3 by decide);obtain⟨y3,M,e3⟩:=DK (xs:=[V.int 4,V.int 30,V.int 1000000]) (i:=bt/2 % 3) w0 (by show bt/2 % 3<((3:Nat):Int);lia)
   obtain⟨sm,rfl,sm0,sm1⟩:∃ va:Int,y3=.int va/\1<=va/\va<=1000000:=by
    simp only[i_,xo,or_false]at M
    rcases M with rfl | rfl | rfl <;> exact⟨_,rfl,by decide,by decide⟩
   have sA:=Same.new (o:=.lst [.int 4,.int 30,.int 1000000]) al;have bA:=ac (H:=H5) (a:=q1) (o:=.lst [.int 4,.int 30,.int 1000000]);generalize upd H5 q1 (.lst [.int 4,.int 30,.int 1000000])=HA at sA bA;refine .inl ⟨q1,_,_,_,rfl,rfl,SqL.of bA,e3,?_⟩;have m0:(0:Int)<sm:=by lia
   refine⟨m0,?_⟩;have u0:=o_ f (show sm≠0 by lia);have u1:=nt f m0;have N:=sA _ _ D;have O:=sA _ _ G;refine⟨.inl ⟨rfl,_,SqL.of O⟩,clB,.inl ⟨L,_,_,_,rfl,rfl,SqL.of N,g3,cw,?_⟩⟩;refine⟨clB,.inl ⟨L,_,_,_,rfl,rfl,SqL.of N,g1,cdB (by decide) (show Bt 40 (3:Int) by unfold Bt;decide),cdB (by decide) (show Bt 40 (6:Int) by unfold Bt;decide),cp,?_⟩⟩;have v0:=o_ (bt/6) (show(6:Int)≠0 by decide);have v1:=nt (bt/6) (show(0:Int)<6 by decide);have k0:(0:Int)<1+bt/6 % 6:=by lia
   refine⟨k0,?_⟩;have j0:=o_ (I/3) (show 1+bt/6 % 6≠0 by lia);have j1:=nt (I/3) k0;refine .inr (.inr ⟨_,_,_,rfl,rfl,by decide +kernel,six _ j0 (by lia),?_⟩);generalize I/3 % (1+bt/6 % 6)=gi at j0 j1;refine⟨by show 1<=sizeLine;decide,λm ad=>?_⟩;have sD:=Same.new (o:=.tup [.str (chS gi.toNat)]) ad;refine⟨by show 4<=sizeLine;decide,λl am=>?_⟩;have sE:=Same.new (o:=.tup [.str nm,.int (y - 10 ^ (9:Int).toNat),.int (1+f % sm),.ref m]) am;have J:=sE _ _ (sD _ _ O);refine⟨r,xs,.ref l,rfl,rfl,J,by lia,?_⟩;have tk:TK (upd (upd HA m (.tup [.str (chS gi.toNat)])) l (.tup [.str nm,.int (y - 10 ^ (9:Int).toNat),.int (1+f % sm),.ref m])) (upd (upd (upd HA m (.tup [.str (chS gi.toNat)])) l (.tup [.str nm,.int (y - 10 ^ (9:Int).toNat),.int (1+f % sm),.ref m])) r (.lst (xs++[.ref l]))):=TK.lst J;have Y:Same H5 (upd (upd HA m (.tup [.str (chS gi.toNat)])) l (.tup [.str nm,.int (y - 10 ^ (9:Int).toNat),.int (1+f % sm),.ref m])):=(sA.trans sD).trans sE
   have iu:IsU (upd (upd (upd HA m (.tup [.str (chS gi.toNat)])) l (.tup [.str nm,.int (y - 10 ^ (9:Int).toNat),.int (1+f % sm),.ref m])) r (.lst (xs++[.ref l]))) (U.mk nm (y - 10 ^ (9:Int).toNat) (1+f % sm) [chS gi.toNat]) (.ref l):=⟨l,m,rfl,tk _ _ ac,tk _ _ (sE _ _ ac)⟩
   refine⟨by lia,(s5.trans Y).put F,B++[U.mk nm (y - 10 ^ (9:Int).toNat) (1+f % sm) [chS gi.toNat]],xs++[.ref l],_,_,_,rfl,ac,?_,?_,λu x=>?_⟩
   .exact AllU.snoc iu (hU.tk (Y.tk.trans tk))
   .rw[gn,b,HE,gn]
    show _++[nm.cps.toList.head?]=_++[some (97+i)];rw[W,JH];rfl
   .rcases ra.mp x with z | z
    .exact c u z
    .rw[k_.mp z]
     refine⟨⟨S,by show -1000000000<=y - 10 ^ (9:Int).toNat;rw[R];lia,by show y - 10 ^ (9:Int).toNat<=1000000000;rw[R];lia,by show 1<=1+f % sm;lia,by show 1+f % sm<=1000000;lia,by show 1<=3;lia,λn hn=>?_⟩,gi.toNat,by lia,rfl⟩;rw[k_.mp hn];exact Cl (by lia)
  .rintro σ H5 ⟨_,s5,B,xs,x5,x6,x7,rfl,G,hU,b,c⟩
   have X:B.length=(4+cm).toNat:=by
    have:=congrArg Hm b;rw[a_,a_,py]at this;exact this
   refine q _ r B xs (s1.trans s5) G hU ⟨by lia,by lia,λu x=>(c u x).1,EZ b λi j hi hj e=>?_,λu x v hv=>?_⟩ (by lia) λu x=>(c u x).2
   .have:=ll e;lia
   .obtain⟨_,_,e1⟩:=(c u x).2
    obtain⟨_,_,e2⟩:=(c v hv).2;rw[e1,e2];rfl
end
end My
namespace My
open PySem L2 FrM Du
open Nst (Mb plc szs Kn Cw Lf Rw Dp tree vq uY)
open Tb (Tr so)
def PlR(K:Frag)(H:Hp)(iq:Nat×Rat)(y:V):Prop:=∃ t x,y=.ref t/\H t=some (.tup [.int (iq.1:Nat),x])/\IsQ K H iq.2 x
def PlR.t{K:Frag}{H a:Hp}(s:SameT H a)(b:Nat×Rat)(y:V)(h:PlR K H b y):PlR K a b y:=by
 obtain⟨t,x,d,e,c⟩:=h;exact⟨t,x,d,s.at e,c.t s⟩
def PlR.u{K:Frag}{H a:Hp}(s:kF H a)(b:Nat×Rat)(y:V)(h:PlR K H b y):PlR K a b y:=by
 obtain⟨t,x,d,e,p,c,f⟩:=h;exact⟨t,x,d,s _ _ e,p,c,f.imp (λz=>s _ _ z) id⟩
inductive spPlcs(K:Frag)(a:Ad)(vs:List V)(H:Hp)(Q:VK)(_E:XK):Prop
 | mk(p l:Addr)(v:V)(ns:List Int)(us:List U)(xs:List V)(m:Nat)(k:Kn)(h0:vs=[.ref p,.ref l,v])(h1:SqL K H p (ns.map V.int))(h2:ns.length<=63)(h3:H l=some (.lst xs))(h4:AllU H us xs)(h5:GoodL us)(h6:IsPn a H v m k)(h7:1<=m)(h8:m<=24)(h9:TabsOk (tabs a) H)(h10:∀ H' r zs ps,SameT H H'->TabsOk (tabs a) H'->H' r=some (.lst zs)->Paired (PlR K H') ps zs->ps.length<=us.length->(∀ x∈ps,x.1<us.length/\Pos x.2)->Q (.ref r) H'):spPlcs K a vs H Q _E
def Al{K:Frag}{H:Hp}{p:Addr}{l:List Int}(h:H p=some (.tup (l.map V.int))):DV K H (.tuple (l.map BQ)) (.ref p):=by
 rw[DV];exact⟨p,_,rfl,SqT.of h,yk l⟩
def sO(l:List Int):DB (.tuple (l.map BQ))=true:=by
 obtain⟨a,b⟩:=yR l;unfold DB;rw[GH,a,Jl];refine decide_eq_true ?_;simp only[G2];lia
section
variable {P:gN}{w:ml}{K:Frag}{mg:Str->Option cX}{base:Heap}{a:Ad}
def AF(T:Txt K mg a)(hB:Bm mg base):FnX P w base 12 T.W_O (spPlcs K a):=by
 have a6:FnO P w K mg base 11 (spNode K a .few):=(xF T hB).mo;have bd:FnO P w K mg base 11 (spNode K a .loose):=(zj T hB).mo;have a7:FnO P w K mg base 11 (spNode K a .duel):=(xa T hB).mo;have b2:FnO P w K mg base 11 (spMat K a .few):=(As T hB).mo;have b6:FnO P w K mg base 11 (spMat K a .loose):=(wz T hB).mo;have cA:FnO P w K mg base 11 (spMat K a .duel):=(xm T hB).mo;have bA:FnO P w K mg base 11 (spBo a .few):=(CY T).mo;have bm:FnO P w K mg base 11 (spBo a .loose):=(CG T).mo;have b4:FnO P w K mg base 11 (spBo a .duel):=(Dn T).mo;refine T.W_O.A.okz sc_O λcW A bo s H vs Q E g h=>?_
 .obtain⟨p,l,v,ns,B,xs,m,k,rfl,hS,a2,hl,hU,G,hp,m1,m2,hT,q⟩:=h
  have br:sizeLine=16777216:=fE;have a0:(10:Int) ^ (12:Int).toNat=1000000000000:=by decide
  refine⟨_,(af (psl 3 sc_O (aE (yJ T) g T.W_aB (aa (vr 1) ae))) (af (psl 4 sc_O (aE (yh T) g T.W_az (aa (aE (fm T) g T.W_an (aa (vr 0) (aa ag ae))) (aa (aE (fm T) g T.W_an (aa (vr 0) (aa ag ae))) (aa ag (aa (au xn ag ag) ae)))))) (af (gD (aE (wq T hB) g T.W_aC (aa (PE.or (cD (vr 2) T.cl_Z T.mt_Q a6 g T.W_Q.B .nil aT (aa (vr 3) ae)) (PE.or (cD (vr 2) T.cl_w T.mt_n bd g T.W_n.B .nil aT (aa (vr 3) ae)) (cD (vr 2) T.cl_L T.mt_J a7 g T.W_J.B .nil aT (aa (vr 3) ae)))) (aa (vr 4) ae))) (bF rfl (av (ax (i:=5) sc_O.nd rfl (m_ rfl)) (av (ax (i:=6) sc_O.nd rfl (m_ rfl)) a9)))) (af (psr 7 sc_O (PE.or (cD (vr 2) T.cl_Z T.mt_b b2 g T.W_b.B .nil aT (aa (vr 3) ae)) (PE.or (cD (vr 2) T.cl_w T.mt_a b6 g T.W_a.B .nil aT (aa (vr 3) ae)) (cD (vr 2) T.cl_L T.mt_F cA g T.W_F.B .nil aT (aa (vr 3) ae))))) (af (gD (PE.or (cD (vr 2) T.cl_Z T.mt_N bA g T.W_N.B .nil aT (aa (vr 3) ae)) (PE.or (cD (vr 2) T.cl_w T.mt_A bm g T.W_A.B .nil aT (aa (vr 3) ae)) (cD (vr 2) T.cl_L T.mt_G b4 g T.W_G.B .nil aT (aa (vr 3) ae)))) (bF rfl (av (ax (i:=8) sc_O.nd rfl (m_ rfl)) (av (ax (i:=9) sc_O.nd rfl (m_ rfl)) a9)))) (af (aP (PW.pt (kO (aO (rj g.units) (aE (xZ T hB) g T.W_ay (aa (PE.or (cD (vr 2) T.cl_Z T.mt_Q a6 g T.W_Q.B .nil aT (aa (vr 3) ae)) (PE.or (cD (vr 2) T.cl_w T.mt_n bd g T.W_n.B .nil aT (aa (vr 3) ae)) (cD (vr 2) T.cl_L T.mt_J a7 g T.W_J.B .nil aT (aa (vr 3) ae)))) (aa (vr 5) ae))) (vr 6) (az _)) (hZ (bx (vH jt jt (vr 8) (ak aw rfl T.z_len aK (aa (vr 6) ae)) (vr 9)))))) (ai (ap fJ)) aC) (af (aP (aO (rj g.units) (aN rfl (N:=["_law_place","_law_matrix"]) (ix:=[none,some 7]) ay (aL (vr 6)) (aB λC s H fp=>⟨aQ 0 ["_law_place","_law_matrix"],cv (aO dJ (aY (bf (K:=K) rfl) (aY (bf (K:=K) rfl) (aY (bf (K:=K) rfl) (vr 1) (vr 0)) (vr 0)) ag) ag (az _)),(vr 0)⟩)) (bn ae) (az _)) (ai (ap fJ)) aC) (ai (ap (aN rfl (N:=["_law_place","_law_matrix"]) (ix:=[none,some 7]) ay (aL (vr 6)) (aB λC s H fp=>⟨aQ 0 ["_law_place","_law_matrix"],aM,(aG (aa (vr 0) (aa (aY (bf (K:=K) rfl) (aY (bf (K:=K) rfl) (vr 1) (vr 0)) (vr 0)) ae)))⟩))))))))))),Ej ?_⟩
  intro c2 cP c0 cS cT cR cB;refine⟨l,B,xs,rfl,hl,hU,G,λH1 lc cs s1 bq hC=>?_⟩;refine⟨p,ns,4,rfl,s1.seq hS,a2,by decide,by decide,?_⟩;refine⟨p,ns,5,rfl,s1.seq hS,a2,by decide,by decide,cw,?_⟩;refine⟨_,_,25,_,rfl,by decide,by decide,by rw[a0];decide,by rw[a0];decide,λH2 lr rs s2 f2 cb rl rb=>?_⟩;have r:=(hp.n (sZ s1.t)).n (sZ s2.t);have C:=Ev G;have W:=hC.tk s2.tk;have I:=s2 _ _ bq;have b9:=(hT.same s1).same s2;have cl:(crU B).length=B.length:=nO B
  refine me (S:=spNode K a) "node" (λ_=>rfl) (λP=>P (.ref lc) H2) r λE=>⟨v,m,lc,cs,crU B,rfl,r,I,W,C,m2,b9,λH3 nd t3 hT3 hnd=>?_⟩
  rw[bV]at hnd;refine⟨nd,lr,rs,tree k m (crU B),24,rfl,hnd,uY C,by lia,by lia,λx J=>(rb x J).1,t3.at cb,hT3,λH4 pp lt kt th ks t4 hT4 hpp hlt hkt hRw=>?_⟩;have O:=t3.trans t4;refine⟨pp,_,rfl,SqT.of hpp,rfl,_,_,rfl,_,_,rfl,rfl,?_⟩
  refine me (S:=spMat K a) "matrix" (λ_=>rfl) (λP=>P (.ref lc) H4) (r.n (sZ O)) λE=>⟨v,m,lc,cs,crU B,rfl,r.n (sZ O),O.at I,W.tk (SameT.tk O),C,m1,m2,hT4,λH5 px t5 hT5 he=>?_⟩
  obtain⟨e,ad,hM⟩:=he;have L:=O.trans t5
  refine me (S:=spBo a) "bounds" (λ_=>rfl) (λP=>P (.ref lc) H5) (r.n (sZ L)) λE=>⟨v,m,lc,cs,crU B,rfl,r.n (sZ L),L.at I,W.tk (SameT.tk L),C,m2,λH6 pb s6 hpb=>?_⟩
  have ab:=L.trans s6.t;refine⟨pb,_,rfl,SqT.of hpb,rfl,_,_,rfl,_,_,rfl,rfl,?_⟩
  refine me (S:=spNode K a) "node" (λ_=>rfl) (λP=>P (.ref lc) H6) (r.n (sZ ab)) λE=>⟨v,m,lc,cs,crU B,rfl,r.n (sZ ab),ab.at I,W.tk (SameT.tk ab),C,m2,hT5.same s6,λH7 nd7 t7 hT7 hnd7=>?_⟩
  rw[bV]at hnd7;have as:=t5.trans (s6.t.trans t7);refine⟨nd7,lt,tree k m (crU B),ks,th,rfl,hnd7,hRw,as.at hlt,hT7,λH8 kd t8 b3 bl=>?_⟩;have a4:=as.trans t8;refine Ah (Al bl) (Al (a4.at hkt)) (sO _) ?_;have a':=vq C m2 hRw.lf;rw[cl]at a';obtain⟨⟨b0,b1⟩,bt⟩:=a';have c1:=(Tb.so_perm ks).length_eq;have Y:=a4.at hkt;refine⟨_,.inr (SqT.of Y),?_⟩;rw[a_];refine ifP (by lia) ?_;refine vA (by lia) ?_
  have hk:∀(i:Nat) (x:V),((so ks).map V.int)[i]? = some x->∃ j:Nat,j<B.length/\x=.int (j:Nat):=λi x J=>by
   rw[fb]at J;cases hc:(so ks)[i]? with
   | none=>rw[hc]at J;cases J
   | some y =>
    rw[hc]at J;cases J;have hy:=bt y ((Tb.so_perm ks).mem_iff.mp (eH hc));exact⟨y.toNat,hy.2,by show V.int y=V.int ((y.toNat:Nat):Int);congr 1;lia⟩
  rw[cl]at hM;have a1:=s6.t.trans (t7.trans t8);have a5:=Mx.q (SQ.of a1) hM;refine .inr ⟨⟨_,SqT.of Y⟩,λD hD=>?_⟩
  let Pw1:PvL:=λj F M=>Same H8 M/\M D=some (.lst F)/\F=[]
  refine nj (K:=K) (a:=kt) (xs:=(so ks).map V.int) Pw1 ⟨Same.new hD,ac,rfl⟩ (λj F M h'=>SqT.of (h'.1 _ _ Y)) (λj F M h'=>h'.2.1) ?_ ?_
  .rintro i x F M P' J ⟨s9,am,rfl⟩ hP
   obtain⟨j,hj,rfl⟩:=hk i x J;refine⟨⟨rfl,trivial⟩,BC (Mx.q (SQ.of s9.t) a5) hj hj λy f hf hR=>?_⟩;obtain⟨pc,rfl,ca⟩:=hf;have hR:f=fr (e j j):=hR;have f0:0<f.1:=by rw[hR];exact num_pos.mpr (ad j (by lia)).1
   refine .inr (.inl ⟨pc,_,_,_,rfl,rfl,ca.sq,ao 0 rfl rfl,?_⟩);exact ifC (λc=>absurd c (by lia)) λ_=>hP _ _ ⟨s9,am,rfl⟩
  rintro F H9 ⟨s9,am,rfl⟩;refine⟨ey _,λe9 a8=>?_⟩;have R:=s9.trans (Same.new (o:=.lst []) a8);refine Ah (d:=.list (([]:List Int).map BQ)) (jQ (l:=[]) ((Same.new (o:=.lst []) a8) _ _ am)) (jQ (l:=[]) ac) (dH []) ?_;generalize upd H9 e9 (.lst [])=HA at R;have an:=R _ _ Y;have ct:=Mx.q (SQ.of R.t) a5;refine .inr ⟨⟨_,SqT.of an⟩,λD2 a3=>?_⟩;have cC:=G.l2
  have kl:((so ks).map V.int).length<=B.length:=by
   rw[a_]
   have h1:Nst.hi k m (crU B)<=(crU B).length:=by
    cases k <;> unfold Nst.hi
    .lia
    .have:0<=Nst.cO (due (szs (crU B)) (m:Nat)) (0,1):=by unfold Nst.cO;lia
     lia
    .lia
   lia
  let Pw2:PvL:=λj F M=>Same HA M/\M D2=some (.lst F)/\j<=((so ks).map V.int).length/\∃ ps:List (Nat×Rat),Paired (PlR K M) ps F/\ps.length=j/\∀ x∈ps,x.1<B.length/\Pos x.2
  refine nj (K:=K) (a:=kt) (xs:=(so ks).map V.int) Pw2 ⟨Same.new a3,ac,ey _,[],.nil,rfl,λx J=>by cases J⟩ (λj F M h'=>SqT.of (h'.1 _ _ an)) (λj F M h'=>h'.2.1) ?_ ?_
  .rintro i x F M P' J ⟨sB,cm,hi,ps,Z,al,ah⟩ hP
   have b':=(b_.mp J).1;obtain⟨j,hj,rfl⟩:=hk i x J;refine⟨⟨rfl,trivial⟩,BC (Mx.q (SQ.of sB.t) ct) hj hj λy f hf hR=>?_⟩;have hR:f=fr (e j j):=hR;refine⟨(by decide:2<=sizeLine),λpt ch=>?_⟩;have sP:=Same.new (o:=.tup [.int (j:Nat),y]) ch;have X:=sP _ _ cm;have yl:F.length=i:=by rw[<- Z.length,al]
   refine⟨X,by lia,hP _ _ ⟨(sB.trans sP).put a3,ac,b',ps++[(j,e j j)],?_,by rw[ir,al];rfl,λz hz=>?_⟩⟩
   .refine cz ?_ (aA (PlR.u λb zs h=>de X b zs (sP _ _ h)) Z)
    refine⟨pt,y,rfl,de X _ _ ac,?_⟩;obtain⟨p3,e3,q3⟩:=hf;rw[hR]at q3;exact⟨p3,e3,q3.imp (λz=>de X _ _ (sP _ _ z)) id⟩
   .rcases ra.mp hz with h | h
    .exact ah z h
    .rw[k_.mp h]
     exact⟨hj,ad j (by lia)⟩
  rintro F HC ⟨sC,co,_,ps,Z,al,ah⟩;have b5:=(s1.trans s2).t.trans (L.trans (a1.trans R.t));exact q HC D2 F ps (b5.trans sC.t) ((b3.same R).same sC) co Z (by lia) ah
end
end My
namespace My
open PySem L2 FrM Du Led
open Nst (Mb plc szs Kn Cw)
open Nd (OkQ pS)
def Fd:∀ i:Nat,i<6->∃ rest,rc ("abcdef" : Str) (chS i) 0 ("abcdef" : Str).length 1=i::rest:=λi a=>by
 have h:∀ i:Nat,i<6->(match rc ("abcdef" : Str) (chS i) 0 ("abcdef" : Str).length 1 with | j::_=>decide (j=i) | []=>false)=true:=by decide +kernel
 have:=h i a;cases e:rc ("abcdef" : Str) (chS i) 0 ("abcdef" : Str).length 1 with
 | nil=>rw[e]at this;cases this
 | cons j r =>
  rw[e]at this;exact⟨r,by rw[of_decide_eq_true this]⟩
def aW(q:Rat):Int:=(fr q).2/(fr q).1
def loW(q:Rat)(w:Int):Int:=if aW q - w > 0 then aW q - w else 0
def hiW(q:Rat)(w:Int):Int:=if aW q+1+w<1000000 then aW q+1+w else 1000000
def mnW(q:Rat)(w:Int):Int:=if hiW q w<loW q w then hiW q w else loW q w
def Ft{q:Rat}{w:Int}(h:1<=aW q)(b:0<=w):0<=mnW q w/\mnW q w<=hiW q w/\hiW q w<=1000000:=by
 have c:0<=loW q w:=by unfold loW;split <;> lia
 have a:0<=hiW q w/\hiW q w<=1000000:=by unfold hiW;split <;> lia
 refine⟨?_,?_,a.2⟩ <;> unfold mnW <;> split <;> lia
inductive spSpots(K:Frag)(vs:List V)(H:Hp)(Q:VK)(_E:XK):Prop
 | mk(lu lp:Addr)(us:List U)(xs zs:List V)(ps:List (Nat×Rat))(wd:Int)(h0:vs=[.ref lu,.ref lp,.int wd])(h1:H lu=some (.lst xs))(h2:L2.AllU H us xs)(h3:(∀ u∈us,Grp u))(h4:H lp=some (.lst zs))(h5:Paired (PlR K H) ps zs)(h6:ps.length<=24)(h7:(∀ x∈ps,x.1<us.length/\Pos x.2))(h8:0<=wd)(h9:wd<=40)(h10:∀ H' r ss ys,Same H H'->H' r=some (.lst ys)->AllUn H' ss ys->ss.length=ps.length->(∀ u∈ss,OkN u 6 3)->Q (.ref r) H'):spSpots K vs H Q _E
section
variable {P:gN}{w:ml}{K:Frag}{mg:Str->Option cX}{base:Heap}{a:Ad}
def xJ(T:Txt K mg a):FnX P w base 1 T.W_aa (spSpots K):=by
 refine T.W_aa.A.okz sc_aa λa2 A ab s H vs Q E hr h=>?_
 .obtain⟨lu,lp,us,xs,zs,ps,e,rfl,hl,hU,hG,G,hP,a3,ad,w0,w1,q⟩:=h
  have br:sizeLine=16777216:=fE;refine⟨_,(af (psl 3 sc_aa (bn ae)) (af (cj kk rfl (aL (vr 1)) (bF rfl (av (ax (i:=4) sc_aa.nd rfl (m_ rfl)) (av (ax (i:=5) sc_aa.nd rfl (m_ rfl)) a9))) (af (psl 6 sc_aa (au dk (aj (vr 5) ag) (aj (vr 5) ag))) (af (psl 7 sc_aa (ak (oY rfl) rfl T.z_max xS (aa ag (aa (au bZ (vr 6) (vr 2)) ae)))) (af (psl 8 sc_aa (ak (eC rfl) rfl T.z_min jq (aa ag (aa (au cK (au cK (vr 6) ag) (vr 2)) ae)))) (ai (cH (pe_m.append (vr 3) (aa (aG (aa (pe_m.indexS b8 (aa (aj (aj (aj (vr 0) (vr 4)) ag) ag) ae)) (aa (au cJ (aj (aj (vr 0) (vr 4)) ag) ag) (aa (ak (eC rfl) rfl T.z_min jq (aa (vr 7) (aa (vr 8) ae))) (aa (vr 8) ae))))) ae)))))))) (ai (ap (vr 3))))),fQ ?_⟩;intro a1 a0;refine⟨ey _,λD hD=>?_⟩;have s0:=Same.new (o:=.lst []) hD;refine .inl ⟨⟨_,SqL.of (s0 _ _ G)⟩,?_⟩
  let Pw1:PvS:=λi R X=>i<=ps.length/\Same H X/\∃(B:List Un) (f:List V) (x4 x5 x6 x7 x8:Option V),R=[some (.ref lu),some (.ref lp),some (.int e),some (.ref D),x4,x5,x6,x7,x8]/\X D=some (.lst f)/\AllUn X B f/\B.length=i/\∀ u∈B,OkN u 6 3
  refine eV (K:=K) (a:=lp) (xs:=zs) Pw1 ⟨ey _,s0,[],[],none,none,none,none,none,rfl,ac,.nil,rfl,λu Y=>by cases Y⟩ (λi R X _ h=>SqL.of (h.2.1 _ _ G)) ?_ ?_
  .rintro i x R W hx ⟨_,r,B,f,x4,x5,x6,x7,x8,rfl,k,l,S,F⟩
   obtain⟨⟨j,d⟩,hj,t,y,rfl,ht,hq⟩:=gx hP hx;have ah:=(b_.mp hj).1;obtain⟨jl,q0,L⟩:=ad _ (eH hj);obtain⟨pc,rfl,I⟩:=hq.same r;have am:=r _ _ ht;refine⟨t,_,rfl,SqT.of am,rfl,_,_,rfl,_,_,rfl,rfl,?_⟩;have n0:0<(fr d).1:=num_pos.mpr q0;refine .inr (.inl ⟨pc,_,_,_,rfl,rfl,I.sq,ao 1 rfl rfl,.inr (.inl ⟨pc,_,_,_,rfl,rfl,I.sq,ao 0 rfl rfl,?_⟩)⟩)
   have nd:(fr d).1<=(fr d).2:=by
    have:=pS L.lo L.hi;show d.num<=(d.den:Int);lia
   have nb:Bt 100 (fr d).1:=by
    have h1:=pS L.lo L.hi;have h2:=L.den;show d.num.natAbs<2 ^ 100;exact na h1 (Nat.lt_trans h2 (by decide))
   refine⟨cdB n0 nb,?_⟩;have A1:1<=(fr d).2/(fr d).1:=Int.le_ediv_of_mul_le n0 (by lia);obtain⟨k0,k1,k2⟩:=Ft (q:=d) A1 w0;refine⟨_,_,rfl,_,_,rfl,?_⟩
   obtain⟨x,hxj⟩:∃ x,xs[j]? = some x:=⟨_,c_ (by rw[<- hU.len];exact jl)⟩
   obtain⟨u,Y,pu,pp,rfl,an,M⟩:=hU.get hxj;obtain⟨g,g6,eg⟩:=hG u (eH Y);rw[eg]at M;have N:=r _ _ hl;have m:=r _ _ an;have J:=r _ _ M;refine⟨.inl ⟨rfl,_,SqL.of k⟩,rfl,.inl ⟨lu,_,_,_,rfl,rfl,SqL.of N,aZ hxj,.inr (.inl ⟨pu,_,_,_,rfl,rfl,SqT.of m,ao 3 rfl rfl,.inr (.inl ⟨pp,_,_,_,rfl,rfl,SqT.of J,ao 0 rfl rfl,?_⟩)⟩)⟩⟩;obtain⟨O,er⟩:=Fd g g6;refine⟨g,O,er,?_⟩;refine .inl ⟨lu,_,_,_,rfl,rfl,SqL.of N,aZ hxj,.inr (.inl ⟨pu,_,_,_,rfl,rfl,SqT.of m,ao 2 rfl rfl,cp,?_⟩)⟩;have z0:=o_ u.size (show(3:Int)≠0 by decide);have z1:=nt u.size (show(0:Int)<3 by decide)
   obtain⟨c,ec⟩:∃ c:Nat,(c:Int)=u.size % 3:=⟨(u.size % 3).toNat,by lia⟩
   refine⟨_,_,rfl,?_⟩;refine⟨by show 4<=sizeLine;decide,λp al=>?_⟩;have Z:=Same.new (o:=.tup [.int (g:Nat),.int (u.size % 3),.int (mnW d e),.int (hiW d e)]) al;have as:(upd W p (.tup [.int (g:Nat),.int (u.size % 3),.int (mnW d e),.int (hiW d e)])) p=some (.tup (Ab ⟨g,c,mnW d e,hiW d e⟩)):=by rw[<- ec];exact ac
   have C:=Z _ _ k;have yl:f.length=i:=by rw[<- gp l,S]
   refine⟨D,f,.ref p,rfl,rfl,C,by lia,?_⟩
   have iu:IsUn (upd (upd W p (.tup [.int (g:Nat),.int (u.size % 3),.int (mnW d e),.int (hiW d e)])) D (.lst (f++[.ref p]))) ⟨g,c,mnW d e,hiW d e⟩ (.ref p):=⟨p,rfl,de C _ _ as⟩
   refine⟨ah,(r.trans Z).put hD,B++[Un.mk g c (mnW d e) (hiW d e)],f++[.ref p],_,_,_,_,_,rfl,ac,?_,by rw[ir,S];rfl,λv hv=>?_⟩
   .exact AllUn.snoc iu (AllUn.tu (λb zs h=>de C b zs (Z _ _ h)) l)
   .rcases ra.mp hv with h | h
    .exact F v h
    .rw[k_.mp h]
     exact⟨g6,by show c<3;lia,k0,k1,k2⟩
  rintro R W ⟨_,r,B,f,x4,x5,x6,x7,x8,rfl,k,l,S,F⟩;exact q W D B f r k l (by rw[S,gp hP]) F
end
end My
namespace L2
open PySem PySem.Spec PyProof.Rows
section
variable {X:Cx}{o e:Expr}{es:List Expr}{to:TE}{t:TA}{apos cpos:Pos}
def pe_m.indexSK{K:Frag}(g:X.K=K)(f:PE X o to)(h:PA X (e::es) t)
  (c:A6 o "index" X.env (eval o X.env)=eval o X.env:=by rfl)
  (d:((tp cpos (fI (e::es) X.env)).all (λx=>!x.1) && (GJ cpos (E3 [] X.env)).all (λx=>x.1.isSome)
   && decide ((e::es).length+([]:List F4).length+(if ([]:List F4).isEmpty then 0 else 1)<30))=true:=by rfl)
  (b:(apos.endLine == cpos.line)=true:=by rfl) (i:fI (e::es) X.env=(false,eval e X.env)::fI es X.env:=by rfl) (a:(tp cpos (fI es X.env)).any (·.1)=false:=by rfl) :
  PE X (.Call (.Attribute o "index" apos) (e::es) [] cpos) (tBM K "str" qt to t):=g ▸ pe_m.indexS f h c d b i a
end
end L2
namespace My
open PySem L2 FrM Du Led
open Nst (Mb plc szs Kn Cw)
def zC(vs:List Int):sN (.list (vs.map BQ)) (.list [])=vs.isEmpty:=by
 cases vs with
 | nil=>simp[sN,HD]
 | cons v vs=>simp[sN,HD]
def y7{a:Ad}{c:List Addr}{H:Hp}(b:∀ q∈tabs a,q.1∈c)(h:∀ P∈c,H P=some (.tbl #[])):TabsOk (tabs a) H:=λq d=>⟨#[],h _ (b q d),trivial,λ_ _=>.inl rfl⟩
def IsT.at_{H b:Hp}:∀{t:Told}{x:V},IsT H b t x->∃ p Ls,x=.ref p/\ToldAt b t p Ls/\∀ l∈Ls,H l=none
 | .ws w,x,⟨p,l,e,h1,h2,f⟩=>⟨p,[l],e,⟨l,rfl,h1,h2⟩,λy a=>by rw[k_.mp a];exact f⟩
 | .no ov so ot,x,⟨p,l1,l2,e,h1,h2,h3,f1,f2,n⟩=>⟨p,[l1,l2],e,⟨l1,l2,rfl,n,h1,h2,h3⟩,λy a=>by
  rcases i_.mp a with z | z
  .rw[z];exact f1
  .rw[k_.mp z];exact f2⟩
def EK{K:Frag}{H b:Hp}{a:Addr}{xs:List V}(e:SameT H b)(h:SqL K H a xs):SqL K b a xs:=by
 rcases h with(h | ⟨o,h⟩) | h
 .exact .inl (.inl (e.at h))
 .exact .inl (.inr ⟨o,e.at h⟩)
 .exact .inr h
def uC{us:List Un}{rows cols:List Int}{R C:Nat}(d:R<=6)(c:C<=6)(n:us.length<=24):∀{t:Told},mK us rows cols R C t->br t
 | .ws w,h=>by show w.length<=24;rw[h.1.len];exact n
 | .no ov so ot,⟨k,e1,e2,_⟩=>by
  have a:=jT k 0 R;have b:=jT k 1 C;refine⟨?_,?_⟩
  .rw[e1];lia
  .rw[e2];lia
def Rc.in_{H:Hp}{b a c:Addr}{rows cols:List Int}{us:List Un}{xs:List V}{R C:Nat}(h:Rc H b a c rows cols us xs R C)(d:ug rows)(e:ug cols):In H b a c rows cols us xs:=⟨h.r,h.c,h.u,h.all,d,e,h.n,by rw[h.lr,h.lc];exact h.ok⟩
abbrev lawK:Nat:=14
def xp(a:List A3)(z:A3)(f:A3->Int):lJ (a++[z]) f=lJ a f+z.1*f z:=by
 unfold lJ;rw[gn,Lu];simp
theorem AllA.tu'{H a:Hp}(s:kF H a):∀{zs:List A3}{xs:List V},AllA H zs xs->AllA a zs xs
 | _,_,.nil=>.nil
 | _,_,.cons ⟨p,e,h⟩ t=>.cons ⟨p,e,s _ _ h⟩ (AllA.tu' s t)
theorem BV{f:Nat->Int}(h:∀ i,0<=f i/\f i<=1):∀ n:Nat,0<=sI f n/\sI f n<=n
 | 0=>⟨wk _,wk _⟩
 | n+1=>by
  have:=BV h n;have:=h n;show 0<=sI f n+f n/\sI f n+f n<=_;lia
def D8(n p:Nat):0<=wAt (l4 n 1) p/\wAt (l4 n 1) p<=1:=by
 unfold wAt;rw[rd,GY]
 split <;> simp
def jX(us:List Un)(n s R k:Nat):∀ v∈Led.sumL us (l4 n 1) s R k,0<=v/\v<=k:=λv a=>by
 unfold Led.sumL at a;obtain⟨i,_,rfl⟩:=lz.mp a;exact BV (λp=>by split <;> first | exact D8 n p | decide) k
inductive spTG(K:Frag)(vs:List V)(H:Hp)(Q:VK)(_E:XK):Prop
 | mk(lu lp pt lw:Addr)(us:List U)(xs zs:List V)(ps:List (Nat×Rat))(ws:List Int)(h0:vs=[.ref lu,.ref lp,.ref pt])(h1:H lu=some (.lst xs))(h2:L2.AllU H us xs)(h3:(∀ u∈us,GoodU u))(h4:H lp=some (.lst zs))(h5:Paired (PlR K H) ps zs)(h6:ps.length<=24)(h7:(∀ x∈ps,x.1<us.length/\Pos x.2))(h8:H pt=some (.tup [.str "weights",.ref lw]))(h9:H lw=some (.lst (ws.map V.int)))(h10:ws.length=ps.length)(h11:(∀ w∈ws,0<=w/\w<=1000000))(h12:∀ H',Q (.bl true) H'):spTG K vs H Q _E
section
variable {P:gN}{w:ml}{K:Frag}{mg:Str->Option cX}{base:Heap}{a:Ad}
def EV(T:Txt K mg a):FnX P w base 7 T.W_i (spTG K):=by
 refine T.W_i.A.okz sc_i λbt A a2 s H vs Q E hr h=>?_
 .obtain⟨lu,lp,pt,lw,us,xs,zs,ps,g,rfl,hl,hU,hG,ab,hP,b2,a4,ah,O,wl,hw,q⟩:=h
  have br:sizeLine=16777216:=fE;refine⟨_,(af (psl 3 sc_i (bn ae)) (af (psl 4 sc_i ag) (af (cj kk rfl (qp rfl T.z_zip (aa (vr 1) (aa (aj (vr 2) ag) ae))) (bF rfl (av (ax (i:=5) sc_i.nd rfl (m_ rfl)) (av (ax (i:=6) sc_i.nd rfl (m_ rfl)) a9))) (af (psl 7 sc_i (aj (aj (vr 0) (aj (vr 5) ag)) ag)) (af (psl 4 sc_i (au cK (vr 4) (au aR (vr 6) (vr 7)))) (ai (cH (pe_m.append (vr 3) (aa (aG (aa (ak (oY rfl) rfl T.z_max xS (aa ag (aa (vr 6) ae))) (aa (vr 7) (aa (vr 7) ae)))) ae))))))) (af (aP (aO (rj hr.units) (aN rfl (N:=["_law_weight"]) (ix:=[none]) ay (aL (aj (vr 2) ag)) (aB λC s H fp=>⟨aQ 0 ["_law_weight"],cv (aO oy (vr 0) ag (az _)),(vr 0)⟩)) (bn ae) (az _)) (ai (ap fB)) aC) (af (gD (pec (tX T) hr T.W_D (aa (vr 3) ae)) (bF rfl (av (ax (i:=8) sc_i.nd rfl (m_ rfl)) (av (ax (i:=9) sc_i.nd rfl (m_ rfl)) (av (ax (i:=10) sc_i.nd rfl (m_ rfl)) (av (ax (i:=11) sc_i.nd rfl (m_ rfl)) a9)))))) (ai (ap (bE (ba (lB hr.units) (aG (aa (vr 8) (aa (vr 9) ae))) (aG (aa (vr 4) (aa (vr 4) ae))) (az _)) (bW (ba (lB hr.units) (vr 10) (vr 11) (az _))))))))))),rL ?_⟩;intro bA bm bq bl bd;refine⟨ey _,λD hD=>?_⟩;have s0:=Same.new (o:=.lst []) hD;refine .inr (.inl ⟨pt,_,_,_,rfl,rfl,SqT.of (s0 _ _ ah),ao 1 rfl rfl,?_⟩);have zl:zs.length=ps.length:=(gp hP).symm;refine⟨lp,lw,_,_,rfl,s0 _ _ ab,s0 _ _ O,?_⟩
  let Pw1:PvS:=λi σ r=>i<=ps.length/\Same H r/\∃(k:List A3) (ys:List V) (d:Int) (x5 x6 x7:Option V),σ=[some (.ref lu),some (.ref lp),some (.ref pt),some (.ref D),some (.int d),x5,x6,x7,none,none,none,none]/\r D=some (.lst ys)/\AllA r k ys/\k.length=i/\(∀ z∈k,OkA z/\z.2.1=z.2.2)/\((∀ w∈g.take i,1<=w)->d=lJ k kC)
  refine qF (a:=lp) (b:=lw) (xs:=zs) (ys:=g.map V.int) (by rw[a_];lia) Pw1 ⟨ey _,s0,[],[],0,none,none,none,rfl,ac,.nil,rfl,(λz B=>by cases B),λ_=>rfl⟩ (λi σ r h=>⟨h.2.1 _ _ ab,h.2.1 _ _ O⟩) ?_ ?_
  .rintro i x y σ H2 pz hx hy ⟨_,s2,k,ys,d,x5,x6,x7,rfl,S,F,al,p,G⟩ M
   obtain⟨⟨j,qq⟩,hj,t,y',rfl,ht,hq⟩:=gx hP hx;obtain⟨v,hv,rfl⟩:=dQ hy;have a5:=(b_.mp hj).1;obtain⟨jl,_⟩:=a4 _ (eH hj);obtain⟨v0,v1⟩:=hw v (eH hv);have s3:=s2.trans (Same.new (o:=.tup [.ref t,.int v]) M);refine⟨pz,_,rfl,SqT.of ac,rfl,_,_,rfl,_,_,rfl,rfl,?_⟩
   obtain⟨xu,hxj⟩:∃ xu,xs[j]? = some xu:=⟨_,c_ (by rw[<- hU.len];exact jl)⟩
   obtain⟨u,hu,pu,pp,rfl,a',b1⟩:=hU.get hxj;have gu:=hG u (eH hu);refine .inr (.inl ⟨t,_,_,_,rfl,rfl,SqT.of (s3 _ _ ht),ao 0 rfl rfl,.inl ⟨lu,_,_,_,rfl,rfl,SqL.of (s3 _ _ hl),aZ hxj,.inr (.inl ⟨pu,_,_,_,rfl,rfl,SqT.of (s3 _ _ a'),ao 1 rfl rfl,?_⟩)⟩⟩);refine⟨clB (by lia) (by lia),?_⟩;have f:=(Same.new (o:=.tup [.ref t,.int v]) M) _ _ S;have an:=F.same (Same.new (o:=.tup [.ref t,.int v]) M);generalize upd H2 pz (.tup [.ref t,.int v])=H3 at s3 f an;refine⟨.inl ⟨rfl,_,SqL.of f⟩,_,_,rfl,by show 3<=sizeLine;decide,λI a6=>?_⟩;have sP:=Same.new (o:=.tup [.int (if v > 1 then v else 1),.int u.value,.int u.value]) a6;have a1:(upd H3 I (.tup [.int (if v > 1 then v else 1),.int u.value,.int u.value])) I=some (.tup [.int (if v > 1 then v else 1),.int u.value,.int u.value]):=ac;have R:=sP _ _ f;have yl:ys.length=i:=by rw[<- gp F,al]
   refine⟨D,ys,.ref I,rfl,rfl,R,by lia,?_⟩
   have ia:IsA (upd (upd H3 I (.tup [.int (if v > 1 then v else 1),.int u.value,.int u.value])) D (.lst (ys++[.ref I]))) (if v > 1 then v else 1,u.value,u.value) (.ref I):=⟨I,rfl,de R _ _ a1⟩
   have mv:1<=(if v > 1 then v else 1)/\(if v > 1 then v else 1)<=1000000:=by split <;> lia
   refine⟨a5,(s3.trans sP).put hD,k++[((if v > 1 then v else 1:Int),u.value,u.value)],ys++[.ref I],d+v*u.value,_,_,_,rfl,ac,?_,by rw[ir,al];rfl,λz B=>?_,λhall=>?_⟩
   .exact AllA.snoc ia (AllA.tu' (λb zs h=>de R b zs (sP _ _ h)) an)
   .rcases ra.mp B with h | h
    .exact p z h
    .rw[k_.mp h]
     exact⟨⟨mv.1,mv.2,gu.v0,wk _,gu.v1⟩,rfl⟩
   .rw[j_,hv]at hall
    have bo:1<=v:=hall v (ra.mpr (.inr (Go _)));rw[xp,G λw L=>hall w (ra.mpr (.inl L))]
    have e:(if v > 1 then v else 1)=v:=by split <;> lia
    show _+v*u.value=_+(if v > 1 then v else 1)*u.value;rw[e]
  rintro σ H2 ⟨_,s2,k,ys,d,x5,x6,x7,rfl,S,F,al,p,G⟩;rw[zl,ga (by lia)]at G;refine .inr (.inl ⟨pt,_,_,_,rfl,rfl,SqT.of (s2 _ _ ah),ao 1 rfl rfl,?_⟩);have J:=s2 _ _ O;refine .inl ⟨⟨_,SqL.of J⟩,λD3 f=>?_⟩
  let Pw2:PvL:=λj ys r=>j<=g.length/\Same H2 r/\r D3=some (.lst ys)/\ys=((g.take j).filter λw=>decide (w<1)).map V.int
  refine aD (K:=K) (a:=lw) (xs:=g.map V.int) Pw2 ⟨ey _,Same.new f,ac,rfl⟩ (λj ys r h'=>SqL.of (h'.2.1 _ _ J)) (λj ys r h'=>h'.2.2.1) ?_ ?_
  .rintro j y ys r P' hy ⟨_,s4,m,rfl⟩ Z
   obtain⟨v,hv,rfl⟩:=dQ hy;have Y:=(b_.mp hv).1;have tk:(g.take (j+1)).filter (λw=>decide (w<1))=(g.take j).filter (λw=>decide (w<1))++[v].filter (λw=>decide (w<1)):=by rw[j_,hv,rz];rfl
   have fl:=nn (λw=>decide (w<1)) (g.take j);rw[ki]at fl;refine⟨trivial,?_⟩;refine ifC (λc=>?_) λc=>?_
   .have c:v<1:=c
    refine⟨m,by rw[a_];lia,Z _ _ ⟨Y,s4.put f,ac,?_⟩⟩;rw[tk,k6 (by exact decide_eq_true c),gn];rfl
   .have c:¬v<1:=c
    refine Z _ _ ⟨Y,s4,m,?_⟩;rw[tk,g_ (by simpa using c),Iz,y_]
  rintro b3 H4 ⟨_,s4,m,rfl⟩;rw[a_,ga (d_ _)]at m;refine⟨ey _,λe he=>?_⟩;have s5:=Same.new (o:=.lst []) he;refine⟨_,_,jQ (s5 _ _ m),jQ (l:=[]) ac,dH _,dH [],?_⟩;have ev:(PyData.list ((g.filter λw=>decide (w<1)).map BQ)).eqv (PyData.list (([]:List Int).map BQ))=(g.filter λw=>decide (w<1)).isEmpty:=zC _;rw[if_pos rfl,ev];cases hf:(g.filter λw=>decide (w<1)).isEmpty with
  | false=>exact q _
  | true =>
   have ad:∀ w∈g,1<=w:=λw L=>by
    rcases Hb w 1 with h | h
    .have:w∈g.filter λw=>decide (w<1):=mN.mpr ⟨L,decide_eq_true h⟩
     rw[Ky.mp hf]at this;cases this
    .exact h
   have a3:=G ad;have am:=s4.trans s5;have a0:=am _ _ S;refine⟨D,ys,k,rfl,⟨a0,F.same am,by lia,λz B=>(p z B).1⟩,λH6 t pl ph s6 told=>?_⟩;have lh:k.map kC=k.map lN:=JV λz B=>(p z B).2
   have eh:lJ k lN=lJ k kC:=by
    unfold lJ
    congr 1
    exact JV λz B=>by show z.1*z.2.2=z.1*z.2.1;rw[(p z B).2]
   refine⟨t,_,rfl,SqT.of told.at_,rfl,_,_,rfl,_,_,rfl,_,_,rfl,_,_,rfl,rfl,?_⟩;rw[eh,<- a3];refine⟨by show 2<=sizeLine;decide,λt1 a8=>⟨by show 2<=sizeLine;decide,λt2 ht2=>?_⟩⟩;have s7:=Same.new (o:=.tup [.int d,.int d]) ht2;have X:=(Same.new (o:=.tup [.int d,.int d]) a8).trans s7;refine At (Al (l:=[d,d]) (s7 _ _ ac)) (Al (l:=[d,d]) ac) (sO [d,d]) ?_;have a7:=X _ _ told.lo;have W:=X _ _ told.hi;rw[<- lh]at W;exact At (jQ a7) (jQ W) (dH _) (q _)
def ok_law{ts:List Addr}(T:Txt K mg a)(hB:Bm mg base)(dx:∀ q∈tabs a,q.1∈ts):FnX P w base lawK T.W_aF (spLaw K ts):=by
 refine T.W_aF.A.okz sc_aF λed A d0 s H vs Q E R h=>?_
 .obtain⟨p,ns,rfl,hS,L,d7,q⟩:=h
  refine⟨_,(af (psl 1 sc_aF (aE (ut T) R T.W_H (aa (vr 0) ae))) (af (aP (aO lY (aE (AJ T) R T.W_V (aa (vr 1) ae)) fJ (az _)) (ai (ap fB)) aC) (af (psl 2 sc_aF (aE (AF T hB) R T.W_O (aa (vr 0) (aa (vr 1) (aa (aE (zJ T) R T.W_aO (aa (vr 0) (aa (ak aw rfl T.z_len aK (aa (vr 1) ae)) ae))) ae))))) (af (aP (aO FV (vr 2) fJ (az _)) (ai (ap fB)) aC) (af (psl 3 sc_aF (aE (xJ T) R T.W_aa (aa (vr 1) (aa (vr 2) (aa (au cJ (aE (fm T) R T.W_an (aa (vr 0) (aa ag ae))) ag) ae))))) (af (b7 rfl (i:=4) sc_aF.nd rfl rfl (by with_unfolding_all rfl) (N:=["_law_unit"]) (ix:=[none]) ay (aL (vr 1)) (aB λC s H fp=>⟨aQ 0 ["_law_unit"],aM,(aG (aa (pe_m.indexSK (K:=K) rfl b8 (aa (aY (bf (K:=K) rfl) (aY (bf (K:=K) rfl) (vr 0) ag) ag) ae)) (aa (au cJ (aY (bf (K:=K) rfl) (vr 0) ag) ag) (aa ag (aa ag ae)))))⟩)) (af (b7 rfl (i:=5) sc_aF.nd rfl rfl (by with_unfolding_all rfl) (N:=["_law_unit"]) (ix:=[none]) ay (aL (vr 1)) (aB λC s H fp=>⟨aQ 0 ["_law_unit"],aM,ag⟩)) (af (psl 6 sc_aF (aE (fY T) R T.W_ad (aa (vr 4) (aa (vr 5) (aa ag (aa ag ae)))))) (af (psl 7 sc_aF (aE (fY T) R T.W_ad (aa (vr 4) (aa (vr 5) (aa ag (aa ag ae)))))) (oX (aP (aO dJ (au cJ (aE (fm T) R T.W_an (aa (vr 0) (aa ag ae))) ag) ag (az _)) (af (b7 rfl (i:=6) sc_aF.nd rfl rfl (by with_unfolding_all rfl) (N:=["_law_many"]) (ix:=[none]) ay (aL (aE (fY T) R T.W_ad (aa (vr 3) (aa (vr 5) (aa ag (aa ag ae)))))) (aB λC s H fp=>⟨aQ 0 ["_law_many"],aM,(au aR ag (vr 0))⟩)) (ai (b7 rfl (i:=7) sc_aF.nd rfl rfl (by with_unfolding_all rfl) (N:=["_law_many"]) (ix:=[none]) ay (aL (aE (fY T) R T.W_ad (aa (vr 3) (aa (vr 5) (aa ag (aa ag ae)))))) (aB λC s H fp=>⟨aQ 0 ["_law_many"],aM,(au aR ag (vr 0))⟩)))) aC) (af (psl 8 sc_aF (aE (Cz T hB) R T.W_aM (aa (vr 6) (aa (vr 7) (aa (vr 3) ae))))) (af (aP (bx (bK (aE (yL T) R T.W_aK (aa (vr 6) (aa (vr 7) (aa (vr 3) (aa (vr 8) ae))))))) (ai (ap fB)) aC) (ai (ap (Do (ba dJ (aj (vr 8) ag) b8 (az _)) (bW (aE (EV T) R T.W_i (aa (vr 1) (aa (vr 2) (aa (vr 8) ae)))))))))))))))))))),?_⟩
  have sl:sizeLine=16777216:=fE;have hT:=y7 dx d7;refine⟨p,ns,rfl,hS,L,λH1 lu I xs s1 dl bl G u4 hG=>?_⟩;refine⟨lu,I,xs,rfl,dl,bl,G,λH2 s2=>?_⟩;have cB:=s1.trans s2;have bo:=s2 _ _ dl;have d3:=bl.tk s2.tk;have xl:I.length=xs.length:=bl.len;have ca:=G.l2;refine⟨_,.inl (SqL.of bo),?_⟩;refine⟨p,ns,I.length,by rw[xl];rfl,cB.seq hS,L,u4,ca,λH3 v m k s3 hp m1 m2=>?_⟩;have a3:=cB.trans s3;have c4:=s3 _ _ bo;have c3:=d3.tk s3.tk;refine⟨p,lu,v,ns,I,xs,m,k,rfl,a3.seq hS,L,c4,c3,G,hp,m1,m2,hT.same a3,λH4 lp zs ps t4 dK cS hP pu co=>?_⟩;have dn:ps.length<=24:=mu pu ca;have b':=a3.t.trans t4;have c9:=t4.at c4;have dc:=c3.tk (SameT.tk t4);refine⟨p,ns,6,rfl,EK b' hS,L,by decide,by decide,cp,?_⟩;have w0:=o_ (jv ns 6) (show(40:Int)≠0 by decide);have w1:=nt (jv ns 6) (show(0:Int)<40 by decide);refine⟨lu,lp,I,xs,zs,ps,_,rfl,c9,dc,hG,cS,hP,dn,co,w0,by lia,λH5 ls r W s5 c0 b4 eb am=>?_⟩;have d4:=b'.trans s5.t;have ad:=s5 _ _ c9;have cC:=dc.tk s5.tk
  refine .inl ⟨⟨_,SqL.of ad⟩,λD hD=>?_⟩;refine aD (K:=K) (a:=lu) (xs:=xs) (λj d f=>j<=I.length/\Same H5 f/\f D=some (.lst d)/\∃ O:List Un,AllUn f O d/\O.length=j/\∀ u∈O,OkN u 6 3) ⟨ey _,Same.new hD,ac,[],.nil,rfl,λu Y=>by cases Y⟩ (λj W f h'=>SqL.of (h'.2.1 _ _ ad)) (λj W f h'=>h'.2.2.1) ?_ ?_
  .rintro j y d f P' hy ⟨_,s6,ab,O,hE,el,S⟩ M
   obtain⟨u,Y,pu,pp,rfl,dt,db⟩:=cC.get hy;have X:=(b_.mp Y).1;obtain⟨g,g6,eg⟩:=hG u (eH Y);rw[eg]at db;refine⟨trivial,rfl,.inr (.inl ⟨pu,_,_,_,rfl,rfl,SqT.of (s6 _ _ dt),ao 3 rfl rfl,.inr (.inl ⟨pp,_,_,_,rfl,rfl,SqT.of (s6 _ _ db),ao 0 rfl rfl,?_⟩)⟩)⟩;obtain⟨ds,er⟩:=Fd g g6;refine⟨g,ds,er,?_⟩;refine .inr (.inl ⟨pu,_,_,_,rfl,rfl,SqT.of (s6 _ _ dt),ao 2 rfl rfl,cp,?_⟩);have z0:=o_ u.size (show(3:Int)≠0 by decide);have z1:=nt u.size (show(0:Int)<3 by decide)
   obtain⟨c,ec⟩:∃ c:Nat,(c:Int)=u.size % 3:=⟨(u.size % 3).toNat,by lia⟩
   refine⟨by show 4<=sizeLine;decide,λtt d8=>?_⟩;have sP:=Same.new (o:=.tup [.int (g:Nat),.int (u.size % 3),.int 0,.int 0]) d8;have dV:(upd f tt (.tup [.int (g:Nat),.int (u.size % 3),.int 0,.int 0])) tt=some (.tup (Ab ⟨g,c,0,0⟩)):=by rw[<- ec];exact ac
   have a6:=sP _ _ ab;have yl:d.length=j:=by rw[<- gp hE,el]
   have iu:IsUn (upd (upd f tt (.tup [.int (g:Nat),.int (u.size % 3),.int 0,.int 0])) D (.lst (d++[.ref tt]))) ⟨g,c,0,0⟩ (.ref tt):=⟨tt,rfl,de a6 _ _ dV⟩
   refine⟨a6,by lia,M _ _ ⟨X,(s6.trans sP).put hD,ac,O++[Un.mk g c 0 0],?_,by rw[ir,el];rfl,λv F=>?_⟩⟩
   .exact AllUn.snoc iu (AllUn.tu (λb zs h=>de a6 b zs (sP _ _ h)) hE)
   .rcases ra.mp F with h | h
    .exact S v h
    .rw[k_.mp h]
     exact⟨g6,by show c<3;lia,wk 0,wk 0,(by decide:(0:Int)<=1000000)⟩
  rintro b6 H6 ⟨_,s6,ab,O,hE,el,S⟩;rw[<- xl]at el;have b2:=s6 _ _ ad
  refine .inl ⟨⟨_,SqL.of b2⟩,λD1 ct=>?_⟩;refine aD (K:=K) (a:=lu) (xs:=xs) (λj d f=>j<=I.length/\Same H6 f/\f D1=some (.lst d)/\d=(l4 j (1:Int)).map V.int) ⟨ey _,Same.new ct,ac,rfl⟩ (λj W f h'=>SqL.of (h'.2.1 _ _ b2)) (λj W f h'=>h'.2.2.1) ?_ ?_
  .rintro j y d f P' hy ⟨_,s7,J,rfl⟩ M
   have X:=(b_.mp hy).1;refine⟨trivial,J,by rw[a_,qi];lia,M _ _ ⟨by lia,s7.put ct,ac,?_⟩⟩;rw[F1,gn];rfl
  rintro d' H7 ⟨_,s7,J,rfl⟩;rw[<- xl]at J;have dv:=hE.tu s7.tu;have d5:=s6.trans s7;have cT:∀ u∈O,sd 0 u<6:=λu Y=>(S u Y).1
  have cA:∀ u∈O,sd 1 u<3:=λu Y=>(S u Y).2.1
  have dd:∀ u∈r,sd 0 u<6:=λu Y=>(am u Y).1
  have b5:∀ u∈r,sd 1 u<3:=λu Y=>(am u Y).2.1
  have as:r.length<=24:=by lia
  refine⟨D1,D,l4 I.length 1,O,b6,0,6,rfl,J,s7 _ _ ab,dv,by rw[qi];lia,by decide,by decide,cT,λlr H8 s8 _ b1=>?_⟩;refine⟨D1,D,l4 I.length 1,O,b6,1,3,rfl,s8 _ _ J,s8 _ _ (s7 _ _ ab),dv.tu s8.tu,by rw[qi];lia,by decide,by decide,cA,λlc H9 s9 _ ch=>?_⟩;have b9:=s8.trans s9;have Z:=d5.trans b9;have cR:=d4.trans Z.t;have a2:=s9 _ _ b1
  let Pw3:St->Hp->Prop:=λbq f=>∃(lr lc:Addr) (rows cols:List Int),Same H9 f/\rows.length=6/\cols.length=3/\(∀ v∈rows,0<=v/\v<=100)/\(∀ v∈cols,0<=v/\v<=100)/\f lr=some (.lst (rows.map V.int))/\f lc=some (.lst (cols.map V.int))/\bq=[some (.ref p),some (.ref lu),some (.ref lp),some (.ref ls),some (.ref D),some (.ref D1),some (.ref lr),some (.ref lc),none]
  refine⟨Pw3,?_,?_⟩
  .refine⟨p,ns,7,rfl,EK cR hS,L,by decide,by decide,cp,?_⟩
   refine ifC (λc=>?_) λc=>?_
   .have a0:=b9 _ _ J
    have a1:=Z _ _ c0;have an:=b4.tu Z.tu;refine⟨D1,ls,l4 I.length 1,r,W,0,6,rfl,a0,a1,an,by rw[qi];lia,by decide,by decide,dd,λd1 K1 r1 _ a8=>?_⟩;have b3:(Led.sumL r (l4 I.length 1) 0 6 r.length).length=6:=bg ..;have da:∀ v∈Led.sumL r (l4 I.length 1) 0 6 r.length,0<=v/\v<=24:=λv F=>by have:=jX r I.length 0 6 r.length v F;lia
    have cs:(Led.sumL r (l4 I.length 1) 1 3 r.length).length=3:=bg ..;have c1:∀ v∈Led.sumL r (l4 I.length 1) 1 3 r.length,0<=v/\v<=24:=λv F=>by have:=jX r I.length 1 3 r.length v F;lia
    generalize Led.sumL r (l4 I.length 1) 0 6 r.length=r1' at a8 b3 da;refine .inl ⟨⟨_,SqL.of a8⟩,λe1 cW=>?_⟩;refine aD (K:=K) (a:=d1) (xs:=r1'.map V.int) (λj d f=>j<=r1'.length/\Same K1 f/\f e1=some (.lst d)/\d=((r1'.take j).map (2 * ·)).map V.int) ⟨ey _,Same.new cW,ac,rfl⟩ (λj W f h'=>SqL.of (h'.2.1 _ _ a8)) (λj W f h'=>h'.2.2.1) ?_ ?_
    .rintro j y d f P' hy ⟨_,s7,J,rfl⟩ M
     obtain⟨v,F,rfl⟩:=dQ hy;have X:=(b_.mp F).1;refine⟨trivial,clB,J,by rw[a_,a_,ki];lia,M _ _ ⟨X,s7.put cW,ac,?_⟩⟩;rw[j_,F,gn,gn];rfl
    rintro d K2 ⟨_,k2,dp,rfl⟩;rw[a_,ga (d_ _)]at dp;have ah:=r1.trans k2;refine⟨D1,ls,l4 I.length 1,r,W,1,3,rfl,ah _ _ a0,ah _ _ a1,an.tu ah.tu,by rw[qi];lia,by decide,by decide,b5,λd2 K3 r3 _ a5=>?_⟩;generalize Led.sumL r (l4 I.length 1) 1 3 r.length=c1' at a5 cs c1;refine .inl ⟨⟨_,SqL.of a5⟩,λe3 bm=>?_⟩;refine aD (K:=K) (a:=d2) (xs:=c1'.map V.int) (λj d f=>j<=c1'.length/\Same K3 f/\f e3=some (.lst d)/\d=((c1'.take j).map (2 * ·)).map V.int) ⟨ey _,Same.new bm,ac,rfl⟩ (λj W f h'=>SqL.of (h'.2.1 _ _ a5)) (λj W f h'=>h'.2.2.1) ?_ ?_
    .rintro j y d f P' hy ⟨_,s7,J,rfl⟩ M
     obtain⟨v,F,rfl⟩:=dQ hy;have X:=(b_.mp F).1;refine⟨trivial,clB,J,by rw[a_,a_,ki];lia,M _ _ ⟨X,s7.put bm,ac,?_⟩⟩;rw[j_,F,gn,gn];rfl
    rintro d K4 ⟨_,k4,cm,rfl⟩;rw[a_,ga (d_ _)]at cm;refine⟨e1,e3,r1'.map (2 * ·),c1'.map (2 * ·),ah.trans (r3.trans k4),by rw[a_,b3],by rw[a_,cs],λv F=>?_,λv F=>?_,k4 _ _ (r3 _ _ dp),cm,rfl⟩
    .obtain⟨z,hz,rfl⟩:=lz.mp F
     have:=da z hz;lia
    .obtain⟨z,hz,rfl⟩:=lz.mp F
     have:=c1 z hz;lia
   .refine⟨lr,lc,_,_,Same.refl _,bg ..,bg ..,λv F=>?_,λv F=>?_,a2,ch,rfl⟩
    .have:=jX O I.length 0 6 O.length v F;lia
    .have:=jX O I.length 1 3 O.length v F;lia
  rintro bq f ⟨a',a4,rows,cols,sJ,rl,cl,rb,cb,c2,bA,rfl⟩;clear b1 a2 ch;have a7:=Z.trans sJ;have ea:=cR.trans sJ.t;have r6:rows.length<=6:=by lia
  have c6:cols.length<=6:=by lia
  have hR:Rc _ a' a4 ls rows cols r W 6 3:=⟨c2,bA,a7 _ _ c0,b4.tu a7.tu,rl,cl,by decide,by decide,as,am⟩
  have sr:ug rows:=⟨r6,λv F=>by have:=rb v F;lia⟩
  have sc:ug cols:=⟨c6,λv F=>by have:=cb v F;lia⟩
  refine⟨a',a4,ls,rows,cols,r,W,rfl,hR.in_ sr sc,((dK.same s5).same Z).same sJ,λx K8 t8 ee bd=>?_⟩;have bt:=(hR.in_ sr sc).okU;rw[rl,cl]at bd bt;have B:=xD (rows:=rows) (cols:=cols) bt rl cl
  obtain⟨t,et⟩:∃ t,uH r rows cols 6 3=t:=⟨_,rfl⟩
  rw[et]at bd B;obtain⟨pt,Ls,rfl,cP,fL⟩:=bd.at_;have sm:=uC (by decide) (by decide) as B;have d9:=hR.t t8;refine⟨a',a4,ls,pt,Ls,rows,cols,r,W,6,3,t,rfl,d9,cP,B,(λov so ot e=>by subst e;exact sm),λK9 s9=>?_⟩;have c':=cP.t s9.t;have al:=a7.t.trans (t8.trans s9.t);cases t with
  | no ov so ot =>
   obtain⟨l1,l2,_,_,hp,_,_⟩:=c';refine .inr (.inl ⟨pt,_,_,_,rfl,rfl,SqT.of hp,ao 0 rfl rfl,?_⟩);exact q _
  | ws w =>
   obtain⟨l,_,hp,hl⟩:=c';refine .inr (.inl ⟨pt,_,_,_,rfl,rfl,SqT.of hp,ao 0 rfl rfl,?_⟩);refine⟨lu,lp,pt,l,I,xs,zs,ps,w,rfl,al.at ad,cC.tk (SameT.tk al),G.each,(s5.t.trans al).at cS,aA (PlR.t (s5.t.trans al)) hP,dn,co,hp,hl,?_,λv F=>?_,λf=>q _⟩
   .have:=B.1.len
    lia
   .obtain⟨i,hi⟩:=ro F
    have il:=(b_.mp hi).1;have hb:=B.1.bd i (by have:=B.1.len;lia);rw[dh hi,dg (c_ (by have:=B.1.len;lia))]at hb;have:=am (r[i]'(by have:=B.1.len;lia)) (E_ _);obtain⟨_,_,g1,g2,g3⟩:=this;lia
end
end My
namespace My
open PySem L2
abbrev fnS(n q:Str)(st:Stmt):=fnOf n q (jP st) (dz st) (aH st) .none
abbrev fnT(n:Str)(st:Stmt):=fnS n n st
def w1{b:Type}{p:List b->Prop}(h:∀ a,p [a]):∀ us:List b,us.length=1->p us
 | [a],_=>h a
def w2{c:Type}{p:List c->Prop}(h:∀ a b,p [a,b]):∀ us:List c,us.length=2->p us
 | [a,b],_=>h a b
def w3{d:Type}{p:List d->Prop}(h:∀ a b c,p [a,b,c]):∀ us:List d,us.length=3->p us
 | [a,b,c],_=>h a b c
def w4{e:Type}{p:List e->Prop}(h:∀ a b c d,p [a,b,c,d]):∀ us:List e,us.length=4->p us
 | [a,b,c,d],_=>h a b c d
def w6{g:Type}{p:List g->Prop}(h:∀ a b c d e f,p [a,b,c,d,e,f]):∀ us:List g,us.length=6->p us
 | [a,b,c,d,e,f],_=>h a b c d e f
def us0{a:Type}:∀{us:List a},us.length=0->us=[]
 | [],_=>rfl
def fnd_mk{K:Frag}{h:Heap}{mg:Str->Option cX}(X:K.In h)(G:h.Ns xj mg){n:Str}{b:Stmt}{ps:List Str}{f:Addr}{r:cX}{o g:Option Addr}{p:Array (Option cX)}{i j m d e:cX}(w:∀(i j m:cX) (g:Option Addr) (d e:cX) (us:List cX),us.length=ps.length->IG (fnT n b i j m g d e) ⟨us,[]⟩=pure (ps.zip us))(a:nsIn K xj n=some (some (.ref f)))(l:K.lookup f=some ⟨r,o,.func (fnT n b i j m g d e),p⟩)(c:Lc K d n=true)(k:HR K (.ref f)=true):Fnd K mg n b ps f (fnT n b i j m g d e) :=
 ⟨qY (st:=b) l c k,(qY (st:=b) l c k).binds w,mg_of X G a⟩
def mnd_mk{K:Frag}{n q:Str}{b:Stmt}{ps:List Str}{f:Addr}{o:cX}{j e:Option Addr}{m:Array (Option cX)}{g h i a d:cX}(w:∀(g h i:cX) (e:Option Addr) (a d:cX) (us:List cX),us.length=ps.length->IG (fnS n q b g h i e a d) ⟨us,[]⟩=pure (ps.zip us))(l:K.lookup f=some ⟨o,j,.func (fnS n q b g h i e a d),m⟩)(c:Lc K a q=true)(k:HR K (.ref f)=true):Mnd K n q b ps f (fnS n q b g h i e a d) :=
 ⟨qY (st:=b) l c k,(qY (st:=b) l c k).binds w⟩
def lch_mk{K:Frag}{d b:Addr}{lo:cX}{e:Option Addr}{a:Array cX}{c:Array (Option cX)}(_:K.lookup d=some ⟨lo,e,.fields a,c⟩)(_:a[11]? = some (.ref b))(h:F9 K d b=true):F9 K d b=true:=h
def na_mk{K:Frag}{C:Addr}{x:Str}(h:Ht K (.ref C) x=some none):NoAttr K C x:=h
end My
open PySem PySem.W PyProof.Rows
namespace PySem.W.Fast
def tw16118379062703142336:=0
def tw7025714167005267584:=0
def tw13975926003172601698:=0
def tw11725707055048155525:=0
def tw13928151384822392741:=0
def tw14287014084204361287:=0
def tw5563612441610004488:=0
def tw11356394223073692329:=0
def tw8184958496854383371:=0
def tw4961054162361797324:=0
def tw17624326994488798349:=0
def tw10038529327974599629:=0
def tw1950465231912075057:=0
def tw12563979797753610994:=0
def tw18195962466101269397:=0
def tw13659043208744306518:=0
def tw10853845062447173719:=0
def tw12494238616560038551:=0
def tw6166937130989727832:=0
def tw145788146266995865:=0
def tw10868563313298107771:=0
def tw10465273261271446589:=0
def tw9767034478300025597:=0
def tw3634267041376248350:=0
def tw11456656476168357439:=0
def tw231628941078222843:=0
def tw7487479368303805897:=0
def tw14680919627068687378:=0
def tw696659987261044023:=0
def tw9651698908399056907:=0
def tw15804171554869667126:=0
def tw4193560327927245024:=0
def tw14226091469243473531:=0
def tw14572271072521935775:=0
def tw5601979383461708065:=0
def tw9578739843334839600:=0
def tw12097805358516723695:=0
def tw8621587026283833298:=0
def tw6710923504498242748:=0
def tw17144853200229983612:=0
def tw8075910867210216889:=0
def tw4900610608127192034:=0
def tw12515932323287251712:=0
def tw1516567999951929196:=0
def tw5010382982947404510:=0
def tw14728415080114556301:=0
def tw1434038636796611734:=0
def tw13869354510840457003:=0
def tw1662155624822822679:=0
def tw16399888592582187553:=0
def tw17524503732554244737:=0
def tw10096235186876410073:=0
def tw13796624480835068818:=0
def tw10568901792829531084:=0
def tw14694703912326740620:=0
def tw8592647145451737778:=0
def tw18250713882384537487:=0
def tw10842156721337550659:=0
def tw12084348928562005604:=0
def tw1069314794905218851:=0
def tw8864632213849255604:=0
def tw7933661541134852866:=0
def tw11753513576139341286:=0
def tw15290956129073129958:=0
def tw12362398290023935848:=0
def tw3617641717039795081:=0
def tw2076331356650862827:=0
def tw12245681732534335268:=0
def tw5481477914884091745:=0
def tw14680710760514580966:=0
def tw17902405957468806228:=0
def tw12673922265492363220:=0
def tw4283482984437691469:=0
def tw1080360733546552478:=0
def tw14181523806660706624:=0
def tw7046944062034392765:=0
def tw10719581167617355669:=0
def tw8479147455999109685:=0
def tw15353228311518715038:=0
def tw1565829825246123838:=0
def tw6886307591209304590:=0
def tw17695448007849045101:=0
def tw9063630234546333384:=0
def tw15415340457246599388:=0
def tw3587044588535793192:=0
def tw14963582642757359984:=0
def tw10963375540119878903:=0
def tw14653522539835740200:=0
def tw13271734634410495318:=0
def tw1939528922844417947:=0
def tw7788368078594204929:=0
def tw8417479969253693107:=0
def tw13664852286331864508:=0
def tw15020306550187731579:=0
def tw14357417726506961177:=0
def tw2661012584623661743:=0
def tw16945979319819542077:=0
def tw379427649006288334:=0
def tw13923811131090409654:=0
def tw8564087030852250428:=0
def tw17471101491890964751:=0
def tw14741808371376812508:=0
def tw8691229179285628907:=0
def tw13584832064283274483:=0
def tw8907370747975121296:=0
def tw17474800230931655260:=0
def tw6948622797259067260:=0
def tw9856450984014122553:=0
def tw432650092341572084:=0
def tw11157522561143045147:=0
def tw5106474897404193842:=0
def tw15027914503839174878:=0
def tw15002607126612613815:=0
def tw9470826612007497513:=0
def tw14502446144881259452:=0
def tw9162629695586193956:=0
def tw16050163225598490667:=0
def tw5986804163175077807:=0
def tw16095791894980951687:=0
def tw5233448426917233831:=0
def tw8802360629969789802:=0
def tw14432635995932185571:=0
def tw9635451075922951529:=0
def tw16761838498895085290:=0
def tw16525483719527923914:=0
def tw12755465564655306992:=0
def tw13297872018376171503:=0
def tw6447084764141955710:=0
def tw13808481077625585547:=0
def tw10024593479640485308:=0
def tw15446401326252543782:=0
def tw9980120057487790468:=0
def tw3671359542216801660:=0
def tw17490212861910405921:=0
def tw15173439992961924589:=0
def tw11719234685561148107:=0
def tw18037639519657449272:=0
def tw14641173266237401982:=0
def tw18385101450614953071:=0
def tw6748015704460976936:=0
def tw209980023106306602:=0
def tw4595751955850716018:=0
def tw7755086476235287618:=0
def tw713919875161382985:=0
def tw12470447015753383735:=0
def tw12036908069402506476:=0
def tw9816425305648040675:=0
def tw9830178375191250017:=0
def tw2443828870762439199:=0
def tw3962425939158853140:=0
def tw14361432919263943147:=0
def tw15477485798903599104:=0
def tw17635360246272164411:=0
def tw15395101670407551078:=0
def tw1165765031791423365:=0
def tw15957053603101927237:=0
def tw8467713681490188013:=0
def tw10134856274898096331:=0
def tw6520676501396680078:=0
def tw10551981889716234967:=0
def tw3855212210543848242:=0
def tw6318813285137002900:=0
def tw12738635802457566582:=0
def tw18084065106480620973:=0
def tw11182914857864039283:=0
def tw13071772647145888580:=0
def tw15058842258509382661:=0
def tw12273552279429603436:=0
def tw13557582258720247115:=0
def tw15810452956144709461:=0
def tw16905159901343692015:=0
def tw17688055760214813928:=0
def tw11611187496820767835:=0
def tw9045106890501705841:=0
def tw13425326995716072819:=0
def tw12125556978574283556:=0
def tw2397361295665079627:=0
def tw4933919832462043439:=0
def tw2714622540149877888:=0
def tw18044942011909449884:=0
def tw17227478608586478253:=0
def tw15695746212550233567:=0
def tw3559030103005136108:=0
def tw16568263460738472810:=0
def tw7748164402589478604:=0
def tw3627685109568190906:=0
def tw5850217694125677753:=0
def tw9474973897227292578:=0
def tw6980708242483124894:=0
def tw14803697615052973910:=0
def tw11047354503814856038:=0
def tw7218940892431365456:=0
def tw4526647496344955485:=0
def tw1167214250271678415:=0
def tw4721365957678563143:=0
def tw8197349357259812681:=0
def tw13262786837028351303:=0
def tw13005172164198451544:=0
def tw6795472353759136016:=0
def tw5562330650222000004:=0
def tw11029275153972537255:=0
def tw4541470996029362674:=0
def tw15804392202731288211:=0
def tw3187718305502139143:=0
def tw17245830710564077794:=0
def tw2878730030795802337:=0
def tw11166330914639975085:=0
def tw1425943417894604213:=0
def tw4789149882212856827:=0
def tw16937772336328934965:=0
def tw13987272355199735496:=0
def tw18134405369903445306:=0
def tw4270699941617471374:=0
def tw6748206590716067713:=0
def tw7105669742477673221:=0
def tw425199970576599887:=0
def tw10827294287675254262:=0
def tw14210750302636138069:=0
def tw5547766216062003782:=0
def tw3890593270892547022:=0
def tw13113294133142193049:=0
def tw14021782692472606507:=0
def tw8820428054745037244:=0
def tw12733415285275814626:=0
def tw6175402637773335708:=0
def tw7878068478132141926:=0
def tw3503095450345294186:=0
def tw17636863711705030706:=0
def tw310038657072387210:=0
def tw8082565578492817287:=0
def tw10522464793203150216:=0
def tw14128630421076792849:=0
def tw6108972562000418149:=0
def tw312157226493229043:=0
def tw5673829339189908279:=0
def tw6529128934180125882:=0
def tw385659148077867273:=0
def tw14488065058617264408:=0
def tw6515145275570719704:=0
def tw11127590497070941527:=0
def tw15991664195947760882:=0
def tw5502233059085924075:=0
def tw15961748656634399615:=0
def tw14392197662694054322:=0
def tw4108210535084862932:=0
def tw8161085829774106186:=0
def tw14761721489595695854:=0
def tw15967760900703892342:=0
def tw555210381647869427:=0
def tw4293787155277212730:=0
def tw3089562515698482630:=0
def tw320772251492681474:=0
def tw7785269358306984825:=0
def tw10322541443563113247:=0
def tw6222034843171769242:=0
def tw11331902662393839703:=0
def tw6020600235899698925:=0
def tw18009479803621376452:=0
def tw4369367434133958538:=0
def tw8733071372559585116:=0
def tw15459386152877705035:=0
def tw5954210154738838678:=0
def tw2247709380212879857:=0
def tw12706879250113500609:=0
def tw10417002301755161453:=0
def tw17290704945407199131:=0
def tw18068452216330462509:=0
def tw11513365283695521428:=0
def tw4066417303247578333:=0
def tw12938626693549762315:=0
def tw2001682122571292774:=0
def tw17074155118708069082:=0
def tw3551556673291686983:=0
def tw16538576115288480507:=0
def tw14542385780381343220:=0
def tw11008489857011266205:=0
def tw15366825558772246088:=0
def tw8472442188683550355:=0
def tw14289637892776049613:=0
def tw1762472246857588819:=0
def tw286319810181203825:=0
def tw18196832841536598432:=0
def tw9406009042840198499:=0
def tw6729745264526072619:=0
def tw121245899812295039:=0
def tw11380240144302374967:=0
def tw7945268464619855267:=0
def tw11054474070134982893:=0
def tw3314209917063171340:=0
def tw14901475990090236177:=0
def tw8249685989397656382:=0
def tw12406864738563648078:=0
def tw5011834060246877446:=0
def tw17300384301002504394:=0
def tw2792474326581721771:=0
def tw6669603098849166708:=0
def tw10955500603165899182:=0
def tw16299494550389497668:=0
def tw1756658812533123823:=0
def tw10454381501476918824:=0
def tw16683631638850930739:=0
def tw11123066322365167778:=0
def tw10660910474561178253:=0
def tw905442796721479683:=0
def tw16152503340769661853:=0
def tw432219449709147660:=0
def tw7324766015880507115:=0
def tw10272525792786404930:=0
def tw12840515718351107617:=0
def tw6637777980660200838:=0
def tw12410371736403604976:=0
def tw18364968858098687171:=0
def tw18361329393170961447:=0
def tw10165112283231893254:=0
def tw17168692700865831261:=0
def tw7809351849068842901:=0
def tw8178394743359258962:=0
def tw11422291270977511081:=0
def tw14991974392543553511:=0
def tw1984865063826480843:=0
def tw16966530349945870548:=0
def tw12210882617862956523:=0
def tw1176480617232890848:=0
def tw12111284938136370666:=0
def tw13781859857347223986:=0
def tw15140684159854052234:=0
def tw16071739308498991575:=0
def tw16367472224088852403:=0
def tw14137587632400700576:=0
def tw11913809914024622210:=0
def tw16519343041579626817:=0
def tw16614086170870858834:=0
def tw6859580107767344512:=0
def tw16558219047735948618:=0
def tw18414756635338634091:=0
def tw16961207164812990743:=0
def tw16607077025114019904:=0
def tw288662081997739602:=0
def tw17488812770706474447:=0
def tw3717046297781419251:=0
def tw8388408523904815096:=0
def tw13161608455803309943:=0
def tw576883362744807572:=0
def tw1256075634577890045:=0
def tw10517018882142816664:=0
def tw7662614218067520073:=0
def tw3112057133780475684:=0
def tw6501961514618370859:=0
def tw13565383550226677177:=0
def tw16498972073071128152:=0
def tw12236332313185206232:=0
def tw10784734313011037127:=0
def tw11972483788403728176:=0
def tw5358855156116476773:=0
def tw6031277630027564392:=0
def tw12705603060503187142:=0
def tw10839415622054348822:=0
def tw11978865885943147618:=0
def tw5375750521839705746:=0
def tw8396448421334702328:=0
def tw14914747711053312313:=0
def tw1533409703352492601:=0
def tw15411381473907288374:=0
def tw15858804824168358355:=0
def tw17322227639293941219:=0
def tw8239650533212354667:=0
def tw3938499536108578943:=0
def tw4628350205862206837:=0
def tw5439359167324850885:=0
def tw16414785895079098710:=0
def tw6027852485948027208:=0
def tw17579351450192504777:=0
def tw6800003917850966732:=0
def tw11357813817495191413:=0
def tw11109536769667164925:=0
def tw8269525227504690166:=0
def tw5965450397938721432:=0
def tw16616530188517281292:=0
def tw3890366440977132136:=0
def tw5364360706445776899:=0
def tw2781211399544113227:=0
def tw6968518685931198438:=0
def tw11980381734512449241:=0
def tw18385354170621893116:=0
def tw973233567980446328:=0
def tw10486293295688486938:=0
def tw7260750485556703730:=0
def tw8308521013631221308:=0
def tw15850770773235201189:=0
def tw18085603171136116583:=0
def tw2969689907523449887:=0
def tw5164014403919414113:=0
def tw7562634653547998493:=0
def tw9168591647973796408:=0
def tw6767224917231715549:=0
def tw11816947413658169069:=0
def tw3725512331719150129:=0
def tw8201866398569741713:=0
def tw8946358739767961283:=0
def tw4998552827857753532:=0
def tw6205575236099351722:=0
def tw16272349540937395699:=0
def tw17350811672414859988:=0
def tw7379332010699240720:=0
def tw10263981276530733446:=0
def tw14471119179632796052:=0
def tw17634785972470500091:=0
def tw17011784055207875136:=0
def tw914334287034539128:=0
def tw9701108416355519174:=0
def tw14227720018684231854:=0
def tw6843528480024225891:=0
def tw8356992352128666920:=0
def tw10230210181067843432:=0
def tw11009830848774585707:=0
def tw1861030900373923572:=0
def tw12670459763553508276:=0
def tw17215000016825193737:=0
def tw2336862338224124273:=0
def tw1703010532793520041:=0
def tw15981010242963899323:=0
def tw15031387338273299732:=0
def tw8637061837672501401:=0
def tw10473062522919128364:=0
def tw11061523415185157660:=0
def tw1752095301139936387:=0
def tw2928687290138543465:=0
def tw1202475818258544238:=0
def tw12497046540397022121:=0
def tw16098365316292676317:=0
def tw9408320878511734708:=0
def tw1765257809165975491:=0
def tw3174156510940567560:=0
def tw3087441078189716116:=0
def tw8625744025720576797:=0
def tw12539592589127390221:=0
def tw4763017095081680065:=0
def tw7455324118022246277:=0
def tw5522999771688183924:=0
def tw12784549420487127662:=0
def tw14577699200410780857:=0
def tw5663325886431423332:=0
def tw12681744407271929243:=0
def tw3114266175787747529:=0
def tw18171627405080590173:=0
def tw3632427949887495401:=0
def tw14464487127302188683:=0
def tw18335976360058709397:=0
def tw5575694995997634263:=0
def tw241973397517664934:=0
def tw5692492958990506971:=0
def tw4891321221062215958:=0
def tw8887877695513817443:=0
def tw17906917899676985431:=0
def tw4257433335804143516:=0
def tw11289036429219687106:=0
def tw15464373786308104529:=0
def tw1044838836462888698:=0
def tw10855508751042844353:=0
def tw7266807369616527624:=0
def tw3729276618991651639:=0
def tw6223516187888120282:=0
def tw816019876750198932:=0
def tw4215973628510186375:=0
def tw6427615118997251527:=0
def tw11820597497140968616:=0
def tw13755718708754543725:=0
def tw705255120399007454:=0
def tw9430500123610826214:=0
def tw7701913465110616399:=0
def tw5142109149522236266:=0
def tw1148373045949628365:=0
def tw686715696556742113:=0
def tw639178277236375639:=0
def tw10224773782370242712:=0
def tw14009754746321948004:=0
def tw18160061659095232720:=0
def tw18417440437233726298:=0
def tw2830965191547408292:=0
def tw3796721603682136157:=0
def tw5609647046465472083:=0
def tw8401551420111779994:=0
def tw8927980721424158237:=0
def tw2761923653310522692:=0
def tw1370380872592213992:=0
def tw5835938280497384685:=0
def tw6006555369201001444:=0
def tw4111435638722890543:=0
def tw15207952396364664345:=0
def tw3009896106379918527:=0
def tw14332837443436709601:=0
def tw11688034735291558126:=0
def tw12623383569555484712:=0
def tw12652707045367746435:=0
def tw13840511344398085852:=0
def tw14604678036605401081:=0
def tw18186629311398392339:=0
def tw4780189858639678090:=0
def tw2582519939101851524:=0
def tw1112998002454090020:=0
def tw14453168516495162176:=0
def tw15919677473536848977:=0
def tw3307181871102098751:=0
def tw3563517177401455405:=0
def tw15369856991038961727:=0
def tw2918689438142330434:=0
def tw3401007506335058329:=0
def tw5368012973658460311:=0
def tw5370288130985698190:=0
def tw6035598747151815586:=0
def tw1144100212330538309:=0
def tw11498213471792150448:=0
def tw17809257746565441186:=0
def tw8762470969455963546:=0
def tw9541803680917310498:=0
def tw12578679852039963785:=0
def tw15887973796823231153:=0
def tw10399875266393695397:=0
def tw14475435825125248014:=0
def tw16259810933857962129:=0
def tw432692380665846000:=0
def tw5316286488588522391:=0
def tw5410404123199682051:=0
def tw6209109012865335455:=0
def tw6580673682403278603:=0
def tw810306935092727126:=0
def tw17907857033303215152:=0
def tw14966376805086556095:=0
def tw1564448066610685037:=0
def tw11155244131992107697:=0
def tw12111495441252021412:=0
def tw15231479686178585046:=0
def tw2594251098526755701:=0
def tw4525557226480232378:=0
def tw7151793339074401003:=0
def tw7880145617419193918:=0
def tw9852081167829077505:=0
def tw11027940553243935546:=0
def tw1238341181261663008:=0
def tw14539061998496117713:=0
def tw1610131218906481399:=0
def tw18126895529736644363:=0
def tw2272815510950900518:=0
def tw2915201390876371091:=0
def tw6135342966820680640:=0
def tw6293241027181134147:=0
def tw821216282013557813:=0
def tw2109695435010930306:=0
def tw10381719751819892485:=0
def tw10443826294116842775:=0
def tw11577000620253213635:=0
def tw11699021389737430813:=0
def tw13490745621078667154:=0
def tw15385258338818608200:=0
def tw2146465932896492187:=0
def tw4916146289709625102:=0
def tw5283580176025615578:=0
def tw6046663874119373277:=0
def tw6677161716030813685:=0
def tw8069537578694118302:=0
def tw8442342468730545283:=0
def tw9845193440416182576:=0
def tw2633162221009173894:=0
def tw13145861176645301254:=0
def tw13359674679998397066:=0
def tw13749483759983701226:=0
def tw14889958824795889299:=0
def tw15684047234479743528:=0
def tw16306904176812907471:=0
def tw1642756486364629784:=0
def tw16434700860717089517:=0
def tw17552673361974482605:=0
def tw2312166753945542752:=0
def tw2590677899042130519:=0
def tw2737804302195447623:=0
def tw8000967744680665577:=0
def tw8935106058070621173:=0
def tw11901683605277559510:=0
def tw10484271691522623416:=0
def tw11337799510741476822:=0
def tw12486730229430086704:=0
def tw12640291151212482494:=0
def tw13996730930785472933:=0
def tw15833335478073970707:=0
def tw17418815705372886282:=0
def tw2295462243513067447:=0
def tw3795078776126549149:=0
def tw8088442396878386603:=0
def tw13174391278948490388:=0
def tw1367413289663996376:=0
def tw149204178709878334:=0
def tw1762739093474884846:=0
def tw17710779015680884497:=0
def tw2234610453067780701:=0
def tw260827201269922724:=0
def tw2881405377818171556:=0
def tw3537194483332021152:=0
def tw4837705202223533801:=0
def tw6372959567768371590:=0
def tw8775573553440931336:=0
def tw8945379370269449413:=0
def tw1002906944928867380:=0
def tw10031030788072338884:=0
def tw10072756287450675378:=0
def tw10172347078070188279:=0
def tw10273467536758614486:=0
def tw104049466283566191:=0
def tw1046192732131700058:=0
def tw10507972880495723499:=0
def tw10565020323711378527:=0
def tw10587586948178355188:=0
def tw10626365465448523194:=0
def tw10843701104505413678:=0
def tw11028362897610509221:=0
def tw11075112656133370875:=0
def tw11088148817049416672:=0
def tw11126599139111762395:=0
def tw11264608399089450268:=0
def tw1138066772411778778:=0
def tw11467464956527252629:=0
def tw11493715344754246204:=0
def tw1159430487539074181:=0
def tw11737130483210606263:=0
def tw11853939664853509378:=0
def tw11914621855047868743:=0
def tw12031863614049889055:=0
def tw12036791899849992354:=0
def tw12070136792314553333:=0
def tw12099661494652046240:=0
def tw1215140895248738706:=0
def tw12191825305123623073:=0
def tw12281407087215414773:=0
def tw12463811986454775388:=0
def tw12502411798151860828:=0
def tw12537253083811160589:=0
def tw12560402530915391894:=0
def tw12672009582124490148:=0
def tw12701004451276684629:=0
def tw12771378293905193656:=0
def tw12868805582268371066:=0
def tw12877805606715458036:=0
def tw12927789911736178046:=0
def tw12934314337373815542:=0
def tw13004565175887339581:=0
def tw13090989424522580265:=0
def tw13118910229278486539:=0
def tw13153982527670157030:=0
def tw1317002485553344193:=0
def tw13241850142201985408:=0
def tw13292128738086994666:=0
def tw13402970079788028034:=0
def tw13430721148827074029:=0
def tw13511192966851367840:=0
def tw13579716021509203877:=0
def tw13704168261290534130:=0
def tw13756796918208026492:=0
def tw13810034239658575300:=0
def tw13839094980780485207:=0
def tw13857438048763517773:=0
def tw13865595752560451803:=0
def tw13865851320420536009:=0
def tw13877735394546465246:=0
def tw13878998013052478808:=0
def tw14142183699506886111:=0
def tw14143682260645409749:=0
def tw14166646057421679883:=0
def tw14208997306733116129:=0
def tw14286104094162190313:=0
def tw14421903364897645649:=0
def tw14448529243890713320:=0
def tw14543189282509537997:=0
def tw14549336428635204344:=0
def tw14660087136321050897:=0
def tw14740484097264527095:=0
def tw14787529431838375210:=0
def tw15099413046793826081:=0
def tw15216846759065267424:=0
def tw15503815558904807855:=0
def tw15525574319363687794:=0
def tw15738100931133106934:=0
def tw15858781912311484012:=0
def tw15866079236116439969:=0
def tw15894535830226526113:=0
def tw15937556518659542880:=0
def tw1600874585107981777:=0
def tw16010532207437709608:=0
def tw16014554741800625262:=0
def tw16208265757458476594:=0
def tw16211811395543670752:=0
def tw16290721724946160233:=0
def tw16317011657138349443:=0
def tw16378096222838763365:=0
def tw16403080225309469166:=0
def tw16463810388711761588:=0
def tw16542831842527948430:=0
def tw16555748176092851315:=0
def tw16643559078409660597:=0
def tw16847028378884002283:=0
def tw16937843243061793567:=0
def tw16952742139407999753:=0
def tw16972419487287500643:=0
def tw1704742516920781669:=0
def tw17073506296122562466:=0
def tw17102592938926139401:=0
def tw1717747014279517602:=0
def tw17191496205629218331:=0
def tw17196680588321025375:=0
def tw171985923050987697:=0
def tw17230658602026130905:=0
def tw17358698787390958726:=0
def tw17368082048722557578:=0
def tw17444094225936570301:=0
def tw17449138767915317311:=0
def tw17454898098214382354:=0
def tw17544039839870178861:=0
def tw17686529511331171188:=0
def tw17849169791466691306:=0
def tw17873996572924257350:=0
def tw18142088715840511808:=0
def tw18173614328591902518:=0
def tw18245386518957605388:=0
def tw18260715446250572575:=0
def tw1879667805920887221:=0
def tw1881109949450061278:=0
def tw1991560619257734571:=0
def tw2002723869208446364:=0
def tw218543773462442544:=0
def tw220151492591161742:=0
def tw2268880729184461636:=0
def tw2392070677906450965:=0
def tw2395771758436974175:=0
def tw2508924462729135456:=0
def tw2541093048218340434:=0
def tw2580898249060033665:=0
def tw285655989227464187:=0
def tw291887531244475997:=0
def tw3143949348342090949:=0
def tw3323158158576159287:=0
def tw3334773177715010841:=0
def tw3363385700728833485:=0
def tw3397856504589777613:=0
def tw3508566860767450012:=0
def tw3510851570417322674:=0
def tw3619380003732329321:=0
def tw3886609247882765189:=0
def tw3919603234393920135:=0
def tw4113835702391190505:=0
def tw4191507692297909599:=0
def tw4434101525687478610:=0
def tw4672563720173277367:=0
def tw4791835571811534731:=0
def tw4845257748615080949:=0
def tw4862912379669224157:=0
def tw5051303183096640294:=0
def tw5131694103748055942:=0
def tw5334152107782174675:=0
def tw5424063716389240434:=0
def tw5444499647332431169:=0
def tw5531168384375224136:=0
def tw5742714804012631940:=0
def tw5747117606617873374:=0
def tw5828289157646402533:=0
def tw6209429300474586984:=0
def tw6339889148428441449:=0
def tw6363779638735867920:=0
def tw6427085560754474882:=0
def tw6538185715683214742:=0
def tw6679290347867679190:=0
def tw6697655026046492536:=0
def tw6773273402852718784:=0
def tw6876927007368798734:=0
def tw6910922830217714049:=0
def tw7059720822102977738:=0
def tw708245200174693899:=0
def tw7107041668919884198:=0
def tw7233188951587885883:=0
def tw7240774500419267203:=0
def tw7278636259627139396:=0
def tw7308687583092929665:=0
def tw7332573448388267076:=0
def tw7512230650966684898:=0
def tw7525645009248480072:=0
def tw7548218003303611273:=0
def tw7604996895881988918:=0
def tw7668505626432575195:=0
def tw7672667707875868814:=0
def tw7715737193918891145:=0
def tw7926911224076507830:=0
def tw7992660074036749030:=0
def tw8055031599741345142:=0
def tw8384312483548071787:=0
def tw8486880163789335235:=0
def tw8538510328061283272:=0
def tw8682980212963173629:=0
def tw8857798402438015203:=0
def tw8870811616675163647:=0
def tw8887945719126540488:=0
def tw8984730560449244275:=0
def tw9033531228217007184:=0
def tw9143367150562965545:=0
def tw9298141497328907712:=0
def tw9797864118751438923:=0
end PySem.W.Fast
set_option maxRecDepth 100000 in
set_option maxHeartbeats 0 in
theorem PySem.Challenge.cw_fewspeak_k95_whole_weights_over_those_dr_holds : PySem.Challenge.rw_fewspeak_k95_whole_weights_over_those_dr.Holds := by
 w_on;o_law;k_head;(case hw=>w_witness2)
 k_fill
 refine L2.walk_ofT (l:=PySem.Challenge.rw_fewspeak_k95_whole_weights_over_those_dr) (n:=63) (k:=My.lawK) (x := "_law_script") (CX:=L2.CX0) (sp:=My.spLaw) rfl (by decide) rfl ⟨rfl,by decide,by decide⟩ (λw h Y=>⟨PySem.W.km_in_of Y,PySem.W.km_tabs_of Y⟩) ?F ?S ?C
 case F =>
  intro ts' hts w mg fa h KX G hmg
  have T:∃ a,My.Txt (L2.KOf KX) mg a/\(My.tabs a).map (·.1)=ts':=by
   rw[hts];dsimp only[L2.KOf];refine' ⟨?a,?T,?E⟩;apply My.Ad.mk
   (case E=>exact rfl)
   case T =>
    constructor
    all_goals try dsimp only
    (case m_is_bounded_led | m_is_bounded_lacking | mc_f | mc_r | mc_Z | mc_w | mc_L=>exact mg_of KX G (by k_is))
    (case g_LETTERS | g_MOST_LETTERS | g_MOST_SUMS | g_MOST_SUM | g_MOST_UNITS_led | g_MOST_WEIGHT_led | g_MOST_MANY | g_NOUGHT | g_WHOLE | g_TWICE | g_MOST_ANSWERS | g_MOST_WEIGHT_lacking | g_ANSWER_BOUND | g_MOST_UNITS_listings | g_MOST_LEVELS | g_VALUE_BOUND | g_MOST_SIZE | g_UNIT_PARTS=>exact⟨_,mg_of KX G (by k_is),by first | exact rfl | exact⟨_,rfl⟩⟩)
    (case W_K | W_aq | W_o | W_e | W_aM | W_p | W_aS | W_aH | W_as | W_Y | W_q | W_at | W_O | W_aa | W_i=>exact My.fnd_mk KX G (λ_ _ _ _ _ _=>My.w3 λ_ _ _=>rfl) (by k_is) (by k_is) (by k_is) (by k_is))
    (case W_aD | W_k | W_y | W_ai | W_aj | W_h | W_P | W_D | W_I | W_aI | W_aJ | W_V | W_aB | W_aE | W_H | W_aF=>exact My.fnd_mk KX G (λ_ _ _ _ _ _=>My.w1 λ_=>rfl) (by k_is) (by k_is) (by k_is) (by k_is))
    (case W_af | W_X | W_E | W_ak | W_aw | W_x | W_az | W_ad | W_ab | W_aK=>exact My.fnd_mk KX G (λ_ _ _ _ _ _=>My.w4 λ_ _ _ _=>rfl) (by k_is) (by k_is) (by k_is) (by k_is))
    (case W_ar | W_ah | W_t | W_ag | W_aP | W_aG | W_aA | W_aQ | W_aL | W_W | W_ay | W_aN | W_j | W_ac | W_v | W_c | W_ap | W_S | W_g | W_l | W_au | W_d | W_al | W_ae | W_ax | W_am | W_T | W_an | W_aR | W_av | W_aO | W_aC=>exact My.fnd_mk KX G (λ_ _ _ _ _ _=>My.w2 λ_ _=>rfl) (by k_is) (by k_is) (by k_is) (by k_is))
    (case W_ao=>exact My.fnd_mk KX G (λ_ _ _ _ _ _=>My.w6 λ_ _ _ _ _ _=>rfl) (by k_is) (by k_is) (by k_is) (by k_is))
    (case cl_f | cl_r | cl_Z | cl_w | cl_L=>constructor <;> first | k_is | kernel_rfl)
    (case mk_f | mk_r | mk_Z | mk_w | mk_L=>constructor <;> first | k_is | kernel_rfl)
    (case na_Told_rising | na_Die_makes | na_Few_many | na_Loose_many | na_Duel_many=>exact My.na_mk (by first | k_is | kernel_rfl))
    (case mt_m | mt_B | mt_z | mt_R | mt_s | mt_M | mt_C | mt_U | mt_u | mt_Q | mt_b | mt_N | mt_n | mt_a | mt_A | mt_J | mt_F | mt_G=>constructor <;> first | k_is | kernel_rfl)
    (case z_abs | z_all | z_bool | z_enumerate | z_int | z_isinstance | z_len | z_list | z_max | z_min | z_range | z_sorted | z_str | z_sum | z_tuple | z_zip=>exact PySem.W.mg_none_of KX G (by k_is))
    (case W_is_bounded_led | W_is_bounded_lacking=>exact My.mnd_mk (λ_ _ _ _ _ _=>My.w3 λ_ _ _=>rfl) (by k_is) (by k_is) (by k_is))
    (case Wi_f | Wi_r | Wi_Z | Wi_w | Wi_L | W_u | W_Q | W_n | W_J | W_b | W_a | W_F | W_N | W_A | W_G=>exact My.mnd_mk (λ_ _ _ _ _ _=>My.w2 λ_ _=>rfl) (by k_is) (by k_is) (by k_is))
    (case W_m | W_s | W_B | W_M | W_z | W_C | W_R | W_U=>exact My.mnd_mk (λ_ _ _ _ _ _=>My.w1 λ_=>rfl) (by k_is) (by k_is) (by k_is))
    (case lcd_d | lcd_l | lcd_g | lcd_a | lcd_c | lcd_b | lcd_q | lcd_e=>exact rfl)
    (case t_NOUGHT | t_WHOLE | t_TWICE=>kernel_rfl)
    (case lch_d | lch_l | lch_g | lch_a | lch_c | lch_b | lch_q | lch_e=>exact My.lch_mk (by k_is) (by exact rfl) (by kernel_rfl))
    (case tnd=>dsimp only[My.tabs,List.map];decide)
    (case bl=>exact λs u=>.of_eq rfl)
  obtain⟨a,T,e1⟩:=T;have e1:=e1.trans hts;have e0:=hmg.symm.trans T.W_aF.C;cases e0;refine' ⟨a.d_aF,?b,?t,?u,λbase kb nb hB=>My.ok_law T hB ?v⟩
  case b=>exact T.bl
  case t =>
   intro P hP;have hP:=e1.symm ▸ hP;simp only[My.tabs,l_,Lz,i_,xo,or_false]at hP
   rcases hP with rfl | rfl | rfl | rfl | rfl | rfl | rfl | rfl
   .exact⟨_,T.lch_d⟩
   .exact⟨_,T.lch_l⟩
   .exact⟨_,T.lch_g⟩
   .exact⟨_,T.lch_a⟩
   .exact⟨_,T.lch_c⟩
   .exact⟨_,T.lch_b⟩
   .exact⟨_,T.lch_q⟩
   .exact⟨_,T.lch_e⟩
  case u =>
   intro P hP;simp only[i_,xo,or_false]at hP
   rcases hP with rfl | rfl | rfl | rfl | rfl | rfl | rfl | rfl <;> kernel_rfl
  case v =>
   intro q hq;rw[<- e1];exact List.mem_map_of_mem hq
 case S=>exact λK H a ns hl hO hS=>My.law_start hl hO hS
 case C=>exact λH s e s' z=>z
