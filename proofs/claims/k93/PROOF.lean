import PyProof.Rows.All
import Wide.All
import OpenK.AllK
import Wide.FinOn
import Lean
import PyProof.EqAt
import PyProof.EqKinds
import PyProof.TupleCall
import PySem.Challenge.RW_fewspeak_k93_whole_streams_and_plans
open PySem renaming wpAny_bind->a_,Value->b_,Shared->e_,wpAny_pure->fL,Program->hH,wpAny->ig,sizeLine_eq->j_,starEach->lg,model->lh,World->lA,Around->m_,rawInt->n7,mainGlobals->oe,cellsFrom->oi,wpAny_newObj_type->pw,bootBuiltins->px,FuncData->p_,wpAny_Call_Name_kw->ql,mem_of_lookup->q_,wpAny_mono->rc,compareOp->re,sysModules->sN,wpAny_holding->u_,codeAmong->ve,TriplesOk->w_,wpAny_truthy_bool->z3,backTo->z_,NameKind->A2,codeAny_mono->A5,wpAny_execs_cons->B0,wpAny_call_entry->B1,Scope->D_,wpAny_loadPart_at->EC,attributeBase->EF,wpAny_typeNameOfWhole_keyiter->ES,assignEach->EU,PyData->EW,wpAny_passesOwn->E1,binaryOp->E2,codeAny_call_function->E5,builtinsNs->E8,codeAny->E_,wpAny_typeNameOf_keyiter->Fg,wpAny_call->Fk,call_meets->Fl,wpAny_field->Fm,wpAny_getItem_str_slice->Fo,Within->Fv,DictEntry->FA,wpAny_standAt->FE,Builtin->FG,keywordEach->FK,sliceBounds->FL,cLine->FR,swapsWith->FU,bindArgs->FW,wpAny_newFunctionEnv_cells->FY,closureFor->F0,tupleKind_room_in1->F3,wpAny_setField->F4,codeAmong_snoc->F5,wpAny_Return_some->Gg,Keyword->Gh,wpAny_dictEntries->Gj,wpAny_newList->Gp,tupleKind->Gx,wpAny_callSpecial?_slot->Gy,InCallC->GJ,codeAny_func->GK,typeIs_str->GL,wpAny_execs_nil->GT,post_val_or_str->GU,codeAny_builtin->GW,backToKw->G2,bindL->G3,bindC->G4,wpAny_newFunctionEnv->G6,atKey->G8,storeName->Hg,getItem->Hi,behindInMarks->Ht,wpAny_rule->Hy,Model->HN,foldedSetIterable->HQ,callerA->HS,relabel->HU,valueAt->HV,wpAny_pyIter_list->HW,plainObj_wpAny_Assign_Attribute->Ig,wpAny_eqBool_int->Il,Arguments->Io,IsPart->Ip,noteFrame->Iq,subscripted->IE,strIterType->IF,letOwnedTupleGo->IK,wpAny_dictEpoch->IM,assign->IW,Operator->IX,newFunctionEnv->Jb,dictSetDefault->Je,assignInOrder->Jp,wpAny_comprehension_free->Js,getMethod->Jz,pyNext->JI,wpAny_pyNext_list_item->JJ,standAt->JK,BindsTo->JM,name_of_addr->JN,wpAny_typeOf->JP,typeOf->JR,call_meetsIn->JT,instanceDict->JU,wpAny_storeName_local->J3,wpAny_pyNext_list_end->J4,wpAny_notOrdered_dict->J7,wpAny_isOneOf_keyiter->J8,GenState->Kb,wpAny_storeName_cell->Kc,wpAny_loadName_local->Ke,unpackItems->Kf,bindName->Kg,excClassObj->Kn,storedH_new->Ks,annTrees->Kx,wpAny_loadName_cell->KD,wpAny_functionCodeX->KI,isTrue->KO,wpAny_Name->KP,wpAny_load->KQ,typeLookup->KS,typeIs_int->KW,cellOf->KY,isInstance->K0,wpAny_tupleItemsOf->K2,wpAny_assign_Name->K5,holding->K7,setAttr->K8,wpAny_pyIter_strU->La,newList->Lc,storedH->Ld,wpAny_Call_method->Le,wpAny_pyIter_enum->Lg,OwnTail->Lh,wpAny_builtinsFor->Lj,inplaceOp->Ll,PassesOwn->Lm,wpAny_lookBehind->Lo,pastItsLine_dict->Lp,raiseStmt->Lv,wpAny_isInstance->Lz,wpAny_specialOf->LA,pushCells_keeps->LG,wpAny_bindName->LH,pyIter->LI,Result->LK,recursionLimit->LM,pick_run->LO,sliceRange_one->LP,setField->LR,intBits_le_iff->LS,wpAny_runValue->LU,wpAny_fieldsOf->LX,firstArgMember->LY
open PySem.Heap renaming get?_push_of_some->c_,lt_size->f_,get?_push_size->ie,get?_update_self->A7,SameBut->EA,get?_update_other->EH,size_push->Fh,get?_update_ne->GV,ExtBut->HG,get?_none_of_le->Ji
open List renaming length_map->d_,getElem?_eq_some_iff->fP,getElem?_map->gb,mem_of_getElem?->ge,mem_cons_self->gT,length_append->gV,mem_cons_of_mem->hI,mem_singleton->ir,mem_cons->i_,getElem?_eq_getElem->ki,mem_append_right->li,range->lj,replicate->l4,map_cons->l_,length_take->mx,size_toArray->nf,mem_map->nh,map_append->nv,all_eq_true->oo,take_length->oD,take_add_one->oN,getElem?_append_right->o_,length_cons->py,getElem?_append_left->p0,take_of_length_le->rb,nodup_append->rD,nodup_cons->sr,pairwise_iff_getElem->tW,map->t_,getElem?_of_mem->v_,mem_append->wh,mem_append_left->z4,length_range->A6,map_map->A8,mem_range->A9,sum_cons->Ez,toArray->EI,length_replicate->EK,getD->EQ,lookup->E3,getD_eq_getElem?_getD->E4,find?_cons->Fc,mem_of_mem_take->Fi,append_nil->Fj,length_drop->Fn,of_mem_zip->Fy,getElem?_range->FB,pairwise_cons->FH,replicate_succ->FZ,pairwise_singleton->F7,length_eq_zero_iff->F9,lookup_cons->Gi,filter_append->Gq,length_singleton->Gv,length_filter_le->GE,length->GF,map_nil->GM,filterMap_cons->GS,any_cons->G5,cons_append->G7,map_congr_left->Hb,not_mem_nil->He,flatten_replicate_singleton->Hj,foldl_cons->HD,length_set->HI,flatten_cons->HR,nodup_nil->Ir,drop_eq_getElem_cons->Ix,mem_or_eq_of_mem_set->Iy,getElem?_take_of_lt->ID,nodup_range->IG,eq_of_mem_replicate->IJ,getElem?_replicate->IL,getElem?_set_self->IN,length_pos_of_mem->IT,nil_append->Ja,sum_append->Jf,getElem?_set_ne->Jj,take_succ_cons->Ju,length_pos_iff->Jw,mem_map_of_mem->Jx,mem_filterMap->Jy,foldl->JB,zip_cons_cons->JD,lookup_append->JF,map_replicate->JG,take_sublist->JO,mapM_toArray->JX,all_map->JY,pairwise_map->JZ,filter_congr->J1,filter_cons->J9,getElem_set->J_,isEmpty_nil->Ka,forIn_cons->Kl,getElem_mem->Ku,all_toArray->Kv,range_succ->Ky,map_take->Kz,filter_map->KB,foldl_nil->KG,mem_filter->KN,length_nil->KZ,drop_zero->Ls,take_zero->Lu,map_drop->L4
open Nat renaming le_refl->fS,lt_of_lt_of_le->g_,zero_le->h_,ne_of_lt->kw,le_trans->lB,lt_irrefl->o5,le_of_lt->rA,le_succ->Fs,ne_of_gt->FJ,lt_of_le_of_lt->FO,min_eq_left->Gw,lt_trans->Hm,lt_succ_self->Hz,min_le_right->HC,le_mul_of_pos_right->IR,le_of_eq->IY,pow_le_pow_right->Jt,lt_trichotomy->J6,succ_lt_succ->KA,not_lt_zero->KJ
open Bool renaming false_ne_true->hY,and_eq_true->il,false_eq_true->pa,eq_iff_iff->Ft,not_true->GY,not_eq_true'->JV,or_eq_true->KC
open Option.some renaming inj->k7
open False renaming elim->k_
open PySem.Value renaming ref->lb,none->n_,type->ra,int->C_,str->Hl,bool->HM,float->IV
open Array renaming toList_append->nw,length_toList->y2,getElem?_eq_some_iff->A3,getElem?_eq_getElem->C1,getElem?_toList->EO,append_assoc->E9,perm_iff_toList_perm->FM,getElem?_eq_none->Ge,toArray_toList->Jd,find?_toList->Jq
open Int renaming gcd->o0,toNat_natCast->ub,le_of_dvd->ER,emod_nonneg->FC,emod_lt_of_pos->FQ,gcd_dvd_right->FV,mul_ediv_cancel_left->F8,zero_add->Gr,le_trans->Gs,natAbs_dvd_natAbs->GD,natAbs_mul->GO,mul_pos->GR,mul_comm->Hq,ediv_le_self->HJ,le_refl->HL,gcd_pos_of_ne_zero_right->Ib,ediv_nonneg->Ie,mul_neg_of_pos_of_neg->IH,lt_or_le->Jg,lcm->Jh,ediv_mul_cancel->JC,mul_ediv_assoc->JW,gcd_dvd_left->Ko,natCast_add->KL,mul_nonneg->K4
open PySem.NameKind renaming free->qb,cell->GB
open PySem.Paired renaming length->rn
open Sum renaming inl->r_,inr->Hk
open PySem.PassesOwn renaming never->s_
open Or renaming inl->uS,inr->HK
open PySem.Builtin.Str renaming strSliceIndices->wk,occurrences->E6
open True renaming intro->x_
open Option renaming none->y_,map_eq_some_iff->EG,isSome_iff_exists->FS,map_some->Gb,isSome_some->Jl,isSome_none->Jn,getD_none->JA,bind_some->JE
open PyProof.Rows renaming seqObj->A1,callWith_type1->EE,IntsAre->Fb,AllBare->FD,slot_tuple_getitem->Gz,bubble->GQ,SortKind->G_,listUpdate_at->Hv,assignInOrder_cons->Hx,listItems_at->HZ,subscriptTail->Jr,subscriptTail_builtinR->JQ,entry_proto_collect'->Kq,seqEpoch_at->Kt,Subscript_->KU,assignInOrder_nil->K6,entry_list_iadd'->Lw,get?_update_seq->LB,entry_list_sort->LC,oneTypeOnly'_eq->LF,slicePart_none->LN,slot_list_sort->LV,args_list_sort->LW,keyKind'->LZ,general'->L0,keyLt'->L3
open ForInStep renaming yield->A4
open Ne renaming symm->A_
open PySem.W renaming kas_place->B_,codeHdIn->ED,findIn->EJ,kas_rev->Fd,keepIn->Fp,emptyDict->Fw,tabObj->Fz,kas_asc->FI,cellsFrom_some->FX,kas_desc->F6,kas_tail3->GC,Looks->GG,callWith_K->GI,kas_descPart->GP,fnMade->Hc,instObj->Hf,kla_makeFunctionHit->Hu,kla_makeFunction->HY,kas_bin->H_,makeFunction_hit->Ic,looks_clsIn->IB,kla_obj->IS,mroIn->I7,codeIn->I_,CodeHd->Jc,looks_findIn->JL,plainGet->Kh,plainGet_of->Ki,codeHd_of_K->Kp,kas_sort->Kr,codeRec_of->KR,kas_ask->Li,methodObj->Lk,hasDictIn->Ln,kas_count->Lx,lookIn->LJ,typeIn->LL,clsIn->LQ
open PySem.PyData renaming canLayAll0->D0,canLay0->Fe,strOk->Fu,eqv->FF,depth->Ga,depthAll->Gf,int->Jo
open PySem.Obj renaming mapFields->EB,mapSeq->EL,data_mapFields->EM,isFreed_of_fields->EX,data_mapDictKeys->Jv,cls_mapFields->J5
open PySem.Builtin.Slice renaming slicePlaces->EN,sliceAdjust->Fq,sliceApplied->GX
open PySem.Heap.SameBut renaming update->ET
open PySem.Builtin.Tuple renaming tupleExact->EV
open PySem.F renaming slot_dict_keyiterator_next->EY,plainAttrs_list->F_,slot_dict_get->Gc,slot_tuple_lt->GH,args_str_split_2->Ho,slot_dict_setdefault->Hr,entry_str_split->HE,excBase_ValueError->HF,slot_str_split->HX,args_dict_keyiterator_next_1->Ia,args_dict_get_3->Ih,plainAttrs_dict->Ii,entry_dict_keyiterator_next->Ik,entry_dict_get->Is,slot_list_append->Kj,slot_list_extend->Kk,args_tuple_lt_2->KF,slot_list_index->KM,slot_dict_iter->K1,entry_tuple_lt->K3,slot_list_pop->K9,slot_int_rmul->K_
open PySem.Builtin.List renaming listTooLong->EZ,listExtendWith->GZ
open PySem.Builtin.ObjectAttr renaming storeInDict->E7,storeInOwnDict->FT
open PySem.Calls renaming spliced_cons->Fa,callWith_builtin->Ff,evalArgs_plain->GA,spliced_nil->G0,Name_function_global->HP
open PySem.Code renaming quiet_builtin->FN,isFrame->IP
open Classical renaming choose->FP,byContradiction->Hw,choose_spec->Ij
open PySem.Builtin.Dict_items renaming ownsTuple->Gm
open PySem.Str renaming ofString->Gn
open List.Pairwise renaming nil->Go
open PySem.Around renaming frames_deeper->Gu,under->IC
open PySem.SeqAt renaming shaped->G9,EqAt->Lr
open PySem.Txt renaming slice_le->Hn,split->IQ,slice->Km
open Rat renaming divInt_eq_div->Hs,divInt_ofNat->Kw,intCast_add->KH
open PySem.Builtin.Dict renaming showsAll->HH
open PySem.Within renaming cons->Im
open PySem.W.Looks renaming ld->Iu
open PySem.EntryCells renaming newEntry->Iw
open PySem.SeqAt.EqAt renaming int_str->Iz,str_int->IA
open List.Perm renaming nodup_iff->II
open PySem.Heap.Ns1 renaming of_empty->IZ
open PySem.Data renaming fields->Jk
open List.cons renaming injEq->Jm
open PyProof.Rows.IsTup renaming new->JH
open Prod renaming snd->KE
open PySem.W(CodeHd FnAt Frag InstAt any_some callWith_F callWith_K callWith_K0 cellsFrom_some clsIn codeHdIn codeHd_of_K codeIn codeRec_of emptyDict findIn fnMade fnOf fnX handedIn hasDictIn instObj isFn keepIn kitOne kitx_dict kitx_list kitx_tuple kla_eval kla_fn kla_obj lookIn looks_clsIn looks_findIn looks_mroIn makesIn methodCall_KW methodObj mg_of mroIn nestDef_K nsIn nsOkIn osa_eq plainGet plainGet_of plainOver tabObj tailIn takerIn typeIn)
open List(all_cons all_eq_true all_map all_toArray any_cons any_map append_assoc append_nil cons_append drop_zero filter_append filter_congr flatten_cons foldl_cons getElem_mem length_append length_cons length_drop length_filter_le length_map length_nil length_range length_replicate length_set length_take lookup_cons mapM_toArray map_append map_congr_left map_cons map_drop map_id map_map map_nil map_take mem_append mem_append_left mem_append_right mem_cons mem_cons_of_mem mem_cons_self mem_filter mem_map mem_of_mem_take mem_range mem_singleton nil_append nodup_append nodup_cons nodup_nil nodup_range not_mem_nil of_mem_zip pairwise_cons pairwise_iff_getElem pairwise_map pairwise_singleton replicate_succ size_toArray sum_append sum_cons sum_nil take_add_one take_length take_of_length_le take_zero)
noncomputable section
set_option Elab.async false
set_option linter.all false
set_option maxRecDepth 100000
namespace L2
open PySem PySem.Spec PyProof.Rows
abbrev Key:=Sum Int Str
def mw:Key->b_->Bool
 | .inl k,v=>Value.isInt k v
 | .inr x,v=>Value.isStrOf x v
def DL(w:lA):Key->Int
 | .inl k=>hashInt k
 | .inr x=>hashStr w x
def bz:∀{k:Key}{v:b_},mw k v=true->(∃ i t,k=r_ i/\v=C_ i t)\/(∃ x t,k=Hk x/\v=Hl x t)
 | .inl i,v,h=>by
  obtain⟨t,e⟩:=Value.isInt_shape (k:=i) (v:=v) h;exact .inl ⟨i,t,rfl,e⟩
 | .inr x,v,h=>by
  obtain⟨t,e⟩:=Value.isStrOf_shape (x:=x) (v:=v) h;exact .inr ⟨x,t,rfl,e⟩
def uP(i:Int)(t:Tok):mw (.inl i) (.int i t)=true:=by simp[mw,Value.isInt]
def uw(x:Str)(t:Tok):mw (.inr x) (.str x t)=true:=by simp[mw,Value.isStrOf]
def BC(a b:Int):decide ((r_ a:Key)=r_ b)=(a == b):=by
 by_cases e:a=b
 .subst e;simp
 .have h:¬(r_ a:Key)=r_ b:=λq=>e (Sum.inl.inj q)
  rw[decide_eq_false h];exact(beq_eq_false_iff_ne.mpr e).symm
def Bw(a b:Str):decide ((Hk a:Key)=Hk b)=decide (a=b):=by
 by_cases e:a=b
 .subst e;simp
 .have h:¬(Hk a:Key)=Hk b:=λq=>e (Sum.inr.inj q)
  rw[decide_eq_false h,decide_eq_false e]
def AG(a:Int)(b:Str):decide ((r_ a:Key)=Hk b)=false:=decide_eq_false (λq=>nomatch q)
def AB(a:Str)(b:Int):decide ((Hk a:Key)=r_ b)=false:=decide_eq_false (λq=>nomatch q)
def bA(prog:hH)(w:lA):PySem.KeyKind prog w Key where
 is:=mw
 hash:=DL w
 inj:=λv a b ha hb=>by
  rcases bz ha with⟨i,t,rfl,rfl⟩ | ⟨x,t,rfl,rfl⟩
  .rcases bz hb with⟨j,u,rfl,e⟩ | ⟨y,u,rfl,e⟩
   .injection e with e1 _;rw[e1]
   .exact nomatch e
  .rcases bz hb with⟨j,u,rfl,e⟩ | ⟨y,u,rfl,e⟩
   .exact nomatch e
   .injection e with e1 _;rw[e1]
 byValue:=λk v h=>by
  rcases bz h with⟨i,t,rfl,rfl⟩ | ⟨x,t,rfl,rfl⟩ <;> rfl
 pyHash:=λhv h=>by
  rcases bz hv with⟨i,t,rfl,rfl⟩ | ⟨x,t,rfl,rfl⟩
  .exact wpAny_pyHash_int h
  .exact wpAny_pyHash_str h
 eqBool:=λhu hv h=>by
  rcases bz hu with⟨i,t,rfl,rfl⟩ | ⟨x,t,rfl,rfl⟩
  .rcases bz hv with⟨j,u,rfl,rfl⟩ | ⟨y,u,rfl,rfl⟩
   .rw[BC]at h;exact Il h
   .rw[AG]at h;exact Iz i t y u _ _ _ _ h
  .rcases bz hv with⟨j,u,rfl,rfl⟩ | ⟨y,u,rfl,rfl⟩
   .rw[AB]at h;exact IA x t j u _ _ _ _ h
   .rw[Bw]at h;exact wpAny_eqBool_str h
 «strs»:=λk x t v h=>by
  rcases bz h with⟨i,u,rfl,e⟩ | ⟨y,u,rfl,e⟩
  .exact nomatch e
  .injection e with e1 _
   subst e1
   cases v <;> rfl
def oR(prog:hH)(w:lA)(i:Int)(t:Tok):(bA prog w).is (.inl i) (.int i t)=true:=uP i t
def pf(prog:hH)(w:lA)(x:Str)(t:Tok):(bA prog w).is (.inr x) (.str x t)=true:=uw x t
inductive V where
 | non | bl (b:Bool) | int (i:Int) | str (x:Str) | byt (b:Array UInt8) | flt (b:UInt64) | ref (a:Addr) | ty (n:String)
 deriving DecidableEq
def RelV:V->b_->Prop
 | .non,u=>u=n_
 | .bl b,u=>u=HM b
 | .int i,u=>∃ t,u=C_ i t
 | .str x,u=>∃ t,u=Hl x t
 | .byt b,u=>∃ t,u=Value.bytes b t
 | .flt b,u=>∃ t,u=IV b t
 | .ref a,u=>u=lb a
 | .ty n,u=>u=ra n
abbrev Vals:List V->List b_->Prop:=Paired RelV
def Vals.length{xs:List V}{us:List b_}(r:Vals xs us):xs.length=us.length:=rn r
def Vals.get:∀{xs:List V}{us:List b_}{i:Nat}{x:V},Vals xs us->xs[i]? = some x->∃ u,us[i]? = some u/\RelV x u
 | _,_,_,_,.nil,e=>by simp at e
 | _,_,0,_,.cons r _,e=>by simp at e;subst e;exact⟨_,rfl,r⟩
 | _,_,i+1,x,.cons _ t,e=>by
  obtain⟨u,a,b⟩:=Vals.get (i:=i) (x:=x) t (by simpa using e);exact⟨u,by simpa using a,b⟩
def Vals.append:∀{xs ys:List V}{us ws:List b_},Vals xs us->Vals ys ws->Vals (xs++ys) (us++ws)
 | _,_,_,_,.nil,s=>s
 | _,_,_,_,.cons r t,s=>.cons r (Vals.append t s)
def Vals.take:∀{xs:List V}{us:List b_}(n:Nat),Vals xs us->Vals (xs.take n) (us.take n)
 | _,_,0,_=>.nil
 | _,_,_+1,.nil=>.nil
 | _,_,n+1,.cons r t=>.cons r (Vals.take n t)
def Vals.drop:∀{xs:List V}{us:List b_}(n:Nat),Vals xs us->Vals (xs.drop n) (us.drop n)
 | _,_,0,r=>r
 | _,_,_+1,.nil=>.nil
 | _,_,n+1,.cons _ t=>Vals.drop n t
def RelO:Option V->Option b_->Prop
 | some v,some u=>RelV v u
 | none,none=>True
 | _,_=>False
def KV{κ:Type}:List (κ×V)->List (κ×b_)->Prop:=Paired λ(p:κ×V) (q:κ×b_)=>p.1=q.1/\RelV p.2 q.2
def kV:Key->V
 | .inl i=>.int i
 | .inr x=>.str x
inductive HO where
 | lst (xs:List V)
 | tup (xs:List V)
 | dK (kvs:List (Key×V)) | dT (kvs:List (List Key×V))
 | set (S:Int->Bool) (n:Nat)
 | ins (C dx:Addr) (fs:List (Str×V))
 | own (x:Addr)
 | xd (fs:List (Str×V))
 | met (f x:Addr)
 | rng (lo hi:Int)
 | frz (o:Obj) (u:HO)
 | tbl (ps:Array b_)
 | ext (φ:Heap->Prop)
abbrev Hp:=Addr->Option HO
def upd(H:Hp)(a:Addr)(o:HO):Hp:=λb=>if b=a then some o else H b
def ac{H:Hp}{a:Addr}{o:HO}:upd H a o a=some o:=by unfold upd;rw[if_pos rfl]
def ae{H:Hp}{a b:Addr}{o:HO}(h:b≠a):upd H a o b=H b:=by unfold upd;rw[if_neg h]
def zt{H:Hp}{a:Addr}{o u:HO}:upd (upd H a o) a u=upd H a u:=by
 funext b;unfold upd;split <;> rfl
def cF{H:Hp}{a b:Addr}{o u:HO}(h:H a=some o)(h':H b=some u)(d:o≠u):a≠b:=by
 intro e;subst e;rw[h]at h';exact d (k7 h')
def ai{H:Hp}{a b:Addr}{o:HO}(h:H a=some o)(h':H b=none):a≠b:=by
 intro e;subst e;rw[h]at h';cases h'
section
variable (P:hH)(w:lA)
def ObjOk(H:Hp)(h:Heap)(a:Addr):HO->Prop
 | .lst xs=>xs.length<=sizeLine/\∃(its:List b_) (n:Nat),Vals xs its/\h.get? a=some { cls:=.type "list",data:=.seq its.toArray n }
 | .tup xs=>xs.length<=sizeLine/\∃ its:List b_,Vals xs its/\IsTup h a its.toArray
 | .dK kvs=>kvs.length<=sizeLine/\(a == sN)=false/\∃ vs,KV kvs vs/\h.DictOf (bA P w) a vs
 | .dT kvs=>kvs.length<=sizeLine/\(a == sN)=false/\∃ xs:List (List Key×Addr×b_),
   Paired (λ(p:List Key×V) (q:List Key×Addr×b_)=>p.1=q.1/\H q.2.1=some (.tup (p.1.map kV))/\RelV p.2 q.2.2) kvs xs /\
   ∃ o es ep,h.get? a=some o/\o.ExactDict/\o.data=.dict es ep/\es.toList=xs.map (entryOfKey (Gx (bA P w)))/\(xs.map (·.1)).Nodup
 | .set S n=>h.SetOf (intKind P w) a S n
 | .ins C dx fs=>H dx=some (.own a)/\fs.length<=1000/\dx≠a/\h.get? a=some (Hf C dx) /\
   ∃ mA,h.Ns1 dx mA/\(∀ f,RelO (fs.lookup f) (mA f))/\Fv mA (fs.map (·.1))
 | .own _=>∃ o,h.get? a=some o
 | .xd fs=>∃ mA,h.Ns1 a mA/\∀ f,RelO (fs.lookup f) (mA f)
 | .rng lo hi=>∃ t u v,h.get? a=some { cls:=.type "range",data:=.fields #[.int lo t,.int hi u,.int 1 v] }
 | .frz o u=>h.get? a=some o/\ObjOk H h a u
 | .tbl ps=>h.get? a=some { cls:=.none,data:=.fields ps }
 | .met f x=>h.get? a=some (Lk (.ref f) (.ref x))
 | .ext φ=>φ h/\(∃ o,h.get? a=some o)/\∀ h1 h2:Heap,φ h1->(∀ o,h1.get? a=some o->h2.get? a=some o)->φ h2
def HOk(H:Hp)(h:Heap):Prop:=∀ a o,H a=some o->ObjOk P w H h a o
end
section
variable {P:hH}{w:lA}{H H':Hp}{h h':Heap}{a:Addr}{o:HO}
def ObjOk.lt(x:ObjOk P w H h a o):a<h.objs.size:=by
 cases o with
 | lst xs=>obtain⟨_,_,_,_,e⟩:=x;exact f_ e
 | tup xs=>obtain⟨_,_,_,p⟩:=x;exact p.lt
 | dK kvs=>obtain⟨_,_,_,_,o,_,_,e,_⟩:=x;exact f_ e
 | dT kvs=>obtain⟨_,_,_,_,o,_,_,e,_⟩:=x;exact f_ e
 | set S n=>obtain⟨o,_,_,_,e,_⟩:=x;exact f_ e
 | ins C dx fs=>obtain⟨_,_,_,e,_⟩:=x;exact f_ e
 | own y=>obtain⟨_,e⟩:=x;exact f_ e
 | xd fs=>obtain⟨_,⟨_,_,_,e,_⟩,_⟩:=x;exact f_ e
 | rng lo hi=>obtain⟨_,_,_,e⟩:=x;exact f_ e
 | frz ob u=>obtain⟨e,_⟩:=x;exact f_ e
 | tbl ps=>exact f_ (show h.get? a=some _ from x)
 | met f y=>exact f_ (show h.get? a=some _ from x)
 | ext φ=>obtain⟨_,⟨_,e⟩,_⟩:=x;exact f_ e
def Paired.mapP{d c:Type}{F G:d->c->Prop}:∀{l₁:List d}{l₂:List c},Paired F l₁ l₂->(∀ a b,F a b->G a b)->Paired G l₁ l₂
 | _,_,.nil,_=>.nil
 | _,_,.cons r t,f=>.cons (f _ _ r) (Paired.mapP t f)
def ObjOk.stay(x:ObjOk P w H h a o)(k:∀ b u,(b=a\/H b=some (.own a))->h.get? b=some u->h'.get? b=some u)
  (E:∀ b,H b=some (.own a)->H' b=some (.own a)) (I:∀ b xs,H b=some (.tup xs)->H' b=some (.tup xs)):ObjOk P w H' h' a o:=by
 induction o with
 | lst xs=>obtain⟨z,s,n,r,e⟩:=x;exact⟨z,s,n,r,k _ _ (.inl rfl) e⟩
 | tup xs=>obtain⟨z,s,r,g,e,c⟩:=x;exact⟨z,s,r,g,k _ _ (.inl rfl) e,c⟩
 | dK kvs=>obtain⟨z,y,G,r,g,j,i,e,c⟩:=x;exact⟨z,y,G,r,g,j,i,k _ _ (.inl rfl) e,c⟩
 | dT kvs =>
  obtain⟨z,y,xs,r,g,j,i,e,c⟩:=x;exact⟨z,y,xs,Paired.mapP r λp q z=>⟨z.1,I _ _ z.2.1,z.2.2⟩,g,j,i,k _ _ (.inl rfl) e,c⟩
 | set S n=>obtain⟨g,j,i,t,e,c⟩:=x;exact⟨g,j,i,t,k _ _ (.inl rfl) e,c⟩
 | ins C dx fs =>
  obtain⟨d,z,J,e,B,⟨A,j,i,F,c⟩,r⟩:=x;exact⟨E _ d,z,J,k _ _ (.inl rfl) e,B,⟨A,j,i,k _ _ (.inr d) F,c⟩,r⟩
 | own y=>obtain⟨g,e⟩:=x;exact⟨g,k _ _ (.inl rfl) e⟩
 | xd fs=>obtain⟨B,⟨A,j,i,e,c⟩,r⟩:=x;exact⟨B,⟨A,j,i,k _ _ (.inl rfl) e,c⟩,r⟩
 | rng lo hi=>obtain⟨t,u,v,e⟩:=x;exact⟨t,u,v,k _ _ (.inl rfl) e⟩
 | frz g u ih=>obtain⟨e,q⟩:=x;exact⟨k _ _ (.inl rfl) e,ih q⟩
 | tbl ps =>
  have e:h.get? a=some { cls:=.none,data:=.fields ps }:=x;show h'.get? a=some { cls:=.none,data:=.fields ps };exact k a _ (.inl rfl) e
 | met f y =>
  have e:h.get? a=some (Lk (.ref f) (.ref y)):=x;show h'.get? a=some (Lk (.ref f) (.ref y));exact k a _ (.inl rfl) e
 | ext φ=>obtain⟨p,⟨o,e⟩,D⟩:=x;exact⟨D _ _ p λo q=>k _ _ (.inl rfl) q,⟨o,k _ _ (.inl rfl) e⟩,D⟩
def HOk.lt(x:HOk P w H h)(e:H a=some o):a<h.objs.size:=(x a o e).lt
def HOk.fresh(x:HOk P w H h)(e:h.objs.size<=a):H a=none:=by
 cases q:H a with
 | none=>rfl
 | some u=>exact absurd (g_ (x.lt q) e) (o5 _)
def HOk.kept(x:HOk P w H h)(k:∀ b u,h.get? b=some u->h'.get? b=some u):HOk P w H h':=λa o e =>
 (x a o e).stay (λb u _ q=>k b u q) (λ_ q=>q) λ_ _ q=>q
def HOk.laid(x:HOk P w H h)(k:∀ b u,h.get? b=some u->h'.get? b=some u)(g:h.objs.size<=a)(d:ObjOk P w (upd H a o) h' a o):HOk P w (upd H a o) h':=λb u e=>by
 have f:=x.fresh g
 by_cases hb:b=a
 .subst hb;rw[ac]at e;cases e;exact d
 .rw[ae hb]at e
  exact(x b u e).stay (λc v _ q=>k c v q) (λc q=>by rw[ae (ai q f)];exact q) λc xs q=>by rw[ae (ai q f)];exact q
end
def Rd(H:Hp)(a:Addr)(u:HO):Prop:=H a=some u\/∃ o,H a=some (.frz o u)
def Rd.ok{P:hH}{w:lA}{H:Hp}{h:Heap}{a:Addr}{u:HO}(r:Rd H a u)(x:HOk P w H h):ObjOk P w H h a u:=by
 rcases r with r | ⟨o,r⟩
 .exact x a u r
 .obtain⟨_,q⟩:=x a _ r
  exact q
def Mut:Option HO->Prop
 | some (.lst _)=>True
 | some (.dK _)=>True
 | some (.dT _)=>True
 | some (.set _ _)=>True
 | some (.ins _ _ _)=>True
 | some (.ext _)=>True
 | _=>False
section
variable {P:hH}{w:lA}{H:Hp}{h h':Heap}{x e:Addr}{o':HO}
def HOk.write(s:HOk P w H h)(f:Mut (H x))(p:e=x\/H e=some (.own x))(k:∀ b u,b≠e->h.get? b=some u->h'.get? b=some u)(j:∃ u,h'.get? e=some u)
  (i:ObjOk P w (upd H x o') h' x o'):HOk P w (upd H x o') h':=λb u q=>by
 have a:∀ c y,H c=some (.own y)->c≠x:=λc y r z=>by subst z;rw[r]at f;exact f
 have d:∀ c g,H c=some (.tup g)->c≠x:=λc g r z=>by subst z;rw[r]at f;exact f
 by_cases hb:b=x
 .subst hb;rw[ac]at q;cases q;exact i
 .rw[ae hb]at q
  by_cases hbe:b=e
  .have o:H b=some (.own x):=by
    rcases p with z | z
    .exact absurd (hbe.trans z) hb
    .rw[hbe];exact z
   rw[q]at o;cases o;obtain⟨v,A⟩:=j;exact⟨v,by rw[hbe];exact A⟩
  .refine(s b u q).stay (λc v hc r=>k c v ?_ r) (λc r=>by rw[ae (a c b r)];exact r) λc g r=>by rw[ae (d c g r)];exact r
   rcases hc with rfl | hc
   .exact hbe
   .rintro rfl
    rcases p with z | z
    .exact a c b hc z
    .rw[hc]at z;cases z;exact hb rfl
end
structure Un(fs ex:List Addr)(H H':Hp)(h h':Heap):Prop where
 keep:∀ b o,h.get? b=some o->H b=none->b ∉ fs->b ∉ ex->h'.get? b=some o
 slot:∀ b o,h.get? b=some o->H b=none->b∈fs->b ∉ ex->∃ sl,h'.get? b=some { o with slots:=sl }
 free:∀ b o,h.get? b=some o->H b=none->b ∉ ex->H' b=none
 there:∀ b o,h.get? b=some o->b ∉ ex->∃ o',h'.get? b=some o'
 tups:∀ b xs,H b=some (.tup xs)->H' b=some (.tup xs)
 frzs:∀ b o u,H b=some (.frz o u)->H' b=some (.frz o u)
 tbls:∀ b ps,H b=some (.tbl ps)->∃ more,H' b=some (.tbl (ps++more))
section
variable {fs ex:List Addr}{H H1:Hp}{h h1 h':Heap}{a x e:Addr}{o:HO}
def Un.any(u:Un fs ex H H1 h h1){b:Addr}{ob:Obj}(q:h.get? b=some ob)(n:H b=none)(a:b ∉ ex):∃ sl,h1.get? b=some { ob with slots:=sl }:=by
 by_cases hb:b∈fs
 .exact u.slot b ob q n hb a
 .exact⟨ob.slots,u.keep b ob q n hb a⟩
def Un.kept(k:∀ b u,h.get? b=some u->h'.get? b=some u):Un fs ex H H h h' :=
 ⟨λb a q _ _ _=>k b a q,λb a q _ _ _=>⟨a.slots,k b a q⟩,λ_ _ _ n _=>n,λb a q _=>⟨a,k b a q⟩,λ_ _ q=>q,λ_ _ _ q=>q,λ_ ps q=>⟨#[],by rw[q];simp⟩⟩
def Un.refl:Un fs ex H H h h:=Un.kept λ_ _ q=>q
def Un.laid(k:∀ b u,h.get? b=some u->h'.get? b=some u)(f:h.objs.size<=a)(c:H a=none):Un fs ex H (upd H a o) h h' where
 keep:=λb u q _ _ _=>k b u q
 slot:=λb u q _ _ _=>⟨u.slots,k b u q⟩
 free:=λb u q n _=>by rw[ae (kw (g_ (f_ q) f))];exact n
 there:=λb u q _=>⟨u,k b u q⟩
 tups:=λb d q=>by rw[ae (ai q c)];exact q
 frzs:=λb u d q=>by rw[ae (ai q c)];exact q
 tbls:=λb g q=>⟨#[],by rw[ae (ai q c),q];simp⟩
def Un.write(a:Mut (H x))(j:e=x\/H e=some (.own x))(k:∀ b u,b≠e->h.get? b=some u->h'.get? b=some u)(d:∃ u,h'.get? e=some u):Un fs ex H (upd H x o) h h':=by
 have f:∀ b,H b=none->b≠x:=λb n z=>by subst z;rw[n]at a;exact a
 have g:∀ b,H b=none->b≠e:=λb n z=>by
  subst z
  rcases j with r | r
  .exact f b n r
  .rw[n]at r;cases r
 have c:∀ b u,H b=some u->¬Mut (some u)->b≠x:=λb u q p z=>by subst z;rw[q]at a;exact p a
 refine⟨λb u q n _ _=>k b u (g b n) q,λb u q n _ _=>⟨u.slots,k b u (g b n) q⟩,λb u q n _=>by rw[ae (f b n)];exact n,λb u q _=>?_,
  λb i q=>by rw[ae (c b _ q λz=>z)];exact q,λb u i q=>by rw[ae (c b _ q λz=>z)];exact q,λb ps q=>⟨#[],by rw[ae (c b _ q λz=>z),q];simp⟩⟩
 by_cases hbe:b=e
 .subst hbe;exact d
 .exact⟨u,k b u hbe q⟩
end
def trk(h:Heap)(H:Hp):List Addr:=(lj h.objs.size).filter λa=>(H a).isSome
def me(h:Heap)(H:Hp):Heap:=PySem.W.hideAll h (trk h H)
def ue(h:Heap)(H:Hp):(me h H).objs.size=h.objs.size:=PySem.W.hideAll_size _ _
def wI{h:Heap}{H:Hp}{b:Addr}{o:Obj}(e:h.get? b=some o)(n:H b=none):(me h H).get? b=some o :=
 PySem.W.hideAll_get _ e λa=>by
  have q:(H b).isSome=true:=(KN.mp a).2;rw[n]at q;simp at q
def yA{h:Heap}{H:Hp}{b:Addr}{o:Obj}(e:(me h H).get? b=some o):h.get? b=some o/\H b=none:=by
 have a:h.get? b=some o:=PySem.W.of_hideAll (trk h H) e;refine⟨a,?_⟩;cases q:H b with
 | none=>rfl
 | some x =>
  have c:b∈trk h H:=KN.mpr ⟨A9.mpr (f_ a),by simp[q]⟩;have z:(me h H).get? b=none:=PySem.W.hideAll_none (trk h H) c;rw[z]at e;cases e
def zA(g h:Heap)(L:Addr):List (Addr×Obj):=(lj h.objs.size).filterMap λa=>if a=L\/(g.get? a).isSome=true then none else (h.get? a).map λo=>(a,o)
def rest(g h:Heap)(L d:Addr):List (Addr×Obj):=(zA g h L).filter λp=>decide (p.1≠d)
structure Mod(K:Frag)(mg:Str->Option b_)(base:Heap):Prop where
 kin:K.In base
 glob:base.Ns oe mg
 blt:∃ mb,base.Ns E8 mb/\∀ x:Str,x ≠ "__name__" -> mb x=px x
 nolimit:base.NoLimit
structure Cx where
 prog:hH
 w:lA
 K:Frag
 mg:Str->Option b_
 base:Heap
 A:m_
 N:List Str
 s₀:e_
 H₀:Hp
 env:Env
 outer:List Env
 stack:List Env
 ex:List Addr
 fn:Str->Bool
 calm:Bool
 pn:List (Addr×Obj)
 xe:b_->e_->Prop
def frs(l:List Env):List Addr:=l.filterMap (·.frame)
abbrev Cx.fs(X:Cx):List Addr:=frs X.outer
def Vis(sc:D_)(x:Str):Prop:=sc.names.lookup x = some .local\/sc.names.lookup x = some .cell\/sc.names.lookup x = some .free
def Loc(sc:D_)(x:Str):Prop:=sc.names.lookup x = some .local\/sc.names.lookup x = some .cell
def Ef(env:Env)(h:Heap)(m:Str->Option b_)(x:Str)(u:b_):Prop :=
 (env.kindOf x = some .local/\m x = some u)\/((env.kindOf x = some .cell\/env.kindOf x = some .free)/\∃ c,env.cells.lookup x = some c/\h.IsCell c (some u))
structure Cx.Ok(X:Cx):Prop where
 mod:Mod X.K X.mg X.base
 kind:X.env.scope.kind=.function
 glob:X.env.globals=oe
 blt:X.env.builtins=E8
 above:X.s₀.heap.objs.size<=X.env.locals
 inj:∀ x y c,X.env.cells.lookup x=some c->X.env.cells.lookup y=some c->x=y
 has:∀ x,(X.env.kindOf x=some .cell\/X.env.kindOf x=some .free)->∃ c,X.env.cells.lookup x=some c
 cab:∀ x c,X.fn x=true->X.env.cells.lookup x=some c->X.s₀.heap.objs.size<=c
 hd:X.calm=true->X.A.handled=none
 frames:X.A.frames=some X.stack
 stk:X.stack = X.outer\/(X.stack = X.env :: X.outer/\X.env.frame = some X.env.locals)
 exf:∀ b ∈ X.ex,b≠X.env.locals/\∀ x c,X.env.cells.lookup x = some c->c≠b
 bs:∀ b o,X.base.get? b=some o->X.s₀.heap.get? b=some o/\X.H₀ b=none
 bsz:X.base.objs.size<=X.s₀.heap.objs.size
 noex:∀ b o,X.base.get? b=some o->b ∉ X.ex
 exfs:∀ b∈X.ex,b ∉ X.fs
 funs:X.s₀.heap.FunFrames X.base X.outer
 frf:∀ b∈X.fs,X.H₀ b=none
structure Inv(X:Cx)(pins:List (Addr×Obj))(σ:List (Option V))(H:Hp)(s:e_):Prop where
 ok:X.Ok
 os:s.os=X.s₀.os
 bare:FD s.gens
 base:Un X.fs X.ex X.H₀ H X.s₀.heap s.heap
 loc:∃ m,s.heap.Ns X.env.locals m/\∀(i:Nat) (x:Str) (v:V),X.N[i]? = some x->σ[i]? = some (some v)->Vis X.env.scope x->∃ u,RelV v u/\Ef X.env s.heap m x u
 cell:∀ x c,X.env.cells.lookup x=some c->∃ v,s.heap.IsCell c v
 free:H X.env.locals = none
 freeC:∀ x c,X.env.cells.lookup x=some c->H c=none
 pin:∀ p ∈ X.pn ++ pins,s.heap.get? p.1 = some p.2/\H p.1 = none/\p.1≠X.env.locals/\p.1 ∉ X.fs/\∀ v,p.2.data≠.cell v
 hok:HOk X.prog X.w H s.heap
 len:σ.length=X.N.length
section
variable {X:Cx}{pins:List (Addr×Obj)}{σ:List (Option V)}{H H':Hp}{s:e_}{h':Heap}
def Cx.Ok.nofr(c:X.Ok){b:Addr}{o:Obj}(e:X.base.get? b=some o):b ∉ X.fs:=λa=>by
 have:=(c.funs.mem a).1;rw[e]at this;cases this
def Inv.bs(I:Inv X pins σ H s):∀ b o,X.base.get? b=some o->s.heap.get? b=some o/\H b=none:=λb o e =>
 ⟨I.base.keep b o (I.ok.bs b o e).1 (I.ok.bs b o e).2 (I.ok.nofr e) (I.ok.noex b o e),I.base.free b o (I.ok.bs b o e).1 (I.ok.bs b o e).2 (I.ok.noex b o e)⟩
def Inv.bk(I:Inv X pins σ H s):∀ b o,X.base.get? b=some o->s.heap.get? b=some o:=λb o e=>(I.bs b o e).1
def Inv.mod(I:Inv X pins σ H s):Mod X.K X.mg X.base:=I.ok.mod
def Inv.kIn(I:Inv X pins σ H s):X.K.In s.heap:=I.ok.mod.kin.keeps I.bk
def Inv.lt(I:Inv X pins σ H s):X.env.locals < s.heap.objs.size:=let ⟨_,hn,_⟩:=I.loc;hn.lt
def Inv.sz(I:Inv X pins σ H s):X.s₀.heap.objs.size<=s.heap.objs.size:=lB I.ok.above (rA I.lt)
def Inv.nofs(I:Inv X pins σ H s){a:Addr}(h:s.heap.objs.size<=a):a ∉ X.fs:=λc=>by
 obtain⟨_,o,b,_⟩:=I.ok.funs.mem c;exact absurd (g_ (f_ b) (lB I.sz h)) (o5 _)
def Inv.cne(I:Inv X pins σ H s):∀ x c,X.env.cells.lookup x = some c->c≠X.env.locals:=λx c e z=>by
 obtain⟨v,o,d,f⟩:=I.cell x c e;obtain⟨m,⟨h,i,g,a,b,_⟩,_⟩:=I.loc;rw[z,a]at d;cases d;rw[b]at f;cases f
def Inv.funs(I:Inv X pins σ H s):s.heap.FunFrames X.base X.outer:=by
 have d:∀(l:List Env),(∀ b∈frs l,b∈X.fs)->X.s₀.heap.FunFrames X.base l->s.heap.FunFrames X.base l:=by
  intro l
  induction l with
  | nil=>intro _ _;trivial
  | cons env r ih =>
   intro g q;obtain⟨i,⟨L,o,f,k,h,j⟩,p⟩:=q;have a:L∈X.fs:=g L (by unfold frs;rw[GS,f];exact gT);obtain⟨u,e⟩:=I.base.slot L o h (I.ok.frf L a) a λz=>I.ok.exfs L z a
   exact⟨i,⟨L,_,f,k,e,j⟩,ih (λb c=>g b (by unfold frs;rw[GS,f];exact hI _ c)) p⟩
 exact d X.outer (λ_ c=>c) I.ok.funs
def Inv.stack(I:Inv X pins σ H s):s.heap.FunFrames X.base X.stack:=by
 rcases I.ok.stk with e | ⟨e,a⟩
 .rw[e];exact I.funs
 .rw[e]
  obtain⟨m,b,_⟩:=I.loc;refine .cons (by rw[I.ok.kind];decide) a b ?_ I.funs;exact Ji (lB I.ok.bsz I.ok.above)
def Inv.stkSub(I:Inv X pins σ H s):∀ b ∈ frs X.stack,b ∈ X.env.locals :: X.fs:=λb a=>by
 rcases I.ok.stk with e | ⟨e,c⟩
 .rw[e]at a;exact hI _ a
 .rw[e]at a
  unfold frs at a;rw[GS,c]at a;exact a
def Inv.stkFree(I:Inv X pins σ H s):∀ b∈frs X.stack,H b=none:=λb hb=>by
 rcases i_.mp (I.stkSub b hb) with e | hb
 .rw[e];exact I.free
 .obtain⟨_,o,a,_⟩:=I.ok.funs.mem hb
  exact I.base.free b o a (I.ok.frf b hb) λz=>I.ok.exfs b z hb
def Inv.step{g':Array Kb}{t':Nat}{d':Drawn}{ch:List Addr}(I:Inv X pins σ H s)
  (h:∀ b ∈ ch,(b ∈ X.ex\/X.s₀.heap.objs.size<=b)/\b≠X.env.locals/\(∀ x c,X.env.cells.lookup x = some c->c≠b)/\∀ p ∈ X.pn ++ pins,p.1≠b)
  (w:∀ b o,b≠X.env.locals->b ∉ X.fs->b ∉ ch->s.heap.get? b = some o->H b = none->h'.get? b = some o)
  (B:∀ b o,b≠X.env.locals->b ∈ X.fs->b ∉ ch->s.heap.get? b = some o->H b = none->∃ sl,h'.get? b = some { o with slots:=sl }) (f:∀ b o,b ∉ ch->s.heap.get? b = some o->H b = none->H' b = none)
  (D:∀ b o,b ∉ ch->s.heap.get? b=some o->∃ o',h'.get? b=some o')
  (G:∀ b xs,H b=some (.tup xs)->H' b=some (.tup xs)) (F:∀ b o u,H b=some (.frz o u)->H' b=some (.frz o u)) (K:∀ b ps,H b=some (.tbl ps)->∃ more,H' b=some (.tbl (ps++more)))
  (S:∀ m,s.heap.Ns X.env.locals m->h'.Ns X.env.locals m) (N:HOk X.prog X.w H' h') (Y:FD g') :
  Inv X pins σ H' { s with heap:=h',gens:=g',drawn:=d',toks:=t' }:=by
 have J:∀ b o,X.s₀.heap.get? b = some o->b≠X.env.locals:=λb o e=>kw (g_ (f_ e) I.ok.above)
 have A:∀ b o,X.s₀.heap.get? b=some o->b ∉ X.ex->b ∉ ch:=λb o e a C=>by
  rcases(h b C).1 with z | z
  .exact a z
  .exact absurd (g_ (f_ e) z) (o5 _)
 have g:∀ x c,X.env.cells.lookup x=some c->∀ v,s.heap.IsCell c v->h'.IsCell c v:=λx c e v ⟨o,E,O⟩=>by
  have j:c ∉ ch:=λz=>(h c z).2.2.1 x c e rfl
  by_cases hc:c∈X.fs
  .obtain⟨sl,q⟩:=B c o (I.cne x c e) hc j E (I.freeC x c e)
   exact⟨_,q,O⟩
  .exact⟨o,w c o (I.cne x c e) hc j E (I.freeC x c e),O⟩
 refine⟨I.ok,I.os,Y,⟨λb o e n C a=>?_,λb o e n C a=>?_,λb o e n a=>?_,λb o e a=>?_,λb xs e=>G b xs (I.base.tups b xs e),λb o xs e=>F b o xs (I.base.frzs b o xs e),λb ps e=>?_⟩,?_,λx c e=>?_,?_,λx c e=>?_,λp hp=>?_,N,I.len⟩
 .exact w b o (J b o e) C (A b o e a) (I.base.keep b o e n C a) (I.base.free b o e n a)
 .obtain⟨sl,y⟩:=I.base.slot b o e n C a
  obtain⟨M,L⟩:=B b _ (J b o e) C (A b o e a) y (I.base.free b o e n a);exact⟨M,L⟩
 .obtain⟨o',y⟩:=I.base.there b o e a
  exact f b o' (A b o e a) y (I.base.free b o e n a)
 .obtain⟨o',y⟩:=I.base.there b o e a
  exact D b o' (A b o e a) y
 .obtain⟨m1,y⟩:=I.base.tbls b ps e
  obtain⟨W,L⟩:=K b _ y;exact⟨m1++W,by rw[L,E9]⟩
 .obtain⟨m,Z,R⟩:=I.loc
  refine⟨m,S m Z,λi x v y L T=>?_⟩;obtain⟨u,r,l⟩:=R i x v y L T;refine⟨u,r,?_⟩
  rcases l with l | ⟨k,c,e,z⟩
  .exact .inl l
  .exact .inr ⟨k,c,e,g x c e _ z⟩
 .obtain⟨v,z⟩:=I.cell x c e
  exact⟨v,g x c e v z⟩
 .obtain⟨m,⟨o,_,_,E,_⟩,_⟩:=I.loc
  exact f _ o (λz=>(h _ z).2.1 rfl) E I.free
 .obtain⟨v,o,E,O⟩:=I.cell x c e
  exact f c o (λz=>(h c z).2.2.1 x c e rfl) E (I.freeC x c e)
 .obtain⟨e,n,Q,P,d⟩:=I.pin p hp
  have j:p.1 ∉ ch:=λz=>(h p.1 z).2.2.2 p hp rfl
  exact⟨w p.1 p.2 Q P j e n,f p.1 p.2 j e n,Q,P,d⟩
def Inv.un{t':Nat}(I:Inv X pins σ H s)(u:Un X.fs [] H H' s.heap h')(d:HOk X.prog X.w H' h'):Inv X pins σ H' { s with heap:=h',toks:=t' }:=by
 obtain⟨m,⟨o,q,k,g,r⟩,_⟩:=id I.loc;obtain⟨j,i⟩:=u.any g I.free (by simp)
 exact I.step (g':=s.gens) (d':=s.drawn) (ch:=[]) (λ_ z=>nomatch z) (λb o _ hb _ e n=>u.keep b o e n hb (by simp)) (λb o _ hb _ e n=>u.slot b o e n hb (by simp)) (λb o _ e n=>u.free b o e n (by simp)) (λb o _ e=>u.there b o e (by simp)) u.tups u.frzs u.tbls (λm' hm=>by
  obtain⟨p,c,f,a,h⟩:=hm;rw[g]at a;cases a
  exact⟨_,c,f,i,h⟩) d I.bare
def Inv.call{g':Array Kb}{t':Nat}{d':Drawn}{ch:List Addr}(I:Inv X pins σ H s)(u:Un (frs X.stack) ch H H' s.heap h')(i:HOk X.prog X.w H' h')(q:FD g')
  (f:∀ b ∈ ch,(b ∈ X.ex\/X.s₀.heap.objs.size<=b)/\b≠X.env.locals/\(∀ x c,X.env.cells.lookup x = some c->c≠b)/\∀ p ∈ X.pn ++ pins,p.1≠b) :
  Inv X pins σ H' { s with heap:=h',gens:=g',drawn:=d',toks:=t' }:=by
 obtain⟨m,⟨o,C,A,k,r⟩,_⟩:=id I.loc;obtain⟨y,g⟩:=u.any k I.free λz=>(f _ z).2.1 rfl
 exact I.step (ch:=ch) f (λb o g w a e n=>u.keep b o e n (λz=>(i_.mp (I.stkSub b z)).elim g w) a) (λb o _ _ a e n=>u.any e n a) (λb o a e n=>u.free b o e n a) (λb o a e=>u.there b o e a) u.tups u.frzs u.tbls (λm' hm=>by
  obtain⟨B,h,j,d,v⟩:=hm;rw[k]at d;cases d
  exact⟨_,h,j,g,v⟩) i q
def Inv.turned{t':Nat}{a:Addr}(I:Inv X pins σ H s)(k:∀ b o,b≠a->s.heap.get? b = some o->h'.get? b = some o)(w:H a = none)(g:a≠X.env.locals)
  (B:a∈X.ex\/X.s₀.heap.objs.size<=a) (j:∀ x c,X.env.cells.lookup x=some c->c≠a) (h:∀ p∈X.pn++pins,p.1≠a):Inv X pins σ H { s with heap:=h',toks:=t' }:=by
 have f:∀ b u,H b=some u->b≠a:=λb u e z=>by rw[z,w]at e;cases e
 refine I.step (g':=s.gens) (d':=s.drawn) (ch:=[a]) (λb A=>?_) (λb o _ _ d e _=>k b o (λz=>d (by simp[z])) e) (λb o _ _ d e _=>⟨o.slots,k b o (λz=>d (by simp[z])) e⟩) (λ_ _ _ _ n=>n)
  (λb o d e=>⟨o,k b o (λz=>d (by simp[z])) e⟩) (λ_ _ e=>e) (λ_ _ _ e=>e) (λb ps e=>⟨#[],by rw[e];simp⟩) (λm hm=>?_) (λb u e=>?_) I.bare
 .have e:b=a:=by simpa using A
  subst e;exact⟨B,g,j,h⟩
 .obtain⟨o,C,y,i,r⟩:=hm
  exact⟨o,C,y,k _ o (A_ g) i,r⟩
 .refine(I.hok b u e).stay (λc v d q=>k c v ?_ q) (λ_ q=>q) λ_ _ q=>q
  rcases d with z | z
  .rw[z];exact f b u e
  .exact f c _ z
def Inv.tok(I:Inv X pins σ H s)(t:Nat):Inv X pins σ H { s with toks:=t }:=I.un (h':=s.heap) (t':=t) Un.refl I.hok
def Inv.kept{t':Nat}(I:Inv X pins σ H s)(k:∀ b u,s.heap.get? b=some u->h'.get? b=some u):Inv X pins σ H { s with heap:=h',toks:=t' }:=I.un (Un.kept k) (I.hok.kept k)
def Inv.laid{a:Addr}{o:HO}{t':Nat}(I:Inv X pins σ H s)(k:∀ b u,s.heap.get? b=some u->h'.get? b=some u)(d:s.heap.objs.size<=a)(c:ObjOk X.prog X.w (upd H a o) h' a o) :
  Inv X pins σ (upd H a o) { s with heap:=h',toks:=t' }:=I.un (Un.laid k d (I.hok.fresh d)) (I.hok.laid k d c)
def Inv.write{x e:Addr}{o:HO}{t':Nat}(I:Inv X pins σ H s)(f:Mut (H x))(d:e=x\/H e=some (.own x))(k:∀ b u,b≠e->s.heap.get? b=some u->h'.get? b=some u)(a:∃ u,h'.get? e=some u)
  (c:ObjOk X.prog X.w (upd H x o) h' x o):Inv X pins σ (upd H x o) { s with heap:=h',toks:=t' }:=I.un (Un.write f d k a) (I.hok.write f d k a c)
def Inv.weak{σ':List (Option V)}(I:Inv X pins σ H s)(c:σ'.length=σ.length)(w:∀(i:Nat) v,σ'[i]? = some (some v)->σ[i]? = some (some v)):Inv X pins σ' H s :=
 ⟨I.ok,I.os,I.bare,I.base,let ⟨m,hn,hl'⟩:=I.loc;⟨m,hn,λi x v a d b=>hl' i x v a (w i v d) b⟩,I.cell,I.free,I.freeC,I.pin,I.hok,c.trans I.len⟩
def Inv.pins_of{a:List (Addr×Obj)}(I:Inv X pins σ H s)(h:∀ p ∈ a,s.heap.get? p.1 = some p.2/\H p.1 = none/\p.1≠X.env.locals/\p.1 ∉ X.fs/\∀ v,p.2.data≠.cell v):Inv X a σ H s :=
 ⟨I.ok,I.os,I.bare,I.base,I.loc,I.cell,I.free,I.freeC,λp b=>(wh.mp b).elim (λz=>I.pin p (z4 _ z)) (h p),I.hok,I.len⟩
def iq{N:List Str}(d:N.Nodup){i j:Nat}{x:Str}(a:N[i]? = some x)(b:N[j]? = some x):i=j:=by
 obtain⟨h,c⟩:=fP.mp a;obtain⟨g,f⟩:=fP.mp b;exact(List.getElem_inj d).mp (c.trans f.symm)
def mq{M:HN}{A:m_}{E:b_->e_->Prop}{i:Nat}{x:Str}{v:V}{u:b_}{Q:Unit->e_->Prop}(I:Inv X pins σ H s)(hN:X.N.Nodup)(N:X.N[i]? = some x)(B:Loc X.env.scope x)(r:RelV v u)
  (h:∀ s',Inv X pins (σ.set i (some v)) H s'->(∃ a,EA a s.heap s'.heap/\(a = X.env.locals\/X.env.cells.lookup x = some a))->Q () s') (hf:X.fn x = true\/X.env.scope.names.lookup x = some .local:=by first | exact .inl rfl | exact .inr rfl | assumption):ig M A (Hg X.env x u) Q E s:=by
 obtain⟨m,hn,hl⟩:=id I.loc;have L:(X.env.scope.kind == .class || (X.env.scope.kind == .module && X.env.locals != X.env.globals)) = false:=by rw[I.ok.kind];rfl
 have D:i<σ.length:=by rw[I.len];exact(fP.mp N).1
 have G:=I.cne
 have w:∀{a:Addr}{K:Heap},(∃ o,s.heap.get? a=some o/\H a=none)->EA a s.heap K->HOk X.prog X.w H K:=λ{a K} ha f b ob e=>by
  obtain⟨_,_,C⟩:=ha;refine(I.hok b ob e).stay (λc T hc q=>(f.2 c ?_).trans q) (λ_ q=>q) λ_ _ q=>q
  rintro rfl
  rcases hc with rfl | hc
  .rw[C]at e;cases e
  .rw[C]at hc;cases hc
 rcases B with hk | hk
 .refine J3 hk hn (λK ab f=>?_) L
  obtain⟨oL,_,_,ah,_⟩:=id hn;refine h _ ⟨I.ok,I.os,I.bare,⟨λb o e n F B=>?_,λb o e n F B=>?_,I.base.free,λb o e B=>?_,I.base.tups,I.base.frzs,I.base.tbls⟩,⟨_,ab,λj y v' g e2 e3=>?_⟩,λy c e=>?_,I.free,I.freeC,λp hp=>?_,w ⟨oL,ah,I.free⟩ f,by simpa using I.len⟩ ⟨_,f,.inl rfl⟩
  .exact(f.2 b (kw (g_ (f_ e) I.ok.above))).trans (I.base.keep b o e n F B)
  .obtain⟨sl,g⟩:=I.base.slot b o e n F B
   exact⟨sl,(f.2 b (kw (g_ (f_ e) I.ok.above))).trans g⟩
  .obtain⟨o',g⟩:=I.base.there b o e B
   exact⟨o',(f.2 b (kw (g_ (f_ e) I.ok.above))).trans g⟩
  .by_cases hj:j=i
   .subst hj
    rw[N]at g;cases g;rw[IN D]at e2;cases e2;exact⟨u,r,.inl ⟨hk,by simp⟩⟩
   .rw[Jj (A_ hj)]at e2
    obtain⟨u',Z,q⟩:=hl j y v' g e2 e3;refine⟨u',Z,?_⟩
    rcases q with⟨k,e⟩ | ⟨k,c,e,z⟩
    .refine .inl ⟨k,?_⟩
     have:y≠x:=λe=>hj (iq hN g (e ▸ N))
     simp[this,e]
    .exact .inr ⟨k,c,e,z.sameBut f (G y c e)⟩
  .obtain⟨T,z⟩:=I.cell y c e
   exact⟨T,z.sameBut f (G y c e)⟩
  .obtain⟨e,n,W,Y,d⟩:=I.pin p hp
   exact⟨(f.2 p.1 W).trans e,n,W,Y,d⟩
 .have J:X.fn x=true:=by
   rcases hf with z | z
   .exact z
   .rw[z]at hk;cases hk
  obtain⟨c,hc⟩:=I.ok.has x (.inl hk);obtain⟨T,z⟩:=I.cell x c hc;refine Kc I.ok.kind hk hc z (λK R f=>?_);obtain⟨oc,O,P⟩:=id z;refine h { s with heap:=K } ⟨I.ok,I.os,I.bare,⟨λb o e n F B=>?_,λb o e n F B=>?_,I.base.free,λb o e B=>?_,I.base.tups,I.base.frzs,I.base.tbls⟩,⟨m,hn.sameBut f (A_ (G x c hc)),λj y v' g e2 e3=>?_⟩,λy S e=>?_,I.free,I.freeC,λp hp=>?_,w ⟨oc,O,I.freeC x c hc⟩ f,by simpa using I.len⟩ ⟨c,f,.inr hc⟩
  .exact(f.2 b (kw (g_ (f_ e) (I.ok.cab x c J hc)))).trans (I.base.keep b o e n F B)
  .obtain⟨sl,g⟩:=I.base.slot b o e n F B
   exact⟨sl,(f.2 b (kw (g_ (f_ e) (I.ok.cab x c J hc)))).trans g⟩
  .obtain⟨o',g⟩:=I.base.there b o e B
   exact⟨o',(f.2 b (kw (g_ (f_ e) (I.ok.cab x c J hc)))).trans g⟩
  .by_cases hj:j=i
   .subst hj
    rw[N]at g;cases g;rw[IN D]at e2;cases e2;exact⟨u,r,.inr ⟨.inl hk,c,hc,R⟩⟩
   .rw[Jj (A_ hj)]at e2
    obtain⟨u',Z,q⟩:=hl j y v' g e2 e3;refine⟨u',Z,?_⟩
    rcases q with q | ⟨k,S,e,z'⟩
    .exact .inl q
    .refine .inr ⟨k,S,e,z'.sameBut f ?_⟩
     rintro rfl;exact hj (iq hN g (I.ok.inj _ _ _ e hc ▸ N))
  .by_cases hcc:S=c
   .subst hcc;exact⟨_,R⟩
   .obtain⟨w2,z2⟩:=I.cell y S e
    exact⟨w2,z2.sameBut f hcc⟩
  .obtain⟨e,n,W,Y,d⟩:=I.pin p hp
   refine⟨(f.2 p.1 ?_).trans e,n,W,Y,d⟩;intro q;rw[q,O]at e;have q':oc=p.2:=k7 e;exact d T (by rw[<- q'];exact P)
def cz{M:HN}{A:m_}{E:b_->e_->Prop}{i:Nat}{x:Str}{v:V}{u:b_}{Q:Unit->e_->Prop}(I:Inv X pins σ H s)(d:X.N.Nodup)(a:X.N[i]? = some x)(b:Loc X.env.scope x)(r:RelV v u)
  (h:∀ s',Inv X pins (σ.set i (some v)) H s'->Q () s') (c:X.fn x = true\/X.env.scope.names.lookup x = some .local:=by first | exact .inl rfl | exact .inr rfl | assumption):ig M A (Hg X.env x u) Q E s :=
 mq I d a b r (λs' f _=>h s' f) c
def Inv.call'{a:e_}{ch:List Addr}(I:Inv X pins σ H s)(g:a.os=s.os)(u:Un (frs X.stack) ch H H' s.heap a.heap)(f:HOk X.prog X.w H' a.heap)(h:FD a.gens)
  (d:∀ b ∈ ch,(b ∈ X.ex\/X.s₀.heap.objs.size<=b)/\b≠X.env.locals/\(∀ x c,X.env.cells.lookup x = some c->c≠b)/\∀ p ∈ X.pn ++ pins,p.1≠b):Inv X pins σ H' a:=by
 obtain⟨j,g',d',t',i⟩:=a;have e:i=s.os:=g;subst e;exact I.call (g':=g') (t':=t') (d':=d') u f h d
end
abbrev XK:=b_->Option Addr->Hp->Prop
abbrev St:=List (Option V)
abbrev VK:=V->Hp->Prop
abbrev TE:=St->Hp->VK->Prop
abbrev TT:=St->Hp->(Bool->Hp->Prop)->Prop
abbrev TA:=St->Hp->(List V->Hp->Prop)->Prop
structure Ends where
 nx:St->Hp->Prop
 rt:VK
 bk:St->Hp->Prop:=λ_ _=>False
 ct:St->Hp->Prop:=λ_ _=>False
abbrev TS:=Ends->St->Hp->Prop
def EP(X:Cx)(pins:List (Addr×Obj))(σ:St)(Q:VK)(u:b_)(s':e_):Prop:=∃ v H',Inv X pins σ H' s'/\RelV v u/\Q v H'
def TP(X:Cx)(pins:List (Addr×Obj))(σ:St)(Q:Bool->Hp->Prop)(b:Bool)(s':e_):Prop:=∃ H',Inv X pins σ H' s'/\Q b H'
def AP(X:Cx)(pins:List (Addr×Obj))(σ:St)(Q:List V->Hp->Prop)(us:List b_)(s':e_):Prop:=∃ vs H',Inv X pins σ H' s'/\Vals vs us/\Q vs H'
def SP(X:Cx)(pins:List (Addr×Obj))(D:Ends)(f:Flow)(s':e_):Prop :=
 match f with
 | .next=>∃ σ' H',Inv X pins σ' H' s'/\D.nx σ' H'
 | .brk=>∃ σ' H',Inv X pins σ' H' s'/\D.bk σ' H'
 | .cont=>∃ σ' H',Inv X pins σ' H' s'/\D.ct σ' H'
 | .ret u=>∃ v σ' H',Inv X pins σ' H' s'/\RelV v u/\D.rt v H'
def PE(X:Cx)(e:Expr)(t:TE):Prop :=
 ∀(pins:List (Addr×Obj)) (s:e_) (σ:St) (H:Hp) (Q:VK),Inv X pins σ H s->t σ H Q->ig (lh X.prog X.w) X.A (eval e X.env) (EP X pins σ Q) X.xe s
def PT(X:Cx)(e:Expr)(t:TT):Prop :=
 ∀(pins:List (Addr×Obj)) (s:e_) (σ:St) (H:Hp) (Q:Bool->Hp->Prop),Inv X pins σ H s->t σ H Q->ig (lh X.prog X.w) X.A (KO e X.env (eval e X.env)) (TP X pins σ Q) X.xe s
def PW(X:Cx)(e:Expr)(t:TT):Prop :=
 ∀(whole:Sem b_) (pins:List (Addr×Obj)) (s:e_) (σ:St) (H:Hp) (Q:Bool->Hp->Prop),Inv X pins σ H s->t σ H Q->ig (lh X.prog X.w) X.A (KO e X.env whole) (TP X pins σ Q) X.xe s
def PW.pt{X:Cx}{e:Expr}{t:TT}(h:PW X e t):PT X e t:=h _
def PA(X:Cx)(es:List Expr)(t:TA):Prop :=
 ∀(pos:Pos) (pins:List (Addr×Obj)) (s:e_) (σ:St) (H:Hp) (Q:List V->Hp->Prop),Inv X pins σ H s->t σ H Q->ig (lh X.prog X.w) X.A (spliced (z_ pos (lg es X.env))) (AP X pins σ Q) X.xe s
def PS(X:Cx)(st:Stmt)(t:TS):Prop :=
 ∀(pins:List (Addr×Obj)) (s:e_) (σ:St) (H:Hp) (D:Ends),Inv X pins σ H s->t D σ H->ig (lh X.prog X.w) X.A (exec st X.env) (SP X pins D) X.xe s
def PSs(X:Cx)(st:List Stmt)(t:TS):Prop :=
 ∀(pins:List (Addr×Obj)) (s:e_) (σ:St) (H:Hp) (D:Ends),Inv X pins σ H s->t D σ H->ig (lh X.prog X.w) X.A (execs st X.env) (SP X pins D) X.xe s
def thn{c:Type}{t:Sem c}{Q b:c->e_->Prop}{M:HN}{A:m_}{E:b_->e_->Prop}{s:e_}(h:ig M A t Q E s)(d:∀ a s,Q a s->b a s):ig M A t b E s:=rc h d λ_ _ x=>x
section
variable {X:Cx}
def DO(i:Nat):TE:=λσ H Q=>∃ v,σ[i]? = some (some v)/\Q v H
def tC(v:V):TE:=λ_ H Q=>Q v H
def Ba{i:Nat}{x:Str}{f:Pos}(y:X.N[i]? = some x)(o:Vis X.env.scope x)(g:(x == ("__debug__" : Str))=false:=by decide)(j:(x == ("__classdict__" : Str))=false:=by decide):PE X (.Name x f) (DO i):=by
 intro d s q H Q I h;obtain⟨v,e,h⟩:=h;obtain⟨m,w,z⟩:=I.loc;obtain⟨u,r,l⟩:=z i x v y e o
 have b:EP X d q Q u s:=⟨v,H,I,r,h⟩
 rcases l with⟨hk,p⟩ | ⟨hk,c,k,a⟩
 .exact KP (Ke I.ok.kind hk w p b) g
 .rcases hk with hk | hk
  .exact KP (KD I.ok.kind hk k a b) g
  .exact KP (wpAny_loadName_free I.ok.kind hk k a b j) g
def am{i j pos}:PE X (.Constant (.int i) j pos) (tC (.int i)):=λ_ _ _ H _ I h=>wpAny_Constant_int ⟨.int i,H,I.tok _,⟨_,rfl⟩,h⟩
def ni{b j pos}:PE X (.Constant (.bool b) j pos) (tC (.bl b)):=λ_ _ _ H _ I h=>Constant_bool ⟨.bl b,H,I,rfl,h⟩
def Bu{j pos}:PE X (.Constant .none j pos) (tC .non):=λ_ _ _ H _ I h=>Constant_none ⟨.non,H,I,rfl,h⟩
def q5{x j pos}:PE X (.Constant (.str x) j pos) (tC (.str x)):=λ_ _ _ H _ I h=>Calls.Constant_str ⟨.str x,H,I.tok _,⟨_,rfl⟩,h⟩
def Gl(X:Cx)(x:Str):Prop:=X.env.kindOf x=some .globalImplicit
def eQ{E:b_->e_->Prop}{a:List (Addr×Obj)}{s:e_}{g:St}{H:Hp}{x:Str}{u:b_}{b:Pos}{Q:b_->e_->Prop}(I:Inv X a g H s)(d:Gl X x)(f:X.mg x=some u)(h:Q u s)
  (c:(x == ("__debug__" : Str))=false:=by decide):ig (lh X.prog X.w) X.A (eval (.Name x b) X.env) Q E s :=
 HP I.ok.kind d (Calls.loadGlobal_global (by rw[I.ok.glob];exact I.mod.glob.keeps I.bk) f h) c
def iN{E:b_->e_->Prop}{a:List (Addr×Obj)}{s:e_}{j:St}{H:Hp}{x:Str}{u:b_}{b:Pos}{Q:b_->e_->Prop}(I:Inv X a j H s)(g:Gl X x)(i:X.mg x=none)(f:px x=some u)(h:Q u s)
  (k:x ≠ "__name__" := by decide) (c:(x == ("__debug__" : Str))=false:=by decide):ig (lh X.prog X.w) X.A (eval (.Name x b) X.env) Q E s:=by
 obtain⟨p,o,d⟩:=I.mod.blt;exact HP I.ok.kind g (Calls.loadGlobal_builtin (by rw[I.ok.glob];exact I.mod.glob.keeps I.bk) i (by rw[I.ok.blt];exact o.keeps I.bk) ((d x k).trans f) h) c
def yQ{x:Str}{v:V}{u:b_}{a:Pos}(b:Gl X x)(c:X.mg x=some u)(r:RelV v u)(d:(x == ("__debug__" : Str))=false:=by decide):PE X (.Name x a) (tC v) :=
 λ_ _ _ H _ I h=>eQ I b c ⟨v,H,I,r,h⟩ d
def oy{x:Str}{v:V}{u:b_}{a:Pos}(d:Gl X x)(f:X.mg x=none)(c:px x=some u)(r:RelV v u)(g:x ≠ "__name__" := by decide)(b:(x == ("__debug__" : Str))=false:=by decide):PE X (.Name x a) (tC v) :=
 λ_ _ _ H _ I h=>iN I d f c ⟨v,H,I,r,h⟩ g b
variable {a b:Expr}{ta tb:TE}{pos:Pos}
def tB(t:TE):TT:=λσ H Q=>t σ H λx H1=>∃ c,x=.bl c/\Q c H1
variable {tA tB':TT}{rest:List Expr}
def tOr(t u:TT):TT:=λσ H Q=>t σ H λc H1=>if c=true then Q true H1 else u σ H1 Q
def DY(t:TT):TT:=λσ H Q=>t σ H λc H1=>Q (!c) H1
def An(f:PT X a tA):PW X (.BoolOp .Or [a] pos) tA:=by
 intro i b s d H Q I h;refine isTrue_or (thn (f b s d H Q I h) λc g e=>?_);cases c with
 | false=>exact isTrue_or_nil e
 | true=>exact e
def CS(q:PT X a tA)(o:PW X (.BoolOp .Or (b::rest) pos) tB'):PW X (.BoolOp .Or (a::b::rest) pos) (tOr tA tB'):=by
 intro p d s i H Q I h;refine isTrue_or (thn (q d s i H _ I h) λc k ⟨g,j,f⟩=>?_);cases c with
 | true=>exact⟨g,j,f⟩
 | false=>exact o p d k i g Q j f
def c7(d:PT X a tA):PT X (.UnaryOp .Not a pos) (DY tA):=by
 intro b s g H Q I h;exact isTrue_not (d b s g H (λc f=>Q (!c) f) I h)
def nI{op}{t:TE}(h:PE X a t):PE X (.BoolOp op [a] pos) t:=λb s d H Q I c=>BoolOp_one (h b s d H Q I c)
def tIf(t:TT)(ta tb:TE):TE:=λσ H Q=>t σ H λc H1=>if c=true then ta σ H1 Q else tb σ H1 Q
def wA{c:Expr}(r:PT X c tA)(q:PE X a ta)(p:PE X b tb):PE X (.IfExp c a b pos) (tIf tA ta tb):=by
 intro f s g H Q I h;refine wpAny_IfExp (thn (r f s g H _ I h) λd k ⟨j,o,i⟩=>?_);cases d with
 | true=>exact q f k g j Q o i
 | false=>exact p f k g j Q o i
end
def SqL(K:Frag)(H:Hp)(a:Addr)(xs:List V):Prop :=
 Rd H a (.lst xs) \/
  ∃(o:Obj) (its:Array b_) (n:Nat),K.lookup a=some o/\o.cls=.type "list" /\ o.dict=none/\o.data=.seq its n/\its.size<=sizeLine/\Vals xs its.toList
def SqT(K:Frag)(H:Hp)(a:Addr)(xs:List V):Prop :=
 Rd H a (.tup xs) \/
  ∃(o:Obj) (its:Array b_) (n:Nat),K.lookup a=some o/\o.cls=.type "tuple" /\ o.data=.seq its n/\its.size<=sizeLine/\Vals xs its.toList
def Eh:b_->Option V
 | .none=>some .non
 | .bool b=>some (.bl b)
 | .int i _=>some (.int i)
 | .str x _=>some (.str x)
 | .bytes b _=>some (.byt b)
 | .float b _=>some (.flt b)
 | .ref a=>some (.ref a)
 | .type n=>some (.ty n)
 | _=>none
def RelV.abs{x:V}{u:b_}(r:RelV x u):Eh u=some x:=by
 cases x with
 | non=>cases r;rfl
 | bl _=>cases r;rfl
 | int _=>obtain⟨t,rfl⟩:=r;rfl
 | str _=>obtain⟨t,rfl⟩:=r;rfl
 | byt _=>obtain⟨t,rfl⟩:=r;rfl
 | flt _=>obtain⟨t,rfl⟩:=r;rfl
 | ref _=>cases r;rfl
 | ty _=>cases r;rfl
def RelV.inj{x y:V}{u:b_}(r:RelV x u)(q:RelV y u):x=y:=k7 (r.abs.symm.trans q.abs)
def Vals.inj:∀{xs ys:List V}{us:List b_},Vals xs us->Vals ys us->xs=ys
 | _,_,_,.nil,.nil=>rfl
 | _,_,_,.cons r t,.cons r' t'=>by rw[r.inj r',Vals.inj t t']
section
variable {X:Cx}{pins:List (Addr×Obj)}{σ:St}{H:Hp}{s:e_}{a:Addr}{xs ys:List V}
def SqL.of{K:Frag}(h:H a=some (.lst xs)):SqL K H a xs:=.inl (.inl h)
def SqT.of{K:Frag}(h:H a=some (.tup xs)):SqT K H a xs:=.inl (.inl h)
def Inv.list(I:Inv X pins σ H s)(h:SqL X.K H a xs):∃ its:List b_,Vals xs its/\PlainL s.heap a its.toArray/\xs.length<=sizeLine:=by
 rcases h with h | ⟨o,its,n,b,f,c,d,g,r⟩
 .obtain⟨z,its,n,r,e⟩:=h.ok I.hok
  exact⟨its,r,⟨_,n,e,rfl,rfl,rfl⟩,z⟩
 .refine⟨its.toList,r,⟨o,n,I.kIn a o b,f,c,by simpa using d⟩,?_⟩
  have e:=r.length;simp only[y2]at e;lia
def Inv.tuple(I:Inv X pins σ H s)(h:SqT X.K H a xs):∃ its:List b_,Vals xs its/\IsTup s.heap a its.toArray/\xs.length<=sizeLine:=by
 rcases h with h | ⟨o,its,n,b,c,d,f,r⟩
 .obtain⟨z,its,r,p⟩:=h.ok I.hok
  exact⟨its,r,p,z⟩
 .refine⟨its.toList,r,⟨o,I.kIn a o b,c,n,by simpa using d⟩,?_⟩
  have e:=r.length;simp only[y2]at e;lia
def Inv.list_inj(I:Inv X pins σ H s)(h:SqL X.K H a xs)(h':SqL X.K H a ys):xs=ys:=by
 obtain⟨c,r,⟨o,n,e,_,_,d⟩,_⟩:=I.list h;obtain⟨b,i,⟨k,j,f,_,_,g⟩,_⟩:=I.list h';rw[e]at f;cases f;rw[d]at g;injection g with d1 _
 have:c=b:=by simpa using congrArg Array.toList d1
 subst this;exact r.inj i
def Inv.tuple_inj(I:Inv X pins σ H s)(h:SqT X.K H a xs)(h':SqT X.K H a ys):xs=ys:=by
 obtain⟨c,r,⟨o,e,_,n,d⟩,_⟩:=I.tuple h;obtain⟨b,i,⟨k,f,_,j,g⟩,_⟩:=I.tuple h';rw[e]at f;cases f;rw[d]at g;injection g with d1 _
 have:c=b:=by simpa using congrArg Array.toList d1
 subst this;exact r.inj i
end
abbrev Cx.wish(X:Cx)(E:b_->e_->Prop):Cx:={ X with xe:=E }
abbrev Cx.nox(X:Cx):Cx:=X.wish λ_ _=>False
def Cx.Ok.wish{X:Cx}(a:X.Ok)(E:b_->e_->Prop):(X.wish E).Ok :=
 ⟨a.mod,a.kind,a.glob,a.blt,a.above,a.inj,a.has,a.cab,a.hd,a.frames,a.stk,a.exf,a.bs,a.bsz,a.noex,a.exfs,a.funs,a.frf⟩
def Cx.Ok.unwish{X:Cx}{E:b_->e_->Prop}(a:(X.wish E).Ok):X.Ok :=
 ⟨a.mod,a.kind,a.glob,a.blt,a.above,a.inj,a.has,a.cab,a.hd,a.frames,a.stk,a.exf,a.bs,a.bsz,a.noex,a.exfs,a.funs,a.frf⟩
section
variable {X:Cx}{pins:List (Addr×Obj)}{σ:St}{H:Hp}{s:e_}{E:b_->e_->Prop}
def Inv.wish(I:Inv X pins σ H s)(E:b_->e_->Prop):Inv (X.wish E) pins σ H s:=⟨I.ok.wish E,I.os,I.bare,I.base,I.loc,I.cell,I.free,I.freeC,I.pin,I.hok,I.len⟩
def Inv.unwish(I:Inv (X.wish E) pins σ H s):Inv X pins σ H s:=⟨I.ok.unwish,I.os,I.bare,I.base,I.loc,I.cell,I.free,I.freeC,I.pin,I.hok,I.len⟩
def SP.unwish{D:Ends}{f:Flow}{c:e_}(h:SP (X.wish E) pins D f c):SP X pins D f c:=by
 cases f with
 | next=>obtain⟨a,b,I,q⟩:=h;exact⟨a,b,I.unwish,q⟩
 | brk=>obtain⟨a,b,I,q⟩:=h;exact⟨a,b,I.unwish,q⟩
 | cont=>obtain⟨a,b,I,q⟩:=h;exact⟨a,b,I.unwish,q⟩
 | ret u=>obtain⟨v,a,b,I,r,q⟩:=h;exact⟨v,a,b,I.unwish,r,q⟩
def PSs.nox{st:List Stmt}{t:TS}(h:PSs X.nox st t):PSs X st t:=λa s c H D I b =>
 rc (h a s c H D (I.wish _) b) (λ_ _ q=>q.unwish) λ_ _ z=>k_ z
end
section
variable {X:Cx}{st:Stmt}{rest:List Stmt}{t u:TS}{e:Expr}{te:TE}{pos:Pos}
def BV:TS:=λD σ H=>D.nx σ H
def az(t u:TS):TS:=λD σ H=>t { D with nx:=u D } σ H
def aG:PSs X [] BV:=λ_ _ a H _ I h=>GT ⟨a,H,I,h⟩
def af(j:PS X st t)(d:PSs X rest u):PSs X (st::rest) (az t u):=by
 intro a s i H D I h;refine B0 (thn (j a s i H { D with nx:=u D } I h) λf g q=>?_);cases f with
 | next =>
  obtain⟨b,c,k,q⟩:=q;exact d a g b c D k q
 | ret v=>exact q
 | brk=>exact q
 | cont=>exact q
def ag(b:PS X st t):PSs X [st] t:=by
 intro a s c H D I h;refine B0 (thn (b a s c H D I h) λf d q=>?_);cases f with
 | next=>exact GT q
 | ret v=>exact q
 | brk=>exact q
 | cont=>exact q
def Inv.quiet{a:List (Addr×Obj)}{b:St}{H:Hp}{s:e_}(I:Inv X a b H s):interactive X.env=false:=by simp[interactive,I.ok.kind]
def Da(te:TE):TS:=λD σ H=>te σ H λ_ H1=>D.nx σ H1
def bR(i:PE X e te)(f:FU e none pos.line X.env=pure false:=by rfl):PS X (.Expr e pos) (Da te):=by
 intro a s b H D I h;exact wpAny_Expr_any (thn (i a s b H _ I h) λv k ⟨x,c,d,j,g⟩=>⟨b,c,d,g⟩) I.quiet f
def Ep(te:TE):TS:=λD σ H=>te σ H D.rt
def ao(i:PE X e te):PS X (.Return (some e) pos) (Ep te):=by
 intro a s b H D I h;exact Gg (thn (i a s b H _ I h) λv j ⟨x,d,f,c,g⟩=>⟨x,b,d,f,c,g⟩)
def Er(c:TT)(t u:TS):TS:=λD σ H=>c σ H λb H1=>if b=true then t D σ H1 else u D σ H1
def bc{c:Expr}{a b:List Stmt}{p:TT}(v:PT X c p)(r:PSs X a t)(q:PSs X b u):PS X (.If c a b pos) (Er p t u):=by
 intro f s g H D I h;refine wpAny_If (thn (v f s g H _ I h) λd k ⟨j,o,i⟩=>?_);cases d with
 | true=>exact r f k g j D o i
 | false=>exact q f k g j D o i
def AH:TS:=λ_ _ _=>False
def fB:PS X st AH:=λ_ _ _ _ _ _ h=>h.elim
end
abbrev TG:=V->St->Hp->(St->Hp->Prop)->Prop
abbrev TGs:=List V->St->Hp->(St->Hp->Prop)->Prop
def PG(X:Cx)(target:Expr)(t:TG):Prop :=
 ∀(pins:List (Addr×Obj)) (s:e_) (σ:St) (H:Hp) (v:V) (u:b_) (Q:St->Hp->Prop),Inv X pins σ H s->RelV v u->t v σ H Q ->
  ig (lh X.prog X.w) X.A (IW target X.env u) (λ_ s'=>∃ σ' H',Inv X pins σ' H' s'/\Q σ' H') X.xe s
def PGs(X:Cx)(ts:List Expr)(t:TGs):Prop :=
 ∀(pins:List (Addr×Obj)) (s:e_) (σ:St) (H:Hp) (vs:List V) (us:List b_) (Q:St->Hp->Prop),Inv X pins σ H s->Vals vs us->t vs σ H Q ->
  ig (lh X.prog X.w) X.A (Jp ((EU ts X.env).map (·.2)) us) (λ_ s'=>∃ σ' H',Inv X pins σ' H' s'/\Q σ' H') X.xe s
abbrev TIp:=V->V->Hp->VK->Prop
def PIp(X:Cx)(op:IX)(t:TIp):Prop :=
 ∀(pins:List (Addr×Obj)) (s:e_) (σ:St) (H:Hp) (x y:V) (v u:b_) (Q:VK),Inv X pins σ H s->RelV x v->RelV y u->t x y H Q ->
  ig (lh X.prog X.w) X.A (Ll op v u) (EP X pins σ Q) X.xe s
section
variable {X:Cx}{pos:Pos}
def iH(i:Nat):TG:=λv σ H Q=>Q (σ.set i (some v)) H
def aN{i:Nat}{x:Str}(f:X.N.Nodup)(b:X.N[i]? = some x)(c:Loc X.env.scope x)(d:X.fn x = true\/X.env.scope.names.lookup x = some .local:=by first | exact .inl rfl | exact .inr rfl | assumption):PG X (.Name x pos) (iH i):=by
 intro a s j H v u Q I r h;exact K5 (cz I f b c r (λk g=>⟨_,H,g,h⟩) d)
def CQ:TGs:=λvs σ H Q=>vs=[]/\Q σ H
inductive gCons(t:TG)(u:TGs)(vs:List V)(σ:St)(H:Hp)(Q:St->Hp->Prop):Prop
 | mk(v:V)(r:List V)(h0:vs=v::r)(h1:t v σ H λσ' H'=>u r σ' H' Q):gCons t u vs σ H Q
def dM:PGs X [] CQ:=by
 intro a s b H c d Q I r h;obtain⟨e,h⟩:=h;subst e;cases r;exact K6 ⟨b,H,I,h⟩
def aW{e:Expr}{b:List Expr}{t:TG}{u:TGs}(o:PG X e t)(f:PGs X b u)
  (p:(EU (e::b) X.env).map (·.2)=IW e X.env::(EU b X.env).map (·.2):=by rfl):PGs X (e::b) (gCons t u):=by
 intro a s i H x y Q I r h;obtain⟨v,w,j,h⟩:=h;subst j;cases r with
 | cons r rr =>
  rw[p];refine Hx (thn (o a s i H _ _ _ I r h) λ_ g ⟨c,d,k,q⟩=>?_);exact f a g c d _ _ Q k rr q
inductive gTup(K:Frag)(n:Nat)(t:TGs)(v:V)(σ:St)(H:Hp)(Q:St->Hp->Prop):Prop
 | mk(a:Addr)(xs:List V)(h0:v=.ref a)(h1:SqT K H a xs)(h2:xs.length=n)(h3:t xs σ H Q):gTup K n t v σ H Q
def gZ{d:List Expr}{k:Nat}{t:TGs}{n:Nat}(E:X.calm=true)(h:PGs X d t)
  (x:(EU d X.env).length=n:=by rfl) (f:(EU d X.env).findIdx? (·.1)=none:=by rfl):PG X (.Tuple d k pos) (gTup X.K n t):=by
 intro c s i H v u Q I r g;obtain⟨a,z,y,C,D,g⟩:=g;subst y;cases r;obtain⟨p,j,B,F⟩:=I.tuple C;refine assign_Tuple_tuple (I.ok.hd E) B (by simp[x,<- D,j.length]) f λq w=>?_
 have A:Inv X c i H { s with heap:=q }:=I.kept (t':=s.toks) λb o e=>w b o (kw (f_ e)) e
 exact h c _ i H z _ Q A (by simpa using j) g
def vf(te:TE)(g:TG):TS:=λD σ H=>te σ H λx H1=>g x σ H1 D.nx
def qU{tg e:Expr}{c:TE}{g:TG}(w:PE X e c)(i:PG X tg g)(p:swapsWithSole [tg] e pos.line X.env=pure false:=by rfl)(k:swappedStores [tg] e X.env=pure none:=by rfl)
  (r:(EU [tg] X.env).map (·.2)=[IW tg X.env]:=by rfl):PS X (.Assign [tg] e pos) (vf c g):=by
 intro a s b H D I h;refine wpAny_Assign_stores (thn (w a s b H _ I h) λv j ⟨x,f,o,d,u⟩=>?_) p k;rw[r];exact thn (i a j b f x v _ o d u) λ_ y q=>q
def rE{i:Nat}{x:Str}{e:Expr}{c:TE}{a:Pos}(r:X.N.Nodup)(g:X.N[i]? = some x)(j:Loc X.env.scope x)(z:PE X e c)(q:FU e (some (.Name x a)) pos.line X.env = pure false:=by rfl)(o:X.fn x = true\/X.env.scope.names.lookup x = some .local:=by first | exact .inl rfl | exact .inr rfl | assumption) :
  PS X (.Assign [.Name x a] e pos) (vf c (iH i)):=by
 intro b s k H D I h;refine wpAny_Assign_Name (thn (z b s k H _ I h) λv B ⟨y,f,p,d,u⟩=>?_) q;exact cz p r g j d (λA w=>⟨_,f,w,u⟩) o
def Et(i j:Nat)(ta:TA):TS:=λD σ H=>ta σ H λvs H1=>∃ v w,vs=[v,w]/\D.nx ((σ.set i (some v)).set j (some w)) H1
def BI{i j:Nat}{x y:Str}{a b:Expr}{J:TA}{k r u:Pos}{kt k2 pt2}(T:X.calm=true)(F:X.N.Nodup)(Y:X.N[i]? = some x)(W:X.N[j]? = some y)(z:i≠j)
  (E:X.env.scope.names.lookup x = some .local) (C:X.env.scope.names.lookup y = some .local) (M:PA X [a,b] J)
  (N:swappedStores [.Tuple [.Name x k,.Name y r] kt u] (.Tuple [a,b] k2 pt2) X.env=pure (some [x,y]))
  (O:swapsWithSole [.Tuple [.Name x k,.Name y r] kt u] (.Tuple [a,b] k2 pt2) pos.line X.env=pure false:=by rfl) :
  PS X (.Assign [.Tuple [.Name x k,.Name y r] kt u] (.Tuple [a,b] k2 pt2) pos) (Et i j J):=by
 intro c s G H D I h;rw[exec_Assign_arm];refine a_ (FE ?_);rw[O];refine a_ (fL ?_);rw[if_neg (by decide)];refine a_ (Tuple_ (thn (M _ c s G H _ I h) λP d ⟨vs,B,L,R,g⟩=>?_));obtain⟨v,w,K,g⟩:=g;subst K
 obtain⟨u1,u2,rfl,rv,rw'⟩:∃ u1 u2,P=[u1,u2]/\RelV v u1/\RelV w u2:=by
  cases R with
  | cons p q =>
   cases q with
   | cons p' q' =>
    cases q';exact⟨_,_,rfl,p,p'⟩
 refine pw ?_ (by show 2<=sizeLine;decide);have Z:Inv X c G B { d with heap:=d.heap.push { cls:=.type "tuple",data:=.seq [u1,u2].toArray } }:=L.kept (t':=d.toks) λb o e=>c_ _ e
 rw[N];refine a_ (fL ?_);show ig (lh X.prog X.w) X.A (do rule "assign.swapped-stores";let items <- Kf (.ref d.heap.objs.size) 2 none;Jp [λv=>Kg X.env y v,λv=>Kg X.env x v] items.reverse;pure Flow.next) _ _ _;refine a_ (Hy (a_ (unpackItems_tuple (items:=#[u1,u2]) (I.ok.hd T) (JH d.heap _) λh' f=>?_)));have S:=Z.kept (h':=h') (t':=d.toks) λb o e=>f b o (kw (f_ e)) e
 show ig _ _ (Jp [λv=>Kg X.env y v,λv=>Kg X.env x v] [u2,u1] >>= λ_=>pure Flow.next) _ _ _;refine a_ (Hx (LH (cz S F W (.inl C) rw' (λs2 Q=>?_) (.inr C))));refine Hx (LH (cz Q F Y (.inl E) rv (λs3 A=>K6 (fL ?_)) (.inr E)));rw[List.set_comm _ _ (A_ z)]at A;exact⟨_,B,A,g⟩
def D4(i:Nat)(te:TE)(ti:TIp):TS:=λD σ H=>∃ x,σ[i]? = some (some x)/\te σ H λy H1=>ti x y H1 λz H2=>D.nx (σ.set i (some z)) H2
def xG{i:Nat}{x:Str}{e:Expr}{p:TE}{op:IX}{q:TIp}{f:Pos}(L:X.N.Nodup)(B:X.N[i]? = some x)(g:Loc X.env.scope x)(N:PE X e p)(K:PIp X op q)(Z:X.fn x = true\/X.env.scope.names.lookup x = some .local:=by first | exact .inl rfl | exact .inr rfl | assumption) :
  PS X (.AugAssign (.Name x f) op e pos) (D4 i p q):=by
 intro a s A H D I h;obtain⟨v,E,h⟩:=h;obtain⟨m,Y,J⟩:=I.loc;have j:Vis X.env.scope x:=by rcases g with k | k;exact .inl k;exact .inr (.inl k)
 obtain⟨u,r,l⟩:=J i x v B E j;refine wpAny_AugAssign_Name ?_
 have o:ig (lh X.prog X.w) X.A (eval e X.env) (λw d=>ig (lh X.prog X.w) X.A (Ll op u w) (λr s₃=>ig (lh X.prog X.w) X.A (Hg X.env x r) (λ_=>SP X a D .next) X.xe s₃) X.xe d) X.xe s:=by
  refine thn (N a s A H _ I h) λw R ⟨y,C,F,O,M⟩=>?_
  refine thn (K a R A C v y u w _ F r O M) λz s2 ⟨zv,S,I2,G,P⟩=>?_
  exact cz I2 L B g G (λs3 T=>⟨_,S,T,P⟩) Z
 rcases l with⟨hk,Q⟩ | ⟨hk,c,W,b⟩
 .exact Ke I.ok.kind hk Y Q o
 .rcases hk with hk | hk
  .exact KD I.ok.kind hk W b o
  .rcases g with k | k
   .have:X.env.scope.names.lookup x=some .free:=hk
    rw[k]at this;cases this
   .have:X.env.scope.names.lookup x=some .free:=hk
    rw[k]at this;cases this
def ipI(f:Int->Int->Int):TIp:=λx y H Q=>∃ i j,x=.int i/\y=.int j/\Q (.int (f i j)) H
def wM:PIp X .Add (ipI λi j=>i+j):=by
 intro a s k H x y v u Q I b f h;obtain⟨i,j,c,d,q⟩:=h;subst c;subst d;obtain⟨t,rfl⟩:=b;obtain⟨g,rfl⟩:=f;exact iadd_int ⟨.int _,H,I.tok _,⟨_,rfl⟩,q⟩
def AR(c:TT)(tb:TS):TS:=λD σ H=>∃ W:Nat->St->Hp->Prop,(∃ m,W m σ H)/\∀ m σ H,W m σ H ->
 c σ H λb H1=>if b=true then ∃ N:St->Hp->Prop,(∀ σ' H',N σ' H'->∃ m',m'<m/\W m' σ' H')/\tb { D with nx:=N,ct:=N,bk:=D.nx } σ H1 else D.nx σ H1
def iE{c:Expr}{body:List Stmt}{B:TT}{y:TS}(z:Lm (lh X.prog X.w) X.A X.env X.xe)(R:PT X c B)(G:PSs X body y):PS X (.While c body [] pos) (AR B y):=by
 intro a s Q H D I h;obtain⟨W,⟨O,L⟩,j⟩:=h;refine wpAny_While (codeAny_whileLoop (λn K=>∃ σ' H',Inv X a σ' H' K/\W n σ' H') ?_ O ⟨Q,H,I,L⟩);rintro n P ⟨g,x,J,M⟩;refine E1 z (thn (R a P g x _ J (j n g x M)) λb F ⟨C,E,k⟩=>?_);cases b with
 | true =>
  obtain⟨N,A,k⟩:=k;rw[if_pos rfl];refine E1 z (thn (G a F g C _ E k) λf S o=>?_);cases f with
  | next =>
   obtain⟨d,i,u,w⟩:=o;obtain⟨p,r,q⟩:=A d i w;exact⟨p,r,d,i,u,q⟩
  | cont =>
   obtain⟨d,i,u,w⟩:=o;obtain⟨p,r,q⟩:=A d i w;exact⟨p,r,d,i,u,q⟩
  | brk=>exact o
  | ret v=>exact o
 | false =>
  rw[if_neg hY];exact GT ⟨g,C,E,k⟩
end
structure It where
 go:Nat->Hp->Prop
 yld:Nat->Hp->V->Hp->Prop
 stop:Nat->Hp->Prop
def gX(X:Cx)(pins:List (Addr×Obj))(H:Hp)(b:Addr):Prop :=
 H b = none/\b≠X.env.locals/\b ∉ X.fs/\(b ∈ X.ex\/X.s₀.heap.objs.size<=b)/\(∀ x c,X.env.cells.lookup x = some c->c≠b)/\∀ p ∈ X.pn ++ pins,p.1≠b
def Inv.fpOk{X:Cx}{a:List (Addr×Obj)}{g:St}{H H':Hp}{s:e_}{b:Addr}(I:Inv X a g H s)(d:s.heap.objs.size<=b)(f:H' b=none):gX X a H' b:=by
 refine⟨f,FJ (g_ I.lt d),I.nofs d,.inr (lB I.sz d),λx c e z=>?_,λp hp z=>?_⟩
 .obtain⟨v,q⟩:=I.cell x c e
  exact absurd (g_ q.lt (by rw[z];exact d)) (o5 _)
 .exact absurd (g_ (f_ (I.pin p hp).1) (by rw[z];exact d)) (o5 _)
structure Turn(P:hH)(w:lA)(K:Frag)(tg:Expr)(J:It)(fp:List Addr)(it:Addr)(tn:Nat->Heap->Prop):Prop where
 mem:it∈fp
 obj:∀ i h,tn i h->∀ b∈fp,∃ o,h.get? b=some o/\∀ v,o.data≠.cell v
 keep:∀ i h h',tn i h->(∀ b∈fp,∀ o,h.get? b=some o->h'.get? b=some o)->tn i h'
 item:∀(X:Cx),X.prog=P->X.w=w->X.K=K->X.calm=true->∀(i:Nat) (pins:List (Addr×Obj)) (s:e_) (σ:St) (H:Hp) (E:b_->e_->Prop),Inv X pins σ H s->(∀ b∈fp,gX X pins H b)->tn i s.heap->J.go i H ->
  ig (lh P w) X.A (JI (.ref it)) (λr s1=>∃ u,r=some u /\
   ig (lh P w) X.A (IK tg (.ref it) u) (λ_ s2=>∃ x H',Inv X pins σ H' s2/\RelV x u/\J.yld i H x H'/\tn (i+1) s2.heap/\∀ b∈fp,H' b=none) E s1) E s
 done:∀(X:Cx),X.prog=P->X.w=w->X.K=K->X.calm=true->∀(i:Nat) (pins:List (Addr×Obj)) (s:e_) (σ:St) (H:Hp) (E:b_->e_->Prop),Inv X pins σ H s->(∀ b∈fp,gX X pins H b)->tn i s.heap->J.stop i H ->
  ig (lh P w) X.A (JI (.ref it)) (λr s1=>r=none/\Inv X pins σ H s1) E s
 self:∀(A:m_) (i:Nat) (s:e_) (Q:b_->e_->Prop) (E:b_->e_->Prop),tn i s.heap->Q (.ref it) s->ig (lh P w) A (LI (.ref it)) Q E s
abbrev TI:=St->Hp->(It->Hp->Prop)->Prop
def PIE(X:Cx)(pins:List (Addr×Obj))(σ:St)(tg:Expr)(R:It->Hp->Prop)(itv:b_)(s2:e_):Prop :=
 ∃(it:Addr) (fp:List Addr) (tn:Nat->Heap->Prop) (J:It) (H':Hp),itv=.ref it/\Inv X pins σ H' s2/\Turn X.prog X.w X.K tg J fp it tn/\tn 0 s2.heap/\(∀ b∈fp,gX X pins H' b)/\R J H'
def PI(X:Cx)(tg iter:Expr)(wi:TI):Prop :=
 ∀(pins:List (Addr×Obj)) (s:e_) (σ:St) (H:Hp) (R:It->Hp->Prop),Inv X pins σ H s->wi σ H R ->
  ig (lh X.prog X.w) X.A (eval iter X.env) (λv s1=>ig (lh X.prog X.w) X.A (LI v) (PIE X pins σ tg R) X.xe s1) X.xe s
def oO{M:HN}{A:m_}{E:b_->e_->Prop}{s:e_}{tg:Expr}{b:Addr}{u:b_}{o:Obj}{n:String}{vs:Array b_}{Q:Unit->e_->Prop}(c:s.heap.get? b=some o)(g:o.cls=.type n)(d:o.data=.fields vs)
  (f:["enumerate","zip","dict_itemiterator","dict_reverseitemiterator","odict_iterator","itertools.zip_longest","itertools.pairwise"].contains n=false) (a:Q () s):ig M A (IK tg (.ref b) u) Q E s:=by
 unfold IK
 cases tg <;> first
  | exact fL a
  | (cases u <;> first
    | exact fL a
    | (refine a_ (KQ c ?_)
       rw[g,d];show ig M A (if (["enumerate","zip","dict_itemiterator","dict_reverseitemiterator","odict_iterator","itertools.zip_longest","itertools.pairwise"].contains n && vs[0]? == some (n7 _))=true then _ else _) Q E s;rw[if_neg (by intro h;rw[f,Bool.false_and]at h;cases h)]
       exact fL a))
def Itl(K:Frag)(a:Addr):It :=
 ⟨λi H=>∃ xs x,SqL K H a xs/\xs[i]? = some x,λi H x H'=>H'=H/\∀ xs,SqL K H a xs->xs[i]? = some x,λi H=>∃ xs,SqL K H a xs/\xs.length<=i⟩
def Itt(K:Frag)(a:Addr):It :=
 ⟨λi H=>∃ xs x,SqT K H a xs/\xs[i]? = some x,λi H x H'=>H'=H/\∀ xs,SqT K H a xs->xs[i]? = some x,λi H=>∃ xs,SqT K H a xs/\xs.length<=i⟩
def Itr(lo:Int)(n:Nat):It:=⟨λi _=>i<n,λi H x H'=>H'=H/\x=.int (lo+i),λi _=>n<=i⟩
def uR{P:hH}{w:lA}{K:Frag}{tg:Expr}(a q:Addr):Turn P w K tg (Itl K a) [q] q (λi h=>h.IsListIter q a i) where
 mem:=by simp
 obj:=λi h f b j=>by
  have e:b=q:=by simpa using j
  subst e;obtain⟨o,e,c,d⟩:=f;exact⟨o,e,λv z=>by rw[d]at z;cases z⟩
 keep:=λi h y f k=>f.at λo e=>k q (by simp) o e
 item:=by
  intro X J G S W i g s T H E I B f Q;subst J G S;obtain⟨Z,x,A,F⟩:=Q;obtain⟨O,C,p,hz⟩:=I.list A;obtain⟨u,Y,ru⟩:=C.get F;obtain⟨N,L,f2,M,D,R⟩:=B q (by simp);refine JJ f p.isList (x:=u) (by simpa using Y) λy r sb=>?_
  have I1:Inv X g T H { s with heap:=y }:=I.turned (t':=s.toks) (λb o j e=>(sb.2 b j).trans e) N L M D R;obtain⟨o,e,c,d⟩:=id r;exact⟨u,rfl,oO (s:={ s with heap:=y }) e c d (by decide) ⟨x,H,I1,ru,⟨rfl,λys hy=>by rw[I.list_inj hy A];exact F⟩,r,λb j=>(B b j).1⟩⟩
 done:=by
  intro X J G S W i g s T H E I B f Q;subst J G S;obtain⟨Z,A,F⟩:=Q;obtain⟨O,C,p,hz⟩:=I.list A;obtain⟨N,L,f2,M,D,R⟩:=B q (by simp);have hl:=C.length
  exact J4 (I.ok.hd W) f p.isList (by simp;lia) λy eb=>⟨rfl,I.turned (t':=s.toks) (λb o j e=>eb b o j e) N L M D R⟩
 self:=λ_ _ _ _ _ f h=>wpAny_pyIter_listiter f h
def rh{P:hH}{w:lA}{K:Frag}{tg:Expr}(a q:Addr):Turn P w K tg (Itt K a) [q] q (λi h=>h.IsTupleIter q a i) where
 mem:=by simp
 obj:=λi h f b j=>by
  have e:b=q:=by simpa using j
  subst e;obtain⟨o,e,c,d⟩:=f;exact⟨o,e,λv z=>by rw[d]at z;cases z⟩
 keep:=λi h A f k=>f.at λo e=>k q (by simp) o e
 item:=by
  intro X L J S W i g s T H E I C f Q;subst L J S;obtain⟨Z,x,B,G⟩:=Q;obtain⟨r,D,p,hz⟩:=I.tuple B;obtain⟨u,Y,ru⟩:=D.get G;obtain⟨O,M,f2,N,F,R⟩:=C q (by simp);refine wpAny_pyNext_tuple_item f (show s.heap.IsTuple a r.toArray from p) (x:=u) (by simpa using Y) λA y sb=>?_
  have I1:Inv X g T H { s with heap:=A }:=I.turned (t':=s.toks) (λb o j e=>(sb.2 b j).trans e) O M N F R;obtain⟨o,e,c,d⟩:=id y;exact⟨u,rfl,oO (s:={ s with heap:=A }) e c d (by decide) ⟨x,H,I1,ru,⟨rfl,λys hy=>by rw[I.tuple_inj hy B];exact G⟩,y,λb j=>(C b j).1⟩⟩
 done:=by
  intro X L J S W i g s T H E I C f Q;subst L J S;obtain⟨Z,B,G⟩:=Q;obtain⟨r,D,p,hz⟩:=I.tuple B;obtain⟨O,M,f2,N,F,R⟩:=C q (by simp);have hl:=D.length
  exact wpAny_pyNext_tuple_end (I.ok.hd W) f (show s.heap.IsTuple a r.toArray from p) (by simp;lia) λA eb=>⟨rfl,I.turned (t':=s.toks) (λb o j e=>eb b o j e) O M N F R⟩
 self:=λ_ _ _ _ _ f h=>wpAny_pyIter_tupleiter f h
def rJ{P:hH}{w:lA}{K:Frag}{tg:Expr}(d:Addr)(lo:Int)(n:Nat):Turn P w K tg (Itr lo n) [d] d (λi h=>IsRangeIter h d (lo+(i:Nat)*1) ((n:Int) - (i:Nat)) 1) where
 mem:=by simp
 obj:=λi h a b f=>by
  have e:b=d:=by simpa using f
  subst e
  exact⟨_,a,λv z=>by
   have N:Jk _=Data.cell v:=z
   cases N⟩
 keep:=λi h j a k=>k d (by simp) _ a
 item:=by
  intro X x r F B i c s G H E I p a C;subst x r F;obtain⟨A,u,M,y,q,D⟩:=p d (by simp);have W:=Walks.range (prog:=X.prog) (w:=X.w) (I.ok.hd B) d lo 1 n;refine W.item i s _ _ C a λv j J Q g R=>?_
  obtain⟨t,rfl⟩:=Q;have L:Inv X c G H { s with heap:=j,toks:=J }:=I.turned (λb o f e=>R b o (by simpa using f) e) A u y q D;refine⟨_,rfl,oO (s:={ s with heap:=j,toks:=J }) (n := "range_iterator") g rfl rfl (by decide) ⟨.int (lo+i),H,L,⟨t,?_⟩,⟨rfl,rfl⟩,g,λb f=>(p b f).1⟩⟩;rw[Int.mul_one]
 done:=by
  intro X x r F B i c s G H E I p a C;subst x r F;obtain⟨A,u,M,y,q,D⟩:=p d (by simp)
  exact wpAny_pyNext_range_end (I.ok.hd B) a (by have:n<=i:=C;lia) λj O=>⟨rfl,I.turned (t':=s.toks) (λb o f e=>O b o f e) A u y q D⟩
 self:=λ_ _ _ _ _ a h=>wpAny_pyIter_rangeiter a h
section
variable {X:Cx}{tg:Expr}
def pe{c:List (Addr×Obj)}{d:St}{H:Hp}{s:e_}{R:It->Hp->Prop}{E:b_->e_->Prop}{lo a:Int}{t u v:Tok}{tk:Nat}(I:Inv X c d H s)(k:-(2 ^ 62)<=lo)(h:lo<2 ^ 62)(g:-(2 ^ 62)<=a)(j:a<2 ^ 62)
  (q:R (Itr lo (a - lo).toNat) H):ig (lh X.prog X.w) X.A (LI (.ref s.heap.objs.size)) (PIE X c d tg R) E { s with heap:=s.heap.push { cls:=.type "range",data:=.fields #[.int lo t,.int a u,.int 1 v] },toks:=tk }:=by
 refine wpAny_pyIter_range (IsRange.new ..) (small_one k h g j) ?_;have f:Inv X c d H { s with heap:=s.heap.push { cls:=.type "range",data:=.fields #[.int lo t,.int a u,.int 1 v] },toks:=tk }:=I.kept λb o e=>c_ _ e
 refine⟨(s.heap.push { cls:=.type "range",data:=.fields #[.int lo t,.int a u,.int 1 v] }).objs.size,[(s.heap.push { cls:=.type "range",data:=.fields #[.int lo t,.int a u,.int 1 v] }).objs.size],_,_,H,rfl,
  f.kept (t':=tk) λb o e=>c_ _ e,rJ _ lo (a - lo).toNat,?_,λb hb=>?_,q⟩
 .have i:lo+((0:Nat):Int)*1=lo:=by simp
  have p:(((a - lo).toNat:Nat):Int) - ((0:Nat):Int)=Builtin.Range.rangeSize lo a 1:=by rw[rangeSize_one];split <;> lia
  show IsRangeIter _ _ (lo+((0:Nat):Int)*1) ((((a - lo).toNat:Nat):Int) - ((0:Nat):Int)) 1;rw[i,p];exact ie _ rfl
 .have e:b=(s.heap.push { cls:=.type "range",data:=.fields #[.int lo t,.int a u,.int 1 v] }).objs.size:=by simpa using hb
  subst e;exact f.fpOk (fS _) (f.hok.fresh (fS _))
def C5(ta:TA):TI:=λσ H R=>ta σ H λvs H1=>∃ j:Int,vs=[.int j]/\-(2 ^ 62)<=j/\j<2 ^ 62/\R (Itr 0 j.toNat) H1
def C0(ta:TA):TI:=λσ H R=>ta σ H λvs H1=>∃ i j:Int,vs=[.int i,.int j]/\(-(2 ^ 62)<=i/\i<2 ^ 62/\-(2 ^ 62)<=j/\j<2 ^ 62)/\R (Itr i (j - i).toNat) H1
def cH{a:Expr}{f:TA}{p b:Pos}(k:Gl X "range")(o:X.mg "range" = none)(x:PA X [a] f)(w:lg [a] X.env=[(false,eval a X.env)]:=by rfl):PI X tg (.Call (.Name "range" p) [a] [] b) (C5 f):=by
 intro c s u H R I h;refine Call_ (iN I k o boot_range (EE (thn (x b c s u H _ I h) λB z ⟨A,y,v,g,d⟩=>?_) w rfl));obtain⟨j,e,d,i,q⟩:=d;subst e;cases g with
 | cons r rr =>
  cases rr;obtain⟨t,rfl⟩:=r;exact call_range_1 (pe v (by lia) (by lia) d i (by simpa using q))
def um{a b:Expr}{k:TA}{p f:Pos}(B:Gl X "range")(z:X.mg "range" = none)(u:PA X [a,b] k)(w:lg [a,b] X.env=[(false,eval a X.env),(false,eval b X.env)]:=by rfl)(c:lg [b] X.env=[(false,eval b X.env)]:=by rfl) :
  PI X tg (.Call (.Name "range" p) [a,b] [] f) (C0 k):=by
 intro d s A H R I h;refine Call_ (iN I B z boot_range (EE (thn (u f d s A H _ I h) λE G ⟨J,D,o,x,g⟩=>?_) (by rw[w,c]) (by rw[c];rfl)));obtain⟨i,j,e,⟨g,y,C,v⟩,q⟩:=g;subst e;cases x with
 | cons r rr =>
  cases rr with
  | cons r' rr =>
   cases rr;obtain⟨t,rfl⟩:=r;obtain⟨F,rfl⟩:=r';exact call_range_2 (pe o g y C v q)
def Ei(wi:TI)(g:TG)(tb:TS):TS:=λD σ H=>wi σ H λJ H1=>∃ W:Nat->Nat->St->Hp->Prop,(∃ m,W 0 m σ H1)/\∀ i m σ H,W i m σ H ->
 (J.stop i H/\D.nx σ H)\/(J.go i H/\∃ N:St->Hp->Prop,(∀ σ' H',N σ' H'->∃ m',m'<m/\W (i+1) m' σ' H')/\∀ x H',J.yld i H x H'->g x σ H' λσ2 H2=>tb { D with nx:=N,ct:=N,bk:=D.nx } σ2 H2)
def k8(fp:List Addr)(h:Heap):List (Addr×Obj):=fp.filterMap λb=>(h.get? b).map λo=>(b,o)
def eD{a:List Addr}{h:Heap}{b:Addr}{o:Obj}(c:b∈a)(e:h.get? b=some o):(b,o)∈k8 a h:=Jy.mpr ⟨b,c,by rw[e];rfl⟩
def uh{a:List Addr}{h:Heap}{p:Addr×Obj}(d:p∈k8 a h):p.1∈a/\h.get? p.1=some p.2:=by
 obtain⟨b,c,e⟩:=Jy.mp d;cases q:h.get? b with
 | none=>rw[q]at e;cases e
 | some o =>
  rw[q]at e;have f:(b,o)=p:=k7 e;subst f;exact⟨c,q⟩
def Inv.pinned{a:List (Addr×Obj)}{g:St}{H:Hp}{s:e_}{c:List Addr}(I:Inv X a g H s)(k:∀ b∈c,gX X a H b)(i:∀ b∈c,∃ o,s.heap.get? b=some o/\∀ v,o.data≠.cell v):Inv X (a++k8 c s.heap) g H s :=
 I.pins_of λp q=>(wh.mp q).elim (λz=>I.pin p (li _ z)) λz=>by
  obtain⟨h,e⟩:=uh z;obtain⟨r,u,j,_⟩:=k p.1 h;obtain⟨o,f,d⟩:=i p.1 h;rw[e]at f;cases f;exact⟨e,r,u,j,d⟩
def Inv.unpinned{a pl:List (Addr×Obj)}{b:St}{H:Hp}{s:e_}(I:Inv X (a++pl) b H s):Inv X a b H s:=I.pins_of λp c=>I.pin p (li _ (z4 _ c))
def c8{y:Expr}{body:List Stmt}{wi:TI}{g:TG}{tb:TS}{R:Pos}(F:Lm (lh X.prog X.w) X.A X.env X.xe)(hc:X.calm=true)(hi:PI X tg y wi)(hg:PG X tg g)(j:PSs X body tb)
  (hs:∀ x,HQ y X.env x=pure x:=by intro _;rfl):PS X (.For tg y body [] R) (Ei wi g tb):=by
 intro a s σ H D I h;refine wpAny_For (thn (hi a s σ H _ I h) λv s1 h1=>thn h1 λitv s2 h2=>?_) hs;obtain⟨it,L,tn,J,H2,e,I2,T,Q,f2,W,⟨m0,w0⟩,E⟩:=h2;subst e
 have k:∀{H':Hp},(∀ b∈L,H' b=none)->∀ b∈L,gX X a H' b:=λhn b j=>⟨hn b j,(f2 b j).2⟩
 refine codeAny_forLoop_any (λn s'=>∃ i σ' H',Inv X a σ' H' s'/\tn i s'.heap/\(∀ b∈L,H' b=none)/\W i n σ' H') ?_ m0 ⟨0,σ,H2,I2,Q,λb j=>(f2 b j).1,w0⟩;rintro n s3 ⟨i,p,P,I3,O,M,w3⟩
 rcases E i n p P w3 with⟨C,qn⟩ | ⟨go,N,hN,G⟩
 .refine E1 F (thn (T.done X rfl rfl rfl hc i a s3 p P X.xe I3 (k M) O C) λr s4 ⟨Z,I4⟩=>?_)
  subst Z;exact GT ⟨p,P,I4,qn⟩
 .refine E1 F (thn (T.item X rfl rfl rfl hc i a s3 p P X.xe I3 (k M) O go) λr s4 ⟨u,Z,h4⟩=>?_)
  subst Z;refine E1 F (thn h4 λ_ s5 ⟨x,H5,I5,r5,y5,B,S⟩=>?_);have ab:=I5.pinned (k S) (T.obj _ _ B);refine E1 F (thn (hg _ s5 p H5 x u _ ab r5 (G x H5 y5)) λ_ s6 ⟨Y,H6,I6,q6⟩=>?_);refine E1 F (thn (j _ s6 Y H6 _ I6 q6) λf s7 A=>?_)
  have q:∀{c:St}{z:Hp},Inv X (a++k8 L s5.heap) c z s7->N c z->∃ m,m<n/\∃ i σ' H',Inv X a σ' H' s7/\tn i s7.heap/\(∀ b∈L,H' b=none)/\W i m σ' H':=λ{c z} w K=>by
   obtain⟨m',hm,w7⟩:=hN c z K;refine⟨m',hm,i+1,c,z,w.unpinned,T.keep _ _ _ B λb j o e=>(w.pin (b,o) (li _ (li _ (eD j e)))).1,λb j=>?_,w7⟩;obtain⟨o,e,d⟩:=T.obj _ _ B b j;exact(w.pin (b,o) (li _ (li _ (eD j e)))).2.1
  cases f with
  | next=>obtain⟨c,z,w,K⟩:=A;exact q w K
  | cont=>obtain⟨c,z,w,K⟩:=A;exact q w K
  | brk=>obtain⟨c,z,w,A⟩:=A;exact⟨c,z,w.unpinned,A⟩
  | ret v=>obtain⟨x7,c,z,w,r7,A⟩:=A;exact⟨x7,c,z,w.unpinned,r7,A⟩
end
def dq{K:Frag}{a:Addr}{xs:List V}{g:TG}{d:TS}{D:Ends}{b:St}{H:Hp}(c:Nat->St->Hp->Prop)(j:c 0 b H)(r:∀ i b H,i<=xs.length->c i b H->SqL K H a xs)
  (k:∀ i x b H,xs[i]? = some x->c i b H->g x b H λσ2 H2=>d { D with nx:=c (i+1),ct:=c (i+1),bk:=D.nx } σ2 H2) (f:∀ b H,c xs.length b H->D.nx b H) :
  ∃ W:Nat->Nat->St->Hp->Prop,(∃ m,W 0 m b H)/\∀ i m b H,W i m b H ->
   ((Itl K a).stop i H/\D.nx b H)\/((Itl K a).go i H/\∃ N:St->Hp->Prop,(∀ σ' H',N σ' H'->∃ m',m'<m/\W (i+1) m' σ' H')/\∀ x H',(Itl K a).yld i H x H'->g x b H' λσ2 H2=>d { D with nx:=N,ct:=N,bk:=D.nx } σ2 H2):=by
 refine⟨λi m b H=>m=xs.length - i/\i<=xs.length/\c i b H,⟨xs.length,by simp,h_ _,j⟩,?_⟩;rintro i m b H ⟨rfl,h,p⟩;have q:=r i b H h p
 by_cases hlt:i<xs.length
 .refine .inr ⟨⟨xs,xs[i],q,by simp[hlt]⟩,c (i+1),λσ' H' o=>⟨xs.length - (i+1),by lia,rfl,hlt,o⟩,λx H' y=>?_⟩
  obtain⟨e,y⟩:=y;subst e;exact k i x b _ (y xs q) p
 .have e:i=xs.length:=by lia
  subst e;exact .inl ⟨⟨xs,q,fS _⟩,f b H p⟩
def mW{lo:Int}{n:Nat}{g:TG}{c:TS}{D:Ends}{a:St}{H:Hp}(b:Nat->St->Hp->Prop)(f:b 0 a H)
  (h:∀ i a H,i<n->b i a H->g (.int (lo+i)) a H λσ2 H2=>c { D with nx:=b (i+1),ct:=b (i+1),bk:=D.nx } σ2 H2) (d:∀ a H,b n a H->D.nx a H) :
  ∃ W:Nat->Nat->St->Hp->Prop,(∃ m,W 0 m a H)/\∀ i m a H,W i m a H ->
   ((Itr lo n).stop i H/\D.nx a H)\/((Itr lo n).go i H/\∃ N:St->Hp->Prop,(∀ σ' H',N σ' H'->∃ m',m'<m/\W (i+1) m' σ' H')/\∀ x H',(Itr lo n).yld i H x H'->g x a H' λσ2 H2=>c { D with nx:=N,ct:=N,bk:=D.nx } σ2 H2):=by
 refine⟨λi m a H=>m=n - i/\i<=n/\b i a H,⟨n,by simp,h_ _,f⟩,?_⟩;rintro i m a H ⟨rfl,k,p⟩
 by_cases hlt:i<n
 .refine .inr ⟨hlt,b (i+1),λσ' H' j=>⟨n - (i+1),by lia,rfl,hlt,j⟩,λx H' y=>?_⟩
  obtain⟨e,y⟩:=y;subst e y;exact h i a _ hlt p
 .have e:i=n:=by lia
  subst e;exact .inl ⟨fS _,d a H p⟩
abbrev R2:=V->V->Hp->VK->Prop
def OpR(X:Cx)(f:b_->b_->Sem b_)(r:R2):Prop :=
 ∀(pins:List (Addr×Obj)) (s:e_) (σ:St) (H:Hp) (x y:V) (v u:b_) (Q:VK),Inv X pins σ H s->RelV x v->RelV y u->r x y H Q ->
  ig (lh X.prog X.w) X.A (f v u) (EP X pins σ Q) X.xe s
def UnR(X:Cx)(f:b_->Sem b_)(r:V->Hp->VK->Prop):Prop :=
 ∀(pins:List (Addr×Obj)) (s:e_) (σ:St) (H:Hp) (x:V) (v:b_) (Q:VK),Inv X pins σ H s->RelV x v->r x H Q ->
  ig (lh X.prog X.w) X.A (f v) (EP X pins σ Q) X.xe s
def CallR(X:Cx)(f:b_)(r:List V->Hp->VK->Prop):Prop :=
 ∀(pins:List (Addr×Obj)) (s:e_) (σ:St) (H:Hp) (xs:List V) (us:List b_) (Q:VK),Inv X pins σ H s->Vals xs us->r xs H Q ->
  ig (lh X.prog X.w) X.A (call f us) (EP X pins σ Q) X.xe s
def Eg(X:Cx)(r:V->Hp->(Bool->Hp->Prop)->Prop):Prop :=
 ∀(pins:List (Addr×Obj)) (s:e_) (σ:St) (H:Hp) (x:V) (v:b_) (Q:Bool->Hp->Prop),Inv X pins σ H s->RelV x v->r x H Q ->
  ig (lh X.prog X.w) X.A (truthy v) (TP X pins σ Q) X.xe s
def tOp(r:R2)(ta tb:TE):TE:=λσ H Q=>ta σ H λx H1=>tb σ H1 λy H2=>r x y H2 Q
def tUn(r:V->Hp->VK->Prop)(ta:TE):TE:=λσ H Q=>ta σ H λx H1=>r x H1 Q
def rI(C:Int->Int->Prop)(g:Int->Int->V):R2:=λx y H Q=>∃ i j,x=.int i/\y=.int j/\C i j/\Q (g i j) H
def rI0(g:Int->Int->V):R2:=λx y H Q=>∃ i j,x=.int i/\y=.int j/\Q (g i j) H
def rU(g:Int->V):V->Hp->VK->Prop:=λx H Q=>∃ i,x=.int i/\Q (g i) H
section
variable {X:Cx}{a b c:Expr}{ta tb:TE}{pos:Pos}
def Bb(w:PE X a ta)(o:PE X b tb){c:List (Addr×Obj)}{s:e_}{d:St}{H:Hp}{R:V->V->Hp->Prop}(I:Inv X c d H s)
  (h:ta d H λx H1=>tb d H1 λy H2=>R x y H2){Q:b_->e_->Prop}{f:b_->b_->Sem b_}
  (p:∀ v u s2 x y H2,Inv X c d H2 s2->RelV x v->RelV y u->R x y H2->ig (lh X.prog X.w) X.A (f v u) Q X.xe s2) :
  ig (lh X.prog X.w) X.A (eval a X.env) (λv s₁=>ig (lh X.prog X.w) X.A (eval b X.env) (λu s₂=>ig (lh X.prog X.w) X.A (f v u) Q X.xe s₂) X.xe s₁) X.xe s:=by
 refine thn (w c s d H _ I h) λv k ⟨x,H1,q,g,i⟩=>?_
 refine thn (o c k d H1 _ q i) λu s2 ⟨y,H2,r,z,j⟩=>?_
 exact p v u s2 x y H2 r g z j
def au{op:IX}{r:R2}(f:OpR X (E2 op) r)(w:PE X a ta)(k:PE X b tb):PE X (.BinOp a op b pos) (tOp r ta tb):=by
 intro c s i H Q I h;exact wpAny_BinOp (Bb w k I h λv u g x y p o d j q=>f c g i p x y v u Q o d j q)
def wF{op:UnaryOp}{r:V->Hp->VK->Prop}(f:UnR X (unaryOp op) r)(o:PE X a ta):PE X (.UnaryOp op a pos) (tUn r ta):=by
 intro b s c H Q I h;exact UnaryOp_ (thn (o b s c H _ I h) λv j ⟨x,i,k,d,g⟩=>f b j c i x v Q k d g)
def opI{f:b_->b_->Sem b_}{C:Int->Int->Prop}{g:Int->Int->Int}
  (a:∀(i j:Int) (t u:Tok) (s:e_) (Q:b_->e_->Prop) (E:b_->e_->Prop),C i j->Q (.int (g i j) s.toks) { s with toks:=s.toks+1 }->ig (lh X.prog X.w) X.A (f (.int i t) (.int j u)) Q E s) :
  OpR X f (rI C λi j=>.int (g i j)):=by
 intro b s p H x y v u Q I c k h;obtain⟨i,j,rfl,rfl,o,q⟩:=h;obtain⟨t,rfl⟩:=c;obtain⟨d,rfl⟩:=k;exact a i j t d s _ _ o ⟨.int (g i j),H,I.tok _,⟨_,rfl⟩,q⟩
def Dv{f:b_->b_->Sem b_}{g:Int->Int->Int}
  (a:∀(i j:Int) (t u:Tok) (s:e_) (Q:b_->e_->Prop) (E:b_->e_->Prop),Q (.int (g i j) s.toks) { s with toks:=s.toks+1 }->ig (lh X.prog X.w) X.A (f (.int i t) (.int j u)) Q E s) :
  OpR X f (rI0 λi j=>.int (g i j)):=by
 intro b s o H x y v u Q I c k h;obtain⟨i,j,rfl,rfl,q⟩:=h;obtain⟨t,rfl⟩:=c;obtain⟨d,rfl⟩:=k;exact a i j t d s _ _ ⟨.int (g i j),H,I.tok _,⟨_,rfl⟩,q⟩
def zc{f:b_->b_->Sem b_}{g:Int->Int->Bool}
  (a:∀(i j:Int) (t u:Tok) (s:e_) (Q:b_->e_->Prop) (E:b_->e_->Prop),Q (.bool (g i j)) s->ig (lh X.prog X.w) X.A (f (.int i t) (.int j u)) Q E s) :
  OpR X f (rI0 λi j=>.bl (g i j)):=by
 intro b s o H x y v u Q I c k h;obtain⟨i,j,rfl,rfl,q⟩:=h;obtain⟨t,rfl⟩:=c;obtain⟨d,rfl⟩:=k;exact a i j t d s _ _ ⟨.bl (g i j),H,I,rfl,q⟩
def DW(i j:Int):Prop:=0<j/\j<1073741824
def CMul(i j:Int):Prop:=(-(2 ^ 64)<i/\i<2 ^ 64)\/(-(2 ^ 64)<j/\j<2 ^ 64)
def CMul.ok{i j:Int}(h:CMul i j):IntMulOk i j:=by
 rcases h with⟨a,b⟩ | ⟨a,b⟩
 .exact .of_left (intBits_le_64 a b)
 .exact .of_right (intBits_le_64 a b)
def op_add:OpR X (E2 .Add) (rI0 λi j=>.int (i+j)):=Dv λ_ _ _ _ _ _ _ q=>add_int q
def op_sub:OpR X (E2 .Sub) (rI0 λi j=>.int (i - j)):=Dv λ_ _ _ _ _ _ _ q=>sub_int q
def op_mod:OpR X (E2 .Mod) (rI (λ_ j=>0<j) λi j=>.int (i % j)):=opI λi j _ _ _ _ _ a q=>by
 have b:(0:Int)<j:=a;exact mod_int' (by lia) (by rw[Int.fmod_eq_emod_of_nonneg i (by lia)];exact q)
def unI{f:b_->Sem b_}{g:Int->Int}
  (a:∀(i:Int) (t:Tok) (s:e_) (Q:b_->e_->Prop) (E:b_->e_->Prop),Q (.int (g i) s.toks) { s with toks:=s.toks+1 }->ig (lh X.prog X.w) X.A (f (.int i t)) Q E s) :
  UnR X f (rU λi=>.int (g i)):=by
 intro b s d H x v Q I c h;obtain⟨i,rfl,q⟩:=h;obtain⟨t,rfl⟩:=c;exact a i t s _ _ ⟨.int (g i),H,I.tok _,⟨_,rfl⟩,q⟩
def Av:UnR X (unaryOp .USub) (rU λi=>.int (-i)):=unI λ_ _ _ _ _ q=>neg_int q
end
def DB:V->V->Bool
 | .non,.non=>true | .non,.int _=>true | .int _,.non=>true | .non,.bl _=>true | .bl _,.non=>true | .non,.str _=>true | .str _,.non=>true
 | .int _,.int _=>true | .bl _,.bl _=>true | .str _,.str _=>true | .byt _,.byt _=>true
 | .int _,.str _=>true | .str _,.int _=>true | .bl _,.str _=>true | .str _,.bl _=>true
 | _,_=>false
def rEq:R2:=λx y H Q=>DB x y=true/\Q (.bl (decide (x=y))) H
def rNe:R2:=λx y H Q=>DB x y=true/\Q (.bl (!decide (x=y))) H
def j0{i j:Int}:decide (V.int i=V.int j)=(i == j):=by
 rw[Ft];simp
def ou{i j:Bool}:decide (V.bl i=V.bl j)=(i == j):=by
 rw[Ft];simp
def j6{i j:Str}:decide (V.str i=V.str j)=(i == j):=by
 rw[Ft];simp
def sP{i j:Array UInt8}:decide (V.byt i=V.byt j)=(i.toList == j.toList):=by
 rw[Ft];cases i;cases j;simp
section
variable {X:Cx}{a b c:Expr}{ta tb:TE}{pos:Pos}
def aL{a:List (Addr×Obj)}{c:St}{H:Hp}{s:e_}{Q:VK}{k b:Bool}(I:Inv X a c H s)(q:Q (.bl k) H)(e:k=b):EP X a c Q (.bool b) s:=by
 subst e;exact⟨.bl k,H,I,rfl,q⟩
def op_eq:OpR X (re .Eq) rEq:=by
 intro f s g H x y v u Q I d a h;obtain⟨c,q⟩:=h;cases x with
 | non =>
  cases d;cases y with
  | non=>cases a;exact PySem.EqNone.eq_none_none (aL I q (by simp))
  | bl j=>cases a;exact PySem.EqNone.eq_none_bool (aL I q (by simp))
  | int j=>obtain⟨b,rfl⟩:=a;exact PySem.EqNone.eq_none_int (aL I q (by simp))
  | str j=>obtain⟨b,rfl⟩:=a;exact PySem.EqNone.eq_none_str (aL I q (by simp))
  | _=>exact absurd (show false=true from c) hY
 | bl i =>
  cases d;cases y with
  | non=>cases a;exact PySem.EqNone.eq_bool_none (aL I q (by simp))
  | bl j=>cases a;exact eq_bool (aL I q ou)
  | str j=>obtain⟨b,rfl⟩:=a;exact PySem.EqMixed.eq_bool_str (aL I q (by simp))
  | _=>exact absurd (show false=true from c) hY
 | int i =>
  obtain⟨t,rfl⟩:=d;cases y with
  | non=>cases a;exact PySem.EqNone.eq_int_none (aL I q (by simp))
  | int j=>obtain⟨b,rfl⟩:=a;exact eq_int (aL I q j0)
  | str j=>obtain⟨b,rfl⟩:=a;exact PySem.EqMixed.eq_int_str (aL I q (by simp))
  | _=>exact absurd (show false=true from c) hY
 | str i =>
  obtain⟨t,rfl⟩:=d;cases y with
  | non=>cases a;exact PySem.EqNone.eq_str_none (aL I q (by simp))
  | bl j=>cases a;exact PySem.EqMixed.eq_str_bool (aL I q (by simp))
  | int j=>obtain⟨b,rfl⟩:=a;exact PySem.EqMixed.eq_str_int (aL I q (by simp))
  | str j=>obtain⟨b,rfl⟩:=a;exact eq_str (aL I q j6)
  | _=>exact absurd (show false=true from c) hY
 | byt i =>
  obtain⟨t,rfl⟩:=d;cases y with
  | byt j=>obtain⟨b,rfl⟩:=a;exact PySem.W.eq_bytes (aL I q sP)
  | _=>exact absurd (show false=true from c) hY
 | _=>cases y <;> exact absurd (show false=true from c) hY
def op_ne:OpR X (re .NotEq) rNe:=by
 intro f s g H x y v u Q I d a h;obtain⟨c,q⟩:=h;cases x with
 | non =>
  cases d;cases y with
  | non=>cases a;exact PySem.EqNone.ne_none_none (aL I q (by simp))
  | bl j=>cases a;exact PySem.EqNone.ne_none_bool (aL I q (by simp))
  | int j=>obtain⟨b,rfl⟩:=a;exact PySem.EqNone.ne_none_int (aL I q (by simp))
  | str j=>obtain⟨b,rfl⟩:=a;exact PySem.EqNone.ne_none_str (aL I q (by simp))
  | _=>exact absurd (show false=true from c) hY
 | bl i =>
  cases d;cases y with
  | non=>cases a;exact PySem.EqNone.ne_bool_none (aL I q (by simp))
  | bl j=>cases a;exact ne_bool (aL I q (congrArg not ou))
  | str j=>obtain⟨b,rfl⟩:=a;exact PySem.EqMixed.ne_bool_str (aL I q (by simp))
  | _=>exact absurd (show false=true from c) hY
 | int i =>
  obtain⟨t,rfl⟩:=d;cases y with
  | non=>cases a;exact PySem.EqNone.ne_int_none (aL I q (by simp))
  | int j=>obtain⟨b,rfl⟩:=a;exact ne_int (aL I q (congrArg not j0))
  | str j=>obtain⟨b,rfl⟩:=a;exact PySem.EqMixed.ne_int_str (aL I q (by simp))
  | _=>exact absurd (show false=true from c) hY
 | str i =>
  obtain⟨t,rfl⟩:=d;cases y with
  | non=>cases a;exact PySem.EqNone.ne_str_none (aL I q (by simp))
  | bl j=>cases a;exact PySem.EqMixed.ne_str_bool (aL I q (by simp))
  | int j=>obtain⟨b,rfl⟩:=a;exact PySem.EqMixed.ne_str_int (aL I q (by simp))
  | str j=>obtain⟨b,rfl⟩:=a;exact ne_str (aL I q (congrArg not j6))
  | _=>exact absurd (show false=true from c) hY
 | byt i =>
  obtain⟨t,rfl⟩:=d;cases y with
  | byt j=>obtain⟨b,rfl⟩:=a;exact PySem.W.ne_bytes (aL I q (congrArg not sP))
  | _=>exact absurd (show false=true from c) hY
 | _=>cases y <;> exact absurd (show false=true from c) hY
def op_lt:OpR X (re .Lt) (rI0 λi j=>.bl (decide (i<j))):=zc λ_ _ _ _ _ _ _ q=>lt_int q
def op_le:OpR X (re .LtE) (rI0 λi j=>.bl (decide (i<=j))):=zc λ_ _ _ _ _ _ _ q=>le_int q
def op_gt:OpR X (re .Gt) (rI0 λi j=>.bl (decide (j<i))):=zc λ_ _ _ _ _ _ _ q=>gt_int q
def op_ge:OpR X (re .GtE) (rI0 λi j=>.bl (decide (j<=i))):=zc λ_ _ _ _ _ _ _ q=>ge_int q
def ua:OpR X (re .Lt) (λx y H Q=>∃ i j,x=.str i/\y=.str j/\Q (.bl (decide (i.cps.toList<j.cps.toList))) H):=by
 intro a s f H x y v u Q I b c h;obtain⟨i,j,rfl,rfl,q⟩:=h;obtain⟨t,rfl⟩:=b;obtain⟨d,rfl⟩:=c;exact lt_str (aL I q rfl)
def op_in_str:OpR X (re .In) (λx y H Q=>∃ i j,x=.str i/\y=.str j/\Q (.bl (!(E6 j i 0 j.length 1).isEmpty)) H):=by
 intro a s f H x y v u Q I b c h;obtain⟨i,j,rfl,rfl,q⟩:=h;obtain⟨t,rfl⟩:=b;obtain⟨d,rfl⟩:=c;exact in_str (aL I q rfl)
def OpR.or{f:b_->b_->Sem b_}{r g:R2}(h:OpR X f r)(h':OpR X f g):OpR X f (λx y H Q=>r x y H Q\/g x y H Q):=by
 intro a s c H x y v u Q I b d q
 rcases q with q | q
 .exact h a s c H x y v u Q I b d q
 .exact h' a s c H x y v u Q I b d q
def aX(b:Expr){op:CmpOp}(h:op≠.In:=by decide)(d:op≠.NotIn:=by decide):Ht op b=false:=by
 have a:(op == CmpOp.In)=false:=by cases op <;> first | rfl | exact absurd rfl h
 have c:(op == CmpOp.NotIn)=false:=by cases op <;> first | rfl | exact absurd rfl d
 cases b <;> simp[Ht,a,c]
def iu{op:CmpOp}{r:R2}(f:OpR X (re op) r)(z:PE X a ta)(o:PE X b tb)(i:Ht op b=false):PE X (.Compare a [op] [b] pos) (tOp r ta tb):=by
 intro c s j H Q I h;exact wpAny_Compare1 (Bb z o I h λv u g x y w p d k q=>f c g j w x y v u Q p d k q) i
def Db(K:Frag)(x:V)(H:Hp)(k:Bool):Prop :=
 match x with
 | .non=>k=false
 | .bl b=>k=b
 | .int i=>k=(i != 0)
 | .str y=>y.length<=sizeLine/\k=((y.length:Int) != 0)
 | .byt y=>y.size<=sizeLine/\k=((y.size:Int) != 0)
 | .ref p=>(∃ xs,SqL K H p xs/\k = !xs.isEmpty)\/(∃ xs,SqT K H p xs/\k = !xs.isEmpty)\/∃ kvs,H p=some (.dK kvs)/\k = !kvs.isEmpty
 | _=>False
def rM{κ:Type}{a:List (κ×V)}{vs:List (κ×b_)}(r:KV a vs):(!vs.isEmpty) = !a.isEmpty:=by
 cases r <;> rfl
def kU{xs:List V}{its:List b_}(r:Vals xs its):(!its.toArray.isEmpty) = !xs.isEmpty:=by
 cases r <;> simp
def i7:(sizeLine:Nat)<2 ^ 63:=by rw[j_];decide
def BJ:Eg X (λx H Q=>∃ k,Db X.K x H k/\Q k H):=by
 intro w s A H x v Q I g h;obtain⟨k,e,q⟩:=h;have C:=i7;have B:sizeLine=16777216:=j_;cases x with
 | non =>
  cases g;have a:k=false:=e;subst a;exact truthy_none ⟨H,I,q⟩
 | bl b =>
  cases g;have a:k=b:=e;subst a;exact z3 ⟨H,I,q⟩
 | int i =>
  obtain⟨t,rfl⟩:=g;have a:k=(i != 0):=e;subst a;exact PySem.P.truthy_int ⟨H,I,q⟩
 | str y =>
  obtain⟨t,rfl⟩:=g;obtain⟨hy,a⟩:y.length<=sizeLine/\k=((y.length:Int) != 0):=e;subst a;exact PySem.P.truthy_str (by lia) ⟨H,I.tok _,q⟩
 | byt y =>
  obtain⟨t,rfl⟩:=g;obtain⟨hy,a⟩:y.size<=sizeLine/\k=((y.size:Int) != 0):=e;subst a;exact PySem.W.truthy_bytes (by lia) ⟨H,I.tok _,q⟩
 | ref p =>
  cases g;have a:(∃ f,SqL X.K H p f/\k = !f.isEmpty)\/(∃ f,SqT X.K H p f/\k = !f.isEmpty)\/∃ c,H p=some (.dK c)/\k = !c.isEmpty:=e
  rcases a with⟨f,j,a⟩ | ⟨f,j,a⟩ | ⟨c,j,a⟩
  .subst a
   obtain⟨o,r,u,z⟩:=I.list j;have d:=r.length;exact wpAny_truthy_list u.isList (by simp only[nf];lia) ⟨H,I.tok _,by rw[kU r];exact q⟩
  .subst a
   obtain⟨o,r,u,z⟩:=I.tuple j;have d:=r.length;exact truthy_tuple u (by simp only[nf];lia) ⟨H,I.tok _,by rw[kU r];exact q⟩
  .subst a
   obtain⟨z,hS,vs,r,m⟩:c.length<=sizeLine/\(p == sN)=false/\∃ vs,KV c vs/\s.heap.DictOf (bA X.prog X.w) p vs:=I.hok p _ j;have d:c.length=vs.length:=rn r;exact wpAny_truthy_dict hS m (by lia) ⟨H,I.tok _,by rw[rM r];exact q⟩
 | _=>exact(show False from e).elim
def qg(j:PE X a ta)(o:∀ whole,KO a X.env whole=(do let v <- whole;JK a.pos;K7 [v] (truthy v))) :
  PT X a (λσ H Q=>ta σ H λx H'=>∃ k,Db X.K x H' k/\Q k H'):=by
 intro b s σ H Q I h;exact isTrue_plain (thn (j b s σ H _ I h) λv g ⟨x,f,i,c,d⟩=>BJ b g σ f x v Q i c d) (o _)
def qL:OpR X (E2 .Add) (λx y H Q=>∃ i j,x=.str i/\y=.str j/\i.length+j.length<=sizeLine/\Q (.str (i++j)) H):=by
 intro a s g H x y v u Q I b d h;obtain⟨i,j,rfl,rfl,f,q⟩:=h;obtain⟨t,rfl⟩:=b;obtain⟨c,rfl⟩:=d;exact add_str (λc k=>⟨.str (i++j),H,I.tok _,⟨_,rfl⟩,q⟩) f
def dW{x:V}{us:List b_}(r:Vals [x] us):∃ u,us=[u]/\RelV x u:=by
 cases r with
 | cons r1 r2=>cases r2;exact⟨_,rfl,r1⟩
def zX{x y:V}{us:List b_}(r:Vals [x,y] us):∃ u w',us=[u,w']/\RelV x u/\RelV y w':=by
 cases r with
 | cons r1 r2 =>
  cases r2 with
  | cons r3 r4=>cases r4;exact⟨_,_,rfl,r1,r3⟩
def wE:CallR X (.builtin "abs") (λxs H Q=>∃ i,xs=[.int i]/\Q (.int (if i<0 then -i else i)) H):=by
 intro a s d H xs c Q I r h;obtain⟨i,rfl,q⟩:=h;obtain⟨u,rfl,t,rfl⟩:=dW r
 exact call_abs_int λu b=>⟨.int (if i<0 then -i else i),H,I.tok _,⟨_,rfl⟩,q⟩
inductive rTwo(f:Int->Int->Int)(xs:List V)(H:Hp)(Q:VK):Prop
 | mk(i j:Int)(h0:xs=[.int i,.int j])(h1:Q (.int (f i j)) H):rTwo f xs H Q
def eh(b:X.calm=true):CallR X (.builtin "min") (rTwo λi j=>if j<i then j else i):=by
 intro a s f H p v Q I r h;obtain⟨i,j,rfl,q⟩:=h;obtain⟨u,g,rfl,⟨t,rfl⟩,⟨d,rfl⟩⟩:=zX r
 refine min_two_ints (I.ok.hd b) λc o k=>⟨_,H,I.kept k,?_,q⟩
 by_cases hj:j<i
 .rw[if_pos hj,if_pos hj];exact⟨_,rfl⟩
 .rw[if_neg hj,if_neg hj];exact⟨_,rfl⟩
end
structure ObjM(h:Heap)(x dx C:Addr)(mA:Str->Option b_):Prop where
 obj:h.get? x=some (Hf C dx)
 ns:h.Ns1 dx mA
 ne:dx≠x
def tY{h:Heap}{dx:Addr}{d:Str->Option b_}(n:h.Ns1 dx d):∃ od,h.get? dx=some od/\∀ name,LJ name od=some (d name):=by
 obtain⟨o,c,r,f,j,i,_,k⟩:=n;refine⟨o,f,λname=>?_⟩;have e:=k name;unfold nsFind findBy at e;rw[<- Jq]at e;unfold LJ;rw[j];dsimp only
 split
 .rename_i y q
  rw[q]at e;exact congrArg some e
 .rename_i q
  rw[q]at e
  have a:c.toList.any (·.refKey)=false:=by
   rw[List.any_eq_false];intro y g;obtain⟨z,t,b⟩:=i y (Array.mem_toList_iff.mp g);simp[DictEntry.refKey,b]
  have p:¬c.toList.any (·.refKey)=true:=by rw[a];exact hY
  rw[if_neg p];exact congrArg some e
def ObjM.look{h:Heap}{x dx C:Addr}{a:Str->Option b_}(I:ObjM h x dx C a):∃ od,InstAt h x (Hf C dx) C (some od)/\∀ name,LJ name od=some (a name) :=
 let ⟨od,ho,hl⟩:=tY I.ns
 ⟨od,⟨I.obj,rfl,rfl,ho⟩,hl⟩
section
variable {prog:hH}{w:lA}{A:m_}{E:b_->e_->Prop}{s:e_}{K:Frag}{x dx C f:Addr}{mA:Str->Option b_}{name:Str}{v:b_}
def zb{a:Bool}{Q:b_->e_->Prop}(X:K.In s.heap)(I:ObjM s.heap x dx C mA)(d:Kh K C name=true)(f:Ln K C=true)
  (g:EJ K (.ref C) name=some none) (c:mA name=some v) (b:handedIn v=true) (h:Q v { s with toks:=s.toks+1 }) :
  ig (lh prog w) A (getAttr (.ref x) name a) Q E s:=by
 obtain⟨j,J,i⟩:=I.look;exact PySem.W.get_value X J (Ki d).1 (PySem.W.findObj_own f g rfl (by rw[i,c])) b h
def wv{pl:Sem Bool}{Q:b_×List b_->e_->Prop}(X:K.In s.heap)(I:ObjM s.heap x dx C mA)(a:Kh K C name=true)
  (d:EJ K (.ref C) name=some (some (.ref f))) (c:isFn K (.ref f)=true) (b:mA name=none) (h:Q (.ref f,[.ref x]) s) :
  ig (lh prog w) A (Jz (.ref x) name pl) Q E s:=by
 obtain⟨g,J,i⟩:=I.look;exact PySem.W.method_fn X J (Ki a).1 (Ki a).2 d (beq_iff_eq.mp c) (by show(LJ name g).map (·.isSome)=some false;rw[i,b];rfl) h
def za{k:List Str}{Q:Unit->e_->Prop}(X:K.In s.heap)(I:ObjM s.heap x dx C mA)
  (D:EJ K (.ref C) "__setattr__" = some (some (.builtin "object.__setattr__"))) (p:plainOver K C=true) (o:takerIn K C name=some none) (F:Ln K C=true)
  (B:Fv mA k) (hsz:k.length<=sizeLine)
  (h:∀ h',ObjM h' x dx C (λy=>if y=name then some v else mA y)->EA dx s.heap h'->Q () { s with heap:=h',toks:=s.toks+2 }) :
  ig (lh prog w) A (K8 (.ref x) name v) Q E s:=by
 obtain⟨N,J,L⟩:=I.look;refine PySem.W.set_plain X J D (PySem.W.osa_open (s:={ s with toks:=s.toks+1 }) (r:=none) X J p o λb=>?_);obtain⟨H,G,f⟩:=any_some F;have u:s.heap.get? x=some ⟨.ref C,some dx,.plain,#[]⟩:=I.obj;refine a_ (fL (a_ (a_ (wpAny_loadPart u (a_ (PySem.W.Looks.here (s:={ s with toks:=s.toks+1 }) (IB X G) ?_))))));rw[f];refine fL (a:=some dx) (a_ (fL (a_ ?_)));refine wpAny_nsSet1 (s:={ s with toks:=s.toks+1 }) I.ns λh' d c=>?_
 obtain⟨M,q,z,g,j,i⟩:=d.count (Im name v B);refine a_ (Lo g (by rw[j];exact Lp (lB i (by rw[py];lia))) ?_);exact fL (h _ ⟨(c.2 _ (A_ I.ne)).trans I.obj,d,I.ne⟩ c)
def xB{R:LK->e_->Prop}{vs:List b_}{b:List (Str×b_)}(X:K.In s.heap)(i:makesIn K C=true)
  (c:EJ K (.ref C) "__init__" = some (some (.ref f))) (j:LL K (.ref f)=some (.type "function"))
  (h:E_ (lh prog w) (A.under (.builtin "type.__call__" ⟨.ref C::vs,b⟩)) (.call (.ref f) ⟨.ref (s.heap.objs.size+1)::vs,b⟩) (PySem.W.InitBack (s.heap.objs.size+1) R)
   { s with heap:=(s.heap.push Fw).push (Hf C s.heap.objs.size) }) :
  E_ (lh prog w) A (.call (.ref C) ⟨vs,b⟩) R s:=by
 obtain⟨k,g,d,t,o⟩:=s;exact PySem.W.make_core (PySem.W.makes_of X i) (JL X c) (λa=>PySem.W.bind_fn X a j) (.inl rfl) h
end
def d3(f:Str)(v:V):List (Str×V)->List (Str×V)
 | []=>[(f,v)]
 | (g,x)::r=>if g=f then (g,v)::r else (g,x)::d3 f v r
def ji(f g:Str)(v:V):∀ fs:List (Str×V),(d3 f v fs).lookup g=if g=f then some v else fs.lookup g
 | []=>by
  show E3 g [(f,v)]=_
  by_cases h:g=f
  .have a:(g == f)=true:=beq_iff_eq.mpr h
   simp only[E3,a,if_pos h]
  .have a:(g == f)=false:=beq_eq_false_iff_ne.mpr h
   simp only[E3,a,if_neg h]
 | (k,x)::r=>by
  have b:=ji f g v r;rw[show d3 f v ((k,x)::r)=(if k=f then (k,v)::r else (k,x)::d3 f v r) from rfl]
  by_cases hk:k=f
  .rw[if_pos hk]
   by_cases h:g=k
   .have a:(g == k)=true:=beq_iff_eq.mpr h
    simp only[E3,a,if_pos (h.trans hk)]
   .have a:(g == k)=false:=beq_eq_false_iff_ne.mpr h
    simp only[E3,a,if_neg (λe:g=f=>h (e.trans hk.symm))]
  .rw[if_neg hk]
   by_cases h:g=k
   .have a:(g == k)=true:=beq_iff_eq.mpr h
    simp only[E3,a,if_neg (λe:g=f=>hk (h.symm.trans e))]
   .have a:(g == k)=false:=beq_eq_false_iff_ne.mpr h
    simp only[E3,a];exact b
def iQ(f:Str)(v:V):∀ fs:List (Str×V),f∈(d3 f v fs).map (·.1)/\∀ g,g∈fs.map (·.1)->g∈(d3 f v fs).map (·.1)
 | []=>⟨by simp[d3],λg h=>by simp at h⟩
 | (k,x)::r=>by
  obtain⟨b,a⟩:=iQ f v r;rw[show d3 f v ((k,x)::r)=(if k=f then (k,v)::r else (k,x)::d3 f v r) from rfl]
  by_cases hk:k=f
  .rw[if_pos hk]
   subst hk;exact⟨by simp,λg h=>by simpa using h⟩
  .rw[if_neg hk]
   refine⟨?_,λg h=>?_⟩
   .rw[l_]
    exact hI _ b
   .rw[l_]at h ⊢
    rcases i_.mp h with e | e
    .exact i_.mpr (.inl e)
    .exact hI _ (a g e)
def jq(f:Str)(v:V):∀ fs:List (Str×V),(d3 f v fs).length<=fs.length+1
 | []=>by simp[d3]
 | (k,x)::r=>by
  have a:=jq f v r;rw[show d3 f v ((k,x)::r)=(if k=f then (k,v)::r else (k,x)::d3 f v r) from rfl]
  by_cases hk:k=f
  .rw[if_pos hk,py,py];lia
  .rw[if_neg hk,py,py];lia
def RelO.some_of{v:V}{o:Option b_}(r:RelO (some v) o):∃ u,o=some u/\RelV v u:=by
 cases o with
 | none=>exact(show False from r).elim
 | some u=>exact⟨u,rfl,r⟩
def RelO.none_of{o:Option b_}(r:RelO none o):o=none:=by
 cases o with
 | none=>rfl
 | some u=>exact(show False from r).elim
def u5{v:V}{u:b_}(r:RelV v u):handedIn u=true:=by
 cases v with
 | non=>cases(show u=n_ from r);rfl
 | bl b=>cases(show u=HM b from r);rfl
 | int i=>obtain⟨t,e⟩:=(show ∃ t,u=C_ i t from r);cases e;rfl
 | str x=>obtain⟨t,e⟩:=(show ∃ t,u=Hl x t from r);cases e;rfl
 | byt b=>obtain⟨t,e⟩:=(show ∃ t,u=Value.bytes b t from r);cases e;rfl
 | flt b=>obtain⟨t,e⟩:=(show ∃ t,u=IV b t from r);cases e;rfl
 | ref a=>cases(show u=lb a from r);rfl
 | ty n=>cases(show u=ra n from r);rfl
section
variable {P:hH}{w:lA}{H:Hp}{h:Heap}{a C dx:Addr}{fs:List (Str×V)}
def j3(b:HOk P w H h)(e:H a=some (.ins C dx fs)):∃ mA,ObjM h a dx C mA/\(∀ f,RelO (fs.lookup f) (mA f))/\Fv mA (fs.map (·.1))/\fs.length<=1000/\H dx=some (.own a):=by
 obtain⟨d,z,c,g,mA,n,r,q⟩:=(show ObjOk P w H h a (.ins C dx fs) from b a _ e)
 exact⟨mA,⟨g,n,c⟩,r,q,z,d⟩
end
structure Cls(K:Frag)(C:Addr):Prop where
 pg:Kh K C Str.empty=true
 hd:Ln K C=true
 po:plainOver K C=true
 sa:EJ K (.ref C) "__setattr__" = some (some (.builtin "object.__setattr__"))
def Cls.get{K:Frag}{C:Addr}(c:Cls K C)(f:Str):Kh K C f=true:=c.pg
def NoAttr(K:Frag)(C:Addr)(f:Str):Prop:=EJ K (.ref C) f=some none
def NoAttr.taker{K:Frag}{C:Addr}{f:Str}(n:NoAttr K C f):takerIn K C f=some none:=by
 unfold takerIn;rw[show EJ K (.ref C) f=some none from n];rfl
structure Meth(K:Frag)(C:Addr)(m:Str)(f:Addr):Prop where
 at_:EJ K (.ref C) m=some (some (.ref f))
 fn:isFn K (.ref f)=true
 kp:Fp K (.ref f)=true
section
variable {X:Cx}{pins:List (Addr×Obj)}{σ:St}{H:Hp}{s:e_}{a C dx:Addr}{fs:List (Str×V)}{f:Str}{v:V}{A:m_}{E:b_->e_->Prop}
def kN{b:Bool}{Q:b_->e_->Prop}(I:Inv X pins σ H s)(e:H a=some (.ins C dx fs))(c:Cls X.K C)(n:NoAttr X.K C f)(l:fs.lookup f=some v)
  (h:∀ u s',Inv X pins σ H s'->RelV v u->Q u s'):ig (lh X.prog X.w) A (getAttr (.ref a) f b) Q E s:=by
 obtain⟨g,O,r,_,_,_⟩:=j3 I.hok e;obtain⟨u,i,d⟩:=RelO.some_of (v:=v) (o:=g f) (by rw[<- l];exact r f);exact zb I.kIn O (c.get f) c.hd n i (u5 d) (h u _ (I.tok _) d)
def kD{m:Str}{g:Addr}{pl:Sem Bool}{Q:b_×List b_->e_->Prop}(I:Inv X pins σ H s)(e:H a=some (.ins C dx fs))(c:Cls X.K C)(k:Meth X.K C m g)(l:fs.lookup m=none)
  (h:Q (.ref g,[.ref a]) s):ig (lh X.prog X.w) A (Jz (.ref a) m pl) Q E s:=by
 obtain⟨d,O,r,_,_,_⟩:=j3 I.hok e;have b:d m=none:=RelO.none_of (by rw[<- l];exact r m);exact wv I.kIn O (c.get m) k.at_ k.fn b h
def kj{y:V}{u:b_}{Q:Unit->e_->Prop}(I:Inv X pins σ H s)(e:H a=some (.ins C dx fs))(c:Cls X.K C)(n:NoAttr X.K C f)(F:fs.length<1000)(B:RelV y u)
  (h:∀ s',Inv X pins σ (upd H a (.ins C dx (d3 f y fs))) s'->Q () s'):ig (lh X.prog X.w) A (K8 (.ref a) f u) Q E s:=by
 obtain⟨k,O,r,j,_,i⟩:=j3 I.hok e;have D:(fs.map (·.1)).length<=sizeLine:=by rw[d_,j_];lia
 refine za I.kIn O c.sa c.po n.taker c.hd j D λv d w=>h _ ?_
 have p:∃ o,v.get? dx=some o:=let ⟨o,_,_,e',_⟩:=d.ns;⟨o,e'⟩;refine I.write (x:=a) (e:=dx) (by rw[e];exact x_) (.inr i) (λb q hb z=>(w.2 b hb).trans z) p ?_;refine⟨by rw[ae O.ne];exact i,?_,O.ne,d.obj,_,d.ns,λg=>?_,λg hg=>?_⟩
 .have:=jq f y fs;lia
 .show RelO ((d3 f y fs).lookup g) (if g=f then some u else k g)
  rw[ji]
  by_cases q:g=f
  .rw[if_pos q,if_pos q];exact B
  .rw[if_neg q,if_neg q];exact r g
 .by_cases q:g=f
  .rw[q];exact(iQ f y fs).1
  .refine(iQ f y fs).2 g (j g λz=>hg ?_)
   show(if g=f then some u else k g)=none;rw[if_neg q];exact z
def Inv.made(I:Inv X pins σ H s):Inv X pins σ (upd (upd H s.heap.objs.size (.own (s.heap.objs.size+1))) (s.heap.objs.size+1) (.ins C s.heap.objs.size []))
  { s with heap:=(s.heap.push Fw).push (Hf C s.heap.objs.size) }:=by
 have d:(s.heap.push Fw).get? s.heap.objs.size=some Fw:=ie s.heap rfl
 have h:((s.heap.push Fw).push (Hf C s.heap.objs.size)).get? (s.heap.objs.size+1)=some (Hf C s.heap.objs.size):=by
  have:=ie (s.heap.push Fw) (o:=Hf C s.heap.objs.size) rfl;rwa [Fh]at this
 have f:(s.heap.push Fw).Ns s.heap.objs.size (λ_=>none):=⟨Fw,#[],_,d,rfl,(λe he=>absurd he (by simp)),λ_=>rfl⟩
 have g:=I.laid (a:=s.heap.objs.size) (o:=.own (s.heap.objs.size+1)) (h':=s.heap.push Fw) (t':=s.toks) (λb u q=>c_ _ q) (fS _) ⟨_,d⟩;refine g.laid (a:=s.heap.objs.size+1) (o:=.ins C s.heap.objs.size []) (t':=s.toks) (λb u q=>c_ _ q) (IY (Fh _ _)) ?_;have c:s.heap.objs.size≠s.heap.objs.size+1:=kw (Hz _);refine⟨by rw[ae c,ac],h_ _,c,h,λ_=>none,(IZ f).at λo q=>c_ _ q,λ_=>x_,λy hy=>absurd rfl hy⟩
def yU{prog:hH}{w:lA}{env:Env}{e:Expr}{f:Str}{a:Pos}{s:e_}{Q:b_->e_->Prop}(b:EF e f env (eval e env)=eval e env)
  (h:ig (lh prog w) A (eval e env) (λo s₁=>ig (lh prog w) A (getAttr o f true) Q E s₁) E s):ig (lh prog w) A (eval (.Attribute e f a) env) Q E s :=
 Attribute_any_ h (by rw[arm_eval_Attribute,b])
end
def Eb(K:Frag)(ta:TE)(f:Str):TE:=λσ H Q=>ta σ H λx H1=>∃ a C dx fs v,x=.ref a/\H1 a=some (.ins C dx fs)/\Cls K C/\NoAttr K C f/\fs.lookup f=some v/\Q v H1
def DR(K:Frag)(ta tv:TE)(f:Str):TS:=λD σ H=>tv σ H λy H1=>ta σ H1 λx H2=>∃ a C dx fs,x=.ref a/\H2 a=some (.ins C dx fs)/\Cls K C/\NoAttr K C f/\fs.length<1000 /\
 D.nx σ (upd H2 a (.ins C dx (d3 f y fs)))
def Dm(X:Cx)(op:IX)(rd:V->V->Hp->VK->Prop):Prop :=
 ∀(pins:List (Addr×Obj)) (s:e_) (σ:St) (H:Hp) (x y:V) (u v:b_) (Q:VK),Inv X pins σ H s->RelV x u->RelV y v->rd x y H Q->ig (lh X.prog X.w) X.A (Ll op u v) (EP X pins σ Q) X.xe s
def yt(K:Frag)(ta tv:TE)(rd:V->V->Hp->VK->Prop)(f:Str):TS:=λD σ H=>ta σ H λx H1=>∃ a C dx fs v,x=.ref a/\H1 a=some (.ins C dx fs)/\Cls K C/\NoAttr K C f/\fs.lookup f=some v /\
 tv σ H1 λy H2=>rd v y H2 λz H3=>∃ dx' fs',H3 a=some (.ins C dx' fs')/\fs'.length<1000/\D.nx σ (upd H3 a (.ins C dx' (d3 f z fs')))
section
variable {X:Cx}{o e value:Expr}{f:Str}{pos pos' tpos:Pos}{ta tv:TE}
def bG(y:PE X e ta)(p:EF e f X.env (eval e X.env)=eval e X.env):PE X (.Attribute e f pos) (Eb X.K ta f):=by
 intro b s o H Q I h;refine yU p (thn (y b s o H _ I h) λu D ⟨x,i,r,d,a,C,A,E,v,j,g,c,n,l,q⟩=>?_);subst j;obtain rfl:u=lb a:=d
 exact kN r g c n l λB z w k=>⟨v,i,w,k,q⟩
def eB(v:PE X o ta)(i:PE X value tv)(r:FU value (some (.Attribute o f pos')) pos.line X.env=pure false):PS X (.Assign [.Attribute o f pos'] value pos) (DR X.K ta tv f):=by
 intro b s d H D I h;refine Ig (thn (i b s d H _ I h) λu j ⟨y,g,p,k,q⟩=>thn (v b j d g _ p q) λov s2 ⟨x,H2,I2,rx,a,C,dx,fs,ex,ea,c,n,l,q2⟩=>?_) r;subst ex;obtain rfl:ov=lb a:=rx
 exact kj I2 ea c n l k λz w=>⟨d,_,w,q2⟩
def tZ{op:IX}{i:V->V->Hp->VK->Prop}(A:PE X o ta)(G:PE X value tv)(g:Dm X op i):PS X (.AugAssign (.Attribute o f tpos) op value pos) (yt X.K ta tv i f):=by
 intro b s d H D I h;refine wpAny_AugAssign_AttributeAny (thn (A b s d H _ I h) λK N ⟨x,k,w,B,a,C,L,O,v,r,E,c,n,l,q⟩=>?_);subst r;obtain rfl:K=lb a:=B;refine kN w E c n l λu p J F=>thn (G b p d k _ J q) λw3 s3 ⟨y,H2,I3,ry,q3⟩=>thn (g b s3 d H2 v y u w3 _ I3 F ry q3) λw4 s4 ⟨z,H3,I4,rz,dx',fs',ea',l',q4⟩=>?_
 exact kj I4 ea' c n l' rz λM j=>⟨d,_,j,q4⟩
def DP:V->V->Hp->VK->Prop:=λx y H Q=>∃ i j,x=.int i/\y=.int j/\Q (.int (i+j)) H
def Bc:Dm X .Add DP:=by
 rintro b s f H x y u v Q I c d ⟨i,j,rfl,rfl,q⟩
 obtain⟨t,rfl⟩:=(show ∃ t,u=C_ i t from c)
 obtain⟨a,rfl⟩:=(show ∃ a,v=C_ j a from d)
 exact PyProof.Rows.iadd_int ⟨.int (i+j),H,I.tok _,⟨_,rfl⟩,q⟩
end
section
variable {H:Hp}
inductive TyOf(K:Frag)(H:Hp):V->b_->Prop where
 | non:TyOf K H .non (.type "NoneType")
 | bl (x:Bool):TyOf K H (.bl x) (.type "bool")
 | int (i:Int):TyOf K H (.int i) (.type "int")
 | str (x:Str):TyOf K H (.str x) (.type "str")
 | flt (x:UInt64):TyOf K H (.flt x) (.type "float")
 | lst {a:Addr}{xs:List V}(e:H a=some (.lst xs)):TyOf K H (.ref a) (.type "list")
 | frz {a:Addr}{o:Obj}{xs:List V}(e:H a=some (.frz o (.lst xs))):TyOf K H (.ref a) (.type "list")
 | tup {a:Addr}{xs:List V}(e:H a=some (.tup xs)):TyOf K H (.ref a) (.type "tuple")
 | dK {a:Addr}{kvs:List (Key×V)}(e:H a=some (.dK kvs)):TyOf K H (.ref a) (.type "dict")
 | dT {a:Addr}{kvs:List (List Key×V)}(e:H a=some (.dT kvs)):TyOf K H (.ref a) (.type "dict")
 | ins {a C dx:Addr}{fs:List (Str×V)}(e:H a=some (.ins C dx fs)) (cl:Cls K C) (ha:EJ K (.ref C) "__class__" = some (some (.builtin "object.__class__")))
   (hn:PySem.W.specialIn K (.builtin "object.__class__") "__get__" = some (some (.builtin "getset_descriptor.__get__"))) (htk:PySem.W.takesIn K (.builtin "object.__class__")=some true)
   (hm:I7 K C (.type "object")=some true):TyOf K H (.ref a) (.ref C)
end
structure Room(k:Nat)(A:m_):Prop where
 hd:A.handled=none
 dp:A.depth+3*k+5<LM
 un:A.units+16*k+200<FR
def Room.mono{j k:Nat}{A:m_}(r:Room k A)(h:j<=k):Room j A:=⟨r.hd,by have:=r.dp;lia,by have:=r.un;lia⟩
def Room.deeper{k:Nat}{A:m_}(r:Room (k+1) A)(env:Env):Room k (A.deeper env) :=
 ⟨r.hd,by have:=r.dp;show A.depth+1+3*k+5<_;lia,by have:=r.un;show A.units+3+16*k+200<_;lia⟩
def rC{A:m_}{C:Addr}{us:List b_}{a:List (Str×b_)}:(A.under (.builtin "type.__call__" ⟨.ref C::us,a⟩)).depth=A.depth+1:=by
 first | rfl | simp[IC,Code.weight,Code.isCreation,Code.isGuard,Code.isCaller,Code.frames,IP,guardIds]
def qZ{A:m_}{C:Addr}{us:List b_}{a:List (Str×b_)}:(A.under (.builtin "type.__call__" ⟨.ref C::us,a⟩)).units=A.units+1:=by
 first | rfl | simp[IC,Code.cUnits,Code.frames,IP]
def Room.make{k:Nat}{A:m_}(r:Room (k+1) A)(C:Addr)(us:List b_)(a:List (Str×b_)):Room k (A.under (.builtin "type.__call__" ⟨.ref C::us,a⟩)) :=
 ⟨r.hd,by have:=r.dp;rw[rC];lia,by have:=r.un;rw[qZ];lia⟩
def Room.depth{k:Nat}{A:m_}(r:Room k A):A.depth<LM:=by have:=r.dp;lia
def Room.units{k:Nat}{A:m_}(r:Room k A):A.units+64<FR:=by have:=r.un;lia
def Dy:TA:=λ_ H Q=>Q [] H
def z0(ta:TE)(tr:TA):TA:=λσ H Q=>ta σ H λx H1=>tr σ H1 λxs H2=>Q (x::xs) H2
section
variable {X:Cx}{e:Expr}{es:List Expr}{te:TE}{t:TA}{pos:Pos}
def ad:PA X [] Dy:=λ_ _ _ _ H Q I h=>G0 ⟨[],H,I,.nil,h⟩
def aa(w:PE X e te)(k:PA X es t)(r:lg (e::es) X.env=(false,eval e X.env)::lg es X.env:=by rfl):PA X (e::es) (z0 te t):=by
 intro b a s c H Q I h;rw[r];show ig _ _ (spliced ((false,eval e X.env)::z_ b (lg es X.env))) _ _ s;refine Fa (thn (w a s c H _ I h) λu j ⟨x,g,p,d,f⟩=>?_)
 exact thn (k b a j c g _ p f) λA z ⟨o,v,q,y,i⟩=>⟨x::o,v,q,.cons d y,i⟩
def DK(t:TA):TE:=λσ H Q=>t σ H λxs H1=>xs.length<=sizeLine/\∀ p,H1 p=none->Q (.ref p) (upd H1 p (.tup xs))
def Eu(t:TA):TE:=λσ H Q=>t σ H λxs H1=>xs.length<=sizeLine/\∀ p,H1 p=none->Q (.ref p) (upd H1 p (.lst xs))
def bh{x1}(h:PA X es t):PE X (.Tuple es x1 pos) (DK t):=by
 intro a s g H Q I k;refine wpAny_Tuple_spliced (thn (h pos a s g H _ I k) λo c ⟨j,d,f,r,z,q⟩=>⟨by rw[<- r.length];exact z,?_⟩);have i:d c.heap.objs.size=none:=f.hok.fresh (fS _);refine⟨.ref c.heap.objs.size,upd d c.heap.objs.size (.tup j),f.laid (t':=c.toks) (λb u e=>c_ _ e) (fS _) ?_,rfl,q _ i⟩;exact⟨z,o,r,⟨_,ie _ rfl,rfl,_,rfl⟩⟩
def bC(h:PA X es t):PE X (.List es pos) (Eu t):=by
 intro a s g H Q I k;refine wpAny_List_spliced (thn (h pos a s g H _ I k) λo c ⟨j,d,f,r,z,q⟩=>⟨by rw[<- r.length];exact z,?_⟩);have i:d c.heap.objs.size=none:=f.hok.fresh (fS _);refine⟨.ref c.heap.objs.size,upd d c.heap.objs.size (.lst j),f.laid (t':=c.toks) (λb u e=>c_ _ e) (fS _) ?_,rfl,q _ i⟩;exact⟨z,o,0,r,ie _ rfl⟩
end
abbrev Sp:=List V->Hp->VK->XK->Prop
abbrev CXT:=List Env->Hp->e_->XK->b_->e_->Prop
structure Env0(P:hH)(w:lA)(K:Frag)(mg:Str->Option b_)(base:Heap)(A:m_)(outer:List Env)(s:e_)(H:Hp):Prop where
 frames:A.frames=some outer
 mod:Mod K mg base
 bs:∀ b o,base.get? b=some o->s.heap.get? b=some o/\H b=none
 bsz:base.objs.size<=s.heap.objs.size
 funs:s.heap.FunFrames base outer
 frf:∀ b∈frs outer,H b=none
 hok:HOk P w H s.heap
 bare:FD s.gens
def CE(outer:List Env)(P:hH)(w:lA)(H:Hp)(s:e_)(Q:VK)(u:b_)(s':e_):Prop :=
 ∃ v H',s'.os=s.os/\FD s'.gens/\Un (frs outer) [] H H' s.heap s'.heap/\HOk P w H' s'.heap/\RelV v u/\Q v H'
def CR(CX:CXT)(outer:List Env)(P:hH)(w:lA)(H:Hp)(s:e_)(Q:VK)(E:XK)(r:LK)(s':e_):Prop :=
 match r with
 | .ok (.ret u)=>CE outer P w H s Q u s'
 | .ok _=>False
 | .error e=>CX outer H s E e s'
structure FnOk(P:hH)(w:lA)(K:Frag)(mg:Str->Option b_)(base:Heap)(CX:CXT)(k:Nat)(f:Addr)(fd:p_)(ps:List Str)(sp:Sp):Prop where
 len:∀ vs H Q E,sp vs H Q E->vs.length=ps.length
 run:∀(A:m_) (outer:List Env) (s:e_) (H:Hp) (args:Args) (us:List b_) (vs:List V) (Q:VK) (E:XK),Room k A->Env0 P w K mg base A outer s H->JM s fd args (ps.zip us)->Vals vs us->sp vs H Q E ->
  E_ (lh P w) A (.call (.ref f) args) (CR CX outer P w H s Q E) s
def FnOk.mono{P:hH}{w:lA}{K:Frag}{mg:Str->Option b_}{a:Heap}{CX:CXT}{j k:Nat}{f:Addr}{d:p_}{ps:List Str}{sp:Sp}(F:FnOk P w K mg a CX j f d ps sp)(h:j<=k) :
  FnOk P w K mg a CX k f d ps sp:=⟨F.len,λA b s H c o g Q E i=>F.run A b s H c o g Q E (i.mono h)⟩
def Env0.make{P:hH}{w:lA}{K:Frag}{mg:Str->Option b_}{b:Heap}{A:m_}{a:List Env}{s:e_}{H:Hp}(e:Env0 P w K mg b A a s H)(C:Addr)(us:List b_)(c:List (Str×b_)) :
  Env0 P w K mg b (A.under (.builtin "type.__call__" ⟨.ref C::us,c⟩)) a s H:=⟨by first | exact e.frames | (simpa[IC,Code.envs,IP,pushEnvs] using e.frames),e.mod,e.bs,e.bsz,e.funs,e.frf,e.hok,e.bare⟩
section
variable {X:Cx}{pins:List (Addr×Obj)}{σ:St}{H:Hp}{s s':e_}
def Inv.env0(I:Inv X pins σ H s):Env0 X.prog X.w X.K X.mg X.base X.A X.stack s H :=
 ⟨I.ok.frames,I.ok.mod,I.bs,lB I.ok.bsz I.sz,I.stack,I.stkFree,I.hok,I.bare⟩
def Inv.after{Q:VK}{u:b_}(I:Inv X pins σ H s)(h:CE X.stack X.prog X.w H s Q u s'):EP X pins σ Q u s':=by
 obtain⟨v,i,k,a,o,c,r,q⟩:=h;obtain⟨j,g,d,t,f⟩:=s';obtain rfl:f=s.os:=k;exact⟨v,i,I.call (h':=j) (g':=g) (d':=d) (t':=t) (ch:=[]) o c a (λb z=>absurd z (by simp)),r,q⟩
end
def wY(sp:Sp)(dvs:List V)(E:XK)(t:TA):TE:=λσ H Q=>t σ H λvs H1=>sp (vs++dvs) H1 Q E
def zT(C:Addr)(m:Str)(sp:Sp)(dvs:List V)(E:XK)(ta:TE)(t:TA):TE:=λσ H Q=>ta σ H λx H1=>∃ a dx fs,x=.ref a/\H1 a=some (.ins C dx fs)/\fs.lookup m=none /\
 t σ H1 λvs H2=>sp (x::(vs++dvs)) H2 Q E
def Ca(C:Addr)(sp:Sp)(dvs:List V)(E:XK)(t:TA):TE:=λσ H Q=>t σ H λvs H1=>∀ x dx,H1 x=none->H1 dx=none->dx≠x ->
 sp (.ref x::(vs++dvs)) (upd (upd H1 dx (.own x)) x (.ins C dx [])) (λv H2=>v=.non/\Q (.ref x) H2) E
def Binds(K:Frag)(fd:p_)(ps:List Str)(ds:List b_):Prop :=
 ∀(s:e_) (us:List b_),K.In s.heap->(us++ds).length=ps.length->JM s fd ⟨us,[]⟩ (ps.zip (us++ds))
def Binds.all{K:Frag}{a:p_}{ps:List Str}(h:∀ us:List b_,us.length=ps.length->FW a ⟨us,[]⟩=pure (ps.zip us)):Binds K a ps []:=λs us _ b=>by
 rw[Fj]at b ⊢;exact .of_eq (h us b)
def fF(CX:CXT)(X:Cx)(E:XK):Prop:=∀(pins:List (Addr×Obj)) (σ:St) (H:Hp) (s:e_) (e:b_) (s':e_),Inv X pins σ H s->CX X.stack H s E e s'->X.xe e s'
section
variable {X:Cx}{CX:CXT}{k:Nat}{f C:Addr}{fd:p_}{ps:List Str}{sp:Sp}{dvs:List V}{ds:List b_}{E:XK}{x m:Str}{p pos apos:Pos}{e o:Expr}{es:List Expr}{ta:TE}{t:TA}
def ro{a:List (Addr×Obj)}{c:St}{H:Hp}{s:e_}{Q:VK}{us:List b_}{vs:List V}(F:FnOk X.prog X.w X.K X.mg X.base CX k f fd ps sp)(p:Room k X.A)(o:Binds X.K fd ps ds)(g:Vals dvs ds)(i:fF CX X E)
  (I:Inv X a c H s) (r:Vals vs us) (h:sp (vs++dvs) H Q E):ig (lh X.prog X.w) X.A (call (.ref f) us) (EP X a c Q) X.xe s:=by
 have d:Vals (vs++dvs) (us++ds):=r.append g;have q:(us++ds).length=ps.length:=by rw[<- d.length];exact F.len _ _ _ _ h
 refine Fk (A5 (F.run X.A X.stack s H ⟨us,[]⟩ (us++ds) (vs++dvs) Q E p I.env0 (o s us I.kIn q) d h) λr j b=>?_);cases r with
 | error e=>exact i a c H s e j I b
 | ok fl =>
  cases fl with
  | ret u=>exact I.after b
  | next=>exact k_ b
  | brk=>exact k_ b
  | cont=>exact k_ b
def dX(F:FnOk X.prog X.w X.K X.mg X.base CX k f fd ps sp)(y:Room k X.A)(g:Gl X x)(u:X.mg x=some (.ref f))(i:Fp X.K (.ref f)=true)(w:Binds X.K fd ps ds)(j:Vals dvs ds)(o:fF CX X E)
  (z:PA X (e::es) t) (c:(x == ("__debug__" : Str))=false:=by decide) (A:lg (e::es) X.env=(false,eval e X.env)::lg es X.env:=by rfl) (b:(z_ pos (lg es X.env)).any (·.1)=false:=by rfl) :
  PE X (.Call (.Name x p) (e::es) [] pos) (wY sp dvs E t):=by
 intro a s v H Q I h;refine ql (eQ I g u ?_ c);refine GI (h₀:=X.base) I.ok.mod.kin i (thn (z pos a s v H _ I h) λG C ⟨D,B,d,r,q⟩=>⟨d.kIn,?_⟩) A b;exact ro F y w j o d r q
def dF{pl:Sem Bool}(K:PE X o ta)(c:Cls X.K C)(j:Meth X.K C m f)(F:FnOk X.prog X.w X.K X.mg X.base CX k f fd ps sp)(N:Room k X.A)(z:Binds X.K fd ps ds)(O:Vals dvs ds)(J:fF CX X E)(B:PA X (e::es) t)
  (d:lg (e::es) X.env=(false,eval e X.env)::lg es X.env:=by rfl) (g:(z_ pos (lg es X.env)).any (·.1)=false:=by rfl)
  (A:eval (.Call (.Attribute o m apos) (e::es) [] pos) X.env=(do
   let ov <- eval o X.env
   JK apos.atName
   let (f,first) <- K7 [ov] (Jz ov m pl)
   callWith pos f first (z_ pos (lg (e::es) X.env)) (G2 pos (FK [] X.env))):=by rfl) :
  PE X (.Call (.Attribute o m apos) (e::es) [] pos) (zT C m sp dvs E ta t):=by
 intro b s p H Q I h;refine methodCall_KW (pl:=pl) (thn (K b s p H _ I h) λu M ⟨x,w,i,D,a,R,T,y,G,l,q⟩=>?_) A;subst y;obtain rfl:u=lb a:=D;refine kD i G c j l ?_;refine GI (first:=[.ref a]) (h₀:=X.base) I.ok.mod.kin j.kp (thn (B pos b M p w _ i q) λus P ⟨vs,S,v,r,L⟩=>⟨v.kIn,?_⟩) d g;exact ro (us:=.ref a::us) (vs:=.ref a::vs) F N z O J v (.cons rfl r) L
def ar{pl:Sem Bool}(B:PE X o ta)(c:Cls X.K C)(g:Meth X.K C m f)(F:FnOk X.prog X.w X.K X.mg X.base CX k f fd ps sp)(A:Room k X.A)(y:Binds X.K fd ps ds)(r:Vals dvs ds)(v:fF CX X E)
  (z:eval (.Call (.Attribute o m apos) [] [] pos) X.env=(do
   let ov <- eval o X.env
   JK apos.atName
   let (f,first) <- K7 [ov] (Jz ov m pl)
   callWith pos f first (z_ pos (lg [] X.env)) (G2 pos (FK [] X.env))):=by rfl) :
  PE X (.Call (.Attribute o m apos) [] [] pos) (zT C m sp dvs E ta Dy):=by
 intro b s w H Q I h;refine methodCall_KW (pl:=pl) (thn (B b s w H _ I h) λu J ⟨x,D,d,i,a,G,K,p,j,l,q⟩=>?_) z;subst p;obtain rfl:u=lb a:=i;refine kD d j c g l ?_;exact callWith_K0 (first:=[.ref a]) d.kIn g.kp (ro (us:=[.ref a]) (vs:=[.ref a]) F A y r v d (.cons rfl .nil) q)
structure Mk(K:Frag)(C f:Addr):Prop where
 makes:makesIn K C=true
 init:EJ K (.ref C) "__init__" = some (some (.ref f))
 fn:isFn K (.ref f)=true
 kp:Fp K (.ref C)=true
def xa{a:List (Addr×Obj)}{d:St}{H:Hp}{s:e_}{Q:VK}{us:List b_}{vs:List V}(M:Mk X.K C f)(F:FnOk X.prog X.w X.K X.mg X.base CX k f fd ps sp)(z:Room (k+1) X.A)(y:Binds X.K fd ps ds)(o:Vals dvs ds)
  (p:fF CX X E) (I:Inv X a d H s) (r:Vals vs us)
  (h:∀ x dx,H x=none->H dx=none->dx≠x->sp (.ref x::(vs++dvs)) (upd (upd H dx (.own x)) x (.ins C dx [])) (λv H2=>v=.non/\Q (.ref x) H2) E) :
  ig (lh X.prog X.w) X.A (call (.ref C) us) (EP X a d Q) X.xe s:=by
 have g:=h (s.heap.objs.size+1) s.heap.objs.size (I.hok.fresh (Fs _)) (I.hok.fresh (fS _)) (kw (Hz _));have c:=Inv.made (C:=C) I;have i:Vals (V.ref (s.heap.objs.size+1)::(vs++dvs)) (lb (s.heap.objs.size+1)::(us++ds)):=.cons rfl (r.append o)
 have G:(lb (s.heap.objs.size+1)::us++ds).length=ps.length:=by
  have e:=i.length;rw[F.len _ _ _ _ g]at e;exact e.symm
 refine Fk (xB (f:=f) I.kIn M.makes M.init (beq_iff_eq.mp M.fn) (A5 (F.run _ X.stack _ _ ⟨lb (s.heap.objs.size+1)::us,[]⟩ (lb (s.heap.objs.size+1)::(us++ds)) _ _ E (z.make C us [])
  (c.env0.make C us []) (y _ (lb (s.heap.objs.size+1)::us) c.kIn G) i g) λr w b=>?_))
 cases r with
 | error e=>exact p a d _ _ e w c b
 | ok fl =>
  cases fl with
  | ret u =>
   obtain⟨v,j,B,A,q,D⟩:=c.after b;subst q;exact⟨A,⟨V.ref (s.heap.objs.size+1),j,B,rfl,D⟩⟩
  | next=>exact k_ b
  | brk=>exact k_ b
  | cont=>exact k_ b
def bT(M:Mk X.K C f)(F:FnOk X.prog X.w X.K X.mg X.base CX k f fd ps sp)(w:Room (k+1) X.A)(g:Gl X x)(o:X.mg x=some (.ref C))(v:Binds X.K fd ps ds)(i:Vals dvs ds)(j:fF CX X E)
  (y:PA X (e::es) t) (c:(x == ("__debug__" : Str))=false:=by decide) (z:lg (e::es) X.env=(false,eval e X.env)::lg es X.env:=by rfl) (b:(z_ pos (lg es X.env)).any (·.1)=false:=by rfl) :
  PE X (.Call (.Name x p) (e::es) [] pos) (Ca C sp dvs E t):=by
 intro a s u H Q I h;refine ql (eQ I g o ?_ c);refine GI (h₀:=X.base) I.ok.mod.kin M.kp (thn (y pos a s u H _ I h) λG B ⟨D,A,d,r,q⟩=>⟨d.kIn,?_⟩) z b;exact xa M F w v i j d r q
end
structure FnScope(N P:List Str)(sc:D_):Prop where
 kind:sc.kind=.function
 co:sc.isCoroutine=false
 gen:sc.isGenerator=false
 nd:N.Nodup
 pre:N.take P.length=P
 par:∀ x ∈ P,sc.names.lookup x = some .local\/sc.names.lookup x = some .cell
 nofree:∀ y∈sc.names,y.2≠.free
def m6{a:Str->Option A2}{x:Str}:∀{binds:List (Str×b_)}{m:Str->Option b_},(∀ v,(x,v) ∉ binds)->G3 a binds m x=m x
 | [],_,_=>rfl
 | (n,v)::r,m,h=>by
  unfold G3;rw[m6 λw b=>h w (hI _ b)]
  split
  .have:x≠n:=by rintro rfl;exact h v gT
   simp[this]
  .rfl
def mZ{a:Str->Option A2}{x:Str}:∀{binds:List (Str×b_)}{m:Str->Option b_},(∀ v,(x,v) ∉ binds)->G4 a binds m x=m x
 | [],_,_=>rfl
 | (n,v)::r,m,h=>by
  unfold G4;rw[mZ λw b=>h w (hI _ b)]
  split
  .rfl
  .have:x≠n:=by rintro rfl;exact h v gT
   simp[this]
def iX{a:Str->Option A2}{x:Str}{v:b_}:∀{P:List Str}{vs:List b_}{i:Nat}{m:Str->Option b_},P.Nodup->P[i]? = some x->vs[i]? = some v->a x = some .local ->
  G3 a (P.zip vs) m x=some v
 | [],_,_,_,_,h,_,_=>by simp at h
 | _::_,[],_,_,_,_,h,_=>by simp at h
 | p::P,w::vs,0,m,nd,h1,h2,hk=>by
  simp at h1 h2;subst h1;subst h2;show G3 a ((p,w)::P.zip vs) m p=_;unfold G3;rw[m6 λv b=>(sr.mp nd).1 (Fy b).1,if_pos hk];simp
 | p::P,w::vs,i+1,m,nd,h1,h2,hk=>by
  show G3 a ((p,w)::P.zip vs) m x=_;unfold G3;exact iX (i:=i) (sr.mp nd).2 (by simpa using h1) (by simpa using h2) hk
def i3{a:Str->Option A2}{x:Str}{v:b_}:∀{P:List Str}{vs:List b_}{i:Nat}{m:Str->Option b_},P.Nodup->P[i]? = some x->vs[i]? = some v->a x≠some .local ->
  G4 a (P.zip vs) m x=some v
 | [],_,_,_,_,h,_,_=>by simp at h
 | _::_,[],_,_,_,_,h,_=>by simp at h
 | p::P,w::vs,0,m,nd,h1,h2,hk=>by
  simp at h1 h2;subst h1;subst h2;show G4 a ((p,w)::P.zip vs) m p=_;unfold G4;rw[mZ λv b=>(sr.mp nd).1 (Fy b).1,if_neg hk];simp
 | p::P,w::vs,i+1,m,nd,h1,h2,hk=>by
  show G4 a ((p,w)::P.zip vs) m x=_;unfold G4;exact i3 (i:=i) (sr.mp nd).2 (by simpa using h1) (by simpa using h2) hk
def start(N:List Str)(vs:List V):St:=vs.map some++l4 (N.length - vs.length) none
def cV(CX:CXT)(P:hH)(w:lA)(K:Frag)(mg:Str->Option b_)(base:Heap)(N:List Str)(qual:Str)(scope:D_)(f:Addr)(cd:b_)(A:m_)(outer:List Env)(s:e_)(H:Hp)(E:XK):Cx where
 prog:=P
 w:=w
 K:=K
 mg:=mg
 base:=base
 A:=A.deeper (envOfC qual scope s.heap.objs.size f cd)
 N:=N
 s₀:=s
 H₀:=H
 env:=envOfC qual scope s.heap.objs.size f cd
 outer:=outer
 stack:=envOfC qual scope s.heap.objs.size f cd::outer
 ex:=[]
 calm:=true
 fn:=λ_=>true
 pn:=[]
 xe:=λe s'=>ig (lh P w) (A.deeper (envOfC qual scope s.heap.objs.size f cd)) (leaving (envOfC qual scope s.heap.objs.size f cd) e) (λ_ s''=>CX outer H s E e s'') (λe' s''=>CX outer H s E e' s'') s'
def lE{a:D_}{n:Nat}{x:Str}(h:a.names.lookup x=some .cell):∃ c,(oi n a.names []).lookup x=some c:=by
 have q:=FX a.names n [] (.inl h);exact FS.mp q
def iW{CX:CXT}{P:hH}{w:lA}{K:Frag}{mg:Str->Option b_}{o:Heap}{N ps:List Str}{g:Str}{scope:D_}{f:Addr}{G:b_}{A:m_}{d:List Env}{s O:e_}{H:Hp}{E:XK}{us:List b_}{vs:List V}
  (S:FnScope N ps scope) (W:A.handled=none) (B:Env0 P w K mg o A d s H) (Y:vs.length=ps.length) (r:Vals vs us)
  (x:GJ s s.heap.objs.size (G3 (envOfC g scope s.heap.objs.size f G).kindOf (ps.zip us) λ_=>none) (oi (s.heap.objs.size+1) scope.names []) (G4 (envOfC g scope s.heap.objs.size f G).kindOf (ps.zip us) λ_=>none) O) :
  Inv (cV CX P w K mg o N g scope f G A d s H E) [] (start N vs) H O:=by
 have T:ps.length<=N.length:=by have:=congrArg GF S.pre;rw[mx]at this;lia
 obtain⟨I,Z,rfl,M⟩:=x.done;have C:∀ b:Addr,b ∉ (cV CX P w K mg o N g scope f G A d s H E).ex:=λb z=>absurd (show b∈([]:List Addr) from z) (by simp)
 refine⟨⟨B.mod,S.kind,rfl,rfl,fS _,λy z c I j=>?_,λy hy=>?_,λy c _ h=>?_,λ_=>W,Gu B.frames,.inr ⟨rfl,rfl⟩,λb z=>absurd z (C b),B.bs,B.bsz,λb _ _=>C b,λb z=>absurd z (C b),B.funs,B.frf⟩,
  rfl,B.bare,Un.kept M,⟨_,x.toInCall.ns,λi y v I j X=>?_⟩,λy c h=>⟨_,x.cell y c h⟩,B.hok.fresh (fS _),λy c h=>?_,λp D=>absurd (show p∈([]:List (Addr×Obj)) from D) (by simp),B.hok.kept M,?_⟩
 .exact JN x.apart (q_ I) (q_ j)
 .have hy:scope.names.lookup y=some .cell\/scope.names.lookup y=some .free:=hy
  rcases hy with hy | hy
  .exact lE hy
  .exact absurd rfl (S.nofree _ (q_ hy))
 .exact rA (x.above y c (q_ h))
 .have J:i<vs.length:=by
   unfold start at j
   by_cases J:i<vs.length
   .exact J
   .rw[o_ (by simpa using J)]at j
    rw[IL]at j
    split at j <;> cases j
  have R:vs[i]? = some v:=by
   unfold start at j;rw[p0 (by simpa using J),gb]at j;cases e:vs[i]? with
   | none=>rw[e]at j;cases j
   | some a=>rw[e]at j;cases j;rfl
  obtain⟨u,L,Q⟩:=r.get R
  have D:ps[i]? = some y:=by
   rw[<- S.pre,ID (by lia)];exact I
  have F:ps.Nodup:=by rw[<- S.pre];exact S.nd.sublist (JO _ _)
  refine⟨u,Q,?_⟩
  rcases S.par y (ge D) with k | k
  .exact .inl ⟨k,iX F D L k⟩
  .obtain⟨c,e⟩:=lE (n:=s.heap.objs.size+1) k
   refine .inr ⟨.inl k,c,e,?_⟩;have q:=x.cell y c e;rw[i3 F D L (by show scope.names.lookup y≠_;rw[k];decide)]at q;exact q
 .exact B.hok.fresh (rA (x.above y c (q_ h)))
 .unfold start
  show _=N.length;rw[gV,d_,EK];lia
def wK{CX:CXT}{P:hH}{w:lA}{K:Frag}{mg:Str->Option b_}{g:Heap}{k:Nat}{f:Addr}{name a:Str}{d:Io}{body:List Stmt}{scope:D_}{W Y z pm c Z oc:b_}{X od:Option Addr}
  {M:Array (Option b_)}{N ps:List Str}{sp:Sp}(lk:K.lookup f=some ⟨oc,od,.func (fnOf name a d body scope W Y z pm X c Z),M⟩) (O:I_ K c a=true) (S:FnScope N ps scope)
  (B:∀ vs H Q E,sp vs H Q E->vs.length=ps.length)
  (i:∀(A:m_) (outer:List Env) (s:e_) (H:Hp) (vs:List V) (Q:VK) (E:XK),Room k (A.deeper (envOfC a scope s.heap.objs.size f c))->sp vs H Q E ->
   ∃ t,PSs (cV CX P w K mg g N a scope f c A outer s H E) body t/\t { nx:=λ_ H'=>Q .non H',rt:=Q } (start N vs) H) :
  FnOk P w K mg g CX (k+1) f (fnOf name a d body scope W Y z pm X c Z) ps sp:=by
 refine⟨B,λA outer s H ab us vs Q E R D hb r C=>?_⟩;have hl:=B _ _ _ _ C;have KX:K.In s.heap:=D.mod.kin.keeps λb o e=>(D.bs b o e).1
 have T:s.heap.NoLimit:=D.mod.nolimit.keeps λb o e=>(D.bs b o e).1
 have j:∀ y ∈ ps.zip us,scope.names.lookup y.1 = some .local\/(scope.names.lookup y.1 = some .cell/\((oi (s.heap.objs.size + 1) scope.names []).lookup y.1).isSome = true):=λ⟨n,v⟩ hy=>by
  rcases S.par n (Fy hy).1 with q | q
  .exact .inl q
  .exact .inr ⟨q,FX _ _ _ (.inl q)⟩
 refine E5 R.depth (KX _ _ lk) rfl S.co S.gen rfl (KR KX O) (hb _ _ _ _ ?_);refine FY S.kind j λah he s1 x=>?_
 subst he;refine⟨T.keeps x.toInCall.keep,GK ?_⟩;obtain⟨t,ht,hq⟩:=i A outer s H vs Q E (R.deeper _) C;have I:Inv (cV CX P w K mg g N a scope f c A outer s H E) [] (start N vs) H s1:=iW S R.hd D hl r x;refine rc (ht [] s1 (start N vs) H _ I hq) (λfl L p=>?_) λe L p=>p
 have F:∀{h:St}{H':Hp}{v:V}{u:b_},Inv (cV CX P w K mg g N a scope f c A outer s H E) [] h H' L->RelV v u->Q v H'->CE outer P w H s Q u L :=
  λ{h H' v u} J G q=>⟨v,H',J.os,J.bare,J.base,J.hok,G,q⟩
 cases fl with
 | ret u =>
  obtain⟨v,h,H',J,G,q⟩:=p;exact F J G q
 | next =>
  obtain⟨h,H',J,q⟩:=p;exact F (v:=V.non) (u:=n_) J rfl q
 | brk =>
  obtain⟨_,_,_,q⟩:=p;exact k_ q
 | cont =>
  obtain⟨_,_,_,q⟩:=p;exact k_ q
section
variable {X:Cx}{x:Str}{p pos:Pos}{e:Expr}{es:List Expr}{t:TA}{id T:String}{r:List V->Hp->VK->Prop}
def tCB(r:List V->Hp->VK->Prop)(t:TA):TE:=λσ H Q=>t σ H λvs H1=>r vs H1 Q
def aw(B:CallR X (.builtin id) r)(k:Gl X x)(o:X.mg x=none)(j:px x=some (.builtin id))(y:PA X (e::es) t)(v:x ≠ "__name__" := by decide)(c:(x == ("__debug__" : Str))=false:=by decide)
  (A:lg (e::es) X.env=(false,eval e X.env)::lg es X.env:=by rfl) (b:(z_ pos (lg es X.env)).any (·.1)=false:=by rfl):PE X (.Call (.Name x p) (e::es) [] pos) (tCB r t):=by
 intro a s d H Q I h;refine ql (iN I k o j ?_ v c);exact PyProof.Rows.callWith_builtin1 (thn (y pos a s d H _ I h) λz q ⟨u,i,w,f,g⟩=>B a q d i u z Q w f g) A b
def bv(B:CallR X (.type T) r)(k:Gl X x)(o:X.mg x=none)(j:px x=some (.type T))(y:PA X (e::es) t)(v:x ≠ "__name__" := by decide)(c:(x == ("__debug__" : Str))=false:=by decide)
  (A:lg (e::es) X.env=(false,eval e X.env)::lg es X.env:=by rfl) (b:(z_ pos (lg es X.env)).any (·.1)=false:=by rfl):PE X (.Call (.Name x p) (e::es) [] pos) (tCB r t):=by
 intro a s d H Q I h;refine ql (iN I k o j ?_ v c);exact EE (thn (y pos a s d H _ I h) λz q ⟨u,i,w,f,g⟩=>B a q d i u z Q w f g) A b
end
end L2
namespace HT
open PySem PyProof.Rows
section
variable {prog:hH}{w:lA}{A:m_}{E:b_->e_->Prop}{s:e_}
def sIx(n d:Nat):Option Int->Nat
 | none=>d
 | some v=>if v<0 then (v+(n:Int)).toNat else min v.toNat n
def sIx_none(n d:Nat):sIx n d none=d:=rfl
def sIx_nat(n d k:Nat):sIx n d (some (k:Int))=min k n:=by
 show(if (k:Int)<0 then ((k:Int)+(n:Int)).toNat else min (k:Int).toNat n)=min k n;rw[if_neg (by lia),ub]
def sIx_le(n d:Nat)(a:d<=n)(o:Option Int):sIx n d o<=n:=by
 cases o with
 | none=>exact a
 | some v =>
  show(if v<0 then (v+(n:Int)).toNat else min v.toNat n)<=n
  by_cases hv:v<0
  .rw[if_pos hv];lia
  .rw[if_neg hv];exact HC _ _
def tL(v:Int)(n d:Nat):(if v<0 then max (v+(n:Int)) 0 else min v (n:Int))=((sIx n d (some v):Nat):Int):=by
 show(if v<0 then max (v+(n:Int)) 0 else min v (n:Int))=(((if v<0 then (v+(n:Int)).toNat else min v.toNat n):Nat):Int)
 by_cases hv:v<0
 .simp only[if_pos hv];lia
 .simp only[if_neg hv];lia
def rB(lo a:Option Int)(n:Nat):Fq lo a 1 (n:Int)=(((sIx n 0 lo:Nat):Int),((sIx n n a:Nat):Int)):=by
 have b:¬((1:Int)<0):=by lia
 unfold Fq;simp only[b,if_false];refine Prod.ext ?_ ?_
 .cases lo with
  | none=>rfl
  | some v=>exact tL v n 0
 .cases a with
  | none=>rfl
  | some v=>exact tL v n n
def qN(i j:Nat):EN (i:Int) (j:Int) 1=j - i:=by
 unfold EN;have a:(1:Int) > 0:=by lia
 simp only[a,if_true,Int.ediv_one]
 split <;> lia
def kF{v:b_}{o:Option Int}{Q:Option Int->e_->Prop}(p:Ip v o)(h:Q o s):ig (lh prog w) A (Builtin.Slice.slicePartIndex v) Q E s:=by
 cases p with
 | none=>exact LN h
 | int i t=>exact slicePart_int h
def i5{g:Addr}{d f:b_}{lo a:Option Int}{n:Nat}{Q:Int×Int×Nat->e_->Prop}(k:s.heap.IsSliceOf g d f .none)(pl:Ip d lo)(j:Ip f a)
  (h:Q (((sIx n 0 lo:Nat):Int),1,sIx n n a - sIx n 0 lo) s):ig (lh prog w) A (GX (.ref g) (pure (n:Int))) Q E s:=by
 obtain⟨o,b,i,c⟩:=id k;unfold GX Builtin.Slice.sliceFields;refine a_ (a_ (Fm b c (x:=d) rfl (a_ (Fm b c (x:=f) rfl (a_ (Fm b c (x:=.none) rfl (fL ?_)))))));refine a_ (LN ?_);show ig _ _ (if ((1:Int) == 0)=true then _ else _) _ _ s;rw[if_neg (by decide)];refine a_ (kF pl (a_ (kF j (a_ (fL ?_)))));show ig _ _ (match Fq lo a 1 (n:Int) with | (lo,a)=>pure (lo,(1:Int),EN lo a 1)) _ _ s;rw[rB lo a n];show ig _ _ (pure (((sIx n 0 lo:Nat):Int),(1:Int),EN ((sIx n 0 lo:Nat):Int) ((sIx n n a:Nat):Int) 1)) _ _ s;rw[qN];exact fL h
def xE(xs:Array b_)(i k:Nat):((lj k).filterMap λ(m:Nat)=>xs[((i:Int)+(m:Int)*1).toNat]?).toArray=((xs.toList.drop i).take k).toArray:=by
 have e:(λ(m:Nat)=>xs[((i:Int)+(m:Int)*1).toNat]?)=λm=>xs[i+m]?:=by
  funext m
  have:((i:Int)+(m:Int)*1).toNat=i+m:=by lia
  rw[this]
 rw[e];have:=LO xs i k;rw[List.filterMap_map]at this;have a:((λx=>xs[x]?) ∘ λx=>i+x)=λm=>xs[i+m]?:=rfl
 rw[a]at this;rw[this]
def getItem_tuple_cut{t g:Addr}{items:Array b_}{k o:b_}{lo b:Option Int}{Q:b_->e_->Prop}(c:IsTup s.heap t items)(p:s.heap.IsSliceOf g k o .none)(pl:Ip k lo)(u:Ip o b)
  (r:¬(sIx items.size 0 lo=0/\sIx items.size items.size b=items.size))
  (h:Q (.ref s.heap.objs.size) { s with heap:=s.heap.push { cls:=.type "tuple",data:=.seq ((items.toList.drop (sIx items.size 0 lo)).take (sIx items.size items.size b - sIx items.size 0 lo)).toArray } })
  (hsz:items.size<=sizeLine):ig (lh prog w) A (Hi (.ref t) (.ref g)) Q E s:=by
 have a:sizeOk (.seq ((items.toList.drop (sIx items.size 0 lo)).take (sIx items.size items.size b - sIx items.size 0 lo)).toArray):=by
  show((items.toList.drop (sIx items.size 0 lo)).take (sIx items.size items.size b - sIx items.size 0 lo)).toArray.size<=sizeLine;rw[nf,mx,Fn,y2];lia
 have y:sIx items.size items.size b<=items.size:=sIx_le _ _ (fS _) b;obtain⟨x,i,f,v⟩:=id p;have j:s.TypeIs (.ref g) "slice" := ⟨x,i,f⟩;unfold Hi
 try with_reducible refine u_ ?_
 first | refine a_ (fL ?_) | skip
 refine a_ (wpAny_sequenceKey c.typeIs (by decide) ?_)
 refine a_ (Gy (name:=Gn "__getitem__") c.typeIs Gz
  (B1 Gz c.typeIs entry_tuple_getitem ?_ (args_tuple_getitem _ _)))
 show ig _ _ (Builtin.Tuple.tupleItemsOf (.ref t) >>= _) _ _ s;refine a_ (tupleItemsOf_ c ?_);refine a_ (JP j ?_);rw[if_pos (by decide)];refine a_ (i5 p pl u ?_)
 have d:¬((((sIx items.size 0 lo:Nat):Int) == 0 && (1:Int) == 1 && (sIx items.size items.size b - sIx items.size 0 lo) == items.size)=true):=by
  intro q;rw[il,il]at q;have B:((sIx items.size 0 lo:Nat):Int)=0:=eq_of_beq q.1.1;have z:sIx items.size items.size b - sIx items.size 0 lo=items.size:=eq_of_beq q.2;exact r ⟨by lia,by lia⟩
 show ig _ _ (if (((sIx items.size 0 lo:Nat):Int) == 0 && (1:Int) == 1 && (sIx items.size items.size b - sIx items.size 0 lo) == items.size)=true then _ else _) _ _ s;rw[if_neg d,xE]
 first
  | exact a_ (m:=EV _) (pw (fL ⟨_,rfl,fL h⟩) a)
  | exact a_ (m:=EV _) (pw (a_ (fL (fL ⟨_,rfl,fL h⟩))) a)
  | exact a_ (a_ (m:=EV _) (pw (fL (fL ⟨_,rfl,fL h⟩)) a))
  | exact a_ (a_ (m:=EV _) (pw (fL ⟨_,rfl,fL h⟩) a))
end
end HT
namespace L2
open PySem PySem.Spec PyProof.Rows
abbrev TO:=St->Hp->(Option Int->Hp->Prop)->Prop
def PO(X:Cx)(e:Option Expr)(t:TO):Prop :=
 ∀(pins:List (Addr×Obj)) (s:e_) (σ:St) (H:Hp) (Q:Option Int->Hp->Prop),Inv X pins σ H s->t σ H Q ->
  ig (lh X.prog X.w) X.A (evalPart e X.env) (λu s'=>∃ o H',Inv X pins σ H' s'/\Ip u o/\Q o H') X.xe s
def xQ:TO:=λ_ H Q=>Q none H
def CI(t:TE):TO:=λσ H Q=>t σ H λx H1=>∃ i,x=.int i/\Q (some i) H1
section
variable {X:Cx}{e:Expr}{te:TE}{lo hi:Option Expr}{tl th:TO}{pos p2:Pos}
def eS:PO X none xQ:=by
 intro a s b H Q I h;rw[evalPart_none];exact fL ⟨none,H,I,.none,h⟩
def cu(h:PE X e te):PO X (some e) (CI te):=by
 intro a s d H Q I f;rw[evalPart_some];refine thn (h a s d H _ I f) λu k ⟨x,c,g,b,j⟩=>?_
 obtain⟨i,rfl,q⟩:=j;obtain⟨t,rfl⟩:=b;exact⟨some i,c,g,.int i t,q⟩
def SlR(X:Cx)(r:V->Option Int->Option Int->Hp->VK->Prop):Prop :=
 ∀(pins:List (Addr×Obj)) (s:e_) (σ:St) (H:Hp) (x:V) (v vl vu:b_) (lo hi:Option Int) (sl:Addr) (Q:VK),Inv X pins σ H s->RelV x v->s.heap.IsSliceOf sl vl vu .none->Ip vl lo->Ip vu hi->r x lo hi H Q ->
  ∃ T id,KS (.type T) "__getitem__" = pure (some (.builtin id))/\s.TypeIs v T/\ig (lh X.prog X.w) X.A (Hi v (.ref sl)) (EP X pins σ Q) X.xe s
def SlR.or{r i:V->Option Int->Option Int->Hp->VK->Prop}(h:SlR X r)(h':SlR X i):SlR X (λx lo hi H Q=>r x lo hi H Q\/i x lo hi H Q):=by
 intro a s g H x v d k lo hi f Q I b o c j q
 rcases q with q | q
 .exact h a s g H x v d k lo hi f Q I b o c j q
 .exact h' a s g H x v d k lo hi f Q I b o c j q
def tSl(r:V->Option Int->Option Int->Hp->VK->Prop)(te:TE)(tl th:TO):TE:=λσ H Q=>te σ H λx H1=>tl σ H1 λl H2=>th σ H2 λu H3=>r x l u H3 Q
def cv{r:V->Option Int->Option Int->Hp->VK->Prop}(E:SlR X r)(y:PE X e te)(o:PO X lo tl)(i:PO X hi th):PE X (.Subscript e (.Slice lo hi none p2) pos) (tSl r te tl th):=by
 intro a s c H Q I h;refine KU (thn (y a s c H _ I h) λv D ⟨x,f,k,A,w⟩=>?_);refine wpAny_Slice (thn (o a D c f _ k w) λd g ⟨l,F,J,B,C⟩=>thn (i a g c F _ J C) λvu s3 ⟨u,H3,I3,pu,q3⟩=>?_);rw[evalPart_none];refine fL ?_;have z:Inv X a c H3 { s3 with heap:=s3.heap.push { cls:=.type "slice",data:=.fields #[d,vu,.none] } }:=I3.kept (t':=s3.toks) λb K q=>c_ _ q
 obtain⟨T,L,p,j,G⟩:=E a { s3 with heap:=s3.heap.push { cls:=.type "slice",data:=.fields #[d,vu,.none] } } c H3 x v d vu l u s3.heap.objs.size Q z A (Heap.IsSliceOf.new ..) B pu q3;show ig (lh X.prog X.w) X.A (Jr e (.Slice lo hi none p2) v (.ref s3.heap.objs.size)) (EP X a c Q) X.xe { s3 with heap:=s3.heap.push { cls:=.type "slice",data:=.fields #[d,vu,.none] } };exact tail_any (ops:=[.ref s3.heap.objs.size,v]) j p G (by with_unfolding_all rfl)
def b8(xs:List V)(lo hi:Option Int):List V:=(xs.drop (HT.sIx xs.length 0 lo)).take (HT.sIx xs.length xs.length hi - HT.sIx xs.length 0 lo)
def fE(xs:List V)(lo a:Option Int):(b8 xs lo a).length<=xs.length:=by
 unfold b8;rw[mx,Fn];lia
def Ex(K:Frag):V->Option Int->Option Int->Hp->VK->Prop:=λx lo hi H Q=>∃ a xs,x=.ref a/\SqT K H a xs /\
 ¬(HT.sIx xs.length 0 lo=0/\HT.sIx xs.length xs.length hi=xs.length)/\∀ p,H p=none->Q (.ref p) (upd H p (.tup (b8 xs lo hi)))
def sl_tup:SlR X (Ex X.K):=by
 intro j s F H x v D C f i G Q I u z A B h;obtain⟨a,d,rfl,w,y,q⟩:=h;cases u;obtain⟨g,r,k,p⟩:=I.tuple w;have c:g.toArray.size=d.length:=by rw[nf];exact r.length.symm
 refine⟨"tuple",_,PyProof.Rows.slot_tuple_getitem.lookup,k.typeIs,?_⟩;refine HT.getItem_tuple_cut k z A B (by rw[c];exact y) ?_ (by rw[c];exact p);rw[c];refine⟨.ref s.heap.objs.size,_,I.laid (t':=s.toks) (o:=.tup (b8 d f i)) (λb E q=>c_ _ q) (fS _) ?_,rfl,q _ (I.hok.fresh (fS _))⟩;exact⟨lB (fE d f i) p,_,(r.drop (HT.sIx d.length 0 f)).take (HT.sIx d.length d.length i - HT.sIx d.length 0 f),JH _ _⟩
end
def ixN(n:Nat)(i:Int):Option Nat:=if 0<=i then (if i<n then some i.toNat else none) else if -(n:Int)<=i then some (i+n).toNat else none
def atI{α:Type}(xs:List α)(i:Int):Option α:=(ixN xs.length i).bind λj=>xs[j]?
def zj{n:Nat}{i:Int}{j:Nat}(h:ixN n i=some j):seqIndex? i n=some j/\j<n/\-(n:Int)<=i/\i<n:=by
 unfold ixN at h
 by_cases h0:0<=i
 .rw[if_pos h0]at h
  by_cases h1:i<n
  .rw[if_pos h1]at h
   have e:i.toNat=j:=k7 h;exact⟨by rw[seqIndex_of h0 h1,e],by lia,by lia,h1⟩
  .rw[if_neg h1]at h;cases h
 .rw[if_neg h0]at h
  by_cases h1:-(n:Int)<=i
  .rw[if_pos h1]at h
   have e:(i+n).toNat=j:=k7 h;exact⟨by rw[seqIndex_neg (by lia) h1,e],by lia,h1,by lia⟩
  .rw[if_neg h1]at h;cases h
def nY{a:Type}{xs:List a}{i:Int}{v:a}(h:atI xs i=some v):∃ j,seqIndex? i xs.length=some j/\xs[j]? = some v/\j<xs.length/\-(xs.length:Int)<=i/\i<xs.length:=by
 unfold atI at h;cases e:ixN xs.length i with
 | none=>rw[e]at h;cases h
 | some j =>
  rw[e]at h;obtain⟨f,c,b,d⟩:=zj e;exact⟨j,f,h,c,b,d⟩
def iG{a:Type}{xs:List a}{j:Nat}{v:a}(h:xs[j]? = some v):atI xs (j:Int)=some v:=by
 have b:j<xs.length:=(fP.mp h).1
 have e:ixN xs.length (j:Int)=some j:=by
  unfold ixN;rw[if_pos (by lia),if_pos (by lia)];simp
 unfold atI;rw[e];exact h
def vS{a:Type}(xs:List a)(v:a):atI (xs++[v]) (-1)=some v:=by
 have b:(xs++[v]).length=xs.length+1:=by simp
 have e:ixN (xs++[v]).length (-1)=some xs.length:=by
  unfold ixN;rw[b,if_neg (by decide),if_pos (by lia)]
  congr 1
  lia
 unfold atI;rw[e];show(xs++[v])[xs.length]? = some v;simp
def nX(b:Expr):Prop:=∀ o i,IE b false o i=operate [o,i] (Hi o i)
def IxR(X:Cx)(r:R2):Prop :=
 ∀(value slice:Expr) (pins:List (Addr×Obj)) (s:e_) (σ:St) (H:Hp) (x y:V) (v u:b_) (Q:VK),Inv X pins σ H s->RelV x v->RelV y u->r x y H Q ->
  IE slice false v u=operate [v,u] (Hi v u)->ig (lh X.prog X.w) X.A (Jr value slice v u) (EP X pins σ Q) X.xe s
def MtR(X:Cx)(id:String)(r:V->List V->Hp->VK->Prop):Prop :=
 ∀(pins:List (Addr×Obj)) (s:e_) (σ:St) (H:Hp) (x:V) (xs:List V) (v:b_) (us:List b_) (Q:VK),Inv X pins σ H s->RelV x v->Vals xs us->r x xs H Q ->
  ig (lh X.prog X.w) X.A (call (.builtin id) (v::us)) (EP X pins σ Q) X.xe s
section
variable {X:Cx}{a b:Expr}{ta tb:TE}{pos:Pos}
def IxR.or{r i:R2}(h:IxR X r)(h':IxR X i):IxR X (λx y H Q=>r x y H Q\/i x y H Q):=by
 intro a b c s f H x y v u Q I d g q j
 rcases q with q | q
 .exact h a b c s f H x y v u Q I d g q j
 .exact h' a b c s f H x y v u Q I d g q j
def zZ{r:R2}(k:IxR X r)(z:PE X a ta)(j:PE X b tb)(p:nX b):PE X (.Subscript a b pos) (tOp r ta tb):=by
 intro c s g H Q I h;exact KU (Bb z j I h λv u f x y w o d i q=>k a b c f g w x y v u Q o d i q (p _ _))
inductive rIxL(K:Frag)(x y:V)(H:Hp)(Q:VK):Prop
 | mk(p:Addr)(xs:List V)(i:Int)(v:V)(h0:x=.ref p)(h1:y=.int i)(h2:SqL K H p xs)(h3:atI xs i=some v)(h4:Q v H):rIxL K x y H Q
inductive rIxT(K:Frag)(x y:V)(H:Hp)(Q:VK):Prop
 | mk(p:Addr)(xs:List V)(i:Int)(v:V)(h0:x=.ref p)(h1:y=.int i)(h2:SqT K H p xs)(h3:atI xs i=some v)(h4:Q v H):rIxT K x y H Q
def C4:R2:=λx y H Q=>∃ z i c,x=.str z/\y=.int i/\z.length<=sizeLine/\atI z.cps.toList i=some c/\Q (.str ⟨#[c]⟩) H
def ix_list:IxR X (rIxL X.K):=by
 intro d g a s C H x y v u Q I F J h B;obtain⟨p,R,i,z,rfl,rfl,K,L,q⟩:=h;cases F;obtain⟨t,rfl⟩:=J;obtain⟨o,r,f,S⟩:=I.list K;obtain⟨j,c,N,P,O,M⟩:=nY L;obtain⟨w,D,A⟩:=r.get N;have E:=r.length;have T:=i7
 have b:EP X a C Q w s:=⟨z,H,I,A,q⟩
 by_cases h0:0<=i
 .have k:i.toNat=j:=by
   rw[seqIndex_of h0 M]at c;exact k7 c
  exact item_listR f.isList h0 (by lia) (by rw[k];simpa using D) b B
 .have k:(i+(o.toArray.size:Int)).toNat=j:=by
   rw[seqIndex_neg (by lia) O]at c;rw[nf,<- E];exact k7 c
  exact JQ (x:=w) f.isList.typeIs slot_list_getitem.lookup
   (wpAny_getItem_list_neg (Q:=λr G=>r=w/\EP X a C Q r G) f.isList (by lia) (by rw[nf] <;> lia) (by lia) (by rw[k];simpa using D) ⟨rfl,b⟩) B
def ix_tup:IxR X (rIxT X.K):=by
 intro b c a s k H x y v u Q I A C h E;obtain⟨p,N,i,z,rfl,rfl,F,G,q⟩:=h;cases A;obtain⟨t,rfl⟩:=C;obtain⟨K,r,g,O⟩:=I.tuple F;obtain⟨j,D,L,M,S,P⟩:=nY G;obtain⟨w,J,d⟩:=r.get L;have o:=r.length;have R:=i7
 have f:EP X a k Q w s:=⟨z,H,I,d,q⟩
 exact JQ (x:=w) g.typeIs slot_tuple_getitem.lookup
  (getItem_tuple (j:=j) (Q:=λr B=>r=w/\EP X a k Q r B) g (by lia) (by lia) (by rw[nf,<- o];exact D) (by simpa using J) ⟨rfl,f⟩) E
def oB:IxR X C4:=by
 intro a b d s J H x y v u Q I o p h r;obtain⟨z,i,c,rfl,rfl,F,w,q⟩:=h;obtain⟨t,rfl⟩:=o;obtain⟨G,rfl⟩:=p;obtain⟨j,f,C,E,D,B⟩:=nY w;have k:z.cps.toList.length=z.length:=by simp[Str.length]
 rw[k]at f D B;have K:=i7
 exact tail_any (GL s z t) slot_str_getitem.lookup (getItem_str (c:=c) (by
  have g:decide (i < -(2 ^ 63:Int))=false:=decide_eq_false (by lia);have A:decide (i >= 2 ^ 63)=false:=decide_eq_false (by lia)
  rw[g,A,Bool.or_false]) (by rw[f];simpa using C) ⟨.str ⟨#[c]⟩,H,I.tok _,⟨_,rfl⟩,q⟩) r
def rIx(K:Frag):R2:=λx y H Q=>rIxL K x y H Q\/rIxT K x y H Q\/C4 x y H Q
def wx:IxR X (rIx X.K):=ix_list.or (ix_tup.or oB)
def oq(lo a:Option Int)(n:Nat):(FL lo a none n).1=((HT.sIx n 0 lo:Nat):Int)/\(FL lo a none n).2.1=((HT.sIx n n a:Nat):Int)/\(FL lo a none n).2.2=1:=by
 refine⟨?_,?_,rfl⟩
 .cases lo with
  | none=>simp[FL,HT.sIx]
  | some i =>
   simp only[FL,HT.sIx,JA,show(1:Int) > 0 by decide,if_true]
   by_cases h:i<0
   .simp only[h,if_true] <;> lia
   .simp only[h,if_false] <;> lia
 .cases a with
  | none=>simp[FL,HT.sIx]
  | some i =>
   simp only[FL,HT.sIx,JA,show(1:Int) > 0 by decide,if_true]
   by_cases h:i<0
   .simp only[h,if_true] <;> lia
   .simp only[h,if_false] <;> lia
def mj(its:List b_)(lo a:Option Int):slicePick its.toArray lo a none=((its.drop (HT.sIx its.length 0 lo)).take (HT.sIx its.length its.length a - HT.sIx its.length 0 lo)).toArray:=by
 obtain⟨d,c,b⟩:=oq lo a its.toArray.size;unfold slicePick;rw[d,c,b]
 simp only[LP,LO,nf] <;> rfl
def Ej(K:Frag):V->Option Int->Option Int->Hp->VK->Prop:=λx lo hi H Q=>∃ a xs,x=.ref a/\SqL K H a xs/\∀ p,H p=none->Q (.ref p) (upd H p (.lst (b8 xs lo hi)))
def sl_list:SlR X (Ej X.K):=by
 intro i s E H x v B F f g C Q I k z u y h;obtain⟨a,c,rfl,w,q⟩:=h;cases k;obtain⟨p,r,j,A⟩:=I.list w;have d:=r.length;refine⟨"list",_,slot_list_getitem.lookup,j.isList.typeIs,?_⟩;refine wpAny_getItem_list_slice j.isList z u y .none (by simp) ?_ (by rw[nf] <;> lia);rw[mj,<- d];refine⟨.ref s.heap.objs.size,_,I.laid (t':=s.toks) (o:=.lst (b8 c f g)) (λb D q=>c_ _ q) (fS _) ?_,rfl,q _ (I.hok.fresh (fS _))⟩;exact⟨lB (fE c f g) A,_,0,(r.drop (HT.sIx c.length 0 f)).take (HT.sIx c.length c.length g - HT.sIx c.length 0 f),ie _ rfl⟩
def gN:V->Bool
 | .non=>true
 | .bl _=>true
 | .int _=>true
 | .str _=>true
 | _=>false
def eqV:V->V->Bool
 | .non,.non=>true
 | .bl a,.bl b=>a == b
 | .bl a,.int b=>(if a then 1 else 0) == b
 | .int a,.bl b=>a == (if b then 1 else 0)
 | .int a,.int b=>a == b
 | .str a,.str b=>a == b
 | _,_=>false
def As{A:m_}{s:e_}{y x:V}{u v:b_}(g:RelV y u)(c:RelV x v)(h:gN y=true)(f:gN x=true):Lr A s u v (eqV y x):=by
 cases y with
 | non =>
  cases g;cases x with
  | non=>cases c;exact SeqAt.EqAt.same _
  | bl b=>cases c;exact SeqAt.EqAt.none_bool b
  | int b=>obtain⟨t,rfl⟩:=c;exact SeqAt.EqAt.none_int b t
  | str b=>obtain⟨t,rfl⟩:=c;exact SeqAt.EqAt.none_str b t
  | _=>exact absurd (show false=true from f) hY
 | bl a =>
  cases g;cases x with
  | non=>cases c;exact SeqAt.EqAt.bool_none a
  | bl b=>cases c;exact SeqAt.EqAt.bool_bool a b
  | int b=>obtain⟨t,rfl⟩:=c;exact SeqAt.EqAt.bool_int a b t
  | str b=>obtain⟨t,rfl⟩:=c;exact SeqAt.EqAt.bool_str a b t
  | _=>exact absurd (show false=true from f) hY
 | int a =>
  obtain⟨d,rfl⟩:=g;cases x with
  | non=>cases c;exact SeqAt.EqAt.int_none a d
  | bl b=>cases c;exact SeqAt.EqAt.int_bool a d b
  | int b=>obtain⟨t,rfl⟩:=c;exact SeqAt.EqAt.int_int a d b t
  | str b=>obtain⟨t,rfl⟩:=c;exact Iz a d b t
  | _=>exact absurd (show false=true from f) hY
 | str a =>
  obtain⟨d,rfl⟩:=g;cases x with
  | non=>cases c;exact SeqAt.EqAt.str_none a d
  | bl b=>cases c;exact SeqAt.EqAt.str_bool a d b
  | int b=>obtain⟨t,rfl⟩:=c;exact IA a d b t
  | str b=>obtain⟨t,rfl⟩:=c;exact SeqAt.EqAt.str_str a d b t
  | _=>exact absurd (show false=true from f) hY
 | _=>exact absurd (show false=true from h) hY
def eqU(x:V)(u:b_):Bool:=match u with
 | .none=>eqV .non x
 | .bool b=>eqV (.bl b) x
 | .int i _=>eqV (.int i) x
 | .str z _=>eqV (.str z) x
 | _=>false
def wX{x y:V}{u:b_}(r:RelV y u)(f:gN y=true):eqU x u=eqV y x:=by
 cases y with
 | non=>cases r;rfl
 | bl b=>cases r;rfl
 | int i=>obtain⟨t,rfl⟩:=r;rfl
 | str z=>obtain⟨t,rfl⟩:=r;rfl
 | _=>exact absurd (show false=true from f) hY
def nH{x:V}:∀{xs:List V}{us:List b_},Vals xs us->xs.all gN=true->us.any (eqU x)=xs.any λy=>eqV y x
 | _,_,.nil,_=>rfl
 | y::xs,u::us,.cons r t,f=>by
  rw[all_cons,il]at f;rw[G5,G5,wX r f.1,nH t f.2]
def lM{A:m_}{s:e_}{x:V}{v:b_}(a:RelV x v)(b:gN x=true):∀{xs:List V}{us:List b_},Vals xs us->xs.all gN=true->∀ u∈us,Lr A s u v (eqU x u)
 | _,_,.nil,_=>λu hu=>by cases hu
 | y::xs,u::us,.cons r t,f=>λc hu=>by
  rw[all_cons,il]at f
  rcases i_.mp hu with rfl | hu
  .rw[wX r f.1];exact As r a f.1 b
  .exact lM a b t f.2 c hu
def inV(x:V)(xs:List V):Bool:=xs.any λy=>eqV y x
inductive rIn(K:Frag)(neg:Bool)(x y:V)(H:Hp)(Q:VK):Prop
 | mk(p:Addr)(xs:List V)(h0:y=.ref p)(h1:SqL K H p xs\/SqT K H p xs)(h2:gN x=true)(h3:xs.all gN=true)(h4:Q (.bl (if neg then !inV x xs else inV x xs)) H):rIn K neg x y H Q
def mJ:OpR X (re .In) (rIn X.K false):=by
 intro i s o H x y v u Q I g j h;obtain⟨p,z,rfl,hq,f,b,q⟩:=h;cases j
 rcases hq with hq | hq
 .obtain⟨a,r,c,k⟩:=I.list hq
  refine SeqAt.in_listAt (eqU x) c.isList (λw d=>lM g f r b w (by simpa using d)) ⟨.bl _,H,I,rfl,?_⟩;rw[show a.toArray.any (eqU x)=a.any (eqU x) by simp,nH r b];exact q
 .obtain⟨a,r,c,k⟩:=I.tuple hq
  refine SeqAt.in_tupleAt (eqU x) c (λw d=>lM g f r b w (by simpa using d)) ⟨.bl _,H,I,rfl,?_⟩;rw[show a.toArray.any (eqU x)=a.any (eqU x) by simp,nH r b];exact q
def ow:CallR X (.builtin "len") (λxs H Q=>∃ p ys,xs=[.ref p]/\(SqL X.K H p ys\/SqT X.K H p ys)/\Q (.int ys.length) H):=by
 intro f s k H xs o Q I r h;obtain⟨p,ys,rfl,hq,q⟩:=h;obtain⟨u,rfl,g⟩:=dW r;cases g;have j:=i7
 rcases hq with hq | hq
 .obtain⟨b,d,c,i⟩:=I.list hq
  have a:=d.length;exact Calls.call_len_list c.isList (by simp only[nf] <;> lia) ⟨.int ys.length,H,I.tok _,⟨s.toks+1,by rw[nf,a]⟩,q⟩
 .obtain⟨b,d,c,i⟩:=I.tuple hq
  have a:=d.length;exact len_tuple c (by simp only[nf] <;> lia) ⟨.int ys.length,H,I.tok _,⟨s.toks+1,by rw[nf,a]⟩,q⟩
def call_len_str:CallR X (.builtin "len") (λxs H Q=>∃ z,xs=[.str z]/\z.length<=sizeLine/\Q (.int z.length) H):=by
 intro a s c H xs f Q I r h;obtain⟨z,rfl,d,q⟩:=h;obtain⟨u,rfl,t,rfl⟩:=dW r;have b:=i7;exact len_str (by lia) ⟨.int z.length,H,I.tok _,⟨_,rfl⟩,q⟩
def CallR.or{f:b_}{r d:List V->Hp->VK->Prop}(h:CallR X f r)(h':CallR X f d):CallR X f (λxs H Q=>r xs H Q\/d xs H Q):=by
 intro a s c H xs g Q I b q
 rcases q with q | q
 .exact h a s c H xs g Q I b q
 .exact h' a s c H xs g Q I b q
inductive rListOf(K:Frag)(xs:List V)(H:Hp)(Q:VK):Prop
 | mk(p:Addr)(ys:List V)(h0:xs=[.ref p])(h1:SqL K H p ys\/SqT K H p ys)(h2:∀ l,H l=none->Q (.ref l) (upd H l (.lst ys))):rListOf K xs H Q
def eT:CallR X (.type "list") (rListOf X.K):=by
 intro i s C H D E Q I r h;obtain⟨p,z,rfl,hq,q⟩:=h;obtain⟨u,rfl,B⟩:=dW r;cases B
 have v:∀(a:List b_),Vals z a->z.length<=sizeLine->∀(c:Heap) (d:Nat),(∀ b o',s.heap.get? b=some o'->c.get? b=some o') ->
   c.get? s.heap.objs.size=some { cls:=.type "list",dict:=none,data:=.seq a.toArray d,slots:=#[] }->EP X i C Q (.ref s.heap.objs.size) { s with heap:=c }:=λa f j c d g e =>
  ⟨.ref s.heap.objs.size,_,I.laid (t':=s.toks) g (fS _) (show ObjOk X.prog X.w _ c _ (.lst z) from⟨j,a,d,f,e⟩),rfl,q _ (I.hok.fresh (fS _))⟩
 rcases hq with hq | hq
 .obtain⟨a,f,x,j⟩:=I.list hq
  have k:=f.length;obtain⟨o,w,A,n,y⟩:=x.isList;exact call_list_seq p (.inl rfl) w A y (λc d g e=>v a f j c d g e) (by simp only[nf] <;> lia)
 .obtain⟨a,f,x,j⟩:=I.tuple hq
  have k:=f.length;obtain⟨o,w,A,n,y⟩:=x;exact call_list_seq p (.inr rfl) w A y (λc d g e=>v a f j c d g e) (by simp only[nf] <;> lia)
def lX:CallR X (.type "tuple") (λxs H Q=>∃ p ys,xs=[.ref p]/\((SqL X.K H p ys/\∀ l,H l=none->Q (.ref l) (upd H l (.tup ys)))\/(SqT X.K H p ys/\Q (.ref p) H))):=by
 intro a s j H xs A Q I r h;obtain⟨p,ys,rfl,h⟩:=h;obtain⟨u,rfl,x⟩:=dW r;cases x
 rcases h with⟨i,q⟩ | ⟨i,q⟩
 .obtain⟨c,g,f,v⟩:=I.list i
  have w:=g.length;refine call_tuple_list f.isList (λd y=>?_) (by simp only[nf] <;> lia);have k:Inv X a j H { s with heap:=d }:=I.kept (t':=s.toks) y
  have z:Inv X a j (upd H d.objs.size (.tup ys)) { s with heap:=d.push { cls:=.type "tuple",data:=.seq c.toArray } } :=
   k.laid (t':=s.toks) (λb o e=>c_ _ e) (fS _) (show ObjOk X.prog X.w _ _ _ (.tup ys) from⟨v,c,g,JH _ _⟩)
  exact⟨.ref d.objs.size,_,z,rfl,q _ (k.hok.fresh (fS _))⟩
 .obtain⟨c,g,f,v⟩:=I.tuple i
  exact call_tuple_same f ⟨.ref p,H,I,rfl,q⟩
def tyV(K:Frag)(T:String)(x:V)(H:Hp):Prop:=match x with
 | .str _=>T = "str"
 | .int _=>T = "int"
 | .ref p=>(T = "list" /\ ∃ xs,SqL K H p xs)\/(T = "tuple" /\ ∃ o,K.lookup p=some o/\o.cls=.type "tuple" /\ o.dict=none) \/
   (T = "dict" /\ ((∃ kvs,H p=some (.dK kvs))\/∃ kvs,H p=some (.dT kvs)))\/(T = "set" /\ ∃ S n,H p=some (.set S n))
 | _=>False
def vF{f:List (Addr×Obj)}{u:St}{H:Hp}{s:e_}{T:String}{x:V}{v:b_}(I:Inv X f u H s)(r:RelV x v)(ty:tyV X.K T x H) :
  s.TypeIs v T/\∀ a,v=.ref a->∃ ob,s.heap.get? a=some ob/\ob.dict=none:=by
 cases x with
 | str z =>
  obtain⟨t,rfl⟩:=r;cases(show T = "str" from ty);exact⟨GL s z t,λ_ e=>nomatch e⟩
 | int i =>
  obtain⟨t,rfl⟩:=r;cases(show T = "int" from ty);exact⟨KW s i t,λ_ e=>nomatch e⟩
 | ref p =>
  cases r
  rcases ty with⟨rfl,A,w⟩ | ⟨rfl,o,b,y,g⟩ | ⟨rfl,b⟩ | ⟨rfl,S,n,b⟩
  .obtain⟨q,_,k,_⟩:=I.list w
   refine⟨k.isList.typeIs,λa e=>?_⟩;cases e;obtain⟨o,n,e,c,g,_⟩:=k;exact⟨o,e,g⟩
  .refine⟨⟨o,I.kIn p o b,y⟩,λa e=>?_⟩
   cases e;exact⟨o,I.kIn _ o b,g⟩
  .have z:∃ o,s.heap.get? p=some o/\o.ExactDict:=by
    rcases b with⟨h,b⟩ | ⟨h,b⟩
    .obtain⟨_,_,_,_,o,_,_,e,d,_⟩:=I.hok p _ b
     exact⟨o,e,d⟩
    .obtain⟨_,_,_,_,o,_,_,e,d,_⟩:=I.hok p _ b
     exact⟨o,e,d⟩
   obtain⟨o,e,d⟩:=z;refine⟨⟨o,e,d.1⟩,λa j=>?_⟩;cases j;exact⟨o,e,d.2.1⟩
  .obtain⟨o,_,_,_,e,d,_⟩:=I.hok p _ b
   refine⟨⟨o,e,d.1⟩,λa j=>?_⟩;cases j;exact⟨o,e,d.2.1⟩
 | _=>exact k_ ty
def Dr(K:Frag)(T:String)(r:V->List V->Hp->VK->Prop)(to:TE):TE:=λσ H Q=>to σ H λx H1=>tyV K T x H1/\r x [] H1 Q
def tBM(K:Frag)(T:String)(r:V->List V->Hp->VK->Prop)(to:TE)(t:TA):TE:=λσ H Q=>to σ H λx H1=>tyV K T x H1/\t σ H1 λxs H2=>r x xs H2 Q
variable {o e:Expr}{es:List Expr}{to:TE}{t:TA}{name:Str}{apos cpos:Pos}{T id:String}{r:V->List V->Hp->VK->Prop}
def AS(z:PlainAttrs T)(d:Slot T name id)(f:JR (.builtin id)=pure (.type "method_descriptor"))(u:MtR X id r)(k:PE X o to)
  (b:EF o name X.env (eval o X.env)=eval o X.env:=by rfl) (c:(apos.endLine == cpos.line)=true:=by rfl):PE X (.Call (.Attribute o name apos) [] [] cpos) (Dr X.K T r to):=by
 intro a s i H Q I h;refine wpAny_Call_method0_late b c (thn (k a s i H _ I h) λv y ⟨x,p,j,g,w,B⟩=>?_);obtain⟨A,q⟩:=vF j g w;exact⟨T,id,z,d,f,A,q,Ff rfl (PySem.evalArgs_none (u a y i p x [] v [] Q j g .nil B))⟩
def xH(z:PlainAttrs T)(g:Slot T name id)(i:JR (.builtin id)=pure (.type "method_descriptor"))(K:MtR X id r)(C:PE X o to)(A:PA X (e::es) t)
  (d:EF o name X.env (eval o X.env)=eval o X.env:=by rfl)
  (f:((z_ cpos (lg (e::es) X.env)).all (λx=>!x.1) && (G2 cpos (FK [] X.env)).all (λx=>x.1.isSome)
   && decide ((e::es).length+([]:List Gh).length+(if ([]:List Gh).isEmpty then 0 else 1)<30))=true:=by rfl)
  (c:(apos.endLine == cpos.line)=true:=by rfl) (E:lg (e::es) X.env=(false,eval e X.env)::lg es X.env:=by rfl) (b:(z_ cpos (lg es X.env)).any (·.1)=false:=by rfl) :
  PE X (.Call (.Attribute o name apos) (e::es) [] cpos) (tBM X.K T r to t):=by
 intro a s j H Q I h;refine wpAny_Call_method_late d f c rfl (thn (C a s j H _ I h) λv L ⟨x,u,k,p,y,F⟩=>?_);obtain⟨D,O⟩:=vF k p y;refine⟨T,id,z,g,i,D,O,?_⟩;have q:=A cpos a L j u _ k F;rw[E]at q ⊢;refine Ff (by show(false || (z_ cpos (lg es X.env)).any (·.1))=false;rw[b] <;> rfl) (GA ?_);exact thn q λG w ⟨M,N,P,B,J⟩=>K a w j N x M v G Q P p B J
end
def MtM(X:Cx)(id:String)(r:V->List V->Hp->VK->Prop):Prop :=
 ∀(pins:List (Addr×Obj)) (s:e_) (σ:St) (H:Hp) (x:V) (xs:List V) (v:b_) (us:List b_) (Q:VK),Inv X pins σ H s->RelV x v->Vals xs us->r x xs H Q ->
  ig (lh X.prog X.w) X.A (call (.builtin id) (v::us)) (EP X pins σ Q) X.xe s
def Vals.one:∀{x:V}{us:List b_},Vals [x] us->∃ u,us=[u]/\RelV x u
 | _,_,.cons r .nil=>⟨_,rfl,r⟩
def Vals.zero:∀{us:List b_},Vals [] us->us=[]
 | _,.nil=>rfl
def Vals.dropLast{xs:List V}{us:List b_}(h:Vals xs us):Vals xs.dropLast us.dropLast:=by
 induction h with
 | nil=>exact .nil
 | cons r t ih =>
  cases t with
  | nil=>exact .nil
  | cons q t'=>exact .cons r ih
def Vals.rep{xs:List V}{us:List b_}(h:Vals xs us):∀ k:Nat,Vals (l4 k xs).flatten (l4 k us).flatten
 | 0=>.nil
 | k+1=>by
  rw[FZ,FZ,HR,HR];exact Vals.append h (Vals.rep h k)
def qC{c:Type}(l:List c):l.eraseIdx (l.length - 1)=l.dropLast:=by
 induction l with
 | nil=>rfl
 | cons a r ih =>
  cases r with
  | nil=>rfl
  | cons b r =>
   have e:(a::b::r).length - 1=((b::r).length - 1)+1:=by
    have d:(a::b::r).length=r.length+2:=rfl;have f:(b::r).length=r.length+1:=rfl;lia
   rw[e,List.eraseIdx_cons_succ,ih]
   all_goals rfl
def mC(its:List b_):∀(k:Nat) (acc:List b_),
  JB (λx1 x2=>x1++x2) acc.toArray (l4 k its.toArray)=(acc++(l4 k its).flatten).toArray
 | 0,acc=>by simp
 | k+1,acc=>by
  have e:acc.toArray++its.toArray=(acc++its).toArray:=by simp
  have a:(acc++its)++(l4 k its).flatten=acc++(l4 (k+1) its).flatten:=by
   rw[FZ,HR,append_assoc]
  rw[<- a,<- mC its k (acc++its),<- e,FZ,HD]
section
variable {X:Cx}{pins:List (Addr×Obj)}{σ:St}{H:Hp}{s:e_}{l b:Addr}{xs ys:List V}
def Inv.lset{its its':List b_}{n:Nat}{f:Array b_->Array b_}{t':Nat}(I:Inv X pins σ H s)(b:H l=some (.lst xs))
  (e:s.heap.get? l=some { cls:=.type "list",data:=.seq its.toArray n }) (g:f its.toArray=its'.toArray) (c:Vals ys its') (hz:ys.length<=sizeLine) :
  Inv X pins σ (upd H l (.lst ys)) { s with heap:=s.heap.update l (EL f),toks:=t' }:=by
 have q:=PySem.IsL.update e f;rw[g]at q;refine I.write (x:=l) (e:=l) (by rw[b];exact trivial) (.inl rfl) (λh u d a=>(EH s.heap (EL f) (A_ d)).trans a) ⟨_,q⟩ ?_;exact⟨hz,its',_,c,q⟩
def Inv.lnew{its:List b_}{t':Nat}(I:Inv X pins σ H s)(a:Vals ys its)(hz:ys.length<=sizeLine) :
  Inv X pins σ (upd H s.heap.objs.size (.lst ys)) { s with heap:=s.heap.push { cls:=.type "list",data:=.seq its.toArray },toks:=t' } :=
 I.laid (λ_ _ q=>c_ _ q) (fS _) ⟨hz,its,0,a,ie _ rfl⟩
def Inv.fresh(I:Inv X pins σ H s):H s.heap.objs.size=none:=I.hok.fresh (fS _)
def Inv.lstM(I:Inv X pins σ H s)(a:H l=some (.lst xs)):xs.length<=sizeLine/\∃(its:List b_) (n:Nat),Vals xs its/\xs.length=its.length/\s.heap.get? l=some { cls:=.type "list",data:=.seq its.toArray n }:=by
 obtain⟨z,its,n,r,e⟩:=I.hok l _ a;exact⟨z,its,n,r,r.length,e⟩
def p8{n:Nat}(h:n<=sizeLine):EZ n=false:=by
 unfold EZ;exact decide_eq_false (by lia)
end
section
variable {X:Cx}
inductive rAppend(x:V)(vs:List V)(H:Hp)(Q:VK):Prop
 | mk(l:Addr)(xs:List V)(y:V)(h0:x=.ref l)(h1:vs=[y])(h2:H l=some (.lst xs))(h3:xs.length<sizeLine)(h4:Q .non (upd H l (.lst (xs++[y])))):rAppend x vs H Q
def ng:MtM X "list.append" rAppend:=by
 intro c s i H x j v p Q I d g h;obtain⟨l,k,y,rfl,rfl,b,o,q⟩:=h;cases d;obtain⟨u,rfl,f⟩:=g.one;obtain⟨z,a,n,r,w,e⟩:=I.lstM b;refine Fl Kj ⟨_,e,rfl⟩ F.entry_list_append (F.args_list_append_2 _ _) (PySem.list_append l a.toArray n u (by rw[nf];lia)) ⟨e,?_⟩;refine⟨.non,_,I.lset (its':=a++[u]) b e (by simp) (r.append (.cons f .nil)) ?_,rfl,q⟩;rw[gV,Gv];lia
def sd:V->List V->Hp->VK->Prop:=λx vs H Q=>∃ l b xs zs,x=.ref l/\vs=[.ref b]/\H l=some (.lst xs)/\H b=some (.lst zs)/\xs.length+zs.length<=sizeLine/\Q .non (upd H l (.lst (xs++zs)))
def tX:MtM X "list.extend" sd:=by
 intro i s J H x K v G Q I o j h;obtain⟨l,b,C,M,rfl,rfl,g,w,E,q⟩:=h;cases o;obtain⟨u,rfl,p⟩:=j.one;cases p;obtain⟨z,c,n,r,D,e⟩:=I.lstM g;obtain⟨L,a,B,k,A,y⟩:=I.lstM w;have f:c.toArray.size+a.toArray.size<=sizeLine:=by rw[nf,nf];lia
 have d:¬(!c.toArray.isEmpty && EZ (c.toArray.size+a.toArray.size))=true:=by
  rw[p8 f,Bool.and_false];exact hY
 refine Fl Kk ⟨_,e,rfl⟩ F.entry_list_extend (F.args_list_extend_2 _ _)
  (AutoSeq1.list_extend_list_list_0 l c.toArray n b a.toArray B d (by rw[nf];lia) (by lia)) ⟨e,y,?_⟩
 refine⟨.non,_,I.lset (its':=c++a) g e (by simp) (r.append k) ?_,rfl,q⟩;rw[gV];lia
def Co:V->List V->Hp->VK->Prop:=λx vs H Q=>∃ l xs y,x=.ref l/\vs=[]/\H l=some (.lst xs)/\xs[xs.length - 1]? = some y/\Q y (upd H l (.lst xs.dropLast))
def BF:MtM X "list.pop" Co:=by
 intro f s w H x A v C Q I g o h;obtain⟨l,B,y,rfl,rfl,d,i,q⟩:=h;cases g;have b:=o.zero;subst b;obtain⟨z,a,n,r,p,e⟩:=I.lstM d;obtain⟨u,j,k⟩:=r.get i
 have c:a.toArray[a.toArray.size - 1]? = some u:=by
  show a.toArray[a.length - 1]? = some u;rw[<- EO,<- p];exact j
 refine Fl K9 ⟨_,e,rfl⟩ F.entry_list_pop (F.args_list_pop_1 _) (MeetsSeq.list_pop_last l a.toArray n u c (by rw[nf];lia)) ⟨e,?_⟩;refine⟨y,_,I.lset (its':=a.dropLast) d e ?_ r.dropLast ?_,k,q⟩
 .show a.toArray.eraseIdxIfInBounds (a.toArray.size - 1)=a.dropLast.toArray
  rw[nf,List.eraseIdxIfInBounds_toArray,qC]
 .rw[List.length_dropLast]
  lia
inductive rCat(x y:V)(H:Hp)(Q:VK):Prop
 | mk(l b:Addr)(xs zs:List V)(h0:x=.ref l)(h1:y=.ref b)(h2:H l=some (.lst xs))(h3:H b=some (.lst zs))(h4:xs.length+zs.length<=sizeLine)(h5:∀ p,H p=none->Q (.ref p) (upd H p (.lst (xs++zs)))):rCat x y H Q
def cE:OpR X (E2 .Add) rCat:=by
 intro d s B H x y v u Q I f k h;obtain⟨l,b,C,A,rfl,rfl,i,j,E,q⟩:=h;cases f;cases k;obtain⟨z,c,n,r,G,e⟩:=I.lstM i;obtain⟨F,a,D,w,o,p⟩:=I.lstM j;refine PySem.P.add_list e p ?_ (by rw[nf,nf];lia);have g:c.toArray++a.toArray=(c++a).toArray:=by simp
 rw[g];exact⟨.ref _,_,I.lnew (t':=s.toks) (r.append w) (by rw[gV];lia),rfl,q _ I.fresh⟩
def DJ:R2:=λx y H Q=>∃ l k xs,x=.ref l/\y=.int k/\H l=some (.lst xs)/\-(2 ^ 63)<=k/\k<2 ^ 63/\xs.length*k.toNat<=sizeLine /\
 ∀ p,H p=none->Q (.ref p) (upd H p (.lst (l4 k.toNat xs).flatten))
def yv{a:Type}(xs:List a)(k:Nat):(l4 k xs).flatten.length=k*xs.length:=by
 induction k with
 | zero=>simp
 | succ k ih=>rw[FZ,HR,gV,ih,Nat.succ_mul,Nat.add_comm]
def vq:OpR X (E2 .Mult) DJ:=by
 intro p s M H x y v u Q I C D h;obtain⟨l,k,L,rfl,rfl,A,G,K,w,q⟩:=h;cases C;obtain⟨t,rfl⟩:=D;obtain⟨z,b,n,r,B,e⟩:=I.lstM A;have i:b.toArray.size*k.toNat<=sizeLine:=by rw[nf,<- B];exact w
 have g:¬b.toArray.size*k.toNat > (2 ^ 63 - 1)/8:=by
  have:(sizeLine:Nat)<=(2 ^ 63 - 1)/8:=by decide
  lia
 have f:¬(!Builtin.List.listFitsIndex k)=true:=by
  rw[fitsIndex_both G K];exact hY
 have c:¬EZ (b.toArray.size*k.toNat)=true:=by
  rw[p8 i];exact hY
 have d:JB (λj o=>j++o) #[] (l4 (if b.toArray.isEmpty=true then 0 else k.toNat) b.toArray)=(l4 k.toNat b).flatten.toArray:=by
  have J:∀ m:Nat,JB (λj o=>j++o) #[] (l4 m b.toArray)=(l4 m b).flatten.toArray:=λm=>by
   have:=mC b m [];rw[Ja]at this;exact this
  rw[J];cases b with
  | nil=>simp
  | cons a r'=>rw[if_neg (by simp)]
 refine wpAny_binaryOp_repeat_ref (T := "list") (U := "int") (by decide) ⟨_,e,rfl⟩ (λE=>KW E k t) noFill_list_mul F.fills_int_mul K_ repeat_list F.slot_int_index.lookup
  (Fl K_ (KW s k t) F.entry_int_rmul (F.args_int_rmul_2 _ _) (int___rmul___int_list k t l b.toArray n)
   ⟨e,rfl,⟨_,e,rfl⟩,Fl F.slot_list_mul ⟨_,e,rfl⟩ F.entry_list_mul (F.args_list_mul_2 _ _) (AutoListH.list___mul___list_int_3 l b.toArray n k t f g c) ⟨e,?_⟩⟩)
 rw[d];exact⟨.ref _,_,I.lnew (t':=s.toks) (r.rep k.toNat) (by rw[yv,Nat.mul_comm];exact w),rfl,q _ I.fresh⟩
end
section
set_option maxRecDepth 100000 in
end
end L2
namespace Att
open PySem PySem.W PySem.Calls PyProof.Rows
def jD{P:Params}{h:Heap}:∀(ns:List Int) (vs:List b_),WellAll P h vs (ns.map WData.int)->Fb vs ns:=by
 intro ns
 induction ns with
 | nil =>
  intro vs w;rw[GM]at w;cases w;exact .nil
 | cons n ns ih =>
  intro vs w;rw[l_]at w;cases w with
  | cons a b =>
   cases a;exact .cons _ _ (ih _ b)
def uN{l:OpenLaw}{n:Nat}(v:l.most=some n){P:Params}{h:Heap}{args:List WData}{c:List b_}
  (b:l.row.toRowW.claim.pre args=true) (j:WellAll P h c args) :
  ∃ a vs ns,c=[lb a]/\args=[WData.list (ns.map WData.int)]/\h.get? a=some { cls:=.type "list",data:=.seq vs.toArray }/\Fb vs ns/\ns.length<=n:=by
 have k:WShape.hasAll [] args [.list .int]=true:=(pre_splitW b).1;have o:l.pre.holds [] { args:=args }=true:=(pre_splitW b).2;obtain⟨d,r,rfl,w,s⟩:=hasAllW_cons k;obtain rfl:=hasAllW_nil s;obtain⟨x,rfl,p⟩:=hasW_list w;obtain⟨ns,rfl⟩:=items_int p
 have f:ns.length<=n:=by
  unfold OpenLaw.pre at o
  have i:(WTm.not (.lt (.lit (.int (n:Int))) (.len (.arg 0)))).holds [] { args:=[.list (ns.map .int)] }=true:=by
   have i:=(holds_andW o).1;rw[v]at i;exact i
  have g:=condW_of i (w_not (w_lt w_lit (w_len_list (w_arg rfl))));rw[d_]at g;refine Nat.le_of_not_lt λq=>?_
  have u:(n:Int)<((ns.length:Nat):Int):=by lia
  first
   | (rw[decide_eq_true u]at g;exact absurd g (by decide))
   | (simp at g;lia)
 cases j with
 | cons w1 w2 =>
  cases w2;cases w1 with
  | list ho hall=>exact⟨_,_,ns,rfl,rfl,ho,jD ns _ hall,f⟩
def uX(l:OpenLaw)(args:List WData):l.row.toRowW.claim.post args (.bool true) args=true :=
 postW_of (r:=l.row.toRowW) (X:=(true == true))
  (show WShape.has [] (.bool true) .bool=true by first | rfl | decide | simp[WShape.has,WShape.arms,WShape.armsAll])
  (show(WTm.eq .res (.lit (.bool true))).value [] { args:=args,res:=some (.bool true),after:=args }=some (.bool (true == true)) from w_eq_bool (w_res rfl) w_lit) rfl
def attach_call{l:OpenLaw}{n:Nat}{q:hH}{b:List Str}{x:(Str->Option b_)->Heap->Prop}{y:lA->Heap->Prop}{d:DefRec}
  (N:l.most=some n) (s:d.params.defaults=[])
  (g:∀(w:lA) (s₀ s₁:e_) (mg mb:Str->Option b_) (fa:Addr) (o:Obj) (pm cd doc:b_) (a:Addr) (vs:List b_) (ns:List Int),
   Ground q b [] x w s₀ mg mb s₁.heap->y w s₁.heap ->
   s₁.heap.get? fa=some o->o.data=.func (docDef d.name d.params d.body d.scope pm cd doc)->s₁.heap.CodeRec cd d.name->mg d.name=some (.ref fa) ->
   s₁.heap.get? a=some { cls:=.type "list",data:=.seq vs.toArray }->Fb vs ns->ns.length<=n->s₁.gens = #[] ->
   E_ (lh l.prog w) HS (.call (.ref fa) ⟨[.ref a],[]⟩) (λr s'=>r=.ok (.ret (.bool true))/\OldK s₁.heap s'.heap/\s'.os=s₁.os/\FD s'.gens) s₁) :
  WalkO q b x y l.row.toRowW d [] (λf vs=>PySem.call f vs):=by
 intro w s₀ s₁ mg mb G Y fa o pm cd doc D E F K p v u M z A P j B H k I;obtain rfl:D=.none:=Dflts.none v s;obtain rfl:E=.none:=Dflts.noKw v;obtain⟨a,vs,ns,rfl,rfl,h,c,i⟩:=uN N j k;refine enter_call (A5 (g w s₀ s₁ mg mb fa o pm cd doc a vs ns G Y F (fd_plain K) p u h c i M) λr s' J=>?_);obtain⟨rfl,L,C,O⟩:=J;exact⟨.inl ⟨.bool true,.bool true,[],rfl,λ_=>rfl,.bool true,uX l _,λ_=>⟨Go,λ_ hm=>(nomatch hm)⟩⟩,L,C,O⟩
end Att
namespace L2
open PySem PySem.Spec PyProof.Rows
def mQ:∀{vs:List b_}{ns:List Int},Fb vs ns->Vals (ns.map V.int) vs
 | _,_,.nil=>.nil
 | _,_,.cons n t h=>.cons ⟨t,rfl⟩ (mQ h)
abbrev KOf{K:Frag}{h:Heap}(_:K.In h):Frag:=K
def aT(s:Stmt)(j:Nat):Stmt:=match s with
 | .ClassDef _ _ _ body _ _ _ _ _ _ _=>body.getD j (.Pass ⟨0,0,0,0⟩)
 | _=>.Pass ⟨0,0,0,0⟩
def cX(s:Stmt):Io:=match s with
 | .FunctionDef _ a _ _ _ _ _ _ _ _=>a
 | _=>{ posonlyargs:=[],args:=[],vararg:=none,kwonlyargs:=[],kw_defaults:=[],kwarg:=none,defaults:=[] }
def bI(s:Stmt):List Stmt:=match s with
 | .FunctionDef _ _ b _ _ _ _ _ _ _=>b
 | _=>[]
def ap(s:Stmt):D_:=match s with
 | .FunctionDef _ _ _ _ _ _ sc _ _ _=>sc
 | _=>{ kind:=.function,names:=[],isGenerator:=false,isCoroutine:=false }
abbrev CX0:CXT:=λ_ _ _ _ _ _=>False
abbrev E0:XK:=λ_ _ _=>False
def ax{X:Cx}:fF CX0 X E0:=λ_ _ _ _ _ _ _ h=>h.elim
structure Fun(K:Frag)(x qual:Str)(st:Stmt)(f:Addr)(fd:p_):Prop where
 ex:∃(oc:b_) (od:Option Addr) (kV doc pm:b_) (an:Option Addr) (cdv ct:b_) (osl:Array (Option b_)),
  fd=fnOf x qual (cX st) (bI st) (ap st) .none kV doc pm an cdv ct/\K.lookup f=some ⟨oc,od,.func fd,osl⟩/\I_ K cdv qual=true
 kp:Fp K (.ref f)=true
section
variable {P:hH}{w:lA}{K:Frag}{mg:Str->Option b_}{base:Heap}
def Fun.ok{x a:Str}{st:Stmt}{f:Addr}{i:p_}{N ps:List Str}{k:Nat}{sp:Sp}(F:Fun K x a st f i)(S:FnScope N ps (ap st))(d:∀ vs H Q E,sp vs H Q E->vs.length=ps.length)
  (b:∀(cdv:b_) (A:m_) (outer:List Env) (s:e_) (H:Hp) (vs:List V) (Q:VK) (E:XK),Room k (A.deeper (envOfC a (ap st) s.heap.objs.size f cdv))->sp vs H Q E ->
   ∃ t,PSs (cV CX0 P w K mg base N a (ap st) f cdv A outer s H E).nox (bI st) t/\t { nx:=λ_ H'=>Q .non H',rt:=Q } (start N vs) H):FnOk P w K mg base CX0 (k+1) f i ps sp:=by
 obtain⟨u,z,y,o,C,v,cdv,B,p,rfl,j,c⟩:=F.ex;refine wK j c S d λA outer s H vs Q E r g=>?_
 obtain⟨t,h,q⟩:=b cdv A outer s H vs Q E r g;exact⟨t,h.nox,q⟩
def Fun.binds{x a:Str}{st:Stmt}{f:Addr}{b:p_}{ps:List Str}(F:Fun K x a st f b)
  (h:∀(kV doc pm:b_) (an:Option Addr) (cdv ct:b_) (us:List b_),us.length=ps.length->FW (fnOf x a (cX st) (bI st) (ap st) .none kV doc pm an cdv ct) ⟨us,[]⟩=pure (ps.zip us)):Binds K b ps []:=by
 obtain⟨g,j,kV,doc,pm,an,cdv,ct,d,rfl,i,c⟩:=F.ex;exact .all (h kV doc pm an cdv ct)
def oj{x a:Str}{st:Stmt}{f:Addr}{oc:b_}{od h:Option Addr}{g:Array (Option b_)}{i d o b j:b_}(l:K.lookup f=some ⟨oc,od,.func (fnOf x a (cX st) (bI st) (ap st) .none i d o h b j),g⟩)
  (c:I_ K b a=true) (k:Fp K (.ref f)=true):Fun K x a st f (fnOf x a (cX st) (bI st) (ap st) .none i d o h b j):=⟨⟨oc,od,i,d,o,h,b,j,g,rfl,l,c⟩,k⟩
end
def pB{A:m_}{k:Nat}(a:Room k A):A.units+1<FR:=FO (Nat.add_le_add_left (by decide:1<=64) _) a.units
def Ev{c A B:Prop}[Decidable c](a:c->A)(b:¬c->B):if c then A else B:=by
 by_cases h:c
 .rw[if_pos h]
  exact a h
 .rw[if_neg h]
  exact b h
def Same(H H':Hp):Prop:=∀ b o,H b=some o->H' b=some o
def Same.refl(H:Hp):Same H H:=λ_ _ h=>h
def Same.trans{H f d:Hp}(a:Same H f)(b:Same f d):Same H d:=λc o h=>b c o (a c o h)
def Same.free{H H':Hp}(e:Same H H'){l:Addr}(h:H' l=y_):H l=y_:=by
 cases q:H l with
 | none=>rfl
 | some o =>
  rw[e l o q]at h;cases h
def Same.seq{K:Frag}{H H':Hp}{a:Addr}{xs:List V}(e:Same H H')(h:SqL K H a xs):SqL K H' a xs:=by
 rcases h with(h | ⟨o,h⟩) | h
 .exact .inl (.inl (e _ _ h))
 .exact .inl (.inr ⟨o,e _ _ h⟩)
 .exact .inr h
end L2
set_option maxHeartbeats 4000000
namespace L2
open PySem PySem.Spec PyProof.Rows
def Its(x:Str):It:=⟨λi _=>i<x.cps.size,λi H y H'=>H'=H/\∃ c,x.cps[i]? = some c/\y=.str ⟨#[c]⟩,λi _=>x.cps.size<=i⟩
def qt{P:hH}{w:lA}{K:Frag}{tg:Expr}(x:Str)(u:Addr){ty:String}{t:Tok}(q:ty = "str_ascii_iterator" \/ ty = "str_iterator") :
  Turn P w K tg (Its x) [u] u (λi h=>h.IsStrIter u ty x t i) where
 mem:=by simp
 obj:=λi h f b a=>by
  have e:b=u:=by simpa using a
  subst e;obtain⟨o,e,c,d⟩:=f;exact⟨o,e,λv z=>by rw[d]at z;cases z⟩
 keep:=λi h p f k=>by
  obtain⟨o,e,r⟩:=f;exact⟨o,k u (by simp) o e,r⟩
 item:=by
  intro X M L T Q i g s O H E I F f R;subst M L T;have y:i<x.cps.size:=R;obtain⟨D,B,W,C,A,G⟩:=F u (by simp)
  rcases q with rfl | rfl
  .refine wpAny_pyNext_ascii_item f (c:=x.cps[i]) (by simp[y]) λp j S=>?_
   have J:Inv X g O H { s with heap:=p,toks:=s.toks+1 }:=I.turned (λb o a e=>(S.2 b a).trans e) D B C A G;obtain⟨o,e,c,d⟩:=id j;exact⟨_,rfl,oO (s:={ s with heap:=p,toks:=s.toks+1 }) e c d (by decide) ⟨.str ⟨#[x.cps[i]]⟩,H,J,⟨_,rfl⟩,⟨rfl,x.cps[i],by simp[y],rfl⟩,j,λb a=>(F b a).1⟩⟩
  .refine wpAny_pyNext_wide_item f (c:=x.cps[i]) (by simp[y]) λp j S=>?_
   have J:Inv X g O H { s with heap:=p,toks:=s.toks+1 }:=I.turned (λb o a e=>(S.2 b a).trans e) D B C A G;obtain⟨o,e,c,d⟩:=id j;exact⟨_,rfl,oO (s:={ s with heap:=p,toks:=s.toks+1 }) e c d (by decide) ⟨.str ⟨#[x.cps[i]]⟩,H,J,⟨_,rfl⟩,⟨rfl,x.cps[i],by simp[y],rfl⟩,j,λb a=>(F b a).1⟩⟩
 done:=by
  intro X M L T Q i g s O H E I F f R;subst M L T;have y:x.cps.size<=i:=R;obtain⟨D,B,W,C,A,G⟩:=F u (by simp)
  rcases q with rfl | rfl
  .exact wpAny_pyNext_ascii_end (I.ok.hd Q) f (by simp[y]) λp N=>⟨rfl,I.turned (t':=s.toks) (λb o a e=>N b o a e) D B C A G⟩
  .exact wpAny_pyNext_wide_end (I.ok.hd Q) f (by simp[y]) λp N=>⟨rfl,I.turned (t':=s.toks) (λb o a e=>N b o a e) D B C A G⟩
 self:=λ_ _ _ _ _ f h=>by
  rcases q with rfl | rfl
  .exact wpAny_pyIter_striter_ascii f h
  .exact wpAny_pyIter_striter_wide f h
def Ek(tl:TE):TI:=λσ H R=>tl σ H λx H1=>∃ z,x=.str z/\R (Its z) H1
def BQ{X:Cx}{tg l:Expr}{tl:TE}(k:PE X l tl):PI X tg l (Ek tl):=by
 intro a s i H R I h;refine thn (k a s i H _ I h) λv c ⟨x,g,d,f,j⟩=>?_
 obtain⟨z,e,q⟩:=j;subst e;obtain⟨t,rfl⟩:=f;refine La ?_;refine⟨c.heap.objs.size,[c.heap.objs.size],_,_,g,rfl,d.kept (t':=c.toks) λb o e=>c_ _ e,qt (ty:=IF z) (t:=t) z _ ?_,⟨_,ie _ rfl,rfl,rfl⟩,λb hb=>?_,q⟩
 .unfold IF
  split
  .exact .inl rfl
  .exact .inr rfl
 .have e:b=c.heap.objs.size:=by simpa using hb
  subst e;exact d.fpOk (fS _) (d.hok.fresh (fS _))
def Wk:St->St->Prop
 | [],[]=>True
 | y_::r,_::q=>Wk r q
 | some a::r,b::q=>b=some a/\Wk r q
 | _,_=>False
def Wk.len:∀{a b:St},Wk a b->a.length=b.length
 | [],[],_=>rfl
 | y_::r,_::q,h=>congrArg (· + 1) (Wk.len (a:=r) (b:=q) h)
 | some _::r,_::q,h=>congrArg (· + 1) (Wk.len (a:=r) (b:=q) h.2)
 | [],_::_,h=>h.elim
 | y_::_,[],h=>h.elim
 | some _::_,[],h=>h.elim
def Wk.get:∀{a b:St},Wk a b->∀(i:Nat) v,a[i]? = some (some v)->b[i]? = some (some v)
 | [],[],_,i,v,e=>by simp at e
 | y_::r,y::q,h,0,v,e=>by simp at e
 | y_::r,y::q,h,i+1,v,e=>by simpa using Wk.get (a:=r) (b:=q) h i v (by simpa using e)
 | some x::r,y::q,h,0,v,e=>by
  have c:x=v:=by simpa using e
  rw[h.1,c] <;> simp
 | some x::r,y::q,h,i+1,v,e=>by simpa using Wk.get (a:=r) (b:=q) h.2 i v (by simpa using e)
 | [],_::_,h,_,_,_=>h.elim
 | y_::_,[],h,_,_,_=>h.elim
 | some _::_,[],h,_,_,_=>h.elim
def dC(cells:List (Str×Addr)):List (Str×A2)->List (Str×Addr)->List (Str×Addr)
 | [],acc=>acc
 | (n,k)::r,acc=>if k == .free then dC cells r ((n,(cells.lookup n).getD 0)::acc) else dC cells r acc
def eW{d:D_}{env:Env}(h:∀ y∈d.names,y.2=.free->∃ c,env.cells.lookup y.1=some c):F0 d env=pure (dC env.cells d.names []):=by
 unfold F0
 have f:∀(l:List (Str×A2)) (b:List (Str×Addr)),(∀ y∈l,y.2=.free->∃ c,env.cells.lookup y.1=some c) ->
   (forIn l b λx r=>match x with | (name,kind)=>if (kind == .free)=true then do let a <- KY env name;pure (A4 ((name,a)::r)) else pure (A4 r):Sem (List (Str×Addr)))=pure (dC env.cells l b):=by
  intro l
  induction l with
  | nil=>intro b _;rfl
  | cons y r ih =>
   intro b i;obtain⟨n,k⟩:=y;have o:∀ y∈r,y.2=.free->∃ c,env.cells.lookup y.1=some c:=λy q=>i y (hI _ q)
   rw[Kl]
   by_cases hk:k=.free
   .subst hk
    obtain⟨c,p⟩:=i (n,.free) gT rfl;have s:KY env n=pure c:=by unfold KY;rw[p]
    have g:dC env.cells ((n,.free)::r) b=dC env.cells r ((n,c)::b):=by
     show(if (qb == qb)=true then dC env.cells r ((n,(env.cells.lookup n).getD 0)::b) else dC env.cells r b)=_;rw[if_pos (by decide),p];rfl
    rw[g,<- ih ((n,c)::b) o];show(do let x <- (if (qb == qb)=true then do let a <- KY env n;pure (A4 ((n,a)::b)) else pure (A4 b):Sem _);_)=_;rw[if_pos (by decide),s];rfl
   .have j:(k == qb)=false:=by simpa using hk
    have g:dC env.cells ((n,k)::r) b=dC env.cells r b:=by
     show(if (k == qb)=true then dC env.cells r ((n,(env.cells.lookup n).getD 0)::b) else dC env.cells r b)=_;rw[j];rfl
    rw[g,<- ih b o];show(do let x <- (if (k == qb)=true then do let a <- KY env n;pure (A4 ((n,a)::b)) else pure (A4 b):Sem _);_)=_;rw[j];rfl
 have:=f d.names [] h
 first | exact this | (rw[this];rfl) | simpa using this
def dQ{a:List (Str×Addr)}:∀{l:List (Str×A2)}{acc:List (Str×Addr)}{n:Str}{c:Addr},(∀ y∈l,y.2=.free->∃ c,a.lookup y.1=some c)->(∀ n c,acc.lookup n=some c->a.lookup n=some c) ->
  (dC a l acc).lookup n=some c->a.lookup n=some c
 | [],acc,n,c,_,ha,e=>ha n c e
 | (m,k)::r,acc,n,c,hl,ha,e=>by
  have h:∀ y∈r,y.2=.free->∃ c,a.lookup y.1=some c:=λy j=>hl y (hI _ j)
  have b:(if (k == qb)=true then dC a r ((m,(a.lookup m).getD 0)::acc) else dC a r acc).lookup n=some c:=e
  by_cases hk:(k == qb)=true
  .rw[if_pos hk]at b
   refine dQ h (λn c z=>?_) b;obtain⟨d,i⟩:=hl (m,k) gT (by simpa using hk);rw[Gi]at z
   by_cases hn:(n == m)=true
   .rw[hn]at z
    have:n=m:=by simpa using hn
    subst this;have f:a.lookup n=some d:=i;rw[f]at z ⊢;simpa using z
   .have g:(n == m)=false:=by simpa using hn
    rw[g]at z;exact ha n c z
  .rw[if_neg hk]at b
   exact dQ h ha b
def gy{b:List (Str×Addr)}:∀{l:List (Str×A2)}{acc:List (Str×Addr)}{n:Str},((n,qb)∈l\/∃ c,acc.lookup n=some c)->∃ c,(dC b l acc).lookup n=some c
 | [],acc,n,h=>by
  rcases h with h | h
  .cases h
  .exact h
 | (m,k)::r,acc,n,h=>by
  show ∃ c,(if (k == qb)=true then dC b r ((m,(b.lookup m).getD 0)::acc) else dC b r acc).lookup n=some c
  have d:∀ a,n=m\/(∃ c,acc.lookup n=some c)->∃ c,((m,a)::acc).lookup n=some c:=λa z=>by
   rw[Gi]
   by_cases hn:(n == m)=true
   .rw[hn];exact⟨_,rfl⟩
   .have f:(n == m)=false:=by simpa using hn
    rw[f]
    rcases z with z | z
    .exact absurd (by simpa using z) hn
    .exact z
  by_cases hk:(k == qb)=true
  .rw[if_pos hk]
   refine gy ?_
   rcases h with h | h
   .rcases i_.mp h with e | h
    .exact .inr (d _ (.inl (congrArg Prod.fst e)))
    .exact .inl h
   .exact .inr (d _ (.inr h))
  .rw[if_neg hk]
   refine gy ?_
   rcases h with h | h
   .rcases i_.mp h with e | h
    .have:k=.free:=(congrArg KE e).symm
     rw[this]at hk;exact absurd (by decide) hk
    .exact .inl h
   .exact .inr h
def rlb(env:Env)(p:Str×A2):Str×A2:=if (p.2 == qb && env.scope.kind == ScopeKind.function && env.kindOf p.1 == some GB)=true then (p.1,GB) else p
def lR(a:D_)(env:Env):(HU a env).names=a.names.map (rlb env):=rfl
def xN(env:Env)(p:Str×A2):(rlb env p).1=p.1:=by
 unfold rlb
 split <;> rfl
def vW{env:Env}{p:Str×A2}(h:p.2≠.cell)(h2:(rlb env p).2=.cell\/(rlb env p).2=.free):p.2=.free:=by
 unfold rlb at h2
 split at h2
 .rename_i q
  rw[il,il]at q;simpa using q.1.1
 .rcases h2 with h2 | h2
  .exact absurd h2 h
  .exact h2
def gH{env:Env}:∀{names:List (Str×A2)}{x:Str}{k:A2},(∀ y∈names,y.2≠.cell)->(k=.cell\/k=.free)->(names.map (rlb env)).lookup x=some k->(x,qb)∈names
 | [],x,k,_,_,e=>by simp at e
 | p::r,x,k,hc,hk,e=>by
  have d:∀ y∈r,y.2≠.cell:=λy c=>hc y (hI _ c)
  have f:rlb env p=(p.1,(rlb env p).2):=by rw[<- xN env p]
  rw[l_,f,Gi]at e
  by_cases hx:x=p.1
  .have a:(x == p.1)=true:=by simpa using hx
   rw[a]at e;have g:(rlb env p).2=k:=k7 e;have b:=vW (env:=env) (hc p gT) (by rw[g];exact hk);have:(x,qb)=p:=by rw[hx,<- b]
   rw[this];exact gT
  .have a:(x == p.1)=false:=by simpa using hx
   rw[a]at e;exact hI _ (gH d hk e)
def eP{env:Env}{a:D_}{x:Str}{k:A2}(c:∀ y∈a.names,y.2≠.cell)(b:k=.cell\/k=.free)(e:(HU a env).names.lookup x=some k):(x,qb)∈a.names :=
 gH (env:=env) c b (by rw[<- lR];exact e)
def uU(ix:List (Option Nat))(σ:St):St:=ix.map λo=>o.bind λi=>(σ[i]?).join
def fk(env:Env)(y:Str):A2:=if env.kindOf y == some qb then .free else .cell
def BU(env:Env)(y:Str):fk env y=.cell\/fk env y=.free:=by unfold fk;split <;> simp
def FreeOkF(XN:List Str)(env:Env)(sc:D_):List Str->List (Option Nat)->Prop
 | [],[]=>True
 | _::N,y_::ix=>FreeOkF XN env sc N ix
 | y::N,some i::ix=>XN[i]? = some y/\env.kindOf y=some (fk env y)/\(HU sc env).names.lookup y=some (fk env y)/\FreeOkF XN env sc N ix
 | _,_=>False
def FreeOkF.len{a:List Str}{env:Env}{b:D_}:∀{N:List Str}{ix:List (Option Nat)},FreeOkF a env b N ix->ix.length=N.length
 | [],[],_=>rfl
 | _::N,y_::ix,h=>congrArg (· + 1) (FreeOkF.len (N:=N) (ix:=ix) h)
 | _::N,some _::ix,h=>congrArg (· + 1) (FreeOkF.len (N:=N) (ix:=ix) h.2.2.2)
 | [],_::_,h=>h.elim
 | _::_,[],h=>h.elim
def FreeOkF.get{b:List Str}{env:Env}{c:D_}:∀{N:List Str}{ix:List (Option Nat)},FreeOkF b env c N ix->∀(j:Nat) (y:Str) (i:Nat),N[j]? = some y->ix[j]? = some (some i) ->
  b[i]? = some y/\env.kindOf y=some (fk env y)/\(HU c env).names.lookup y=some (fk env y)
 | [],[],_,j,y,i,e,_=>by simp at e
 | _::N,y_::ix,h,0,y,i,e,e2=>by simp at e2
 | _::N,y_::ix,h,j+1,y,i,e,e2=>FreeOkF.get (N:=N) (ix:=ix) h j y i (by simpa using e) (by simpa using e2)
 | z::N,some k::ix,h,0,y,i,e,e2=>by
  have d:z=y:=by simpa using e
  have a:k=i:=by simpa using e2
  subst d;subst a;exact⟨h.1,h.2.1,h.2.2.1⟩
 | _::N,some _::ix,h,j+1,y,i,e,e2=>FreeOkF.get (N:=N) (ix:=ix) h.2.2.2 j y i (by simpa using e) (by simpa using e2)
 | [],_::_,h,_,_,_,_,_=>h.elim
 | _::_,[],h,_,_,_,_,_=>h.elim
def cxB(X:Cx)(sc:D_)(C:Addr)(N:List Str)(s₀:e_)(H₀:Hp)(fp:List Addr):Cx :=
 { X with N:=N,s₀:=s₀,H₀:=H₀,env:=compEnvC sc (dC X.env.cells sc.names []) C X.env,outer:=X.stack,ex:=fp,fn:=λ_=>false,pn:=[],xe:=λ_ _=>False }
structure CompOk(X:Cx)(sc:D_)(N:List Str)(ix:List (Option Nat)):Prop where
 kind:sc.kind=.function
 nocell:(sc.names.all λy=>y.2 != .cell)=true
 names:(sc.names.all λy=>y.2 != .local || sc.names.lookup y.1 == some .local) = true
 free:(sc.names.all λy=>y.2 != .free || (X.env.scope.names.lookup y.1 == some .cell || X.env.scope.names.lookup y.1 == some .free))=true
 fr:FreeOkF X.N X.env sc N ix
section
variable {X:Cx}{sc:D_}{N:List Str}{ix:List (Option Nat)}{pins:List (Addr×Obj)}{σ:St}{H:Hp}{s:e_}
def CompOk.cells(c:CompOk X sc N ix)(b:X.Ok):∀ y∈sc.names,y.2=.free->∃ c,X.env.cells.lookup y.1=some c:=λy a e=>by
 have h:=oo.mp c.free y a;rw[e]at h;have d:X.env.scope.names.lookup y.1=some .cell\/X.env.scope.names.lookup y.1=some .free:=by simpa using h
 exact b.has y.1 d
def CompOk.nc(c:CompOk X sc N ix):∀ y∈sc.names,y.2≠.cell:=λy a=>by simpa using oo.mp c.nocell y a
def CompOk.nm(c:CompOk X sc N ix):∀ y ∈ sc.names,y.2 = .local->sc.names.lookup y.1 = some .local:=λy a e=>by
 have h:=oo.mp c.names y a;rw[e]at h;simpa using h
def ur{C:Addr}{J:List Addr}{h₁:Heap}{t':Nat}(c:CompOk X sc N ix)(I:Inv X pins σ H s)(D:∀ b∈J,gX X pins H b)(F:∀ b∈J,b<s.heap.objs.size)(E:s.heap.objs.size<=C)
  (Y:h₁.Ns C (λ_=>none)) (h:∀ b o,s.heap.get? b=some o->h₁.get? b=some o):Inv (cxB X sc C N s H J) [] (uU ix σ) H { s with heap:=h₁,toks:=t' }:=by
 have f:=c.cells I.ok;have a:∀ n c,(dC X.env.cells sc.names []).lookup n=some c->X.env.cells.lookup n=some c:=λn c e=>dQ f (λn c z=>by simp at z) e
 refine⟨⟨I.ok.mod,c.kind,I.ok.glob,I.ok.blt,E,λx y d O S=>I.ok.inj x y d (a x d O) (a y d S),λx hx=>?_,λx d z=>absurd z (by simp[cxB]),I.ok.hd,I.ok.frames,.inl rfl,λb hb=>⟨?_,λx d e=>?_⟩,I.bs,lB I.ok.bsz I.sz,λb o e hb=>?_,λb hb hs=>?_,I.stack,I.stkFree⟩,
  rfl,I.bare,Un.kept h,⟨_,Y,λj y v L A Z=>?_⟩,λx d e=>?_,I.hok.fresh E,λx d e=>I.freeC x d (a x d e),λp hp=>absurd (show p∈([]:List (Addr×Obj)) from hp) (by simp),I.hok.kept h,?_⟩
 .refine gy (.inl ?_)
  rcases hx with hx | hx
  .exact eP c.nc (.inl rfl) (show(HU sc X.env).names.lookup x=some .cell from hx)
  .exact eP c.nc (.inr rfl) (show(HU sc X.env).names.lookup x=some .free from hx)
 .exact kw (g_ (F b hb) E)
 .exact(D b hb).2.2.2.2.1 x d (a x d e)
 .rcases(D b hb).2.2.2.1 with z | z
  .exact I.ok.noex b o e z
  .exact absurd (g_ (f_ e) (lB I.ok.bsz z)) (o5 _)
 .rcases i_.mp (I.stkSub b hs) with z | z
  .exact(D b hb).2.1 z
  .exact(D b hb).2.2.1 z
 .have Q:∃ i,ix[j]? = some (some i)/\σ[i]? = some (some v):=by
   unfold uU at A;rw[gb]at A;cases q:ix[j]? with
   | none=>rw[q]at A;cases A
   | some o =>
    rw[q]at A;cases o with
    | none=>cases A
    | some i =>
     refine⟨i,rfl,?_⟩;have g:(σ[i]?).join=some v:=k7 A;cases q2:σ[i]? with
     | none=>rw[q2]at g;cases g
     | some w=>rw[q2]at g;exact congrArg some g
  obtain⟨i,T,W⟩:=Q;obtain⟨P,K,B⟩:=c.fr.get j y i L T;obtain⟨m,hm,M⟩:=I.loc;have G:=BU X.env y;have k9:X.env.kindOf y=some .cell\/X.env.kindOf y=some .free:=G.imp (λz=>by rw[<- z];exact K) λz=>by rw[<- z];exact K
  obtain⟨u,r,l⟩:=M i y v P W (.inr k9);refine⟨u,r,?_⟩
  rcases l with⟨z,_⟩ | ⟨_,d,R,k⟩
  .rcases k9 with k9 | k9 <;> (rw[k9]at z;cases z)
  .obtain⟨d',hd'⟩:∃ d',(dC X.env.cells sc.names []).lookup y=some d':=gy (.inl (eP c.nc G B))
   have:=a y d' hd';rw[R]at this;cases this;exact .inr ⟨G.imp (λz=>(by rw[z]at B;exact B)) (λz=>(by rw[z]at B;exact B)),d,hd',k.keeps h⟩
 .obtain⟨v,z⟩:=I.cell x d (a x d e)
  exact⟨v,z.keeps h⟩
 .show(uU ix σ).length=N.length
  unfold uU;rw[d_,c.fr.len]
def pp{C:Addr}{c:List Addr}{a:List (Addr×Obj)}{σ':St}{H':Hp}{d:e_}(I:Inv X pins σ H s)(h:∀ b∈c,gX X pins H b)(J:Inv (cxB X sc C N s H c) a σ' H' d):Inv X pins σ H' d:=by
 refine I.call' (ch:=c) J.os J.base J.hok J.bare λb g=>?_
 obtain⟨p,j,o,f,i,k⟩:=h b g;exact⟨f,j,i,k⟩
end
def PTs(X:Cx)(ifs:List Expr)(t:TT):Prop :=
 ∀(pins:List (Addr×Obj)) (s:e_) (σ:St) (H:Hp) (Q:Bool->Hp->Prop),Inv X pins σ H s->t σ H Q ->
  ig (lh X.prog X.w) X.A (forIn ifs true λc r=>if r=true then do let ok <- KO c X.env (eval c X.env);pure (A4 ok) else pure (A4 r)) (TP X pins σ Q) X.xe s
def DG:TT:=λ_ H Q=>Q true H
def aU{X:Cx}:PTs X [] DG:=λ_ _ _ H _ I h=>wpAny_tests_nil ⟨H,I,h⟩
def nk{X:Cx}{c:Expr}{t:TT}(h:PT X c t):PTs X [c] t:=λa s d H Q I b=>wpAny_tests_one (h a s d H Q I b)
def lF(J:It)(D:Addr)(σb:St)(g:TG)(tt:TT)(te:TE)(Q:Hp->List V->Prop)(W:Nat->Nat->List V->Hp->Prop):Prop :=
 ∀ i m ys H,W i m ys H->H D=some (.lst ys)/\((J.stop i H/\Q H ys)\/(J.go i H/\∀ x H3,J.yld i H x H3->g x σb H3 λσ4 H4=>Wk σb σ4/\tt σ4 H4 λb H5 =>
  if b=true then te σ4 H5 λy H6=>H6 D=some (.lst ys)/\ys.length<sizeLine/\∃ m',m'<m/\W (i+1) m' (ys++[y]) (upd H6 D (.lst (ys++[y]))) else ∃ m',m'<m/\W (i+1) m' ys H5))
def zO(ix:List (Option Nat))(wi:TI)(g:TG)(tt:TT)(te:TE):TE:=λσ H Q=>wi σ H λJ H1=>∀ D,H1 D=none->∃ W,(∃ m,W 0 m [] (upd H1 D (.lst [])))/\lF J D (uU ix σ) g tt te (λH _=>Q (.ref D) H) W
section
variable {X:Cx}{sc:D_}{N:List Str}{ix:List (Option Nat)}{elt tg iter:Expr}{ifs:List Expr}{pos:Pos}{wi:TI}{g:TG}{tt:TT}{te:TE}
structure Blk(X:Cx)(sc:D_)(N:List Str)(tg elt:Expr)(ifs:List Expr)(g:TG)(tt:TT)(te:TE):Prop where
 tg:∀ C s H fp,PG (cxB X sc C N s H fp) tg g
 tests:∀ C s H fp,PTs (cxB X sc C N s H fp) ifs tt
 elt:∀ C s H fp,PE (cxB X sc C N s H fp) elt te
def u7{J:It}{k:List Addr}{Z D:Addr}{H:Nat->Heap->Prop}{a:St}{Q:Hp->List V->Prop}{R:LK->e_->Prop}{W:Nat->Nat->List V->Hp->Prop}
  (hc:X.calm=true) (an:X.xe=λ_ _=>False) (T:Turn X.prog X.w X.K tg J k Z H) (hg:PG X tg g) (ht:PTs X ifs tt) (he:PE X elt te) (w:lF J D a g tt te Q W)
  (c:∀{H':Hp},(∀ b∈k,H' b=none)->∀ b∈k,gX X [] H' b)
  (as:∀{σ':St}{H':Hp}{s':e_}{ys:List V},Inv X [] σ' H' s'->Q H' ys->R (.ok .next) s')
  {m0 i0:Nat}{F:List V}{I:Hp}{M:e_}(I0:Inv X [] a I M) (ah:H i0 M.heap) (P:∀ b∈k,I b=none) (w0:W i0 m0 F I) :
  E_ (lh X.prog X.w) X.A (.compLoop (.ListComp elt [⟨tg,iter,ifs,0⟩] sc pos) 0 (.ref Z) (.ref D) X.env) R M:=by
 have f:∀{E':b_->e_->Prop}(e:b_) (s':e_),X.xe e s'->E' e s':=λ{E'} e s' z=>by rw[an]at z;exact z.elim
 refine codeAny_loop rfl (λn s'=>∃ i ys H',Inv X [] a H' s'/\H i s'.heap/\(∀ b∈k,H' b=none)/\W i n ys H') ?_ m0 ⟨i0,F,I,I0,ah,P,w0⟩;rintro n Y ⟨i,ys,K,I3,E,B,w3⟩;show ig _ X.A ((compTurn (.ListComp elt [⟨tg,iter,ifs,0⟩] sc pos) 0 (.ref Z) (.ref D) X.env).onRaise (λx=>do Iq x X.env;theTreesLotGoes x)) _ _ Y;refine wpAny_noted ?_;rw[compTurn_list];refine a_ (FE (a_ ?_));obtain⟨a0,next⟩:=w i n ys K w3
 rcases next with⟨s,q⟩ | ⟨go,A⟩
 .refine thn (T.done X rfl rfl rfl hc i [] Y a K _ I3 (c B) E s) λr s4 ⟨hr,I4⟩=>?_
  subst hr;exact fL (as I4 q)
 .refine thn (T.item X rfl rfl rfl hc i [] Y a K _ I3 (c B) E go) λr s4 ⟨u,hr,h4⟩=>?_
  subst hr;refine a_ (thn h4 λ_ s5 ⟨x,H5,I5,r5,y5,h,S⟩=>?_);have al:=I5.pinned (c S) (T.obj _ _ h)
  have gD:∀{σ':St}{H':Hp}{s':e_},Inv X ([]++k8 k s5.heap) σ' H' s'->Wk a σ'->Inv X [] a H' s'/\H (i+1) s'.heap/\∀ b∈k,H' b=none:=λ{σ' H' s'} p C=>by
   refine⟨(p.unpinned).weak C.len C.get,T.keep _ _ _ h λb G o e=>(p.pin (b,o) (li _ (li _ (eD G e)))).1,λb G=>?_⟩;obtain⟨o,e,d⟩:=T.obj _ _ h b G;exact(p.pin (b,o) (li _ (li _ (eD G e)))).2.1
  refine a_ (rc (hg _ s5 a H5 x u _ al r5 (A x H5 y5)) (λ_ s6 ⟨j,H6,I6,C,q6⟩=>?_) f);refine a_ (rc (ht _ s6 j H6 _ I6 q6) (λok s7 ⟨H7,p,q7⟩=>?_) f);cases ok with
  | false =>
   obtain⟨O,hm,w7⟩:=q7;obtain⟨b1,N,b3⟩:=gD p C;exact fL ⟨rfl,O,hm,i+1,ys,H7,b1,N,b3,w7⟩
  | true =>
   refine a_ (a_ (rc (he _ s7 j H7 _ p q7) (λv s8 ⟨y,H8,I8,r8,ab,L,O,hm,w8⟩=>?_) f));refine a_ (rc (ng _ s8 j H8 (.ref D) [y] (.ref D) [v] (λ_ H9=>H9=upd H8 D (.lst (ys++[y]))) I8 rfl (.cons r8 .nil) ⟨D,ys,y,rfl,rfl,ab,L,rfl⟩) (λ_ s9 ⟨z,H9,I9,_,e9⟩=>?_) f);subst e9;obtain⟨b1,N,b3⟩:=gD I9 C;exact fL (fL ⟨rfl,O,hm,i+1,ys++[y],_,b1,N,b3,w8⟩)
def mD{a:List (Addr×Obj)}{M:St}{H:Hp}{s:e_}{E:b_->e_->Prop}{RR:b_->Addr->LK->e_->Prop}{R:Addr}{i:List Addr}{A:Nat->Heap->Prop}{J:It}{Q:Addr->Hp->List V->Prop}
  (hc:X.calm=true) (c:CompOk X sc N ix) (B:Blk X sc N tg elt ifs g tt te) (I:Inv X a M H s) (T:Turn X.prog X.w X.K tg J i R A) (st:A 0 s.heap) (hf:∀ b∈i,gX X a H b)
  (h:∀ D,H D=none->∃ W,(∃ m,W 0 m [] (upd H D (.lst [])))/\lF J D (uU ix M) g tt te (Q D) W)
  (hR:∀ D C H' s' ys,Inv X a M H' s'->gX X a H' C->(∃ m,s'.heap.Ns C m)->Q D H' ys->RR (.ref D) C (.ok .next) s') :
  ig (lh X.prog X.w) X.A (Lc []) (λacc s₃=>ig (lh X.prog X.w) X.A (Jb sc X.env.globals (dC X.env.cells sc.names []) [] X.env.qual none .none (some X.env)) (λcenv s₄ =>
   E_ (lh X.prog X.w) X.A (.compStart (.ListComp elt [⟨tg,iter,ifs,0⟩] sc pos) 0 (.ref R) acc { cenv with scope:=HU sc X.env }) (RR acc cenv.locals) s₄) E s₃) E s:=by
 have O:∀ b∈i,b<s.heap.objs.size:=λb f=>let ⟨o,e,_⟩:=T.obj _ _ st b f;f_ e
 refine pw ?_ (by show 0<=sizeLine;exact h_ _);have hD:H s.heap.objs.size=none:=I.hok.fresh (fS _);obtain⟨W,⟨m0,w0⟩,w⟩:=h s.heap.objs.size hD;have v:Inv X a M (upd H s.heap.objs.size (.lst [])) { s with heap:=s.heap.push { cls:=.type "list",data:=.seq ([]:List b_).toArray } }:=I.lnew (t':=s.toks) (its:=[]) .nil (h_ _);have k1:∀ b o,s.heap.get? b=some o->(s.heap.push { cls:=.type "list",data:=.seq ([]:List b_).toArray }).get? b=some o:=λb o e=>c_ _ e
 have P:∀ b∈i,b≠s.heap.objs.size:=λb f=>kw (O b f)
 have j:∀ b∈i,gX X a (upd H s.heap.objs.size (.lst [])) b:=λb f=>⟨by rw[ae (P b f)];exact(hf b f).1,(hf b f).2⟩
 have L:A 0 (s.heap.push { cls:=.type "list",data:=.seq ([]:List b_).toArray }):=T.keep _ _ _ st λb _ o e=>k1 b o e
 generalize hs1:({ s with heap:=s.heap.push { cls:=.type "list",data:=.seq ([]:List b_).toArray } }:e_)=s1 at v;have r:s1.heap=s.heap.push { cls:=.type "list",data:=.seq ([]:List b_).toArray }:=by rw[<- hs1]
 generalize hDe:s.heap.objs.size=D at *;show ig _ _ _ _ _ s1;refine G6 c.nc (by intro y hy;simp at hy) (λh₁ hns₁ hsb₁=>?_) c.kind;have F:∀ b o,s1.heap.get? b=some o->h₁.get? b=some o:=λb o e=>(hsb₁.2 b (kw (f_ e))).trans (c_ _ e)
 have k:∀ b∈i,b<s1.heap.objs.size:=λb f=>by
  obtain⟨o,e,_⟩:=T.obj _ _ L b f;rw[r];exact f_ e
 have J0:=ur (h₁:=h₁) (t':=s1.toks+([]:List (Str×b_)).length) c v j k (fS _) (by simpa using hns₁) F;have K:A 0 h₁:=T.keep _ _ _ (by rw[r];exact L:A 0 s1.heap) λb _ o e=>F b o e
 have Y:∀{H':Hp},(∀ b∈i,H' b=none)->∀ b∈i,gX (cxB X sc s1.heap.objs.size N s1 (upd H D (.lst [])) i) [] H' b:=λ{H'} S b f=>by
  obtain⟨f0,f1,f2,f3,f4,f5⟩:=j b f;refine⟨S b f,kw (k b f),?_,.inl f,λx d e=>f4 x d (dQ (c.cells I.ok) (λn c z=>by simp at z) e),λp hp=>absurd (show p∈([]:List (Addr×Obj)) from hp) (by simp)⟩;intro z
  rcases i_.mp (v.stkSub b z) with q | q
  .exact f1 q
  .exact f2 q
 have Z:∀{G:St}{H':Hp}{s':e_}{ys:List V},Inv (cxB X sc s1.heap.objs.size N s1 (upd H D (.lst [])) i) [] G H' s'->Q D H' ys->RR (.ref D) s1.heap.objs.size (.ok .next) s':=λ{G H' s' ys} J q =>
  hR D _ H' s' ys (pp v j J) (v.fpOk (fS _) J.free) (let ⟨m,S,_⟩:=J.loc;⟨m,S⟩) q
 have u:E_ (lh X.prog X.w) X.A (.compLoop (.ListComp elt [⟨tg,iter,ifs,0⟩] sc pos) 0 (.ref R) (.ref D) (cxB X sc s1.heap.objs.size N s1 (upd H D (.lst [])) i).env) (RR (.ref D) s1.heap.objs.size) { s1 with heap:=h₁,toks:=s1.toks+([]:List (Str×b_)).length } :=
  u7 (X:=cxB X sc s1.heap.objs.size N s1 (upd H D (.lst [])) i) hc rfl T (B.tg _ _ _ _) (B.tests _ _ _ _) (B.elt _ _ _ _) w Y Z J0 K (λb f=>(j b f).1) w0
 exact codeAny_compStart_list u (T.self _ 0 _ _ _ K u)
def aV(M:X.calm=true)(c:CompOk X sc N ix)(O:PI X tg iter wi)(B:Blk X sc N tg elt ifs g tt te)(A:∀ x,HQ iter X.env x=pure x:=by intro _;rfl):PE X (.ListComp elt [⟨tg,iter,ifs,0⟩] sc pos) (zO ix wi g tt te):=by
 intro a s k H Q I h;rw[eval_ListComp];refine Js (use:=none) rfl A (eW (c.cells I.ok)) c.kind c.nm (thn (O a s k H _ I h) λxv p d=>thn d λitv s₂ h₂=>?_);obtain⟨it,Z,tn,J,H2,e,R,T,f,j,G⟩:=h₂;subst e;refine mD (RR:=λi C=>compPost (lh X.prog X.w) X.A X.xe none (EP X a k Q) i C) (Q:=λD H _=>Q (.ref D) H) M c B R T f j G ?_;intro D C w z Y v y F q;refine⟨_,F.choose_spec,λW P=>⟨.ref D,w,?_,rfl,q⟩⟩;obtain⟨L,E,j,K,u,S⟩:=y;exact v.turned (t':=z.toks) (λb o r e=>(P.2 b r).trans e) L E K u S
def n8{i:Nat}{y:Str}{j f:Pos}(hc:X.calm = true)(hN:X.N.Nodup)(Z:X.N[i]? = some y)(K:X.env.scope.names.lookup y = some .local)
  (r:FU (.ListComp elt [⟨tg,iter,ifs,0⟩] sc pos) (some (.Name y j)) f.line X.env=pure true)
  (c:CompOk X sc N ix) (hi:PI X tg iter wi) (B:Blk X sc N tg elt ifs g tt te) (hs:∀ x,HQ iter X.env x=pure x:=by intro _;rfl) :
  PS X (.Assign [.Name y j] (.ListComp elt [⟨tg,iter,ifs,0⟩] sc pos) f) (vf (zO ix wi g tt te) (iH i)):=by
 intro d s O H w I h;rw[exec_Assign_Name_used _ _ _ _ r];refine a_ (FE (a_ ?_));show ig _ X.A (do let _ <- comprehension (.ListComp elt [⟨tg,iter,ifs,0⟩] sc pos) sc X.env _ (Lc []) false (eval iter X.env) (some (IW (.Name y j) X.env))) _ _ s
 refine a_ (rc (Js (use:=some (IW (.Name y j) X.env)) (Q:=λ_ k=>SP X d w .next k) rfl hs (eW (c.cells I.ok)) c.kind c.nm
  (thn (hi d s O H _ I h) λxv P p=>thn p λitv s₂ h₂=>?_)) (λ_ k hq=>fL (fL hq)) λ_ _ e=>e)
 obtain⟨it,fp,tn,J,H2,e,I2,T,u,L,q2⟩:=h₂;subst e;refine mD (RR:=λF C=>compPost (lh X.prog X.w) X.A X.xe (some (IW (.Name y j) X.env)) (λ_ k=>SP X d w .next k) F C) (Q:=λD H _=>w.nx (O.set i (some (.ref D))) H) hc c B I2 T u L q2 ?_;intro D C H' k ys Y fC ns q;show ig _ X.A (IW (.Name y j) X.env (.ref D)) _ _ _;obtain⟨f0,M,L,f3,G,f5⟩:=fC;refine K5 (mq Y hN Z (.inl K) (v:=.ref D) rfl (λR J2 ⟨a,sb,W⟩=>?_) (.inr K));obtain⟨m,hn⟩:=ns
 have A:C≠a:=by
  rcases W with z | z
  .rw[z];exact M
  .exact λe=>G y a z e.symm
 refine⟨m,hn.sameBut sb A,λh3 E=>⟨_,H',?_,q⟩⟩;exact J2.turned (t':=R.toks) (λb o S e=>(E.2 b S).trans e) f0 M f3 G f5
end
section
variable {κ:Type}[DecidableEq κ]
def cb(kvs:List (κ×V))(k:κ):Option V:=(kvs.find? λkv=>decide (kv.1=k)).map (·.2)
def gY(kvs:List (κ×V))(k:κ)(v:V):List (κ×V) :=
 if (kvs.any λkv=>decide (kv.1=k))=true then kvs.map (λkv=>if kv.1=k then (kv.1,v) else kv) else kvs++[(k,v)]
def bx{p:κ×V}{r:List (κ×V)}{k:κ}(e:p.1=k):cb (p::r) k=some p.2:=by simp[cb,Fc,e]
def bw{p:κ×V}{r:List (κ×V)}{k:κ}(e:¬p.1=k):cb (p::r) k=cb r k:=by simp[cb,Fc,e]
def fu(k:κ):∀ kvs:List (κ×V),(kvs.any λkv=>decide (kv.1=k))=(cb kvs k).isSome
 | []=>rfl
 | p::r=>by
  rw[G5]
  by_cases e:p.1=k
  .simp only[bx e,decide_eq_true e,Bool.true_or,Jl]
  .rw[bw e,decide_eq_false e,Bool.false_or];exact fu k r
def oX(k j:κ)(y:V):∀ kvs:List (κ×V),cb (kvs.map λkv=>if kv.1=k then (kv.1,y) else kv) j=(cb kvs j).map λx=>if j=k then y else x
 | []=>rfl
 | p::r=>by
  have a:=oX k j y r;rw[l_]
  by_cases h:p.1=k
  .rw[if_pos h]
   by_cases e:p.1=j
   .rw[bx (p:=(p.1,y)) e,bx e,Gb,if_pos (e.symm.trans h)]
   .rw[bw (p:=(p.1,y)) e,bw e,a]
  .rw[if_neg h]
   by_cases e:p.1=j
   .rw[bx (p:=p) e,bx e,Gb,if_neg (λz=>h (e.trans z))]
   .rw[bw (p:=p) e,bw e,a]
def mV(k j:κ)(y:V):∀ kvs:List (κ×V),cb kvs k=none->cb (kvs++[(k,y)]) j=if j=k then some y else cb kvs j
 | [],_=>by
  by_cases e:k=j
  .rw[if_pos e.symm];exact bx (p:=(k,y)) e
  .rw[if_neg (λz=>e z.symm)];exact bw (p:=(k,y)) e
 | p::r,hn=>by
  rw[G7];have a:¬p.1=k:=λz=>by rw[bx z]at hn;cases hn
  rw[bw a]at hn;have b:=mV k j y r hn
  by_cases e:p.1=j
  .rw[bx e,bx e,if_neg (λz=>a (e.trans z))]
  .rw[bw e,bw e,b]
def wO(b:List (κ×V))(k j:κ)(y:V):cb (gY b k y) j=if j=k then some y else cb b j:=by
 unfold gY
 by_cases a:(b.any λc=>decide (c.1=k))=true
 .rw[if_pos a,oX]
  rw[fu]at a
  by_cases e:j=k
  .obtain⟨x,d⟩:=FS.mp a
   rw[if_pos e,e,d,Gb,if_pos rfl]
  .rw[if_neg e]
   cases cb b j with
   | none=>rfl
   | some x=>rw[Gb,if_neg e]
 .rw[if_neg a]
  refine mV k j y b ?_;rw[fu]at a;cases q:cb b k with
  | none=>rfl
  | some x=>rw[q]at a;exact(a rfl).elim
def fX(a:List (κ×V))(k:κ)(v:V):(gY a k v).length<=a.length+1:=by
 unfold gY
 split
 .rw[d_];lia
 .rw[gV,py,KZ];lia
def wW{a:List (κ×V)}{k:κ}(v:V)(h:cb a k=none):gY a k v=a++[(k,v)]:=by
 unfold gY;rw[fu,h];exact if_neg (by decide)
def RelO.isSome_eq{o:Option V}{u:Option b_}(r:RelO o u):o.isSome=u.isSome:=by
 cases o with
 | none=>cases u with
  | none=>rfl
  | some _=>exact(show False from r).elim
 | some _=>cases u with
  | none=>exact(show False from r).elim
  | some _=>rfl
def RelO.getD{o:Option V}{u:Option b_}{d:V}{d':b_}(r:RelO o u)(a:RelV d d'):RelV (o.getD d) (u.getD d'):=by
 cases o with
 | none=>cases u with
  | none=>exact a
  | some _=>exact(show False from r).elim
 | some _=>cases u with
  | none=>exact(show False from r).elim
  | some _=>exact r
def KV.val{a:List (κ×V)}{vs:List (κ×b_)}(r:KV a vs)(k:κ):RelO (cb a k) (HV vs k):=by
 unfold KV at r
 induction r with
 | nil=>exact x_
 | @cons p q ps qs h t ih =>
  obtain⟨d,f⟩:=h
  by_cases e:p.1=k
  .have c:q.1=k:=d.symm.trans e
   have b:HV (q::qs) k=some q.2:=by simp[HV,Fc,c]
   rw[bx e,b];exact f
  .have c:¬q.1=k:=λz=>e (d.trans z)
   have b:HV (q::qs) k=HV qs k:=by simp[HV,Fc,c]
   rw[bw e,b];exact ih
def KV.any{a:List (κ×V)}{vs:List (κ×b_)}(r:KV a vs)(k:κ):(a.any λkv=>decide (kv.1=k))=vs.any λkv=>decide (kv.1=k):=by
 unfold KV at r
 induction r with
 | nil=>rfl
 | cons h t ih=>rw[G5,G5,ih,h.1]
def KV.repl{a:List (κ×V)}{vs:List (κ×b_)}(r:KV a vs)(k:κ){y:V}{u:b_}(c:RelV y u) :
  KV (a.map λkv=>if kv.1=k then (kv.1,y) else kv) (vs.map λkv=>if kv.1=k then (kv.1,u) else kv):=by
 unfold KV at r ⊢
 induction r with
 | nil=>exact .nil
 | @cons p q ps qs h t ih =>
  rw[l_,l_];refine .cons ?_ ih;obtain⟨b,d⟩:=h
  by_cases e:p.1=k
  .rw[if_pos e,if_pos (b.symm.trans e)];exact⟨b,c⟩
  .rw[if_neg e,if_neg (λz=>e (b.trans z))];exact⟨b,d⟩
def KV.put{a:List (κ×V)}{vs:List (κ×b_)}(r:KV a vs)(k:κ){y:V}{u:b_}(b:RelV y u):KV (gY a k y) (stored vs k u):=by
 unfold gY stored;rw[r.any k]
 by_cases e:(vs.any λc=>decide (c.1=k))=true
 .rw[if_pos e,if_pos e];exact r.repl k b
 .rw[if_neg e,if_neg e];exact Paired.snoc r ⟨rfl,b⟩
def KV.length{a:List (κ×V)}{vs:List (κ×b_)}(r:KV a vs):a.length=vs.length:=rn r
end
def rS{P:hH}{w:lA}{k:Key}{u:b_}(r:RelV (kV k) u):(bA P w).is k u=true:=by
 cases k with
 | inl i=>obtain⟨t,e⟩:=(show ∃ t,u=C_ i t from r);subst e;exact oR P w i t
 | inr x=>obtain⟨t,e⟩:=(show ∃ t,u=Hl x t from r);subst e;exact pf P w x t
def m4{P:hH}{w:lA}:∀{ks:List Key}{us:List b_},Vals (ks.map kV) us->ItemsAre (bA P w) ks us
 | [],_,r=>by rw[GM]at r;cases r;exact .nil
 | k::ks,_,r=>by
  rw[l_]at r;cases r with
  | cons h t=>exact .cons (rS h) (m4 t)
abbrev KT(H:Hp):List (List Key×V)->List (List Key×Addr×b_)->Prop:=Paired λp q=>p.1=q.1/\H q.2.1=some (.tup (p.1.map kV))/\RelV p.2 q.2.2
def KT.val{H:Hp}{a:List (List Key×V)}{xs:List (List Key×Addr×b_)}(r:KT H a xs)(k:List Key):RelO (cb a k) ((G8 xs k).map (·.2)):=by
 induction r with
 | nil=>exact x_
 | @cons p q ps qs h t ih =>
  obtain⟨d,_,f⟩:=h
  by_cases e:p.1=k
  .have c:q.1=k:=d.symm.trans e
   have b:G8 (q::qs) k=some q.2:=by simp[G8,Fc,c]
   rw[bx e,b];exact f
  .have c:¬q.1=k:=λz=>e (d.trans z)
   have b:G8 (q::qs) k=G8 qs k:=by simp[G8,Fc,c]
   rw[bw e,b];exact ih
def KT.repl{H:Hp}{a:List (List Key×V)}{xs:List (List Key×Addr×b_)}(r:KT H a xs)(k:List Key){y:V}{u:b_}(f:RelV y u) :
  KT H (a.map λkv=>if kv.1=k then (kv.1,y) else kv) (xs.map (putAt k u)):=by
 induction r with
 | nil=>exact .nil
 | @cons p q ps qs h t ih =>
  rw[l_,l_];refine .cons ?_ ih;obtain⟨b,c,d⟩:=h;unfold putAt
  by_cases e:p.1=k
  .rw[if_pos e,if_pos (b.symm.trans e)];exact⟨b,c,f⟩
  .rw[if_neg e,if_neg (λz=>e (b.trans z))];exact⟨b,c,d⟩
def KT.put{H:Hp}{a:List (List Key×V)}{xs:List (List Key×Addr×b_)}(r:KT H a xs)(k:List Key){b:Addr}{y:V}{u:b_}(d:H b=some (.tup (k.map kV)))(c:RelV y u) :
  KT H (gY a k y) (Ld xs k b u):=by
 have e:(a.any λf=>decide (f.1=k))=(G8 xs k).isSome:=by
  rw[fu,(r.val k).isSome_eq,Option.isSome_map]
 unfold gY Ld;rw[e]
 by_cases q:(G8 xs k).isSome=true
 .rw[if_pos q,if_pos q];exact r.repl k c
 .rw[if_neg q,if_neg q];exact Paired.snoc r ⟨rfl,d,c⟩
def KT.keeps{H H':Hp}{a:List (List Key×V)}{xs:List (List Key×Addr×b_)}(r:KT H a xs)(c:∀ b ys,H b=some (.tup ys)->H' b=some (.tup ys)):KT H' a xs :=
 Paired.mapP r λ_ _ z=>⟨z.1,c _ _ z.2.1,z.2.2⟩
section
variable {P:hH}{w:lA}{H:Hp}{h:Heap}{a:Addr}
def zV{u:HO}(b:HOk P w H h)(e:Rd H a u):ObjOk P w H h a u:=e.ok b
def qh{b:List (Key×V)}(c:HOk P w H h)(e:Rd H a (.dK b)):b.length<=sizeLine/\(a == sN)=false/\∃ vs,KV b vs/\h.DictOf (bA P w) a vs :=
 show ObjOk P w H h a (.dK b) from zV c e
def C7{b:List (Key×V)}(c:HOk P w H h)(e:H a=some (.dK b)):b.length<=sizeLine/\(a == sN)=false/\∃ vs,KV b vs/\h.DictOf (bA P w) a vs:=qh c (.inl e)
def kP{ks:List Key}(d:HOk P w H h)(e:H a=some (.tup (ks.map kV))):(Gx (bA P w)).is h ks a:=by
 obtain⟨_,b,r,o,g,f,n,c⟩:=(show ObjOk P w H h a (.tup (ks.map kV)) from d a _ e)
 exact⟨o,b.toArray,n,g,f,c,by simpa using m4 r⟩
def qe{b:List (List Key×V)}(d:HOk P w H h)(e:Rd H a (.dT b)):b.length<=sizeLine/\(a == sN)=false /\
  ∃ xs,KT H b xs/\h.DictOfH (Gx (bA P w)) a xs:=by
 obtain⟨z,y,xs,r,o,u,j,s,i,g,k,f⟩:=(show ObjOk P w H h a (.dT b) from zV d e)
 refine⟨z,y,xs,r,o,u,j,s,i,g,k,λx hx=>?_,f⟩
 have c:∀{l:List (List Key×V)}{m:List (List Key×Addr×b_)},KT H l m->∀ x∈m,(Gx (bA P w)).is h x.1 x.2.1:=by
  intro l m q
  induction q with
  | nil=>intro x hx;exact nomatch hx
  | @cons p q ps qs hq t ih =>
   intro x hx
   rcases i_.mp hx with e | hx
   .subst e
    exact kP d (by rw[<- hq.1];exact hq.2.1)
   .exact ih x hx
 exact c r x hx
def ww{b:List (List Key×V)}(c:HOk P w H h)(e:H a=some (.dT b)):b.length<=sizeLine/\(a == sN)=false /\
  ∃ xs,KT H b xs/\h.DictOfH (Gx (bA P w)) a xs:=qe c (.inl e)
end
def vp(H:Hp)(a:Addr)(y:V)(r:Option V):Prop :=
 (∃ kvs k,Rd H a (.dK kvs)/\y=kV k/\r=cb kvs k)\/∃ kvs k b,Rd H a (.dT kvs)/\y=.ref b/\H b=some (.tup (k.map kV))/\r=cb kvs k
def Cu(H:Hp)(a:Addr)(y v:V)(H':Hp):Prop :=
 (∃ kvs k,H a=some (.dK kvs)/\y=kV k/\kvs.length<sizeLine/\H'=upd H a (.dK (gY kvs k v))) \/
 ∃ kvs k b,H a=some (.dT kvs)/\y=.ref b/\H b=some (.tup (k.map kV))/\kvs.length<sizeLine/\H'=upd H a (.dT (gY kvs k v))
section
variable {X:Cx}{pins:List (Addr×Obj)}{σ:St}{H:Hp}{s:e_}{a:Addr}{y v:V}{u r:b_}{o:Option V}{A:m_}{E:b_->e_->Prop}
def Inv.big(I:Inv X pins σ H s):sN<s.heap.objs.size:=by
 have h:oe<s.heap.objs.size:=(I.mod.glob.keeps I.bk).lt;exact Hm (by decide) h
def uo{Q:b_->e_->Prop}(B:A.units+1<FR)(I:Inv X pins σ H s)(g:vp H a y (some v))(w:RelV y u)(h:∀ w' s',Inv X pins σ H s'->RelV v w'->Q w' s') :
  ig (lh X.prog X.w) A (Hi (.ref a) u) Q E s:=by
 rcases g with⟨q,k,e,i,l⟩ | ⟨q,k,b,e,i,C,l⟩
 .subst i
  obtain⟨z,x,D,d,f⟩:=qh I.hok e;obtain⟨w',j,c⟩:=RelO.some_of (v:=v) (o:=HV D k) (by rw[l];exact d.val k);exact wpAny_getItem_of (rS w) f.mapOf j (h w' _ (I.tok _) c)
 .subst i
  cases(show u=lb b from w);obtain⟨z,x,F,d,f⟩:=qe I.hok e;obtain⟨w',j,c⟩:=RelO.some_of (v:=v) (o:=(G8 F k).map (·.2)) (by rw[l];exact d.val k);obtain⟨p,G,r⟩:=EG.mp j;refine wpAny_getItem_heap (F3 B) (kP I.hok C) f G ?_;rw[r];exact h w' _ (I.tok _) c
def nK{h':Heap}{t':Nat}{ob:HO}(I:Inv X pins σ H s)(d:Mut (H a))(g:EA a s.heap h')(h:∃ q,h'.get? a=some q)(c:ObjOk X.prog X.w (upd H a ob) h' a ob) :
  Inv X pins σ (upd H a ob) { s with heap:=h',toks:=t' } :=
 I.write (x:=a) (e:=a) d (.inl rfl) (λb q f z=>(g.2 b f).trans z) h c
def Bj{P:hH}{w:lA}{H':Hp}{h':Heap}{b:List (Key×V)}{vs:List (Key×b_)}(z:b.length<=sizeLine)(d:(a == sN)=false)(c:KV b vs)(f:h'.DictOf (bA P w) a vs) :
  ObjOk P w H' h' a (.dK b):=⟨z,d,vs,c,f⟩
def uG{H':Hp}{Q:Unit->e_->Prop}(M:A.units+1<FR)(I:Inv X pins σ H s)(g:Cu H a y v H')(J:RelV y u)(G:RelV v r)(h:∀ s',Inv X pins σ H' s'->Q () s') :
  ig (lh X.prog X.w) A (setItem (.ref a) u r) Q E s:=by
 rcases g with⟨f,k,e,o,l,w⟩ | ⟨f,k,b,e,o,K,l,w⟩
 .subst o w
  obtain⟨z,C,S,d,D⟩:=C7 I.hok e;have B:S.length<=sizeLine:=by rw[<- d.length];exact z
  have p:(gY f k v).length<=sizeLine:=by have:=fX f k v;lia
  refine wpAny_setItem_pairs (hsz:=B) (rS J) D λF i x=>h _ ?_
  have R:∃ q,F.get? a=some q:=let ⟨q,_,_,j,_⟩:=i;⟨q,j⟩;exact nK I (by rw[e];exact x_) x R (Bj p C (d.put k G) i)
 .subst o w
  cases(show u=lb b from J);obtain⟨z,C,N,d,D⟩:=ww I.hok e;have B:N.length<=sizeLine:=by rw[<- rn d];exact z
  have p:(gY f k v).length<=sizeLine:=by have:=fX f k v;lia
  refine wpAny_setItem_heap (hsz:=B) (F3 M) (kP I.hok K) D λF i x=>h _ ?_
  obtain⟨q,P,O,j,W,L,Y,_,T⟩:=i;refine nK I (by rw[e];exact x_) x ⟨q,j⟩ ⟨p,C,_,(d.put k K G).keeps λc ys ec=>?_,q,P,O,j,W,L,Y,T⟩;rw[ae (cF ec e (λz=>nomatch z))];exact ec
end
def CL(i:Expr):Prop:=∀ ov iv,IE i false ov iv=operate [ov,iv] (Hi ov iv)
def yE{prog:hH}{w:lA}{A:m_}{E:b_->e_->Prop}{s:e_}{env:Env}{b a:Expr}{k:Pos}{T q:String}{Q:b_->e_->Prop}
  (v:KS (.type T) "__getitem__" = pure (some (.builtin q))) (u:CL a)
  (h:ig (lh prog w) A (eval b env) (λo s₁=>ig (lh prog w) A (eval a env) (λi s₂=>s₂.TypeIs o T/\ig (lh prog w) A (Hi o i) Q E s₂) E s₁) E s) :
  ig (lh prog w) A (eval (.Subscript b a k) env) Q E s:=by
 refine KU (rc h (λo s₁ j=>rc j (λi s₂ c=>?_) λ_ _ x=>x) λ_ _ x=>x);obtain⟨p,c⟩:=c;unfold Jr;refine a_ ?_;rw[getitemInPython_of_ne p.not_modules];refine a_ (LA p v ?_)
 have f:ig (lh prog w) A (IE a false o i) (λr d=>ig (lh prog w) A (letTemporaryGo b o r >>= λ_=>pure r) Q E d) E s₂:=by
  rw[u o i];exact wpAny_operating (rc c (λr d g=>a_ (wpAny_letTemporaryGo (fL g))) λ_ _ x=>x)
 first
  | exact fL (a_ f)
  | exact a_ (fL (a_ f))
  | exact a_ f
def o9{X:Cx}{c:List (Addr×Obj)}{h:St}{H:Hp}{s:e_}{a:Addr}{y:V}{o:Option V}(I:Inv X c h H s)(g:vp H a y o):s.TypeIs (.ref a) "dict" := by
 rcases g with⟨f,k,e,_,_⟩ | ⟨f,k,b,e,_,_,_⟩
 .obtain⟨_,_,i,_,d⟩:=qh I.hok e
  exact d.typeIs
 .obtain⟨_,_,j,_,d⟩:=qe I.hok e
  exact d.typeIs
inductive rDGet(x y:V)(H:Hp)(Q:VK):Prop
 | mk(a:Addr)(v:V)(h0:x=.ref a)(h1:vp H a y (some v))(h2:Q v H):rDGet x y H Q
def CY(td ty:TE):TE:=λσ H Q=>td σ H λx H1=>ty σ H1 λy H2=>rDGet x y H2 Q
def Cc(td ty tv:TE):TS:=λD σ H=>tv σ H λv H1=>td σ H1 λx H2=>ty σ H2 λy H3=>∃ a H4,x=.ref a/\Cu H3 a y v H4/\D.nx σ H4
section
variable {X:Cx}{o i value:Expr}{pos pos':Pos}{td ty tv:TE}
def zx(p:X.A.units+1<FR)(j:PE X o td)(q:PE X i ty)(z:CL i):PE X (.Subscript o i pos) (CY td ty):=by
 intro b s d H Q I h;refine yE PySem.F.slot_dict_getitem.lookup z (thn (j b s d H _ I h) λu r ⟨x,k,w,f,A⟩=>thn (q b r d k _ w A) λiv s2 ⟨y,H2,I2,ry,a,v,ex,g,q2⟩=>?_);subst ex;obtain rfl:u=lb a:=f;exact⟨o9 I2 g,uo p I2 g ry λC D B c=>⟨v,H2,B,c,q2⟩⟩
def yL(j:X.A.units+1<FR)(d:PE X o td)(k:PE X i ty)(p:PE X value tv)(A:FU value (some (.Subscript o i pos')) pos.line X.env=pure false) :
  PS X (.Assign [.Subscript o i pos'] value pos) (Cc td ty tv):=by
 intro b s c H D I h;refine wpAny_Assign_Subscript (thn (p b s c H _ I h) λr q ⟨v,f,z,w,B⟩=>thn (d b q c f _ z B) λu s2 ⟨x,H2,I2,rx,q2⟩=>thn (k b s2 c H2 _ I2 q2) λiv s3 ⟨y,H3,I3,ry,a,H4,ex,g,q3⟩=>?_) A;subst ex;obtain rfl:u=lb a:=rx
 exact uG j I3 g ry w λE C=>⟨c,H4,C,q3⟩
end
def xk{P:hH}{w:lA}{H:Hp}(h:Heap)(a:sN<h.objs.size):ObjOk P w H (h.push { cls:=.type "dict",data:=.dict #[] }) h.objs.size (.dT []) :=
 ⟨h_ _,beq_eq_false_iff_ne.mpr (A_ (kw a)),[],.nil,_,#[],0,ie _ rfl,⟨rfl,rfl,rfl⟩,rfl,rfl,Ir⟩
def AN:TE:=λ_ H Q=>∀ p,H p=none->Q (.ref p) (upd H p (.dT []))
section
variable {X:Cx}{pos:Pos}
def pM:PE X (.Dict [] [] pos) AN:=λb s c H Q I h =>
 wpAny_Dict_empty ⟨.ref s.heap.objs.size,_,I.laid (a:=s.heap.objs.size) (o:=.dT []) (t':=s.toks) (λ_ _ q=>c_ _ q) (fS _) (xk s.heap I.big),rfl,h _ (I.hok.fresh (fS _))⟩
end
structure M2(X:Cx)(o:Expr)(m:Str)(apos:Pos)(e f:Expr)(cpos:Pos):Prop where
 base:EF o m X.env (eval o X.env)=eval o X.env
 few:((z_ cpos (lg [e,f] X.env)).all (λx=>!x.1) && (G2 cpos (FK [] X.env)).all (λx=>x.1.isSome)
  && decide (([e,f]:List Expr).length+([]:List Gh).length+(if ([]:List Gh).isEmpty then 0 else 1)<30))=true
 line:(apos.endLine == cpos.line)=true
 trees:z_ cpos (lg [e,f] X.env)=[(false,eval e X.env),(false,eval f X.env)]
def IsD(H:Hp)(a:Addr):Prop:=(∃ kvs,Rd H a (.dK kvs))\/∃ kvs,Rd H a (.dT kvs)
def wJ{X:Cx}{f:List (Addr×Obj)}{k:St}{H:Hp}{s:e_}{a:Addr}(I:Inv X f k H s)(d:IsD H a) :
  s.TypeIs (.ref a) "dict" /\ (∀ b,lb a=.ref b->∃ ob,s.heap.get? b=some ob/\ob.dict=none)/\(a == sN)=false:=by
 rcases d with⟨j,e⟩ | ⟨j,e⟩
 .obtain⟨_,g,o,_,c⟩:=qh I.hok e
  refine⟨c.typeIs,λb q=>?_,g⟩;cases q;obtain⟨ob,_,_,i,h,_⟩:=c;exact⟨ob,i,h.2.1⟩
 .obtain⟨_,g,p,_,c⟩:=qe I.hok e
  refine⟨c.typeIs,λb q=>?_,g⟩;cases q;obtain⟨ob,_,_,i,h,_⟩:=c;exact⟨ob,i,h.2.1⟩
section
variable {X:Cx}{pins:List (Addr×Obj)}{σ:St}{H:Hp}{s:e_}{a:Addr}{y d:V}{u r:b_}{o:Option V}{A:m_}{E:b_->e_->Prop}
def Aq{Q:b_->e_->Prop}(w:A.units+1<FR)(I:Inv X pins σ H s)(g:vp H a y o)(v:RelV y u)(q:RelV d r)(h:∀ w' s',Inv X pins σ H s'->RelV (o.getD d) w'->Q w' s') :
  ig (lh X.prog X.w) A (call (.builtin "dict.get") [.ref a,u,r]) Q E s:=by
 rcases g with⟨p,k,e,j,l⟩ | ⟨p,k,b,e,j,x,l⟩
 .subst j
  obtain⟨z,i,C,c,f⟩:=qh I.hok e;refine JT Gc f.typeIs Is (Ih _ _ _) (meets_dict_get_default (bA X.prog X.w) a (rS v) i r) ⟨_,f.mapOf,h _ _ (I.tok _) ?_⟩;rw[l];exact(c.val k).getD q
 .subst j
  cases(show u=lb b from v);obtain⟨z,i,B,c,f⟩:=qe I.hok e;refine JT Gc f.typeIs Is (Ih _ _ _) (meetsH_dict_get_default (Gx (bA X.prog X.w)) a b i r) ⟨F3 w,k,B,kP I.hok x,f,h _ _ (I.tok _) ?_⟩;rw[l];exact(c.val k).getD q
end
def Bs(td ty tx:TE):TE:=λσ H Q=>td σ H λx H1=>∃ a,x=.ref a/\IsD H1 a/\ty σ H1 λy H2=>tx σ H2 λz H3=>∃ o,vp H3 a y o/\Q (o.getD z) H3
section
variable {X:Cx}{o e f:Expr}{apos cpos:Pos}{td ty tx:TE}
def qc(v:X.A.units+1<FR)(B:PE X o td)(F:PE X e ty)(R:PE X f tx)(m:M2 X o "get" apos e f cpos):PE X (.Call (.Attribute o "get" apos) [e,f] [] cpos) (Bs td ty tx):=by
 intro b s c H Q I h;refine Le m.base m.few m.line Ii Gc PySem.F.type_dict_get (thn (B b s c H _ I h) λu K ⟨x,q,j,A,a,r,d,E⟩=>?_);subst r;obtain rfl:u=lb a:=A;obtain⟨w,D,_⟩:=wJ j d;refine⟨w,D,?_⟩;rw[m.trees]
 refine Ff rfl (GA (Fa (thn (F b K c q _ j E) λW p ⟨y,L,P,C,J⟩ =>
  Fa (thn (R b p c L _ P J) λS T ⟨z,k,M,N,ov,g,O⟩=>G0 ?_))))
 exact Aq v M g C N λZ Y G i=>⟨_,k,G,i,O⟩
end
def OpR.imp{X:Cx}{f:b_->b_->Sem b_}{r b:R2}(h:OpR X f r)(i:∀ x y H Q,b x y H Q->r x y H Q):OpR X f b :=
 λa s d H x y v u Q I c g q=>h a s d H x y v u Q I c g (i x y H Q q)
def CallR.imp{X:Cx}{f:b_}{r b:List V->Hp->VK->Prop}(h:CallR X f r)(i:∀ xs H Q,b xs H Q->r xs H Q):CallR X f b :=
 λa s d H xs g Q I c q=>h a s d H xs g Q I c (i xs H Q q)
def tV(i:Nat):TE:=λσ H Q=>match σ[i]? with
 | some (some v)=>Q v H
 | _=>False
def vr{X:Cx}(i:Nat){x:Str}{b:Pos}(j:X.N[i]? = some x:=by rfl)(f:Vis X.env.scope x:=by first | exact uS rfl | exact HK (uS rfl) | exact HK (HK rfl))(d:(x == ("__debug__" : Str))=false:=by decide)
  (c:(x == ("__classdict__" : Str))=false:=by decide):PE X (.Name x b) (tV i):=λa s g H Q I h=>by
 refine Ba j f d c a s g H Q I ?_;unfold tV at h
 split at h
 .rename_i v e
  exact⟨v,e,h⟩
 .exact h.elim
def rI2(g:Int->Int->V):R2:=λx y H Q=>match x,y with
 | .int i,.int j=>Q (g i j) H
 | _,_=>False
def rIC(C:Int->Int->Prop)(g:Int->Int->V):R2:=λx y H Q=>match x,y with
 | .int i,.int j=>C i j/\Q (g i j) H
 | _,_=>False
def OpR.i2{X:Cx}{f:b_->b_->Sem b_}{g:Int->Int->V}(h:OpR X f (rI0 g)):OpR X f (rI2 g):=h.imp λx y H Q q=>by
 cases x <;> cases y <;> first | exact⟨_,_,rfl,rfl,q⟩ | exact(show False from q).elim
def OpR.ic{X:Cx}{f:b_->b_->Sem b_}{C:Int->Int->Prop}{g:Int->Int->V}(h:OpR X f (rI C g)):OpR X f (rIC C g):=h.imp λx y H Q q=>by
 cases x <;> cases y <;> first | exact⟨_,_,rfl,rfl,q.1,q.2⟩ | exact(show False from q).elim
section
variable {X:Cx}
def Cp:R2:=λx y H Q=>match x,y with
 | .int i,.int j=>Q (.int (i+j)) H
 | .str i,.str j=>i.length+j.length<=sizeLine/\Q (.str (i++j)) H
 | _,_=>False
def bY:OpR X (E2 .Add) Cp:=(op_add.or qL).imp λx y H Q q=>by
 cases x <;> cases y <;> first | exact .inl ⟨_,_,rfl,rfl,q⟩ | exact .inr ⟨_,_,rfl,rfl,q.1,q.2⟩ | exact(show False from q).elim
def fH:OpR X (E2 .Sub) (rI2 λi j=>.int (i - j)):=op_sub.i2
def Do(i j:Int):Prop:=0<j
def CNn(i j:Int):Prop:=0<=j
def cp{i j:Int}(h:0<j:=by decide):Do i j:=h
def cn{i j:Int}(h:0<=j:=by decide):CNn i j:=h
def cd{i j:Int}(h:0<j:=by decide)(a:j<1073741824:=by decide):DW i j:=⟨h,a⟩
def cl{i j:Int}(h:-(2 ^ 64)<i:=by decide)(a:i<2 ^ 64:=by decide):CMul i j:=.inl ⟨h,a⟩
def cr{i j:Int}(h:-(2 ^ 64)<j:=by decide)(a:j<2 ^ 64:=by decide):CMul i j:=.inr ⟨h,a⟩
def ik:OpR X (E2 .Mod) (rIC Do λi j=>.int (i % j)):=op_mod.ic
def uW:OpR X (re .LtE) (λx y H Q=>∃ i j,x=.str i/\y=.str j/\Q (.bl (!decide (j.cps.toList<i.cps.toList))) H):=by
 intro a s f H x y v u Q I b c h;obtain⟨i,j,rfl,rfl,q⟩:=h;obtain⟨t,rfl⟩:=b;obtain⟨d,rfl⟩:=c;exact PySem.P.le_str (aL I q rfl)
def zY(f:Int->Int->Bool)(g:Str->Str->Bool):R2:=λx y H Q=>match x,y with
 | .int i,.int j=>Q (.bl (f i j)) H
 | .str i,.str j=>Q (.bl (g i j)) H
 | _,_=>False
def oZ:OpR X (re .Lt) (zY (λi j=>decide (i<j)) λi j=>decide (i.cps.toList<j.cps.toList)):=(op_lt.or ua).imp λx y H Q q=>by
 cases x <;> cases y <;> first | exact .inl ⟨_,_,rfl,rfl,q⟩ | exact .inr ⟨_,_,rfl,rfl,q⟩ | exact(show False from q).elim
def xP:OpR X (re .LtE) (zY (λi j=>decide (i<=j)) λi j=>!decide (j.cps.toList<i.cps.toList)):=(op_le.or uW).imp λx y H Q q=>by
 cases x <;> cases y <;> first | exact .inl ⟨_,_,rfl,rfl,q⟩ | exact .inr ⟨_,_,rfl,rfl,q⟩ | exact(show False from q).elim
def AY:OpR X (re .Gt) (rI2 λi j=>.bl (decide (j<i))):=op_gt.i2
def AI:OpR X (re .GtE) (rI2 λi j=>.bl (decide (j<=i))):=op_ge.i2
def xR(neg:Bool):R2:=λx y H Q=>match x,y with
 | .int i,.int j=>Q (.bl (if neg then !decide (i=j) else decide (i=j))) H
 | .str i,.str j=>Q (.bl (if neg then !decide (i=j) else decide (i=j))) H
 | .bl i,.bl j=>Q (.bl (if neg then !decide (i=j) else decide (i=j))) H
 | .non,.non=>Q (.bl (!neg)) H
 | .non,.int _=>Q (.bl neg) H
 | .non,.str _=>Q (.bl neg) H
 | .non,.bl _=>Q (.bl neg) H
 | .int _,.non=>Q (.bl neg) H
 | .str _,.non=>Q (.bl neg) H
 | .bl _,.non=>Q (.bl neg) H
 | .int _,.str _=>Q (.bl neg) H
 | .str _,.int _=>Q (.bl neg) H
 | _,_=>False
def og:OpR X (re .Eq) (xR false):=op_eq.imp λx y H Q q=>by
 cases x <;> cases y <;> first | exact(show False from q).elim | exact⟨rfl,q⟩ | exact⟨rfl,by rw[j0];exact q⟩ | exact⟨rfl,by rw[ou];exact q⟩ | exact⟨rfl,by rw[j6];exact q⟩
def DC:OpR X (re .NotEq) (xR true):=op_ne.imp λx y H Q q=>by
 cases x <;> cases y <;> first | exact(show False from q).elim | exact⟨rfl,q⟩ | exact⟨rfl,by rw[j0];exact q⟩ | exact⟨rfl,by rw[ou];exact q⟩ | exact⟨rfl,by rw[j6];exact q⟩
def rU1(g:Int->V):V->Hp->VK->Prop:=λx H Q=>match x with
 | .int i=>Q (g i) H
 | _=>False
def vN:UnR X (unaryOp .USub) (rU1 λi=>.int (-i)):=λa s b H x v Q I r q=>Av a s b H x v Q I r (by
 cases x <;> first | exact⟨_,rfl,q⟩ | exact(show False from q).elim)
def Em(neg:Bool):R2:=λx y H Q=>match x,y with
 | .str i,.str j=>Q (.bl (if neg then (E6 j i 0 j.length 1).isEmpty else !(E6 j i 0 j.length 1).isEmpty)) H
 | _,_=>False
def Cr:OpR X (re .In) (Em false):=op_in_str.imp λx y H Q q=>by
 cases x <;> cases y <;> first | exact⟨_,_,rfl,rfl,q⟩ | exact(show False from q).elim
def mB(Q:Bool->Hp->Prop):VK:=λx H=>match x with
 | .bl c=>Q c H
 | _=>False
variable {a b c:Expr}{ta tb tc:TE}{pos:Pos}{rest:List Expr}
def Ed(ta tb:TE):TE:=λσ H Q=>ta σ H (mB λc H1=>if c=true then tb σ H1 Q else Q (.bl false) H1)
def DZ(ta:TE):TE:=λσ H Q=>ta σ H (mB λc H1=>Q (.bl (!c)) H1)
def lO{Q:Bool->Hp->Prop}{x:V}{H:Hp}(h:mB Q x H):∃ c,x=.bl c/\Q c H:=by
 cases x <;> first | exact⟨_,rfl,h⟩ | exact(show False from h).elim
def pE(q:PE X a ta)(p:PE X (.BoolOp .And (b::rest) pos) tb):PE X (.BoolOp .And (a::b::rest) pos) (Ed ta tb):=by
 intro d s i H Q I h;refine BoolOp_and (thn (q d s i H _ I h) λv o ⟨x,g,j,k,f⟩=>?_);obtain⟨c,rfl,f⟩:=lO f;cases k;refine z3 ?_;cases c with
 | true=>exact p d o i g Q j f
 | false=>exact⟨.bl false,g,j,rfl,f⟩
def Cj(k:PE X a ta):PE X (.UnaryOp .Not a pos) (DZ ta):=by
 intro b s i H Q I h;refine UnaryOp_ (thn (k b s i H _ I h) λv o ⟨x,g,j,f,d⟩=>?_);obtain⟨c,rfl,d⟩:=lO d;cases f;exact not_of (z3 ⟨.bl (!c),g,j,rfl,d⟩)
def mT(t:TE):TT:=λσ H Q=>t σ H (mB Q)
def dh(h:PE X a ta)(o:∀ whole,KO a X.env whole=(do let v <- whole;JK a.pos;K7 [v] (truthy v)):=by intro _;rfl):PT X a (mT ta):=by
 intro b s g H Q I i;refine isTrue_plain (thn (h b s g H _ I i) λv p ⟨x,f,j,c,k⟩=>?_) (o _);obtain⟨d,rfl,q⟩:=lO k;cases c;exact z3 ⟨f,j,q⟩
def bO{op:CmpOp}{r:R2}(j:OpR X (re op) r)(D:PE X a ta)(B:PE X b tb)(w:Ht op b=false):PT X (.Compare a [op] [b] pos) (mT (tOp r ta tb)):=by
 intro d s f H Q I h
 refine wpAny_isTrue_Compare1 (thn (D d s f H _ I h) λv A ⟨x,p,C,i,o⟩=>thn (B d A f p _ C o) λu s2 ⟨y,H2,I2,r2,q2⟩ =>
  thn (j d s2 f H2 x y v u _ I2 i r2 q2) λc G ⟨z,q,E,F,g⟩=>?_) w
 obtain⟨k,rfl,g⟩:=lO g;cases F;exact z3 ⟨q,E,g⟩
def Az(r r':R2)(ta tb tc:TE):TE:=λσ H Q=>ta σ H λx H1=>tb σ H1 λy H2=>r x y H2 (mB λk H3=>if k=true then tc σ H3 λw' H4=>r' y w' H4 Q else Q (.bl false) H3)
def sY{op g:CmpOp}{r q:R2}(G:OpR X (re op) r)(o:OpR X (re g) q)(E:PE X a ta)(C:PE X b tb)(Y:PE X c tc)
  (S:lastMarks [op,g] [b,c]=false:=by with_unfolding_all rfl):PE X (.Compare a [op,g] [b,c] pos) (Az r q ta tb tc):=by
 intro f s i H Q I h
 refine Compare_chain (thn (E f s i H _ I h) λv T ⟨x,A,D,O,K⟩=>chain_link (thn (C f T i A _ D K) λu s2 ⟨y,H2,I2,r2,q2⟩ =>
  thn (G f s2 i H2 x y v u _ I2 O r2 q2) λd J ⟨z,p,w,N,j⟩=>?_)) S
 obtain⟨k,rfl,j⟩:=lO j;cases N;refine z3 ?_;cases k with
 | false=>exact ite_ff ⟨.bl false,p,w,rfl,j⟩
 | true=>exact ite_tt (chain_last (thn (Y f J i p _ w j) λW L ⟨P,R,M,B,F⟩=>o f L i R y P u W Q M r2 B F))
open PySem.W in
def wH{g:List (Addr×Obj)}{j:St}{H:Hp}{s:e_}{x:V}{u t:b_}(I:Inv X g j H s)(b:RelV x u)(ty:TyOf X.K H x t) :
  ∃ Hh:Heap->Prop,KitX X.K u t Hh/\Hh s.heap/\u≠.builtin "__main__.__loader__#opaque" := by
 cases ty with
 | non=>cases(show u=n_ from b);exact⟨_,PySem.W.kitx_none,x_,λz=>nomatch z⟩
 | bl y=>cases(show u=HM y from b);exact⟨_,PySem.W.kitx_bool,x_,λz=>nomatch z⟩
 | int i=>obtain⟨t,q⟩:=(show ∃ t,u=C_ i t from b);cases q;exact⟨_,PySem.W.kitx_int,x_,λz=>nomatch z⟩
 | str y=>obtain⟨t,q⟩:=(show ∃ t,u=Hl y t from b);cases q;exact⟨_,PySem.W.kitx_str,x_,λz=>nomatch z⟩
 | flt y=>obtain⟨t,q⟩:=(show ∃ t,u=IV y t from b);cases q;exact⟨_,PySem.W.kitx_float,x_,λz=>nomatch z⟩
 | @lst a d ea =>
  cases(show u=lb a from b)
  obtain⟨_,_,n,_,c⟩:=(show ObjOk X.prog X.w H s.heap a (.lst d) from I.hok a _ ea)
  exact⟨_,kitx_list,⟨_,c,rfl⟩,λz=>nomatch z⟩
 | @frz a ob d ea =>
  cases(show u=lb a from b)
  obtain⟨_,_,_,n,_,c⟩:=(show ObjOk X.prog X.w H s.heap a (.frz ob (.lst d)) from I.hok a _ ea)
  exact⟨_,kitx_list,⟨_,c,rfl⟩,λz=>nomatch z⟩
 | @tup a d ea =>
  cases(show u=lb a from b)
  obtain⟨_,_,_,p⟩:=(show ObjOk X.prog X.w H s.heap a (.tup d) from I.hok a _ ea)
  obtain⟨o,c,f,_⟩:=p;exact⟨_,kitx_tuple,⟨o,c,f⟩,λz=>nomatch z⟩
 | @dK a kvs ea =>
  cases(show u=lb a from b)
  obtain⟨_,_,r,_,p⟩:=(show ObjOk X.prog X.w H s.heap a (.dK kvs) from I.hok a _ ea)
  obtain⟨o,k,h,c,f,_⟩:=p;exact⟨_,kitx_dict,⟨o,c,f.1⟩,λz=>nomatch z⟩
 | @dT a kvs ea =>
  cases(show u=lb a from b)
  obtain⟨_,_,d,_,o,k,h,c,f,_⟩:=(show ObjOk X.prog X.w H s.heap a (.dT kvs) from I.hok a _ ea)
  exact⟨_,kitx_dict,⟨o,c,f.1⟩,λz=>nomatch z⟩
 | @ins a C dx fs ea cl ha hn htk hm =>
  cases(show u=lb a from b);obtain⟨w,O,_⟩:=j3 I.hok ea;obtain⟨v,J,_⟩:=O.look;exact⟨_,PySem.W.kitx_own (cl.get _) cl.hd ha hn htk hm,J,λz=>nomatch z⟩
def Cw:V->b_
 | .ty n=>.type n
 | .ref a=>.ref a
 | _=>.none
def zM:V->Bool
 | .ty _=>true
 | .ref _=>true
 | _=>false
def zq{c:V}{u:b_}(h:zM c=true)(r:RelV c u):u=Cw c:=by
 cases c <;> first | exact r | exact absurd (show false=true from h) hY
inductive rIsi(K:Frag)(xs:List V)(H:Hp)(Q:VK):Prop
 | mk(x c:V)(t:_)(b:Bool)(h0:xs=[x,c])(h1:zM c=true)(h2:TyOf K H x t)(h3:kitOne K t (Cw c)=some b)(h4:Q (.bl b) H):rIsi K xs H Q
def j9:CallR X (.builtin "isinstance") (rIsi X.K):=by
 intro a s v H y z Q I r h;obtain⟨x,c,t,b,rfl,k,i,e,q⟩:=h;obtain⟨u,w,rfl,d,f⟩:=zX r;cases zq k f;obtain⟨o,Z,p,g⟩:=wH I d i
 exact PySem.W.kia_one Z I.kIn p e g λj=>⟨.bl b,H,I.tok j,rfl,q⟩
def uy(D:X.calm=true):CallR X (.builtin "all") (λxs H Q=>∃(p:Addr) (ys:List V) (bs:List Bool),xs=[.ref p]/\SqL X.K H p ys/\ys=bs.map V.bl/\Q (.bl (bs.all id)) H):=by
 intro k s K H xs J Q I r h;obtain⟨p,ys,bs,rfl,B,rfl,q⟩:=h;obtain⟨u,rfl,y⟩:=dW r;cases y;obtain⟨a,c,f,G⟩:=I.list B;have d:p<s.heap.objs.size:=by obtain⟨_,_,e,_⟩:=f;exact f_ e
 refine call_all_walk (HW f.isList ?_)
 refine⟨s.heap.objs.size,[s.heap.objs.size,p],[s.heap.objs.size],a.toArray.size,_,_,λi=>(bs[i]?).getD true,rfl,Walks.list (A:=X.A.in1) (I.ok.hd D) _ p (kw d) a.toArray,
  ⟨⟨_,ie _ rfl,rfl,rfl⟩,f.isList.push _⟩,λi v F E L C o=>?_,λh' tk hk=>?_⟩
 .have w:a[i]? = some v:=by simpa using C
  have g:i<(bs.map V.bl).length:=by rw[c.length];exact(fP.mp w).1
  obtain⟨b,hb⟩:∃ b,bs[i]? = some b:=⟨bs[i]'(by simpa using g),by simp at g;simp[g]⟩
  obtain⟨u,j,z⟩:=c.get (i:=i) (x:=V.bl b) (by rw[gb,hb];rfl);rw[w]at j;cases j;cases z;simp only[hb,Option.getD_some]at o;exact z3 o
 .have e:((lj a.toArray.size).all λi=>(bs[i]?).getD true)=bs.all id:=by
   rw[nf,<- c.length,d_];exact LSm.range_all bs
  rw[e];exact⟨.bl _,H,I.kept (LSm.kept_iter hk),rfl,q⟩
end
def AF{Q:V->Prop}{p r:Prop}[Decidable p][Decidable r](q:Q (.bl (decide (p/\r)))):if decide p=true then Q (.bl (decide r)) else Q (.bl false):=by
 by_cases h:p
 .rw[if_pos (decide_eq_true h)]
  have e:decide (p/\r)=decide r:=by by_cases z:r <;> simp[h,z]
  rw[<- e];exact q
 .rw[if_neg (λz=>h (of_decide_eq_true z))]
  have e:decide (p/\r)=false:=decide_eq_false λz=>h z.1
  rw[<- e];exact q
def ifP{c:Prop}[Decidable c]{A B:Prop}(a:c)(h:A):if decide c=true then A else B:=by rw[if_pos (decide_eq_true a)];exact h
def ifN{c:Prop}[Decidable c]{A B:Prop}(a:¬c)(h:B):if decide c=true then A else B:=by rw[if_neg (λz=>a (of_decide_eq_true z))];exact h
def ifC{c:Prop}[Decidable c]{A B:Prop}(a:c->A)(b:¬c->B):if decide c=true then A else B:=by
 by_cases h:c
 .exact ifP h (a h)
 .exact ifN h (b h)
def ifB{b:Bool}{A B:Prop}(a:b=true->A)(c:b=false->B):if b=true then A else B:=by
 cases b with
 | true=>rw[if_pos rfl];exact a rfl
 | false=>rw[if_neg hY];exact c rfl
def bp:px "len" = some (.builtin "len"):=by decide +kernel
def dZ:px "isinstance" = some (.builtin "isinstance"):=by decide +kernel
def BD:px "all" = some (.builtin "all"):=by decide +kernel
def kC:px "min" = some (.builtin "min"):=by decide +kernel
def ot:px "enumerate" = some (.type "enumerate"):=by decide +kernel
def ku:px "range" = some (.type "range"):=by decide +kernel
def By:px "str" = some (.type "str"):=by decide +kernel
def BO:px "int" = some (.type "int"):=by decide +kernel
def zg:px "bool" = some (.type "bool"):=by decide +kernel
def dJ:px "list" = some (.type "list"):=by decide +kernel
def wy:px "tuple" = some (.type "tuple"):=by decide +kernel
def iK{X:Cx}{x:Str}{v:V}{a:Pos}(b:Gl X x)(h:∃ u,X.mg x=some u/\RelV v u)(c:(x == ("__debug__" : Str))=false:=by decide):PE X (.Name x a) (tC v) :=
 let ⟨_,e,r⟩:=h
 yQ b e r c
def Ew(K:Frag)(tl:TE):TI:=λσ H R=>tl σ H λx H1=>match x with
 | .str z=>R (Its z) H1
 | .ref a=>((∃ xs,SqL K H1 a xs)/\R (Itl K a) H1)\/((∃ xs,SqT K H1 a xs)/\R (Itt K a) H1)
 | _=>False
def a6{X:Cx}{tg l:Expr}{tl:TE}(u:PE X l tl):PI X tg l (Ew X.K tl):=by
 intro g s w H R I h;have y:PE X l tl:=u;refine thn (u g s w H _ I h) λv c ⟨x,i,d,r,k⟩=>?_
 cases x with
 | str z =>
  have:=BQ (X:=X) (tg:=tg) (l:=l) (tl:=tC (.str z));obtain⟨t,rfl⟩:=r;refine La ?_;refine⟨c.heap.objs.size,[c.heap.objs.size],_,_,i,rfl,d.kept (t':=c.toks) λb o e=>c_ _ e,qt (ty:=IF z) (t:=t) z _ ?_,⟨_,ie _ rfl,rfl,rfl⟩,λb hb=>?_,k⟩
  .unfold IF
   split
   .exact .inl rfl
   .exact .inr rfl
  .have e:b=c.heap.objs.size:=by simpa using hb
   subst e;exact d.fpOk (fS _) (d.hok.fresh (fS _))
 | ref a =>
  cases r
  rcases k with⟨⟨B,j⟩,q⟩ | ⟨⟨B,j⟩,q⟩
  .obtain⟨f,A,p,C⟩:=d.list j
   refine HW p.isList ?_;refine⟨c.heap.objs.size,[c.heap.objs.size],_,_,i,rfl,d.kept (t':=c.toks) λb o e=>c_ _ e,uR a _,⟨_,ie _ rfl,rfl,rfl⟩,λb hb=>?_,q⟩;have e:b=c.heap.objs.size:=by simpa using hb
   subst e;exact d.fpOk (fS _) (d.hok.fresh (fS _))
  .obtain⟨f,A,p,C⟩:=d.tuple j
   refine wpAny_pyIter_tuple (show c.heap.IsTuple a f.toArray from p) ?_;refine⟨c.heap.objs.size,[c.heap.objs.size],_,_,i,rfl,d.kept (t':=c.toks) λb o e=>c_ _ e,rh a _,⟨_,ie _ rfl,rfl,rfl⟩,λb hb=>?_,q⟩;have e:b=c.heap.objs.size:=by simpa using hb
   subst e;exact d.fpOk (fS _) (d.hok.fresh (fS _))
 | _=>exact(show False from k).elim
inductive rLenSq(K:Frag)(p:Addr)(H:Hp)(Q:VK):Prop
 | mk(ys:List V)(h0:SqL K H p ys\/SqT K H p ys)(h1:Q (.int ys.length) H):rLenSq K p H Q
def aC{X:Cx}:CallR X (.builtin "len") (λxs H Q=>match xs with
  | [.str z]=>z.length<=sizeLine/\Q (.int z.length) H
  | [.ref p]=>rLenSq X.K p H Q
  | _=>False):=(call_len_str.or ow).imp λxs H Q q=>by
 match xs,q with
 | [.str z],q=>exact .inl ⟨z,rfl,q.1,q.2⟩
 | [.ref p],q=>obtain⟨a,h,q⟩:=q;exact .inr ⟨p,a,rfl,h,q⟩
section
variable {D:Addr}{σb:St}{g:TG}{tt:TT}{te:TE}{Q:Hp->List V->Prop}{H:Hp}{K:Frag}
def sw(D:Addr)(σb:St)(g:TG)(tt:TT)(te:TE)(x:V)(ys:List V)(H:Hp)(P:List V->Hp->Prop):Prop :=
 g x σb H λσ4 H4=>Wk σb σ4/\tt σ4 H4 λb H5=>if b=true then te σ4 H5 λy H6=>H6 D=some (.lst ys)/\ys.length<sizeLine/\P (ys++[y]) (upd H6 D (.lst (ys++[y]))) else P ys H5
def xy{z:Str}(d:Nat->List V->Hp->Prop)(h:d 0 [] H)(k:∀ i ys H,d i ys H->H D=some (.lst ys))
  (j:∀(i c:Nat) ys H P,z.cps[i]? = some c->d i ys H->(∀ a b,d (i+1) a b->P a b)->sw D σb g tt te (.str ⟨#[c]⟩) ys H P) (f:∀ ys H,d z.cps.size ys H->Q H ys):∃ W,(∃ m,W 0 m [] H)/\lF (Its z) D σb g tt te Q W:=by
 refine⟨λi m ys H=>m=z.cps.size - i/\i<=z.cps.size/\d i ys H,⟨_,rfl,h_ _,h⟩,?_⟩;rintro i m ys H ⟨rfl,s,p⟩;refine⟨k i ys H p,?_⟩
 by_cases hlt:i<z.cps.size
 .refine .inr ⟨hlt,λx r y=>?_⟩
  obtain⟨rfl,c,o,rfl⟩:=y;exact j i c ys _ (λa b=>∃ m',m'<z.cps.size - i/\m'=z.cps.size - (i+1)/\i+1<=z.cps.size/\d (i+1) a b) o p (λa b q=>⟨z.cps.size - (i+1),by lia,rfl,hlt,q⟩)
 .have e:i=z.cps.size:=by lia
  subst e;exact .inl ⟨fS _,f ys H p⟩
def a8{a:Addr}{xs:List V}(c:Nat->List V->Hp->Prop)(f:c 0 [] H)(j:∀ i ys H,c i ys H->SqL K H a xs)(k:∀ i ys H,c i ys H->H D=some (.lst ys))
  (h:∀(i:Nat) x ys H P,xs[i]? = some x->c i ys H->(∀ a b,c (i+1) a b->P a b)->sw D σb g tt te x ys H P) (d:∀ ys H,c xs.length ys H->Q H ys):∃ W,(∃ m,W 0 m [] H)/\lF (Itl K a) D σb g tt te Q W:=by
 refine⟨λi m ys H=>m=xs.length - i/\i<=xs.length/\c i ys H,⟨_,rfl,h_ _,f⟩,?_⟩;rintro i m ys H ⟨rfl,r,p⟩;refine⟨k i ys H p,?_⟩;have q:=j i ys H p
 by_cases hlt:i<xs.length
 .refine .inr ⟨⟨xs,xs[i],q,by simp[hlt]⟩,λx o y=>?_⟩
  obtain⟨rfl,y⟩:=y;exact h i x ys _ (λa b=>∃ m',m'<xs.length - i/\m'=xs.length - (i+1)/\i+1<=xs.length/\c (i+1) a b) (y xs q) p (λa b q=>⟨xs.length - (i+1),by lia,rfl,hlt,q⟩)
 .have e:i=xs.length:=by lia
  subst e;exact .inl ⟨⟨xs,q,fS _⟩,d ys H p⟩
def fg{a:Addr}{xs:List V}(c:Nat->List V->Hp->Prop)(f:c 0 [] H)(j:∀ i ys H,c i ys H->SqT K H a xs)(k:∀ i ys H,c i ys H->H D=some (.lst ys))
  (h:∀(i:Nat) x ys H P,xs[i]? = some x->c i ys H->(∀ a b,c (i+1) a b->P a b)->sw D σb g tt te x ys H P) (d:∀ ys H,c xs.length ys H->Q H ys):∃ W,(∃ m,W 0 m [] H)/\lF (Itt K a) D σb g tt te Q W:=by
 refine⟨λi m ys H=>m=xs.length - i/\i<=xs.length/\c i ys H,⟨_,rfl,h_ _,f⟩,?_⟩;rintro i m ys H ⟨rfl,r,p⟩;refine⟨k i ys H p,?_⟩;have q:=j i ys H p
 by_cases hlt:i<xs.length
 .refine .inr ⟨⟨xs,xs[i],q,by simp[hlt]⟩,λx o y=>?_⟩
  obtain⟨rfl,y⟩:=y;exact h i x ys _ (λa b=>∃ m',m'<xs.length - i/\m'=xs.length - (i+1)/\i+1<=xs.length/\c (i+1) a b) (y xs q) p (λa b q=>⟨xs.length - (i+1),by lia,rfl,hlt,q⟩)
 .have e:i=xs.length:=by lia
  subst e;exact .inl ⟨⟨xs,q,fS _⟩,d ys H p⟩
def d6{lo:Int}{n:Nat}(c:Nat->List V->Hp->Prop)(f:c 0 [] H)(j:∀ i ys H,c i ys H->H D=some (.lst ys))
  (h:∀(i:Nat) ys H P,i<n->c i ys H->(∀ a b,c (i+1) a b->P a b)->sw D σb g tt te (.int (lo+i)) ys H P) (d:∀ ys H,c n ys H->Q H ys):∃ W,(∃ m,W 0 m [] H)/\lF (Itr lo n) D σb g tt te Q W:=by
 refine⟨λi m ys H=>m=n - i/\i<=n/\c i ys H,⟨_,rfl,h_ _,f⟩,?_⟩;rintro i m ys H ⟨rfl,o,p⟩;refine⟨j i ys H p,?_⟩
 by_cases hlt:i<n
 .refine .inr ⟨hlt,λx k y=>?_⟩
  obtain⟨rfl,rfl⟩:=y;exact h i ys _ (λa b=>∃ m',m'<n - i/\m'=n - (i+1)/\i+1<=n/\c (i+1) a b) hlt p (λa b q=>⟨n - (i+1),by lia,rfl,hlt,q⟩)
 .have e:i=n:=by lia
  subst e;exact .inl ⟨fS _,d ys H p⟩
end
def Same.new{H:Hp}{p:Addr}{o:HO}(h:H p=none):Same H (upd H p o):=λb u e=>by rw[ae (ai e h)];exact e
def Same.sqT{K:Frag}{H H':Hp}{a:Addr}{xs:List V}(e:Same H H')(h:SqT K H a xs):SqT K H' a xs:=by
 rcases h with(h | ⟨o,h⟩) | h
 .exact .inl (.inl (e _ _ h))
 .exact .inl (.inr ⟨o,e _ _ h⟩)
 .exact .inr h
mutual
def DV(K:Frag)(H:Hp):EW->V->Prop
 | .none,x=>x=.non
 | .bool b,x=>x=.bl b
 | .int i,x=>x=.int i
 | .str z,x=>x=.str z
 | .list ds,x=>∃ a xs,x=.ref a/\SqL K H a xs/\DVs K H ds xs
 | .tuple ds,x=>∃ a xs,x=.ref a/\SqT K H a xs/\DVs K H ds xs
 | .dict _,_=>False
def DVs(K:Frag)(H:Hp):List EW->List V->Prop
 | [],xs=>xs=[]
 | d::ds,xs=>∃ y ys,xs=y::ys/\DV K H d y/\DVs K H ds ys
end
section
variable {X:Cx}{pins:List (Addr×Obj)}{σ:St}{H:Hp}{s:e_}
mutual
def DV.reads(I:Inv X pins σ H s):∀{d:EW}{x:V}{u:b_},DV X.K H d x->RelV x u->∃ as,Reads s.heap u d as
 | .none,x,u,h,r=>by
  rw[DV]at h;subst h;cases r;exact⟨_,.none⟩
 | .bool b,x,u,h,r=>by
  rw[DV]at h;subst h;cases r;exact⟨_,.bool b⟩
 | .int i,x,u,h,r=>by
  rw[DV]at h;subst h;obtain⟨t,rfl⟩:=r;exact⟨_,.int i t⟩
 | .str z,x,u,h,r=>by
  rw[DV]at h;subst h;obtain⟨t,rfl⟩:=r;exact⟨_,.str z t⟩
 | .list ds,x,u,h,r=>by
  rw[DV]at h;obtain⟨a,p,rfl,j,f⟩:=h;cases r;obtain⟨g,k,⟨o,n,e,c,_,d⟩,_⟩:=I.list j;obtain⟨as,q⟩:=DVs.reads I f k;exact⟨_,.list e c d (by simpa using q)⟩
 | .tuple ds,x,u,h,r=>by
  rw[DV]at h;obtain⟨a,p,rfl,j,f⟩:=h;cases r;obtain⟨g,k,⟨o,e,c,n,d⟩,_⟩:=I.tuple j;obtain⟨as,q⟩:=DVs.reads I f k;exact⟨_,.tuple e c d (by simpa using q)⟩
 | .dict _,x,u,h,r=>by rw[DV]at h;exact h.elim
def DVs.reads(I:Inv X pins σ H s):∀{ds:List EW}{xs:List V}{us:List b_},DVs X.K H ds xs->Vals xs us->∃ as,ReadsAll s.heap us ds as
 | [],xs,us,h,r=>by
  rw[DVs]at h;subst h;cases r;exact⟨_,.nil⟩
 | d::ds,xs,us,h,r=>by
  rw[DVs]at h;obtain⟨y,f,rfl,b,a⟩:=h;cases r with
  | cons r rs =>
   obtain⟨as,q⟩:=DV.reads I b r;obtain⟨c,p⟩:=DVs.reads I a rs;exact⟨_,.cons q p⟩
end
end
inductive rEqD(K:Frag)(neg:Bool)(x y:V)(H:Hp)(Q:VK):Prop
 | mk(d e:EW)(h0:DV K H d x)(h1:DV K H e y)(h2:G9 d=true)(h3:G9 e=true)(h4:Q (.bl (if neg then !FF d e else FF d e)) H):rEqD K neg x y H Q
def Aj{X:Cx}(f:X.A.units+64<FR):OpR X (re .NotEq) (rEqD X.K true):=by
 intro a s r H x y v u Q I b k h;obtain⟨d,e,o,g,i,c,q⟩:=h;obtain⟨w,p⟩:=o.reads I b;obtain⟨z,j⟩:=g.reads I k;exact ne_dataH p j i c f ⟨.bl _,H,I,rfl,q⟩
def yX(z:Str)(lo hi:Option Int):Str:=⟨((z.cps.toList.drop (HT.sIx z.cps.size 0 lo)).take (HT.sIx z.cps.size z.cps.size hi - HT.sIx z.cps.size 0 lo)).toArray⟩
def Ab(n d:Nat)(v:Option Int):(match v with | none=>(d:Int) | some i=>max 0 (min (if i<0 then i+(n:Int) else i) (n:Int)))=((HT.sIx n d v:Nat):Int):=by
 cases v with
 | none=>rfl
 | some i =>
  show max 0 (min (if i<0 then i+(n:Int) else i) (n:Int))=(((if i<0 then (i+(n:Int)).toNat else min i.toNat n):Nat):Int)
  split <;> lia
def wC(lo a:Option Int)(n:Nat):wk lo a 1 n=(lj (HT.sIx n n a - HT.sIx n 0 lo)).map (HT.sIx n 0 lo + ·):=by
 have e:wk lo a 1 n=sliceRange ((HT.sIx n 0 lo:Nat):Int) ((HT.sIx n n a:Nat):Int) 1:=by
  rw[<- Ab n 0 lo,<- Ab n n a];unfold wk;simp only[show(1:Int) > 0 by decide,if_true]
  cases lo <;> cases a <;> rfl
 rw[e,LP]
def u8(z:Str)(lo a:Option Int):Km z lo a=yX z lo a:=by
 have e:((wk lo a 1 z.length).filterMap (z.cps[·]?))=(z.cps.toList.drop (HT.sIx z.cps.size 0 lo)).take (HT.sIx z.cps.size z.cps.size a - HT.sIx z.cps.size 0 lo):=by
  rw[wC];exact LO z.cps _ _
 unfold Km
 split
 .rename_i h
  have c:(wk lo a 1 z.length).length=z.cps.size:=by
   rw[il]at h;exact eq_of_beq h.2
  rw[wC,d_,A6]at c;have g:=HT.sIx_le z.cps.size z.cps.size (fS _) a;have b:HT.sIx z.cps.size z.cps.size a - HT.sIx z.cps.size 0 lo=z.cps.size:=c;unfold yX
  by_cases h0:z.cps.size=0
  .refine ext_toList ?_
   have f:z.cps.toList=[]:=F9.mp (by simpa using h0);show z.cps.toList=_;rw[f];simp
  .have d:HT.sIx z.cps.size 0 lo=0:=by lia
   rw[b,d,Ls,rb (by simp)]
 .rw[e]
  rfl
section
variable {X:Cx}
def DM:V->Option Int->Option Int->Hp->VK->Prop:=λx lo hi H Q=>∃ z,x=.str z/\z.length<=sizeLine/\Q (.str (yX z lo hi)) H
def AD:SlR X DM:=by
 intro b s y H x v A C p w B Q I o c r g h;obtain⟨z,rfl,d,q⟩:=h;obtain⟨t,rfl⟩:=o;refine⟨"str",_,F.slot_str_getitem.lookup,GL _ _ _,?_⟩;rw[<- u8]at q
 have a:∀ f k,EP X b y Q (.str (Km z p w) f) { s with toks:=k }:=λf k=>⟨.str _,H,I.tok _,⟨_,rfl⟩,q⟩
 cases r with
 | none =>
  cases g with
  | none=>exact Fo (l:=none) (u:=none) (st:=none) c rfl (GU ⟨lB (Hn z _ _) d,a⟩)
  | int j uj=>exact Fo (l:=none) (u:=some (j,uj)) (st:=none) c rfl (GU ⟨lB (Hn z _ _) d,a⟩)
 | int i ui =>
  cases g with
  | none=>exact Fo (l:=some (i,ui)) (u:=none) (st:=none) c rfl (GU ⟨lB (Hn z _ _) d,a⟩)
  | int j uj=>exact Fo (l:=some (i,ui)) (u:=some (j,uj)) (st:=none) c rfl (GU ⟨lB (Hn z _ _) d,a⟩)
def SlR.imp{r b:V->Option Int->Option Int->Hp->VK->Prop}(h:SlR X r)(i:∀ x lo hi H Q,b x lo hi H Q->r x lo hi H Q):SlR X b :=
 λa s j H x v f o lo hi g Q I c p d k q=>h a s j H x v f o lo hi g Q I c p d k (i x lo hi H Q q)
def vz:SlR X (λx lo hi H Q=>match x with
  | .str z=>z.length<=sizeLine/\Q (.str (yX z lo hi)) H
  | .ref a=>(∃ xs,SqL X.K H a xs/\∀ p,H p=none->Q (.ref p) (upd H p (.lst (b8 xs lo hi)))) \/
    ∃ xs,SqT X.K H a xs/\¬(HT.sIx xs.length 0 lo=0/\HT.sIx xs.length xs.length hi=xs.length)/\∀ p,H p=none->Q (.ref p) (upd H p (.tup (b8 xs lo hi)))
  | _=>False):=(sl_list.or (sl_tup.or AD)).imp λx lo hi H Q q=>by
 cases x with
 | str z=>exact .inr (.inr ⟨z,rfl,q.1,q.2⟩)
 | ref a =>
  rcases q with⟨xs,b,c⟩ | ⟨xs,b,c,d⟩
  .exact .inl ⟨a,xs,rfl,b,c⟩
  .exact .inr (.inl ⟨a,xs,rfl,b,c,d⟩)
 | _=>exact(show False from q).elim
variable {o:Expr}{t:TA}
end
section
variable {X:Cx}{st:Stmt}{rest:List Stmt}{t u:TS}
def CC(t u:TS):TS:=λD σ H=>∃ M:St->Hp->Prop,t { D with nx:=M } σ H/\∀ σ' H',M σ' H'->u D σ' H'
def uE(k:PS X st t)(d:PSs X rest u):PSs X (st::rest) (CC t u):=by
 intro a s j H D I h;obtain⟨M,h,g⟩:=h;refine B0 (thn (k a s j H { D with nx:=M } I h) λf i q=>?_);cases f with
 | next =>
  obtain⟨b,c,o,q⟩:=q;exact d a i b c D o (g _ _ q)
 | ret v=>exact q
 | brk=>exact q
 | cont=>exact q
end
end L2
namespace L2
abbrev PvS:=Nat->St->Hp->Prop
abbrev PvL:=Nat->List V->Hp->Prop
def jt{a b:TS}{D:Ends}{c:St}{H:Hp}:(let B2:TS:=b;az a B2 D c H)->az a b D c H:=λh=>h
def jf{d a b:TS}{D:Ends}{c:St}{H:Hp}:(let B3:TS:=b;let B2:TS:=az a B3;az d B2 D c H)->az d (az a b) D c H:=λh=>h
def mn{a c d f:TS}{D:Ends}{b:St}{H:Hp}:(let B4:TS:=f;let B3:TS:=az d B4;let B2:TS:=az c B3;az a B2 D b H)->az a (az c (az d f)) D b H:=λh=>h
def wZ{b d f g a:TS}{D:Ends}{c:St}{H:Hp}:(let B5:TS:=a;let B4:TS:=az g B5;let B3:TS:=az f B4;let B2:TS:=az d B3;az b B2 D c H)->az b (az d (az f (az g a))) D c H:=λh=>h
def Dx{b d f i a g:TS}{D:Ends}{c:St}{H:Hp}:(let B6:TS:=g;let B5:TS:=az a B6;let B4:TS:=az i B5;let B3:TS:=az f B4;let B2:TS:=az d B3;az b B2 D c H)->az b (az d (az f (az i (az a g)))) D c H:=λh=>h
def Dw{c f g j b i a:TS}{D:Ends}{d:St}{H:Hp}:(let B7:TS:=a;let B6:TS:=az i B7;let B5:TS:=az b B6;let B4:TS:=az j B5;let B3:TS:=az g B4;let B2:TS:=az f B3;az c B2 D d H)->az c (az f (az g (az j (az b (az i a))))) D d H:=λh=>h
def BW{d g i k b j a c:TS}{D:Ends}{f:St}{H:Hp}:(let B8:TS:=c;let B7:TS:=az a B8;let B6:TS:=az j B7;let B5:TS:=az b B6;let B4:TS:=az k B5;let B3:TS:=az i B4;let B2:TS:=az g B3;az d B2 D f H)->az d (az g (az i (az k (az b (az j (az a c)))))) D f H:=λh=>h
def Bi{k q r g i s f j o c b a d:TS}{D:Ends}{p:St}{H:Hp}:(let B13:TS:=d;let B12:TS:=az a B13;let B11:TS:=az b B12;let B10:TS:=az c B11;let B9:TS:=az o B10;let B8:TS:=az j B9;let B7:TS:=az f B8;let B6:TS:=az s B7;let B5:TS:=az i B6;let B4:TS:=az g B5;let B3:TS:=az r B4;let B2:TS:=az q B3;az k B2 D p H)->az k (az q (az r (az g (az i (az s (az f (az j (az o (az c (az b (az a d))))))))))) D p H:=λh=>h
end L2
namespace L2
open PySem PySem.Spec PyProof.Rows
section
variable {X:Cx}{pins:List (Addr×Obj)}{σ:St}{H:Hp}{s:e_}{h':Heap}
def Inv.turnedNew{t':Nat}{ch:List Addr}{a:Addr}{o:HO}(I:Inv X pins σ H s)(k:∀ b u,b ∉ ch->s.heap.get? b=some u->h'.get? b=some u)(w:∀ b∈ch,gX X pins H b)
  (y:s.heap.objs.size<=a) (p:ObjOk X.prog X.w (upd H a o) h' a o):Inv X pins σ (upd H a o) { s with heap:=h',toks:=t' }:=by
 have i:H a=none:=I.hok.fresh y
 have g:∀ b u,H b=some u->b ∉ ch:=λb u e z=>by
  rw[(w b z).1]at e;cases e
 have d:∀ b u,H b=some u->b≠a:=λb u e z=>by
  rw[z,i]at e;cases e
 have j:∀ b u,s.heap.get? b=some u->b≠a:=λb u e=>kw (g_ (f_ e) y)
 refine I.step (g':=s.gens) (d':=s.drawn) (ch:=ch) (λb h=>?_) (λb u _ _ f e _=>k b u f e) (λb u _ _ f e _=>⟨u.slots,k b u f e⟩) (λb u _ e n=>?_) (λb u f e=>⟨u,k b u f e⟩)
  (λb D e=>?_) (λb u v e=>?_) (λb ps e=>⟨#[],?_⟩) (λm hm=>?_) (λb u e=>?_) I.bare
 .obtain⟨_,J,_,B,F,G⟩:=w b h
  exact⟨B,J,F,G⟩
 .rw[ae (j b u e)];exact n
 .rw[ae (d b _ e)];exact e
 .rw[ae (d b _ e)];exact e
 .rw[ae (d b _ e),e];simp
 .obtain⟨x,E,C,A,r⟩:=hm
  exact⟨x,E,C,k _ x (λz=>(w _ z).2.1 rfl) A,r⟩
 .by_cases h:b=a
  .subst h
   rw[ac]at e;cases e;exact p
  .rw[ae h]at e
   refine(I.hok b u e).stay (λc v f q=>k c v ?_ q) (λc q=>?_) λc D q=>?_
   .rcases f with z | z
    .rw[z];exact g b u e
    .exact g c _ z
   .rw[ae (d c _ q)];exact q
   .rw[ae (d c _ q)];exact q
def Inv.turnedN{t':Nat}{ch:List Addr}(I:Inv X pins σ H s)(k:∀ b u,b ∉ ch->s.heap.get? b=some u->h'.get? b=some u)(f:∀ b∈ch,gX X pins H b):Inv X pins σ H { s with heap:=h',toks:=t' }:=by
 have d:∀ b u,H b=some u->b ∉ ch:=λb u e z=>by
  rw[(f b z).1]at e;cases e
 refine I.step (g':=s.gens) (d':=s.drawn) (ch:=ch) (λb o=>?_) (λb u _ _ a e _=>k b u a e) (λb u _ _ a e _=>⟨u.slots,k b u a e⟩) (λb u _ e n=>n) (λb u a e=>⟨u,k b u a e⟩)
  (λb p e=>e) (λb u v e=>e) (λb ps e=>⟨#[],by rw[e];simp⟩) (λm hm=>?_) (λb u e=>?_) I.bare
 .obtain⟨_,y,_,i,x,A⟩:=f b o
  exact⟨i,y,x,A⟩
 .obtain⟨g,w,j,h,r⟩:=hm
  exact⟨g,w,j,k _ g (λz=>(f _ z).2.1 rfl) h,r⟩
 .refine(I.hok b u e).stay (λc v a q=>k c v ?_ q) (λc q=>q) λc p q=>q
  rcases a with z | z
  .rw[z];exact d b u e
  .exact d c _ z
end
def Ite(a:Addr):It:=⟨λi H=>∃ xs x,H a=some (.lst xs)/\xs[i]? = some x,
 λi H x H'=>∃ p y,H p=none/\x=.ref p/\(∀ xs,H a=some (.lst xs)->xs[i]? = some y)/\H'=upd H p (.tup [.int (i:Nat),y]),λi H=>∃ xs,H a=some (.lst xs)/\xs.length<=i⟩
def uK{P:hH}{w:lA}{K:Frag}{es:List Expr}{k:Nat}{O:Pos}(a e c:Addr)(A:e≠c) :
  Turn P w K (.Tuple es k O) (Ite a) [e,c] e (λi h=>(∃ old,IsEnum h e c i old)/\h.IsListIter c a i) where
 mem:=by simp
 obj:=λi h f b hb=>by
  obtain⟨⟨old,d⟩,o,B,G,h3⟩:=f
  rcases i_.mp hb with rfl | hb
  .exact⟨_,d,λv z=>by cases z⟩
  .rw[ir.mp hb]
   exact⟨o,B,λv z=>by rw[h3]at z;cases z⟩
 keep:=λi h h' f kp=>by
  obtain⟨⟨old,d⟩,o,B,r⟩:=f;exact⟨⟨old,kp e (by simp) _ d⟩,o,kp c (by simp) o B,r⟩
 item:=by
  intro X T S hK hc i j s σ H E I L f hg;subst T S hK;obtain⟨⟨old,d⟩,g⟩:=f;obtain⟨xs,x,F,Q⟩:=hg;obtain⟨z,y,n,r,C,Y⟩:=I.lstM F;obtain⟨u,hu,ru⟩:=Vals.get r Q
  have p:s.heap.IsList a y.toArray:=⟨_,Y,rfl,_,rfl⟩
  refine wpAny_pyNext_enum_item d g p (x:=u) (by simpa using hu) A λB e1 e2 e3 e4 e5=>?_
  refine⟨_,rfl,wpAny_letOwnedTupleGo_enum e1 λG e6 sb=>?_⟩;have D:s.heap.objs.size≠e:=λq=>absurd (f_ d) (by rw[<- q];exact o5 _)
  have M:s.heap.objs.size≠c:=λq=>by
   obtain⟨o,N,_⟩:=g;exact absurd (f_ N) (by rw[<- q];exact o5 _)
  have hn:H s.heap.objs.size=none:=I.hok.fresh (fS _);have Z:G.get? s.heap.objs.size=some { cls:=.type "tuple",data:=.seq #[.int i s.toks,u] }:=(sb.2 _ D).trans e3
  have J:Inv X j σ (upd H s.heap.objs.size (.tup [.int (i:Nat),x])) { s with heap:=G,toks:=s.toks+1 }:=by
   refine I.turnedNew (ch:=[e,c]) (λb o hb q=>?_) L (fS _) ⟨by rw[j_];show 2<=16777216;decide,[.int i s.toks,u],.cons ⟨_,rfl⟩ (.cons ru .nil),_,Z,rfl,0,rfl⟩;have b1:b≠e:=λz=>hb (by simp[z])
   have b2:b≠c:=λz=>hb (by simp[z])
   exact(sb.2 b b1).trans (e5 b o b1 b2 q)
  refine⟨.ref s.heap.objs.size,_,J,rfl,⟨s.heap.objs.size,x,hn,rfl,λys hy=>?_,rfl⟩,⟨⟨u,?_⟩,?_⟩,λb hb=>?_⟩
  .rw[F]at hy
   cases hy;exact Q
  .have W:IsEnum G e c ((i:Int)+1) u:=e6
   have e7:((i+1:Nat):Int)=(i:Int)+1:=by lia
   rw[e7];exact W
  .obtain⟨o,N,r⟩:=e2
   exact⟨o,(sb.2 c (A_ A)).trans N,r⟩
  .have R:b≠s.heap.objs.size:=by
    rcases i_.mp hb with rfl | hb
    .exact D.symm
    .rw[ir.mp hb];exact M.symm
   rw[ae R];exact(L b hb).1
 done:=by
  intro X T S hK hc i j s σ H E I L f hg;subst T S hK;obtain⟨⟨old,d⟩,g⟩:=f;obtain⟨xs,F,Q⟩:=hg;obtain⟨z,y,n,r,C,Y⟩:=I.lstM F
  have p:s.heap.IsList a y.toArray:=⟨_,Y,rfl,_,rfl⟩
  refine wpAny_pyNext_enum_end (I.ok.hd hc) d g p (by simp;lia) λB eb=>⟨rfl,I.turnedN (ch:=[e,c]) (t':=s.toks) (λb o hb q=>eb b o (λz=>hb (by simp[z])) q) L⟩
 self:=λ_ _ _ _ _ f h=>by
  obtain⟨⟨old,d⟩,_⟩:=f;exact Lg d h
def CZ(ta:TA):TI:=λσ H R=>ta σ H λvs H1=>∃ a xs,vs=[.ref a]/\H1 a=some (.lst xs)/\R (Ite a) H1
def tP{X:Cx}{F:List Expr}{k:Nat}{i:Pos}{e:Expr}{A:TA}{p f:Pos}(P:Gl X "enumerate")(L:X.mg "enumerate" = none)(B:PA X [e] A)(E:lg [e] X.env=[(false,eval e X.env)]:=by rfl) :
  PI X (.Tuple F k i) (.Call (.Name "enumerate" p) [e] [] f) (CZ A):=by
 intro c s x H R I h;refine ql (iN I P L ot ?_ (by decide) (by decide));refine EE (thn (B f c s x H _ I h) λT d ⟨Y,w,o,G,a,S,j,C,q⟩=>?_) E rfl;subst j;obtain⟨u,rfl,D⟩:=dW G;cases D;obtain⟨z,N,n,r,y,J⟩:=o.lstM C;refine call_enumerate_1 (n:=n) J λO j M W K=>?_
 have Q:Inv X c x w { d with heap:=O }:=o.kept (t':=d.toks) K;have v:d.heap.objs.size+1≠d.heap.objs.size:=Nat.succ_ne_self _;refine Lg j ?_;refine⟨d.heap.objs.size+1,[d.heap.objs.size+1,d.heap.objs.size],_,_,w,rfl,Q,uK a _ _ v,⟨⟨_,j⟩,M⟩,λb hb=>?_,q⟩
 have g:d.heap.objs.size<=b:=by
  rcases i_.mp hb with rfl | hb
  .lia
  .rw[ir.mp hb]
   exact fS _
 exact o.fpOk g (o.hok.fresh g)
def oY{a:Addr}{xs:List V}{g:TG}{f:TS}{D:Ends}{c:St}{H:Hp}(d:Nat->St->Hp->Prop)(k:d 0 c H)(u:∀ i c H,d i c H->H a=some (.lst xs))
  (r:∀(i:Nat) x c H p,xs[i]? = some x->d i c H->H p=none->g (.ref p) c (upd H p (.tup [.int (i:Nat),x])) λσ2 H2=>f { D with nx:=d (i+1),ct:=d (i+1),bk:=D.nx } σ2 H2) (h:∀ c H,d xs.length c H->D.nx c H) :
  ∃ W:Nat->Nat->St->Hp->Prop,(∃ m,W 0 m c H)/\∀ i m c H,W i m c H ->
   ((Ite a).stop i H/\D.nx c H)\/((Ite a).go i H/\∃ N:St->Hp->Prop,(∀ σ' H',N σ' H'->∃ m',m'<m/\W (i+1) m' σ' H')/\∀ x H',(Ite a).yld i H x H'->g x c H' λσ2 H2=>f { D with nx:=N,ct:=N,bk:=D.nx } σ2 H2):=by
 refine⟨λi m c H=>m=xs.length - i/\i<=xs.length/\d i c H,⟨_,rfl,h_ _,k⟩,?_⟩;rintro i m c H ⟨rfl,w,p⟩;have q:=u i c H p
 by_cases hlt:i<xs.length
 .refine .inr ⟨⟨xs,xs[i],q,by simp[hlt]⟩,d (i+1),λσ' H' s=>⟨_,by lia,rfl,hlt,s⟩,λx H' y=>?_⟩
  obtain⟨b,v,o,rfl,j,rfl⟩:=y;exact r i v c H b (j xs q) p o
 .have e:i=xs.length:=by lia
  subst e;exact .inl ⟨⟨xs,q,fS _⟩,h c H p⟩
def AA(lo hi:Int):Option Int->Option Int
 | some n=>if lo<=n/\n<=hi then some n else none
 | none=>none
def lU(c:Nat):c∈("abcdefghijklmnopqrstuvwxyz" : Str).cps.toList↔97<=c/\c<=122:=by
 have e:("abcdefghijklmnopqrstuvwxyz" : Str).cps.toList=List.range' 97 26:=by decide +kernel
 rw[e,List.mem_range'_1];omega
section
variable {X:Cx}
open Builtin.Str in
def BS{P:hH}{w:lA}{A:m_}{E:b_->e_->Prop}{s:e_}{x y:Str}{t u:Tok}{Q:b_->e_->Prop}(c:(y.length == 0)=false)(d:x.length<=sizeLine)
  (f:(partsBetween x (occurrences x y 0 x.length (x.length+1)) y.length).length<=sizeLine)
  (h:∀(l:List (Str×Tok)) (k:Nat),l.map (·.1)=IQ x y->Q (.ref s.heap.objs.size) { s with heap:=s.heap.push { cls:=.type "list",data:=.seq (strValues l).toArray },toks:=k }) :
  ig (lh P w) A (call (.builtin "str.split") [.str x t,.str y u]) Q E s:=by
 by_cases h1:(decide (x.length<y.length) || decide (strKind x<strKind y))=true
 .refine Fl HX (GL s x t) HE (Ho _ _) (meets_str_split_cannot_occur x y t u h1) ?_
  exact h [(x,t)] s.toks (by unfold IQ;rw[if_pos h1];rfl)
 .have a:=eq_false_of_ne_true h1
  by_cases h2:(occurrences x y 0 x.length (x.length+1)).isEmpty=true
  .refine Fl HX (GL s x t) HE (Ho _ _) (meets_str_split_not_found x y t u a c h2) ?_
   exact h [(x,t)] s.toks (by unfold IQ;rw[if_neg h1,if_pos h2];rfl)
  .have b:=eq_false_of_ne_true h2
   refine Fl HX (GL s x t) HE (Ho _ _) (meets_str_split_sep x y t u a c b d f) ?_
   have:=h (numbered s.toks (partsBetween x (occurrences x y 0 x.length (x.length+1)) y.length)) (s.toks+(partsBetween x (occurrences x y 0 x.length (x.length+1)) y.length).length)
    ((numbered_texts _ _).trans (by unfold IQ;rw[if_neg h1,if_neg h2]))
   rw[<- strsFrom_eq]at this;exact this
variable {o e:Expr}{es:List Expr}{to:TE}{t:TA}{apos cpos:Pos}
def pe_m.append(f:PE X o to)(h:PA X (e::es) t)(b:EF o "append" X.env (eval o X.env)=eval o X.env:=by rfl)
  (d:((z_ cpos (lg (e::es) X.env)).all (λx=>!x.1) && (G2 cpos (FK [] X.env)).all (λx=>x.1.isSome) && decide ((e::es).length+([]:List Gh).length+(if ([]:List Gh).isEmpty then 0 else 1)<30))=true:=by rfl)
  (c:(apos.endLine == cpos.line)=true:=by rfl) (g:lg (e::es) X.env=(false,eval e X.env)::lg es X.env:=by rfl) (a:(z_ cpos (lg es X.env)).any (·.1)=false:=by rfl) :
  PE X (.Call (.Attribute o "append" apos) (e::es) [] cpos) (tBM X.K "list" rAppend to t):=xH F_ Kj F.type_list_append ng f h b d c g a
def pe_m.pop(c:PE X o to)(b:EF o "pop" X.env (eval o X.env)=eval o X.env:=by rfl)(a:(apos.endLine == cpos.line)=true:=by rfl) :
  PE X (.Call (.Attribute o "pop" apos) [] [] cpos) (Dr X.K "list" Co to):=AS F_ K9 F.type_list_pop BF c b a
end
def TK(H H':Hp):Prop:=∀ b xs,H b=some (.tup xs)->H' b=some (.tup xs)
def TK.trans{H f d:Hp}(a:TK H f)(b:TK f d):TK H d:=λc o h=>b c o (a c o h)
def Same.tk{H H':Hp}(e:Same H H'):TK H H':=λb a h=>e b _ h
def Same.put{H H':Hp}{D:Addr}{o:HO}(e:Same H H')(h:H D=none):Same H (upd H' D o):=λb u q=>by
 rw[ae (ai q h)];exact e b u q
def aJ{a:Type}{xs:List a}{i:Int}{v:a}(k:Nat)(b:(k:Int)=i)(h:xs[k]? = some v):atI xs i=some v:=by rw[<- b];exact iG h
def gq(xs:List V)(k:Nat)(h:k<=xs.length):b8 xs none (some (k:Int))=xs.take k:=by
 unfold b8;rw[HT.sIx_nat,HT.sIx_none,Ls,Nat.sub_zero,Gw h]
def ja(xs:List V)(k:Nat):b8 xs (some (k:Int)) none=xs.drop k:=by
 unfold b8;rw[HT.sIx_nat,HT.sIx_none]
 by_cases h:k<=xs.length
 .rw[Gw h,rb (by simp)]
 .rw[Nat.min_eq_right (by lia),Nat.sub_self,Lu,List.drop_of_length_le (by lia)]
structure U where
 name:Str
 value:Int
 size:Int
 path:List Str
section
variable {X:Cx}{K:Frag}
def gB(h:X.K=K):IxR X (rIx K):=h ▸ wx
def qY(h:X.K=K):CallR X (.builtin "len") (λxs H Q=>match xs with
  | [.str z]=>z.length<=sizeLine/\Q (.int z.length) H
  | [.ref p]=>rLenSq K p H Q
  | _=>False):=h ▸ aC
def q8(h:X.K=K):OpR X (re .In) (rIn K false):=h ▸ mJ
def gh(h:X.K=K){a:List Expr}{k:Nat}{t:TGs}{n:Nat}{b:Pos}(g:X.calm=true)(f:PGs X a t)(d:(EU a X.env).length=n:=by rfl)(c:(EU a X.env).findIdx? (·.1)=none:=by rfl) :
  PG X (.Tuple a k b) (gTup K n t):=h ▸ gZ g f d c
end
structure XCls(K:Frag)(D:Addr):Prop where
 ga:EJ K (.ref D) "__getattribute__" = some (some (.builtin "BaseException.__getattribute__"))
 gn:EJ K (.ref D) "__getattr__" = some none
 cl:EJ K (.ref D) "__class__" = some (some (.builtin "object.__class__"))
 mb:I7 K D (.type "BaseException")=some true
 mo:I7 K D (.type "object")=some true
 isc:(LQ K D).isSome=true
def xY{fs:List Addr}{j H:Hp}{f h d:Heap}(u:Un fs [] j H f h)(k:∀ b o,(∃ o',f.get? b=some o')->b ∉ fs->h.get? b=some o->d.get? b=some o)
  (i:∀ b o,b∈fs->h.get? b=some o->∃ l,d.get? b=some { o with slots:=l }):Un fs [] j H f d where
 keep:=λb o q n a c=>k b o ⟨o,q⟩ a (u.keep b o q n a c)
 slot:=λb o q n a c=>by
  obtain⟨l,e⟩:=u.slot b o q n a c;obtain⟨p,g⟩:=i b _ a e;exact⟨p,g⟩
 free:=u.free
 there:=λb o q c=>by
  obtain⟨o',e⟩:=u.there b o q c
  by_cases a:b∈fs
  .obtain⟨l,g⟩:=i b o' a e
   exact⟨_,g⟩
  .exact⟨o',k b o' ⟨o,q⟩ a e⟩
 tups:=u.tups
 frzs:=u.frzs
 tbls:=u.tbls
def vY{P:hH}{w:lA}{H:Hp}{h c:Heap}(x:HOk P w H h)(k:∀ b o u,H b=some u->h.get? b=some o->c.get? b=some o):HOk P w H c:=λa o e =>
 (x a o e).stay (λb u d q=>by
  rcases d with z | z
  .rw[z]at q ⊢
   exact k a u o e q
  .exact k b u _ z q) (λ_ q=>q) λ_ _ q=>q
def ObjOk.isObj{P:hH}{w:lA}{H:Hp}{h:Heap}{a:Addr}{o:HO}(x:ObjOk P w H h a o):∃ u,h.get? a=some u:=by
 cases o with
 | lst xs=>obtain⟨_,_,_,_,e⟩:=x;exact⟨_,e⟩
 | tup xs=>obtain⟨_,_,_,_,e,_⟩:=x;exact⟨_,e⟩
 | dK kvs=>obtain⟨_,_,_,_,o,_,_,e,_⟩:=x;exact⟨_,e⟩
 | dT kvs=>obtain⟨_,_,_,_,o,_,_,e,_⟩:=x;exact⟨_,e⟩
 | set S n=>obtain⟨o,_,_,_,e,_⟩:=x;exact⟨_,e⟩
 | ins C dx fs=>obtain⟨_,_,_,e,_⟩:=x;exact⟨_,e⟩
 | own y=>exact x
 | xd fs=>obtain⟨_,⟨_,_,_,e,_⟩,_⟩:=x;exact⟨_,e⟩
 | rng lo hi=>obtain⟨_,_,_,e⟩:=x;exact⟨_,e⟩
 | frz ob u=>exact⟨_,x.1⟩
 | tbl ps=>exact⟨_,x⟩
 | met f y=>exact⟨_,x⟩
 | ext φ=>exact x.2.1
section
variable {X:Cx}{pins:List (Addr×Obj)}{σ:St}{H':Hp}{s':e_}
def yD(J:Inv X pins σ H' s'){b:Addr}(h:∃ o',X.s₀.heap.get? b=some o')(d:b ∉ frs X.outer):b ∉ frs X.stack:=λc=>by
 obtain⟨o',e⟩:=h
 rcases i_.mp (J.stkSub b c) with z | z
 .have a:=f_ e
  have f:=J.ok.above;rw[z]at a;exact absurd (g_ a f) (o5 _)
 .exact d z
def xT(J:Inv X pins σ H' s'){b:Addr}{u:HO}(e:H' b=some u):b ∉ frs X.stack:=λa=>by
 rw[J.stkFree b a]at e;cases e
end
structure XHd(K:Frag)(C:Addr):Prop where
 isc:(LQ K C).isSome=true
 ty:LL K (.ref C)=some (.type "type")
 mb:I7 K C (.type "BaseException")=some true
section
variable {prog:hH}{w:lA}{A:m_}{E:b_->e_->Prop}{h:Heap}{g:Array Kb}{d:Drawn}{t:Nat}{os:OsState}{a D dx:Addr}{o:Obj}{vs:Array b_}{cd:ClassData}{K:Frag}{name:Str}{mA:Str->Option b_}{v:b_}
abbrev bmV:List b_:=[.type "ValueError",.type "Exception",.type "BaseException",.type "object"]
def Dh:b_->Bool
 | .ref _=>true
 | _=>false
def mM(l:List b_):Bool:=l.dropWhile Dh == bmV
def pk(a:b_):∀{l:List b_},mM l=true->refuseLoop a "__setattr__" l=pure ()
 | [],e=>by cases e
 | x::r,e=>by
  by_cases hx:Dh x=true
  .have b:mM r=true:=by
    unfold mM at e ⊢;rw[List.dropWhile_cons_of_pos hx]at e;exact e
   cases x <;> first | exact absurd hx hY | (rw[refuseLoop_ref];exact pk a b)
  .unfold mM at e
   rw[List.dropWhile_cons_of_neg hx]at e;rw[beq_iff_eq.mp e];exact PySem.F.store_ValueError.passes a
structure XSet(K:Frag)(D:Addr)(name:Str)(cd:ClassData):Prop where
 k:LQ K D=some cd
 dct:cd.hasDict=true
 mro:mM cd.mro=true
 mo:I7 K D (.type "object")=some true
 sa:EJ K (.ref D) "__setattr__" = some (some (.builtin "object.__setattr__"))
 na:EJ K (.ref D) name=some none
def sW{tk:Tok}{Q:Fin->e_->Prop}(c:XSet K D name cd)(X:K.In h)(f:h.get? a=some o)(k:o.cls=.ref D)
  (i:ig (lh prog w) A (JU a true) (λr s'=>ig (lh prog w) A (match r with | some d'=>E7 d' (.str name tk) name v | none=>Builtin.ObjectAttr.noDictFor (.ref a) (.ref D) name false) Q E s') E ⟨h,g,d,t,os⟩) :
  ig (lh prog w) A (FG.«object.__setattr__» ⟨[.ref a,.str name tk,v],[]⟩) Q E ⟨h,g,d,t,os⟩:=by
 have b:GG (lh prog w) h (JR (.ref a)) (.ref D):=k ▸ (Iu f).andThen .now;have j:GG (lh prog w) h (mroOf (.ref D)) cd.mro:=(IB X c.k).andThen .now;rw[osa_eq,refuse_eq];refine a_ (a_ (b.at (a_ (j.at ?_))));rw[pk _ c.mro];refine fL (a_ (b.at (a_ ((JL X c.na).at ?_))));refine a_ (fL ?_);show ig _ _ (FT (.ref a) (.ref D) (.str name tk) name v false) _ _ _;unfold FT;refine a_ (fL ?_);rw[if_neg (show ¬((lb D == ra "module")=true) from λz=>by cases eq_of_beq z)];exact a_ i
def pF{tk:Tok}{Q:Fin->e_->Prop}{a:Addr}{c:List Str}(j:h.Ns1 a mA)(p:Fv mA c)(hz:c.length<=1000)
  (s:∀ h',h'.Ns1 a (λy=>if y=name then some v else mA y)->EA a h h'->Q (.done (.ret .none)) ⟨h',g,d,t+1,os⟩) :
  ig (lh prog w) A (E7 a (.str name tk) name v) Q E ⟨h,g,d,t,os⟩:=by
 unfold E7 Builtin.ObjectAttr.newKeyGuard;refine a_ (fL (a_ (wpAny_nsSet1 j λr f k=>?_)));obtain⟨z,b,x,o,i,u⟩:=f.count (Im name v p);have q:b.size<=sizeLine:=lB u (by rw[py,j_];lia);refine a_ (Lo o (by rw[i];exact Lp (Nat.le_succ_of_le q)) ?_);exact fL (s r f k)
def vO{tk:Tok}{Q:Fin->e_->Prop}(c:XSet K D name cd)(X:K.In h)(k:h.get? a=some o)(p:o.cls=.ref D)(j:o.data=.fields vs)(q:o.dict=none)
  (x:∀ h',h'.Ns1 h.objs.size (λy=>if y=name then some v else none)->h'.get? a=some { o with dict:=some h.objs.size }->(∀ b u,b≠a->h.get? b=some u->h'.get? b=some u)->Q (.done (.ret .none)) ⟨h',g,d,t+1,os⟩) :
  ig (lh prog w) A (FG.«object.__setattr__» ⟨[.ref a,.str name tk,v],[]⟩) Q E ⟨h,g,d,t,os⟩:=by
 refine sW c X k p ?_;have f:(h.push { cls:=.type "dict",data:=.dict #[] }).get? a=some o:=c_ _ k;have i:a≠h.objs.size:=kw (f_ k);unfold JU;refine a_ (EC k ?_);rw[p];refine a_ ((IB X c.k).at ?_);rw[c.dct,q,j];simp only[GY,pa,if_false];rw[if_neg (by simp[typeHasDict])];refine a_ (wpAny_alloc' (a_ (wpAny_update' f (fL ?_))))
 have s:((h.push { cls:=.type "dict",data:=.dict #[] }).update a λu=>{ u with dict:=some h.objs.size }).get? h.objs.size=some { cls:=.type "dict",data:=.dict #[] } :=
  (GV _ _ _ _ i.symm).trans (Heap.get?_push_at rfl rfl)
 refine pF (IZ ⟨_,#[],_,s,rfl,λu r=>absurd r (by simp),λ_=>rfl⟩) PySem.Within.nil (by simp) λh2 n2 s2=>x h2 n2 ?_ λb u hb e=>?_
 .refine(s2.2 a i).trans (A7 _ f ?_)
  rw[EX (vs:=vs)];exact j
 .exact(s2.2 b (kw (f_ e))).trans ((GV _ _ _ _ hb).trans (c_ _ e))
def xZ{tk:Tok}{Q:Fin->e_->Prop}{b:List Str}(c:XSet K D name cd)(X:K.In h)(f:h.get? a=some o)(i:o.cls=.ref D)(j:o.dict=some dx)(k:h.Ns1 dx mA)(p:Fv mA b)(hz:b.length<=1000)
  (q:∀ h',h'.Ns1 dx (λy=>if y=name then some v else mA y)->EA dx h h'->Q (.done (.ret .none)) ⟨h',g,d,t+1,os⟩) :
  ig (lh prog w) A (FG.«object.__setattr__» ⟨[.ref a,.str name tk,v],[]⟩) Q E ⟨h,g,d,t,os⟩:=by
 refine sW c X f i ?_;unfold JU;refine a_ (EC f ?_);rw[i];refine a_ ((IB X c.k).at ?_);rw[c.dct,j];simp only[GY,pa,if_false];exact fL (pF k p hz q)
def sk{Q:Unit->e_->Prop}(c:XSet K D name cd)(X:K.In h)(f:h.get? a=some o)(i:o.cls=.ref D)
  (p:∀(B:m_) (tk:Tok) (Q':Fin->e_->Prop) (E':b_->e_->Prop),(∀ s',Q () s'->Q' (.done (.ret .none)) s')->ig (lh prog w) B (FG.«object.__setattr__» ⟨[.ref a,.str name tk,v],[]⟩) Q' E' ⟨h,g,d,t+1,os⟩) :
  ig (lh prog w) A (K8 (.ref a) name v) Q E ⟨h,g,d,t,os⟩:=by
 have r:=PySem.F.store_ValueError.slot.bind (.ref a);have b:=PySem.F.store_ValueError;have j:GG (lh prog w) h (JR (.ref a)) (.ref D):=i ▸ (Iu f).andThen .now;have k:GG (lh prog w) h (K0 (.ref a) (.type "object")) true:=j.andThen (looks_mroIn X c.mo);unfold K8 callSpecial? specialOf
 repeat (any_goals (first | assumption | (with_reducible refine EC f ?_;rw[i]) | with_reducible refine(JL X c.sa).at ?_ | wp_step))
 refine codeAny_call_builtin b.slot.plain b.entry (@PySem.W.check_slot (lh prog w) _ _ ⟨h,g,d,t+1,os⟩ "object.__setattr__" "object" "__setattr__" (.ref a) [.str name t,v] [] _ b.kind b.split k (b.args (.ref a) (.str name t) v) ?_);exact p _ t _ _ λs' q=>fL (fL q)
end
section
variable {prog:hH}{w:lA}{A:m_}{E:b_->e_->Prop}{h:Heap}{g:Array Kb}{d:Drawn}{t:Nat}{os:OsState}
variable {nm q:Str}{C N fI:Addr}{bs bm bmB:List b_}{hdct:Bool}{sn:List Str}{sub:List b_}{ab:Bool}{col:Option Bool}{dd:Option Addr}{k0 k1 k2 k3 k5:Option b_}{B newId initId:String}{mN:Str->Option b_}{rest:List b_}{oI:Obj}
abbrev fc(h:Heap)(C:Addr)(rest:List b_):Heap:=(h.push { cls:=.type "tuple",data:=.seq rest.toArray }).push { cls:=.ref C,data:=.fields #[.ref h.objs.size,.none,.none,.none,.bool false,.none] }
def yR{Q:Fin->e_->Prop}(F:ExcBaseFacts B newId initId bmB)(T:Lh h bmB bm)(a:h.get? C=some (Kn nm q C N bs bm hdct sn sub ab col dd k0 k1 k2 k3 k5 newId))(u:h.Ns N mN)(s:mN "__init__" = some (.ref fI))
  (x:h.get? fI=some oI) (i:oI.cls=.type "function") (hz:rest.length<=sizeLine)
  (y:ig (lh prog w) A (call (.ref fI) (.ref (h.objs.size+1)::rest)) (λr s'=>r=.none/\Q (.done (.ret (.ref (h.objs.size+1)))) s') E ⟨fc h C rest,g,d,t,os⟩) :
  ig (lh prog w) A (FG.«type.__call__» ⟨.ref C::rest,[]⟩) Q E ⟨h,g,d,t,os⟩:=by
 have f:∀ b o,h.get? b=some o->(fc h C rest).get? b=some o:=λb o e=>c_ _ (c_ _ e)
 have j:=f C _ a;have D:(fc h C rest).Ns N mN:=u.keeps f;have k:Lh (fc h C rest) bmB bm:=T.keeps f;have G:(fc h C rest).get? (h.objs.size+1)=some { cls:=.ref C,data:=.fields #[.ref h.objs.size,.none,.none,.none,.bool false,.none] }:=by heap_get
 have c:(lb C::bm).contains (.ref C)=true:=by simp
 repeat (first | with_reducible refine EC a ?_ | with_reducible refine wpAny_madeBy_exc a ?_ | wp_step)
 refine codeAny_call_builtin_code (FN _ F.quiet) (wpAny_check_new_subT F T a (codeAny_exc_new_subT F T a ?_ hz));show ig _ _ _ _ _ ⟨fc h C rest,g,d,t,os⟩;unfold K0
 repeat (first | with_reducible refine EC G ?_ | (with_reducible refine wpAny_isSubtype_exc j ?_;rw[c]) | wp_step)
 show ig _ _ (KS (.ref C) _) _ _ _;refine wpAny_typeLookup_tail j D k F.mroIs F.init.lookup ?_;rw[s];refine u_ (a_ ?_);unfold bindSpecial;refine a_ (JP (T := "function") ⟨oI,f fI _ x,i⟩ ?_);rw[if_pos (by decide)];refine fL (a_ (rc y (λr s' v=>?_) λ_ _ z=>z));obtain⟨rfl,p⟩:=v
 wp_walk
 exact p
def yF{Q:b_->e_->Prop}(F:ExcBaseFacts B newId initId bmB)(T:Lh h bmB bm)(a:h.get? C=some (Kn nm q C N bs bm hdct sn sub ab col dd k0 k1 k2 k3 k5 newId))(f:h.Ns N mN)(c:mN "__init__" = some (.ref fI))
  (j:h.get? fI=some oI) (b:oI.cls=.type "function") (hz:rest.length<=sizeLine)
  (k:ig (lh prog w) (A.under (.builtin "type.__call__" ⟨.ref C::rest,[]⟩)) (call (.ref fI) (.ref (h.objs.size+1)::rest)) (λr s'=>r=.none/\Q (.ref (h.objs.size+1)) s') E ⟨fc h C rest,g,d,t,os⟩) :
  ig (lh prog w) A (call (.ref C) rest) Q E ⟨h,g,d,t,os⟩:=by
 have o:=tc_lookup;have p:=tc_bind (.ref C);have i:(⟨h,g,d,t,os⟩:e_).TypeIs (.ref C) "type" := ⟨_,a,rfl⟩;refine Fk (codeAny_of_tree ?_);show ig _ _ (callAny (.ref C) _) _ _ _
 repeat (any_goals (first | assumption | with_reducible refine EC a ?_ | wp_step))
 exact⟨rfl,codeAny_call_builtin_at (FN _ (by decide +kernel)) entry_typeCall (wpAny_check_type_call_sub a (yR F T a f c j b hz k))⟩
end
def XD0(a D:Addr):Heap->Prop:=λh=>∃ o vs,h.get? a=some o/\o.cls=.ref D/\o.data=.fields vs/\o.dict=none/\vs[1]? = some .none/\vs[2]? = some .none
def XD1(a D dx:Addr):Heap->Prop:=λh=>∃ o vs,h.get? a=some o/\o.cls=.ref D/\o.data=.fields vs/\o.dict=some dx/\vs[1]? = some .none/\vs[2]? = some .none
def XDct(dx:Addr)(fs:List (Str×V)):Heap->Prop:=λh=>∃ mA,h.Ns1 dx mA/\∀ f,RelO (fs.lookup f) (mA f)
section
variable {P:hH}{w:lA}{H:Hp}{h:Heap}{a D dx:Addr}{fs:List (Str×V)}
def XD0.ok(x:XD0 a D h):ObjOk P w H h a (.ext (XD0 a D)):=⟨x,let ⟨o,_,e,_⟩:=x;⟨o,e⟩,λ_ _ ⟨o,b,e,r⟩ k=>⟨o,b,k o e,r⟩⟩
def XD1.ok(x:XD1 a D dx h):ObjOk P w H h a (.ext (XD1 a D dx)):=⟨x,let ⟨o,_,e,_⟩:=x;⟨o,e⟩,λ_ _ ⟨o,b,e,r⟩ k=>⟨o,b,k o e,r⟩⟩
def XDct.ok(x:XDct dx fs h):ObjOk P w H h dx (.ext (XDct dx fs)):=⟨x,let ⟨_,⟨o,_,_,e,_⟩,_⟩:=x;⟨o,e⟩,λ_ _ ⟨a,n,r⟩ k=>⟨a,n.at k,r⟩⟩
end
section
variable {X:Cx}{pins:List (Addr×Obj)}{σ:St}{H:Hp}{s:e_}{h':Heap}{x dx:Addr}{φ:Heap->Prop}{ox od:HO}
def Inv.tracked{t':Nat}(I:Inv X pins σ H s)(k:∀ b u,s.heap.get? b=some u->h'.get? b=some u)(f:s.heap.get? x=none)(d:ObjOk X.prog X.w (upd H x ox) h' x ox):Inv X pins σ (upd H x ox) { s with heap:=h',toks:=t' }:=by
 have g:H x=none:=by
  cases q:H x with
  | none=>rfl
  | some u =>
   obtain⟨o,e⟩:=(I.hok x u q).isObj;rw[f]at e;cases e
 have h:∀ b o,s.heap.get? b=some o->b≠x:=λb o e z=>by rw[z,f]at e;cases e
 have a:∀ b u,H b=some u->b≠x:=λb u e z=>by rw[z,g]at e;cases e
 refine I.un ⟨λb o e _ _ _=>k b o e,λb o e _ _ _=>⟨o.slots,k b o e⟩,λb o e n _=>?_,λb o e _=>⟨o,k b o e⟩,λb xs e=>?_,λb o u e=>?_,λb ps e=>⟨#[],?_⟩⟩ λb u e=>?_
 .rw[ae (h b o e)];exact n
 .rw[ae (a b _ e)];exact e
 .rw[ae (a b _ e)];exact e
 .rw[ae (a b _ e),e];simp
 .by_cases hb:b=x
  .subst hb
   rw[ac]at e;cases e;exact d
  .rw[ae hb]at e
   exact(I.hok b u e).stay (λc v _ q=>k c v q) (λc q=>by rw[ae (a c _ q)];exact q) λc xs q=>by rw[ae (a c _ q)];exact q
def Inv.put2{t':Nat}(I:Inv X pins σ H s)(a:H x=some (.ext φ))(j:s.heap.objs.size<=dx)(k:∀ b u,b≠x->s.heap.get? b=some u->h'.get? b=some u)(p:ObjOk X.prog X.w (upd (upd H dx od) x ox) h' x ox)
  (y:ObjOk X.prog X.w (upd (upd H dx od) x ox) h' dx od):Inv X pins σ (upd (upd H dx od) x ox) { s with heap:=h',toks:=t' }:=by
 have d:H dx=none:=I.hok.fresh j;have A:x≠dx:=λz=>by rw[z,d]at a;cases a
 have r:∀ b o,s.heap.get? b=some o->b≠dx:=λb o e=>kw (g_ (f_ e) j)
 have f:∀ b u,H b=some u->b≠dx:=λb u e z=>by rw[z,d]at e;cases e
 have i:∀ b,H b=none->b≠x:=λb e z=>by rw[z,a]at e;cases e
 have g:∀ b u,H b=some u->(∀ ψ,u≠.ext ψ)->b≠x:=λb u e n z=>by
  rw[z,a]at e;cases e;exact n φ rfl
 obtain⟨w,h⟩:=p.isObj;refine I.un ⟨λb o e n _ _=>k b o (i b n) e,λb o e n _ _=>⟨o.slots,k b o (i b n) e⟩,λb o e n _=>?_,λb o e _=>?_,λb xs e=>?_,λb o u e=>?_,λb ps e=>⟨#[],?_⟩⟩ λb u e=>?_
 .rw[ae (i b n),ae (r b o e)];exact n
 .by_cases hb:b=x
  .subst hb;exact⟨w,h⟩
  .exact⟨o,k b o hb e⟩
 .rw[ae (g b _ e λ_ z=>nomatch z),ae (f b _ e)];exact e
 .rw[ae (g b _ e λ_ z=>nomatch z),ae (f b _ e)];exact e
 .rw[ae (g b _ e λ_ z=>nomatch z),ae (f b _ e),e];simp
 .by_cases hb:b=x
  .subst hb
   rw[ac]at e;cases e;exact p
  .by_cases hb2:b=dx
   .subst hb2
    rw[ae hb,ac]at e;cases e;exact y
   .rw[ae hb,ae hb2]at e
    refine(I.hok b u e).stay (λc v B q=>k c v ?_ q) (λc q=>?_) λc xs q=>?_
    .rintro rfl
     rcases B with z | z
     .exact hb z.symm
     .rw[a]at z;cases z
    .rw[ae (g c _ q λ_ z=>nomatch z),ae (f c _ q)];exact q
    .rw[ae (g c _ q λ_ z=>nomatch z),ae (f c _ q)];exact q
end
def Ct(K:Frag)(ta tv:TE)(f:Str):TS:=λD σ H=>tv σ H λy H1=>ta σ H1 λx H2=>∃ a C cd,x=.ref a/\XSet K C f cd /\
 ((H2 a=some (.ext (XD0 a C))/\∀ dx,H2 dx=none->dx≠a->D.nx σ (upd (upd H2 dx (.ext (XDct dx [(f,y)]))) a (.ext (XD1 a C dx)))) \/
  ∃ dx fs,H2 a=some (.ext (XD1 a C dx))/\H2 dx=some (.ext (XDct dx fs))/\fs.length<=900/\D.nx σ (upd H2 dx (.ext (XDct dx ((f,y)::fs)))))
def fO{f g:Str}{y:V}{fs:List (Str×V)}:E3 g ((f,y)::fs)=if g=f then some y else fs.lookup g:=by
 rw[Gi]
 by_cases z:g=f
 .rw[if_pos z,show(g == f)=true by simpa using z]
 .rw[if_neg z,show(g == f)=false by simpa using z]
section
variable {X:Cx}{o e value:Expr}{f:Str}{pos pos':Pos}{ta tv:TE}
def yN(W:PE X o ta)(hv:PE X value tv)(hs:FU value (some (.Attribute o f pos')) pos.line X.env=pure false):PS X (.Assign [.Attribute o f pos'] value pos) (Ct X.K ta tv f):=by
 intro d s w H D I h;refine Ig (thn (hv d s w H _ I h) λu s1 ⟨y,Q,T,M,q⟩=>thn (W d s1 w Q _ T q) λov s2 ⟨x,H2,I2,rx,a,C,cd,ex,c,k⟩=>?_) hs;subst ex;obtain rfl:ov=lb a:=rx;obtain⟨p,g2,d2,N,S⟩:=s2
 rcases k with⟨r,k⟩ | ⟨dx,J,r,K,hl,k⟩
 .obtain⟨⟨Y,O,i,j,F,G,P⟩,_⟩:=I2.hok a _ r
  refine sk c I2.kIn i j λB tk R E' A=>vO c I2.kIn i j F G λh' n' o' k'=>A _ ?_
  have hf:H2 p.objs.size=none:=I2.hok.fresh (fS _);have E:p.objs.size≠a:=FJ (f_ i);refine⟨w,_,I2.put2 (t':=N+1+1) (h':=h') (x:=a) (dx:=p.objs.size) (od:=.ext (XDct p.objs.size [(f,y)])) (ox:=.ext (XD1 a C p.objs.size)) r (fS _) k' (XD1.ok ⟨_,O,o',j,F,rfl,P⟩) (XDct.ok ⟨_,n',λg=>?_⟩),k _ hf E⟩;rw[fO]
  by_cases z:g=f
  .rw[if_pos z,if_pos z];exact M
  .rw[if_neg z,if_neg z];exact x_
 .obtain⟨⟨Y,O,i,j,F,G,P⟩,_⟩:=I2.hok a _ r
  obtain⟨⟨mA,nA,L⟩,_⟩:=I2.hok dx _ K
  have Z:Fv mA (J.map (·.1)):=λg hg=>by
   cases q:J.lookup g with
   | none =>
    have:=L g;rw[q]at this;exact absurd (RelO.none_of this) hg
   | some v=>exact nh.mpr ⟨(g,v),q_ q,rfl⟩
  refine sk c I2.kIn i j λB tk R E' A=>xZ c I2.kIn i j G nA Z (by rw[d_];lia) λh' n' sb=>A _ ?_
  refine⟨w,_,I2.write (t':=N+1+1) (h':=h') (x:=dx) (e:=dx) (o:=.ext (XDct dx ((f,y)::J))) (by rw[K];exact x_) (.inl rfl) (λb u hb e=>(sb.2 b hb).trans e) (let ⟨o',_,_,e',_⟩:=n';⟨o',e'⟩) (XDct.ok ⟨_,n',λg=>?_⟩),k⟩;rw[fO]
  by_cases z:g=f
  .rw[if_pos z,if_pos z];exact M
  .rw[if_neg z,if_neg z];exact L g
end
def rK{K:Frag}{h:Heap}{N:Addr}{m:Str->Option b_}{n:Str}{v:b_}(X:K.In h)(G:h.Ns N m)(q:nsIn K N n=some (some v)):m n=some v:=by
 obtain⟨g,i,f,d,c,_,b⟩:=G;unfold nsIn at q
 split at q
 .rename_i c0 d0 en0 k0 sl0 lk
  have a:=X _ _ lk;rw[d]at a;cases a;cases c
  split at q
  .rename_i entry found
   cases q;rw[<- b];unfold nsFind findBy;rw[<- Jq,found];rfl
  .split at q <;> cases q
 .cases q
def xIn(K:Frag)(C:Addr)(fI:Option b_):Bool:=match K.lookup C with
 | some ⟨.type "type",_,.cls cd,sl⟩=>(match cd.mro,sl.toList with
  | .ref C'::bm,[_,_,_,_,some (.builtin n),_]=>C' == C && n == "ValueError.__new__" && !cd.hasDel && tailIn K bmV bm && nsOkIn K cd.ns && nsIn K cd.ns "__init__" == some fI
  | _,_=>false)
 | _=>false
structure XObj(h:Heap)(C:Addr)(fI:Option b_):Prop where
 obj:∃ bm N nm q bs hdct sn sub ab col dd k0 k1 k2 k3 k5 mN,h.get? C=some (Kn nm q C N bs bm hdct sn sub ab col dd k0 k1 k2 k3 k5 "ValueError.__new__")/\h.Ns N mN/\mN "__init__" = fI/\Lh h bmV bm
def rX{K:Frag}{h:Heap}{C:Addr}{j:Option b_}(X:K.In h)(z:xIn K C j=true):XObj h C j:=by
 unfold xIn at z
 split at z
 .rename_i dct cld slt lk
  split at z
  .rename_i C' tl a0 a1 a2 a3 nid a5 hmro hsl
   simp only[il,beq_iff_eq,JV]at z;obtain⟨⟨⟨⟨⟨rfl,rfl⟩,a⟩,s⟩,c⟩,b⟩:=z;obtain⟨x,y,r,d,q,k,w,f,p,g,o⟩:=cld;dsimp only at hmro a c b;subst hmro a
   have u:slt = #[a0,a1,a2,a3,some (.builtin "ValueError.__new__"),a5]:=by
    obtain⟨l⟩:=slt;simp only at hsl;rw[hsl]
   subst u;have i:h.Ns d (h.nsMap d):=.of_isNs (PySem.W.isNs_of_in X c);refine⟨tl,d,x,q,y,k,w,f,p,g,dct,a0,a1,a2,a3,a5,_,X _ _ lk,i,?_,PySem.W.tail_of_in X s⟩;cases j with
   | none=>exact PySem.W.ns_none_of X i b
   | some v=>exact rK X i b
  .cases z
 .cases z
def zu(K:Frag)(D:Addr):Bool:=EJ K (.ref D) "__getattribute__" == some (some (.builtin "BaseException.__getattribute__")) && EJ K (.ref D) "__getattr__" == some none &&
 EJ K (.ref D) "__class__" == some (some (.builtin "object.__class__")) && I7 K D (.type "BaseException") == some true && I7 K D (.type "object") == some true && (LQ K D).isSome && LL K (.ref D) == some (.type "type")
def xc_of{K:Frag}{D:Addr}(h:zu K D=true):XCls K D:=by
 unfold zu at h;simp only[il,beq_iff_eq]at h;obtain⟨⟨⟨⟨⟨⟨g,c⟩,b⟩,f⟩,a⟩,d⟩,i⟩:=h;exact⟨g,c,b,f,a,d⟩
def xh_of{K:Frag}{D:Addr}(h:zu K D=true):XHd K D:=by
 unfold zu at h;simp only[il,beq_iff_eq]at h;obtain⟨⟨⟨⟨⟨⟨i,g⟩,f⟩,c⟩,d⟩,b⟩,a⟩:=h;exact⟨b,a,c⟩
def CO(K:Frag)(D:Addr)(name:Str):Bool:=((LQ K D).any λcd=>cd.hasDict && mM cd.mro) && I7 K D (.type "object") == some true &&
 EJ K (.ref D) "__setattr__" == some (some (.builtin "object.__setattr__")) && EJ K (.ref D) name == some none
def xs_of{K:Frag}{D:Addr}{name:Str}(h:CO K D name=true):∃ cd,XSet K D name cd:=by
 unfold CO at h;simp only[il,beq_iff_eq]at h;obtain⟨⟨⟨f,c⟩,b⟩,d⟩:=h;obtain⟨cd,e,a⟩:=any_some f;rw[il]at a;exact⟨cd,e,a.1,a.2,c,b,d⟩
def Dd(C:Addr):TE:=λ_ H Q=>∀ a,H a=none->Q (.ref a) (upd H a (.ext (XD0 a C)))
def Ee(C:Addr)(sp:Sp)(t:TA):TE:=λσ H Q=>t σ H λvs H1=>∀ a,H1 a=none->sp (.ref a::vs) (upd H1 a (.ext (XD0 a C))) (λv H2=>v=.non/\Q (.ref a) H2) E0
section
variable {X:Cx}{k:Nat}{f C:Addr}{fd:p_}{ps:List Str}{sp:Sp}{x:Str}{p pos:Pos}{e:Expr}{es:List Expr}{t:TA}
def gv(z:xIn X.K C none=true)(r:Fp X.K (.ref C)=true)(D:Gl X x)(A:X.mg x=some (.ref C))(c:(x == ("__debug__" : Str))=false:=by decide):PE X (.Call (.Name x p) [] [] pos) (Dd C):=by
 intro f s R H Q I h;refine ql (eQ I D A ?_ c);refine callWith_K0 I.kIn r ?_;obtain⟨bm,N,Z,q,L,g,P,w,ab,i,dd,O,W,Y,M,S,mN,k,v,d,T⟩:=(rX I.kIn z).obj;obtain⟨B,G,K,F,y⟩:=s;refine wpAny_call_exc_subT (rest:=[]) HF T k v d (λJ a b=>?_) (h_ _);obtain⟨t1,j,_,_⟩:=b.there
 have E:H a=none:=by
  cases q:H a with
  | none=>rfl
  | some u =>
   obtain⟨o,e⟩:=(I.hok a u q).isObj;have:=b.new;rw[show B.get? a=some o from e]at this;cases this
 exact⟨.ref a,_,I.tracked (t':=F) b.keeps b.new (XD0.ok ⟨_,_,j,rfl,rfl,rfl,rfl,rfl⟩),rfl,h a E⟩
def A0(z:xIn X.K C (some (.ref f))=true)(kp:Fp X.K (.ref C)=true)(fn:isFn X.K (.ref f)=true)(F:FnOk X.prog X.w X.K X.mg X.base CX0 k f fd ps sp)(hr:Room (k+1) X.A)(hg:Gl X x)(hm:X.mg x=some (.ref C))
  (hb:Binds X.K fd ps []) (ha:PA X (e::es) t) (hz:∀ vs H Q E,sp vs H Q E->vs.length<=100) (B:(x == ("__debug__" : Str))=false:=by decide) (he:lg (e::es) X.env=(false,eval e X.env)::lg es X.env:=by rfl)
  (K:(z_ pos (lg es X.env)).any (·.1)=false:=by rfl):PE X (.Call (.Name x p) (e::es) [] pos) (Ee C sp t):=by
 intro g s R H Q I h;refine ql (eQ I hg hm ?_ B);refine GI (h₀:=X.base) I.ok.mod.kin kp (thn (ha pos g s R H _ I h) λd c ⟨vs,H1,i,r,q⟩=>⟨i.kIn,?_⟩) he K;obtain⟨bm,N,nm,qn,bs,S,sn,ah,ab,Y,dd,k0,k1,k2,k3,k5,mN,hC,hN,D,T⟩:=(rX i.kIn z).obj;have J:=q (c.heap.objs.size+1) (i.hok.fresh (Fs _))
 have y:d.length<=sizeLine:=by
  have:=hz _ _ _ _ J;rw[py]at this;rw[<- r.length];exact lB (Nat.le_of_succ_le this) (by decide)
 have up:∀ b o,c.heap.get? b=some o->(fc c.heap C d).get? b=some o:=λb o e=>c_ _ (c_ _ e)
 have e2:(fc c.heap C d).get? (c.heap.objs.size+1)=some { cls:=.ref C,data:=.fields #[.ref c.heap.objs.size,.none,.none,.none,.bool false,.none] }:=by heap_get
 have M:=i.laid (t':=c.toks) (h':=fc c.heap C d) (a:=c.heap.objs.size+1) (o:=.ext (XD0 (c.heap.objs.size+1) C)) up (Fs _) (XD0.ok ⟨_,_,e2,rfl,rfl,rfl,rfl,rfl⟩)
 obtain⟨oI,hfI,hfc⟩:∃ oI,c.heap.get? f=some oI/\oI.cls=.type "function" := by
  have:=beq_iff_eq.mp fn;unfold LL at this;obtain⟨ob,lk,A⟩:=EG.mp this;exact⟨ob,i.kIn _ _ lk,A⟩
 have O:Vals (V.ref (c.heap.objs.size+1)::vs) (lb (c.heap.objs.size+1)::d):=.cons rfl r;have L:(lb (c.heap.objs.size+1)::d).length=ps.length:=by rw[<- O.length];exact F.len _ _ _ _ J
 have P:=hb { c with heap:=fc c.heap C d,toks:=c.toks } (lb (c.heap.objs.size+1)::d) M.kIn (by rw[Fj];exact L);rw[Fj]at P
 have j:ig (lh X.prog X.w) X.A (call (.ref C) d) (EP X g R Q) X.xe c:=by
  obtain⟨G,g1,d1,t1,W⟩:=c;refine yF HF T hC hN D hfI hfc y ?_;refine Fk (A5 (F.run _ X.stack _ _ ⟨lb (G.objs.size+1)::d,[]⟩ (lb (G.objs.size+1)::d) _ _ E0 (hr.make C d []) (M.env0.make C d []) P O J) λr s' w=>?_);cases r with
  | error e=>exact k_ w
  | ok fl =>
   cases fl with
   | ret u =>
    obtain⟨v,H',I3,rv,Z,q3⟩:=M.after w;subst Z;exact⟨rv,⟨V.ref (G.objs.size+1),H',I3,rfl,q3⟩⟩
   | next=>exact k_ w
   | brk=>exact k_ w
   | cont=>exact k_ w
 exact j
end
def nQ:∀{xs:List V}{us:List b_},xs.length=us.length->(∀(i:Nat) x u,xs[i]? = some x->us[i]? = some u->RelV x u)->Vals xs us
 | [],[],_,_=>.nil
 | x::xs,u::us,h,r=>.cons (r 0 x u rfl rfl) (nQ (by simpa using h) λi y w a b=>r (i+1) y w (by simpa using a) (by simpa using b))
 | [],_::_,h,_=>by cases h
 | _::_,[],h,_=>by cases h
section
variable {X:Cx}
def iZ:CallR X (.type "range") (λxs H Q=>∃ b,xs=[.int b]/\∀ p,H p=none->Q (.ref p) (upd H p (.rng 0 b))):=by
 intro a s d H xs c Q I r h;obtain⟨b,rfl,q⟩:=h;obtain⟨u,rfl,⟨t,rfl⟩⟩:=dW r;refine call_range_1 ?_;exact⟨.ref s.heap.objs.size,_,I.laid (o:=.rng 0 b) (λb o e=>c_ _ e) (fS _) ⟨_,_,_,ie _ rfl⟩,rfl,q _ (I.hok.fresh (fS _))⟩
end
section
variable {M:HN}{A:m_}{E:b_->e_->Prop}{s:e_}{env:Env}{K:Frag}{D:Addr}
def yp{x:Sem b_}{Q:Flow->e_->Prop}(c:XCls K D)(j:XHd K D)(p:A.handled=none)
  (h:ig M A x (λv s₁=>∃ e ob vs,v=.ref e/\K.In s₁.heap/\s₁.heap.get? e=some ob/\ob.cls=.ref D/\ob.data=.fields vs/\vs[1]? = some .none/\E (.ref e) s₁) E s):ig M A (Lv env (some x) none) Q E s:=by
 unfold Lv;refine a_ (rc h (λv s₁ a=>?_) λ_ _ z=>z);obtain⟨e,ob,vs,rfl,X,b,i,f,k,o⟩:=a;obtain⟨r,g,d,q,u⟩:=s₁
 repeat (first | with_reducible refine(PySem.W.looks_typeIn X j.ty).at ?_ | (with_reducible refine EC b ?_;first | rw[i] | rw[f]) | with_reducible refine(looks_mroIn X c.mb).at ?_ | with_reducible refine Fm b f k ?_ | wp_step)
 exact wpAny_raiseNew_none p o
end
def Fx(h:Heap)(e:Addr)(cls:b_)(dct:Option Addr)(fl:b_)(T:Addr):Prop :=
 ∃ ob fs oT ts,h.get? e=some ob/\ob.cls=cls/\ob.dict=dct/\ob.data=.fields fs/\fs[1]? = some (.ref T)/\T≠e/\h.get? T=some oT/\oT.data=.fields ts/\ts[3]? = some fl
def kX(f:Array b_->Array b_)(o:Obj):(EB f o).dict=o.dict:=by
 obtain⟨c,d,a,b⟩:=o
 cases a <;> rfl
def wR(f:Array b_->Array b_)(o:Obj):(EB f o).cls=o.cls:=J5 _ _
section
variable {M:HN}{A:m_}{E:b_->e_->Prop}{s:e_}{base:Heap}{env:Env}{outer:List Env}{L e:Addr}{ob:Obj}{fs:Array b_}{head:b_}{more:Bool}
def p7{Q:Unit->e_->Prop}(C:A.frames=some (env::outer))(y:s.heap.FunFrames base (env::outer))(G:env.frame=some L)(v:s.heap.get? e=some ob)(j:ob.data=.fields fs)(B:1<fs.size)
  (h:∀ h' T,Fx h' e ob.cls ob.dict (n7 L) T->s.heap.get? T=none->(∀ b o,b≠e->b ∉ frs (env::outer)->s.heap.get? b=some o->h'.get? b=some o) ->
   (∀ b o,b≠e->s.heap.get? b=some o->∃ sl,h'.get? b=some { o with slots:=sl })->Q () { s with heap:=h' }) :
  ig M A (do let a <- frameOf env;let pl <- entryPlaceOf L more;let b <- Iw head a .none (n7 L) .none pl;LR (.ref e) 1 b) Q E s:=by
 have p:e ∉ frs (env::outer):=λF=>by
  obtain⟨_,o,u,k⟩:=y.mem F;rw[v]at u;cases u;exact k fs j
 refine a_ (wpAny_frameOf_fun C y G λc i=>?_);refine a_ (wpAny_entryPlaceOf λpl q=>?_);unfold Iw newFields;refine a_ (pw ?_ (q.sizeOk5 _ _ _ _ _));have r:c.get? e=some ob:=(i.2.1 e p).trans v;have z:=c_ (h:=c) { cls:=.type "traceback",dict:=none,data:=.fields ([head,.ref L,.none,n7 L,.none]++(if pl.isEmpty then l4 6 n_ else pl)).toArray } r;have x:c.objs.size≠e:=FJ (f_ r);have w:=EM j (·.setIfInBounds 1 (lb c.objs.size));have D:=A7 (EB (·.setIfInBounds 1 (lb c.objs.size))) z (EX w)
 have g:∀ b o,b≠e->c.get? b=some o->((c.push { cls:=.type "traceback",dict:=none,data:=.fields ([head,.ref L,.none,n7 L,.none]++(if pl.isEmpty then l4 6 n_ else pl)).toArray }).update e (EB (·.setIfInBounds 1 (lb c.objs.size)))).get? b=some o :=
  λb o d f=>(EH _ _ (A_ d)).trans (c_ _ f)
 refine F4 z j B (h _ c.objs.size ⟨_,_,_,_,D,wR _ _,kX _ _,w,by simp[B],x,(EH _ _ (A_ x)).trans (ie _ rfl),rfl,?_⟩ ?_ (λb o d k f=>g b o d ((i.2.1 b k).trans f)) λb o d f=>?_)
 .simp
 .have:s.heap.objs.size=c.objs.size:=i.1.symm
  rw[<- this];exact Ji (fS _)
 .obtain⟨sl,H⟩:=i.2.2 b o f
  exact⟨sl,g b _ d H⟩
end
section
variable {M:HN}{A:m_}{E:b_->e_->Prop}{s:e_}{base:Heap}{env:Env}{outer:List Env}{L e T:Addr}{ob:Obj}{fs:Array b_}{cls fl:b_}{dct:Option Addr}
def KeptBut(xs fr:List Addr)(h h':Heap):Prop :=
 (∀ b o,b ∉ xs->b ∉ fr->h.get? b=some o->h'.get? b=some o)/\∀ b o,b ∉ xs->h.get? b=some o->∃ sl,h'.get? b=some { o with slots:=sl }
def KeptBut.trans{xs j d:List Addr}{h k i:Heap}(a:KeptBut xs d h k)(b:KeptBut j d k i):KeptBut (xs++j) d h i :=
 ⟨λc o n f g=>b.1 c o (λz=>n (li _ z)) f (a.1 c o (λz=>n (z4 _ z)) f g),λc o n g=>by
  obtain⟨s,q⟩:=a.2 c o (λz=>n (z4 _ z)) g;obtain⟨p,r⟩:=b.2 c _ (λz=>n (li _ z)) q
  exact⟨p,r⟩⟩
def vA{Q:Unit->e_->Prop}(j:A.frames=some (env::outer))(q:s.heap.FunFrames base (env::outer))(d:env.frame=some L)(c:s.heap.get? e=some ob)(a:ob.data=.fields fs)(i:fs[1]? = some .none)
  (h:∀ h' T,Fx h' e ob.cls ob.dict (n7 L) T->s.heap.get? T=none->KeptBut [e] (frs (env::outer)) s.heap h'->Q () { s with heap:=h' }):ig M A (Iq (.ref e) env) Q E s:=by
 unfold Iq;simp only[d];refine a_ (Fm c a i ?_);rw[if_neg (by decide)];exact p7 j q d c a (A3.mp i).1 λh' T x k p r=>h h' T x k ⟨λb o n f g=>p b o (by simpa using n) f g,λb o n g=>r b o (by simpa using n) g⟩
def yb{Q:Unit->e_->Prop}(F:A.frames=some (env::outer))(J:s.heap.FunFrames base (env::outer))(D:env.frame=some L)(x:Fx s.heap e cls dct .none T)
  (h:∀ h' T',Fx h' e cls dct (n7 L) T'->s.heap.get? T'=none->KeptBut [T,e] (frs (env::outer)) s.heap h'->Q () { s with heap:=h' }):ig M A (Iq (.ref e) env) Q E s:=by
 obtain⟨K,O,N,H,B,rfl,rfl,w,C,I,j,k,y⟩:=x;unfold Iq;simp only[D];refine a_ (Fm B w C ?_);rw[if_pos (show(lb T != n_)=true from by simp)];refine a_ (Fm j k y ?_);rw[if_neg (show ¬((n_ == n7 L)=true) from by simp[n7])];refine a_ (F4 j k (A3.mp y).1 ?_);have a:∀ b,b≠T->(s.heap.update T (EB (·.setIfInBounds 3 n_))).get? b=s.heap.get? b:=λb G=>EH _ _ (A_ G)
 have d:∀ b o,s.heap.get? b=some o->(∀ vs,o.data≠.fields vs)->b≠T:=λb o i r z=>by
  rw[z,j]at i;cases i;exact r H k
 have p:=A7 (EB (·.setIfInBounds 3 n_)) j (EX (EM k _));refine p7 F (J.of_keeps λb o i r=>⟨o,(a b (d b o i r)).trans i,rfl⟩) D ((a e I.symm).trans B) w (A3.mp C).1 λh' T' x' nT' k1 k2=>h h' T' x' ?_ ⟨λb o n f g=>?_,λb o n g=>?_⟩
 .cases q:s.heap.get? T' with
  | none=>rfl
  | some o =>
   by_cases z:T'=T
   .rw[z,p]at nT'
    cases nT'
   .have c:=nT'
    rw[a T' z,q]at c;cases c
 .have u:b≠T:=λz=>n (by rw[z];exact gT)
  have v:b≠e:=λz=>n (by rw[z];simp)
  exact k1 b o v f ((a b u).trans g)
 .have u:b≠T:=λz=>n (by rw[z];exact gT)
  have v:b≠e:=λz=>n (by rw[z];simp)
  exact k2 b o v ((a b u).trans g)
def ml{Q:Unit->e_->Prop}{r:List Addr}(x:Fx s.heap e cls dct fl T)(h:∀ h',Fx h' e cls dct .none T->KeptBut [T] r s.heap h'->Q () { s with heap:=h' }):ig M A (setFlight (.ref e) none) Q E s:=by
 obtain⟨u,y,z,w,i,rfl,rfl,d,p,j,q,c,v⟩:=x;have k:3<w.size:=(A3.mp v).1;have a:∀ b,b≠T->(s.heap.update T (EB (·.setIfInBounds 3 ((none:Option Addr).elim n_ λf=>n7 f)))).get? b=s.heap.get? b:=λb nb=>EH _ _ (A_ nb)
 unfold setFlight;refine a_ (Fm i d p ?_);rw[if_pos (show(lb T != n_)=true from by simp)];refine F4 q c k (h _ ⟨u,y,_,_,(a e j.symm).trans i,rfl,rfl,d,p,j,A7 _ q (EX (EM c _)),EM c _,by simp[k]⟩ ⟨λb o n _ g=>?_,λb o n g=>?_⟩)
 .exact(a b (by simpa using n)).trans g
 .exact⟨o.slots,(a b (by simpa using n)).trans g⟩
def vE{Q:Unit->e_->Prop}(b:A.frames=some (env::outer))(j:s.heap.FunFrames base (env::outer))(i:env.frame=some L)(x:Fx s.heap e cls dct .none T)
  (h:∀ h' T',Fx h' e cls dct .none T'->s.heap.get? T'=none->KeptBut [T,e,T'] (frs (env::outer)) s.heap h'->Q () { s with heap:=h' }):ig M A (leaving env (.ref e)) Q E s:=by
 unfold leaving;refine a_ (yb b j i x λg a c d f=>ml (s:={ s with heap:=g }) c λh2 x2 k2=>h h2 a x2 d (f.trans k2))
def u6{Q:Unit->e_->Prop}(b:A.frames=some (env::outer))(p:s.heap.FunFrames base (env::outer))(k:env.frame=some L)(d:s.heap.get? e=some ob)(c:ob.data=.fields fs)(o:fs[1]? = some .none)
  (h:∀ h' T',Fx h' e ob.cls ob.dict .none T'->s.heap.get? T'=none->KeptBut [e,T'] (frs (env::outer)) s.heap h'->Q () { s with heap:=h' }):ig M A (leaving env (.ref e)) Q E s:=by
 unfold leaving;refine a_ (vA b p k d c o λj a f g i=>ml (s:={ s with heap:=j }) f λh2 x2 k2=>h h2 a x2 g (i.trans k2))
end
structure XG(P:hH)(w:lA)(outer:List Env)(H:Hp)(s:e_)(x D:Addr)(dct:Option Addr)(T:Addr)(H':Hp)(s':e_):Prop where
 os:s'.os=s.os
 bare:FD s'.gens
 un:Un (frs outer) [] H H' s.heap s'.heap
 hok:HOk P w H' s'.heap
 fx:Fx s'.heap x (.ref D) dct .none T
 nx:s.heap.get? x=none
 nT:s.heap.get? T=none
 ux:H' x=none
 uT:H' T=none
def CXG(P:hH)(w:lA):CXT:=λouter H s E e s'=>∃ x D dct T H',e=.ref x/\XG P w outer H s x D dct T H' s'/\E (.ref D) dct H'
def cM{fs:List Addr}{H H':Hp}{h h':Heap}{b:Addr}(u:Un fs [] H H' h h')(n:h'.get? b=none):h.get? b=none:=by
 cases q:h.get? b with
 | none=>rfl
 | some o =>
  obtain⟨a,e⟩:=u.there b o q (by simp);rw[n]at e;cases e
section
variable {P:hH}{w:lA}{K:Frag}{mg:Str->Option b_}{base:Heap}{N:List Str}{qual:Str}{scope:D_}{f:Addr}{cdv:b_}{A:m_}{outer:List Env}{s0:e_}{H0:Hp}{E:XK}
abbrev cxG(P:hH)(w:lA)(K:Frag)(mg:Str->Option b_)(base:Heap)(N:List Str)(qual:Str)(scope:D_)(f:Addr)(cdv:b_)(A:m_)(outer:List Env)(s0:e_)(H0:Hp)(E:XK):Cx :=
 cV (CXG P w) P w K mg base N qual scope f cdv A outer s0 H0 E
def tQ{X:Cx}{c:List (Addr×Obj)}{w:St}{H':Hp}{f:e_}{g:Heap}{x D T:Addr}{d:Option Addr}{xs:List Addr}(J:Inv X c w H' f)(h:X.ex=[])
  (k:KeptBut xs (frs X.stack) f.heap g) (a:∀ b∈xs,X.s₀.heap.get? b=none/\H' b=none/\b ∉ frs X.outer) (s:Fx g x (.ref D) d .none T) (j:x∈xs) (q:T∈xs) :
  XG X.prog X.w X.outer X.H₀ X.s₀ x D d T H' { f with heap:=g }:=by
 have v:Un (frs X.outer) [] X.H₀ H' X.s₀.heap f.heap:=by
  have:=J.base;rw[h]at this;exact this
 refine⟨J.os,J.bare,xY v (λb o p i e=>k.1 b o (λz=>?_) (yD J p i) e) (λb o i e=>k.2 b o (λz=>(a b z).2.2 i) e),vY J.hok (λb o u hu e=>k.1 b o (λz=>?_) (xT J hu) e),s,(a x j).1,(a T q).1,(a x j).2.1,(a T q).2.1⟩
 .obtain⟨y,r⟩:=p
  rw[(a b z).1]at r;cases r
 .rw[(a b z).2.1]at hu
  cases hu
def jO{X:Cx}{a:List (Addr×Obj)}{c:St}{H:Hp}{s:e_}(I:Inv X a c H s){b:Addr}(h:s.heap.get? b=none):b ∉ frs X.outer:=λz=>by
 obtain⟨_,o,e,_⟩:=I.funs.mem z;rw[h]at e;cases e
def sO:fF (CXG P w) (cxG P w K mg base N qual scope f cdv A outer s0 H0 E) E:=by
 intro a B H s e d I v;obtain⟨x,D,i,T,c,rfl,G,q⟩:=v;have J:Inv (cxG P w K mg base N qual scope f cdv A outer s0 H0 E) a B c d:=I.call' (ch:=[]) G.os G.un G.hok G.bare (by simp);have p:Un (frs outer) [] H0 H s0.heap s.heap:=I.base;have r:Un (frs outer) [] H0 c s0.heap d.heap:=J.base;show ig _ _ (leaving _ (.ref x)) _ _ d;refine vE I.ok.frames J.stack rfl G.fx λF j C h k=>?_
 refine⟨x,D,i,j,c,rfl,tQ J rfl k (λb y=>?_) C (by simp) (by simp),q⟩;have g:b=T\/b=x\/b=j:=by simpa using y
 rcases g with rfl | rfl | rfl
 .exact⟨cM p G.nT,G.uT,jO I G.nT⟩
 .exact⟨cM p G.nx,G.ux,jO I G.nx⟩
 .refine⟨cM r h,?_,jO J h⟩
  cases z:c b with
  | none=>rfl
  | some u =>
   obtain⟨o,e⟩:=(J.hok b u z).isObj;rw[h]at e;cases e
def vB:Lm (lh P w) (cxG P w K mg base N qual scope f cdv A outer s0 H0 E).A (cxG P w K mg base N qual scope f cdv A outer s0 H0 E).env (cxG P w K mg base N qual scope f cdv A outer s0 H0 E).xe:=PassesOwn.leaving
end
section
variable {P:hH}{w:lA}{K:Frag}{mg:Str->Option b_}{base:Heap}
def Fun.okG{x a:Str}{st:Stmt}{f:Addr}{h:p_}{N ps:List Str}{k:Nat}{sp:Sp}(F:Fun K x a st f h)(S:FnScope N ps (ap st))(d:∀ vs H Q E,sp vs H Q E->vs.length=ps.length)
  (b:∀(cdv:b_) (A:m_) (outer:List Env) (s:e_) (H:Hp) (vs:List V) (Q:VK) (E:XK),Room k (A.deeper (envOfC a (ap st) s.heap.objs.size f cdv))->sp vs H Q E ->
   ∃ t,PSs (cxG P w K mg base N a (ap st) f cdv A outer s H E) (bI st) t/\t { nx:=λ_ H'=>Q .non H',rt:=Q } (start N vs) H):FnOk P w K mg base (CXG P w) (k+1) f h ps sp:=by
 obtain⟨q,v,u,j,z,r,cdv,y,o,rfl,i,c⟩:=F.ex;exact wK i c S d λA outer s H vs Q E p g=>b cdv A outer s H vs Q E p g
end
def untr(H:Hp)(x:Addr):Hp:=λb=>if b=x then none else H b
def aA{H:Hp}{x b:Addr}(h:b≠x):untr H x b=H b:=by unfold untr;rw[if_neg h]
def bX{H:Hp}{x:Addr}:untr H x x=none:=by unfold untr;rw[if_pos rfl]
def XU(a D:Addr)(dct:Option Addr):Heap->Prop:=λh=>∃ o vs,h.get? a=some o/\o.cls=.ref D/\o.data=.fields vs/\o.dict=dct/\vs[1]? = some .none/\vs[2]? = some .none
def Inv.untr{X:Cx}{a:List (Addr×Obj)}{g:St}{H:Hp}{s:e_}{x:Addr}{h:Heap->Prop}(I:Inv X a g H s)(j:H x=some (.ext h)):Inv X a g (untr H x) s:=by
 have d:∀ b u,H b=some u->(∀ ψ,u≠.ext ψ)->b≠x:=λb u e n z=>by
  rw[z,j]at e;cases e;exact n h rfl
 have i:∀ b,H b=none->L2.untr H x b=none:=λb e=>by
  by_cases z:b=x
  .rw[z];exact bX
  .rw[aA z];exact e
 have f:HOk X.prog X.w (L2.untr H x) s.heap:=λb u e=>by
  by_cases z:b=x
  .rw[z,bX]at e
   cases e
  .rw[aA z]at e
   refine(I.hok b u e).stay (λ_ _ _ q=>q) (λc q=>?_) λc xs q=>?_
   .rw[aA (d c _ q λ_ z=>nomatch z)];exact q
   .rw[aA (d c _ q λ_ z=>nomatch z)];exact q
 exact I.un (t':=s.toks) (h':=s.heap) ⟨λb o e _ _ _=>e,λb o e _ _ _=>⟨o.slots,e⟩,λb o e n _=>i b n,λb o e _=>⟨o,e⟩,λb xs e=>by rw[aA (d b _ e λ_ z=>nomatch z)];exact e,
  λb o u e=>by rw[aA (d b _ e λ_ z=>nomatch z)];exact e,λb ps e=>⟨#[],by rw[aA (d b _ e λ_ z=>nomatch z),e];simp⟩⟩ f
section
variable {P:hH}{w:lA}{K:Frag}{mg:Str->Option b_}{base:Heap}{N:List Str}{qual:Str}{scope:D_}{f:Addr}{cdv:b_}{A:m_}{outer:List Env}{s0:e_}{H0:Hp}{E:XK}
def xO(K:Frag)(H0:Hp)(E:XK)(D:Addr)(te:TE):TS:=λ_ σ H=>te σ H λv H1=>∃ x dct φ,v=.ref x/\H1 x=some (.ext φ)/\(∀ h,φ h->XU x D dct h)/\H0 x=none/\E (.ref D) dct (untr H1 x)
def cI{j:Expr}{Q:TE}{D:Addr}{g:Pos}(c:XCls K D)(hd:XHd K D)(he:PE (cxG P w K mg base N qual scope f cdv A outer s0 H0 E) j Q) :
  PS (cxG P w K mg base N qual scope f cdv A outer s0 H0 E) (.Raise (some j) none g) (xO K H0 E D Q):=by
 intro a s σ H DE I h;rw[arm_exec_Raise];refine a_ (FE ?_);show ig _ _ (Lv _ (some (do let v <- eval j (cxG P w K mg base N qual scope f cdv A outer s0 H0 E).env;JK g;pure v)) none) _ _ s;refine yp (K:=K) (D:=D) c hd (I.ok.hd rfl) (a_ (thn (he a s σ H _ I h) λv C ⟨y,i,d,ry,x,p,φ,X,r,M,h0,q⟩=>a_ (FE (fL ?_))));subst X;obtain rfl:v=lb x:=ry;obtain⟨ob,S,L,R,G,g4,W⟩:=M _ (d.hok x _ r).1;refine⟨x,ob,S,rfl,d.kIn,L,R,G,W.1,?_⟩;show ig _ _ (leaving _ (.ref x)) _ _ C;have J:=d.untr r;have jb:Un (frs outer) [] H0 (untr i x) s0.heap C.heap:=J.base;have ib:Un (frs outer) [] H0 i s0.heap C.heap:=d.base
 have nx:s0.heap.get? x=none:=by
  cases z:s0.heap.get? x with
  | none=>rfl
  | some o =>
   have:=ib.free x o z h0 (by simp);rw[r]at this;cases this
 refine u6 d.ok.frames J.stack rfl L G W.1 λh2 T O F k=>?_
 rw[R,g4]at O;refine⟨x,D,p,T,untr i x,rfl,tQ J rfl k (λb Y=>?_) O (by simp) (by simp),q⟩;have B:b=x\/b=T:=by simpa using Y
 rcases B with rfl | rfl
 .refine⟨nx,bX,λz=>?_⟩
  obtain⟨_,o,e,Z⟩:=J.funs.mem z;rw[L]at e;cases e;exact Z S G
 .refine⟨cM jb F,?_,jO J F⟩
  cases z:untr i x b with
  | none=>rfl
  | some u =>
   obtain⟨o,e⟩:=(J.hok b u z).isObj;rw[F]at e;cases e
end
end L2
namespace FrM
def xp(x y:Int):o0 y (x % y)=o0 x y:=by
 have e:x=x % y+y*(x/y):=(Int.emod_add_mul_ediv x y).symm;rw[Int.gcd_comm x y]
 conv=>rhs;rw[e]
 rw[Int.gcd_add_mul_left_right]
def Bt(n:Nat)(i:Int):Prop:=i.natAbs<2 ^ n
def Bt.mono{m n:Nat}{i:Int}(h:Bt m i)(l:m<=n):Bt n i:=g_ h (Jt (by decide) l)
def Bt.le{n:Nat}{i j:Int}(h:Bt n i)(l:j.natAbs<=i.natAbs):Bt n j:=FO l h
def Bt.mul{m n:Nat}{i j:Int}(h:Bt m i)(h':Bt n j):Bt (m+n) (i*j):=by
 unfold Bt at *;rw[GO,Nat.pow_add];exact Nat.mul_lt_mul_of_le_of_lt (rA h) h' (FO (h_ _) h)
structure Low(T B t b:Int):Prop where
 pos:1<=b
 cop:o0 t b=1
 eq:t*B=T*b
def low(t b:Int)(h:0<b):0<(o0 t b:Int)/\(o0 t b:Int)<=b/\Low t b (t/(o0 t b:Int)) (b/(o0 t b:Int))/\(t/(o0 t b:Int)).natAbs<=t.natAbs/\(b/(o0 t b:Int)).natAbs<=b.natAbs:=by
 have c:0<o0 t b:=Int.gcd_pos_iff.mpr (.inr (by omega));have d:0<(o0 t b:Int):=by omega
 have g:=Ko t b;have a:=FV t b;have i:=JC g;have j:=JC a;have f:(o0 t b:Int)<=b:=ER h a;refine⟨d,f,⟨?_,Int.gcd_ediv_gcd_ediv_gcd c,?_⟩,?_,?_⟩
 .have:=Int.ediv_pos_of_pos_of_dvd h (by omega) a
  omega
 .rw[<- JW _ a,Hq,<- JW _ g,Hq]
 .have:=congrArg Int.natAbs i
  rw[GO]at this;rw[<- this];exact IR _ (by simpa using c)
 .have:=congrArg Int.natAbs j
  rw[GO]at this;rw[<- this];exact IR _ (by simpa using c)
end FrM
namespace L2
open PySem PySem.Spec PyProof.Rows FrM
section
variable {X:Cx}
def CMulB(i j:Int):Prop:=(Bt 8000 i/\Bt 8000 j)\/CMul i j
def CMulB.ok{i j:Int}(h:CMulB i j):IntMulOk i j:=by
 rcases h with⟨a,b⟩ | h
 .exact IntMulOk.of_le (m:=8000) (n:=8000) (LS.mpr a) (LS.mpr b) (by decide)
 .exact h.ok
def CDivB(i j:Int):Prop:=0<j/\Bt 8000 j
def CDivB.no{i j:Int}(h:CDivB i j):Builtin.divisionGoesByPylong i j=false:=by
 refine PyProof.noPylong_of_log2 ?_;have a:j.natAbs<2 ^ 8000:=h.2
 by_cases h0:j.natAbs=0
 .rw[h0];decide +kernel
 .have:j.natAbs.log2<8000:=(Nat.log2_lt h0).mpr a
  lia
def op_mulB:OpR X (E2 .Mult) (rI CMulB λi j=>.int (i*j)):=opI λ_ _ _ _ _ _ _ a q=>mul_int q a.ok
def op_fdivB:OpR X (E2 .FloorDiv) (rI CDivB λi j=>.int (i/j)):=opI λi j _ _ _ _ _ a q=>by
 have b:(0:Int)<j:=a.1;exact floordiv_int (by lia) (by rw[Int.fdiv_eq_ediv_of_nonneg i (by lia)];exact q) (.inl a.no)
def cO:OpR X (E2 .Mult) (rIC CMulB λi j=>.int (i*j)):=op_mulB.ic
def gx:OpR X (E2 .FloorDiv) (rIC CDivB λi j=>.int (i/j)):=op_fdivB.ic
def cmB{i j:Int}{m n:Nat}(h:Bt m i)(h':Bt n j)(b:m<=8000:=by decide)(a:n<=8000:=by decide):CMulB i j:=.inl ⟨h.mono b,h'.mono a⟩
def clB{i j:Int}(h:-(2 ^ 64)<i:=by decide)(a:i<2 ^ 64:=by decide):CMulB i j:=.inr (cl h a)
def crB{i j:Int}(h:-(2 ^ 64)<j:=by decide)(a:j<2 ^ 64:=by decide):CMulB i j:=.inr (cr h a)
def cdB{i j:Int}{n:Nat}(h:0<j)(h':Bt n j)(a:n<=8000:=by decide):CDivB i j:=⟨h,h'.mono a⟩
def AV:px "abs" = some (.builtin "abs"):=by decide +kernel
end
end L2
namespace L2
open PySem PySem.Spec PyProof.Rows
def CF:Expr->Bool
 | .Starred ..=>true
 | _=>false
def uf{e:Expr}{a:List Expr}{env:Env}(h:CF e=false):lg (e::a) env=(false,eval e env)::lg a env:=by
 cases e <;> first | rfl | cases h
def fA{X:Cx}{e:Expr}{a:List Expr}{b:TE}{t:TA}(c:PE X e b)(d:PA X a t)(h:CF e=false:=by rfl):PA X (e::a) (z0 b t):=aa c d (uf h)
@[irreducible] def PSq(X:Cx)(sts:List Stmt)(t:TS):Prop:=PSs X sts t
def BR{X:Cx}{st:Stmt}{a:List Stmt}{t u:TS}(c:PS X st t)(b:PSq X a u):PSs X (st::a) (az t u):=by
 unfold PSq at b;exact af c b
structure LamD where
 qual:Str
 params:Io
 body:Expr
 scope:D_
def b9(f:Addr)(d:LamD)(clos:List (Str×Addr))(c:Addr):Heap->Prop:=λh=>∃ pm ctv,h.get? f=some (IS "<lambda>" d.qual d.params d.body d.scope clos pm c ctv)
def aZ(c:Addr)(v:V):Heap->Prop:=λh=>∃ o u,h.get? c=some o/\o.data=.cell (some u)/\RelV v u
def bU(c:Addr)(q:Str):Heap->Prop:=λh=>∃ o vs t,h.get? c=some o/\o.data=.fields vs/\vs[1]? = some (.str q t)
section
variable {P:hH}{w:lA}{H:Hp}{h:Heap}
def jQ{f:Addr}{d:LamD}{b:List (Str×Addr)}{c:Addr}{g a:b_}(e:h.get? f=some (IS "<lambda>" d.qual d.params d.body d.scope b g c a)):ObjOk P w H h f (.ext (b9 f d b c)) :=
 ⟨⟨g,a,e⟩,⟨_,e⟩,λo j ⟨g,a,i⟩ k=>⟨g,a,k _ i⟩⟩
def fU{c:Addr}{v:V}(x:aZ c v h):ObjOk P w H h c (.ext (aZ c v)) :=
 ⟨x,let ⟨o,_,e,_⟩:=x;⟨o,e⟩,λb d ⟨o,u,a,r⟩ k=>⟨o,u,k _ a,r⟩⟩
def ko{c:Addr}{q:Str}(x:bU c q h):ObjOk P w H h c (.ext (bU c q)) :=
 ⟨x,let ⟨o,_,_,e,_⟩:=x;⟨o,e⟩,λd f ⟨o,a,t,b,r⟩ k=>⟨o,a,t,k _ b,r⟩⟩
end
def dU(a:Addr)(o:Obj)(b:o.data≠.freed):∃ h:Heap,h.get? a=some o:=by
 refine⟨{ objs:=Array.replicate (a+1) o },?_⟩;obtain⟨c,d,f,g⟩:=o
 cases f <;> first | exact absurd rfl b | simp[Heap.get?]
def fW{f:Addr}{d:LamD}{a:List (Str×Addr)}{c:Addr}{v:V}:HO.ext (b9 f d a c)≠HO.ext (aZ f v):=λe=>by
 injection e with e
 obtain⟨h,g⟩:=dU f (IS "<lambda>" d.qual d.params d.body d.scope a .none c .none) (by intro z;cases z);have y:aZ f v h:=by rw[<- e];exact⟨_,_,g⟩
 obtain⟨o,u,b,i,_⟩:=y;rw[g]at b;cases b;cases i
def cY{c:Addr}{q:Str}{v:V}:HO.ext (bU c q)≠HO.ext (aZ c v):=λe=>by
 injection e with e
 obtain⟨h,b⟩:=dU c { cls:=.none,data:=.fields #[.none,.str q 0] } (by intro z;cases z);have y:aZ c v h:=by rw[<- e];exact⟨_,_,_,b,rfl,rfl⟩
 obtain⟨o,u,a,d,_⟩:=y;rw[b]at a;cases a;cases d
def BH:HO->Bool
 | .tbl _=>false
 | _=>true
structure SameT(H H':Hp):Prop where
 old:∀ b o,H b=some o->(BH o=true->H' b=some o)/\∃ o',H' b=some o'
 gr:∀ b ps,H b=some (.tbl ps)->∃ more,H' b=some (.tbl (ps++more))/\(w_ ps.toList->w_ (ps++more).toList)
instance {H H':Hp}:CoeFun (SameT H H') λ_=>∀ b o,H b=some o->(BH o=true->H' b=some o)/\∃ o',H' b=some o':=⟨SameT.old⟩
def Same.t{H H':Hp}(s:Same H H'):SameT H H':=⟨λb o e=>⟨λ_=>s b o e,o,s b o e⟩,λb ps e=>⟨#[],by rw[s b _ e];simp,λt=>by simpa using t⟩⟩
def SameT.refl{H:Hp}:SameT H H:=Same.t λ_ _ e=>e
def SameT.trans{H h i:Hp}(a:SameT H h)(b:SameT h i):SameT H i:=⟨λc o e=>by
 obtain⟨f,q,p⟩:=a.old c o e;obtain⟨g,k,d⟩:=b.old c q p
 exact⟨λn=>(b.old c o (f n)).1 n,k,d⟩,λc ps e=>by
 obtain⟨m,r,u⟩:=a.gr c ps e;obtain⟨j,d,s⟩:=b.gr c _ r
 exact⟨m++j,by rw[d,E9],λt=>by have:=s (u t);rwa [E9]at this⟩⟩
def SameT.at{H H':Hp}(s:SameT H H'){a:Addr}{o:HO}(e:H a=some o)(n:BH o=true:=by rfl):H' a=some o:=(s.old a o e).1 n
def SameT.free{H H':Hp}(s:SameT H H'){a:Addr}(e:H' a=none):H a=none:=by
 cases q:H a with
 | none=>rfl
 | some o=>obtain⟨_,c,b⟩:=s.old a o q;rw[e]at b;cases b
def SameT.put{H H':Hp}(s:SameT H H'){a:Addr}{o:HO}(e:H a=none):SameT H (upd H' a o):=⟨λb u q=>by
 have n:b≠a:=λz=>by rw[z,e]at q;cases q
 rw[ae n]
 exact s.old b u q,λb u q=>by
 have n:b≠a:=λz=>by rw[z,e]at q;cases q
 rw[ae n]
 exact s.gr b u q⟩
def Ai(H:Hp)(P:Addr)(ls:List (Pos×Str)):Prop:=∃ ps,H P=some (.tbl ps)/\w_ ps.toList/\∀ l∈ls,ve l.1 ps.toList=none\/∃ c,ve l.1 ps.toList=some (.ref c)/\H c=some (.ext (bU c l.2))
abbrev d4:=List (Addr×List (Pos×Str))
def TabsOk(tabs:d4)(H:Hp):Prop:=∀ q∈tabs,Ai H q.1 q.2
def TabsOk.same{d:d4}{H H':Hp}(t:TabsOk d H)(s:Same H H'):TabsOk d H':=λq h=>by
 obtain⟨k,g,i,f⟩:=t q h;exact⟨k,s _ _ g,i,λl j=>(f l j).imp id λ⟨c,a,b⟩=>⟨c,a,s _ _ b⟩⟩
def TabsOk.put{d:d4}{H:Hp}{r:Addr}{o:HO}(t:TabsOk d H)(i:∀ ps,H r≠some (.tbl ps))(h:∀ φ,H r≠some (.ext φ)):TabsOk d (upd H r o):=λq j=>by
 obtain⟨ps,f,k,g⟩:=t q j;refine⟨ps,?_,k,λl p=>(g l p).imp id λ⟨c,a,b⟩=>⟨c,a,?_⟩⟩
 .rw[ae λz=>i ps (by rw[<- z];exact f)];exact f
 .rw[ae λz=>h _ (by rw[<- z];exact b)];exact b
def dS{p d:Pos}{c:b_}(l:List b_)(h:w_ l)(f:¬(p.line=d.line/\p.col=d.col)):ve d (l++[n7 p.line,n7 p.col,c])=ve d l:=by
 fun_induction w_ l with
 | case1 =>
  simp only[Ja,ve,n7];rw[if_neg];intro z;rw[il,beq_iff_eq,beq_iff_eq]at z;exact f ⟨by lia,by lia⟩
 | case2 a t b u x rest ih =>
  simp only[G7,ve];rw[ih h]
 | case3=>exact h.elim
def be{p:Pos}{c:b_}(l:List b_)(h:w_ l):w_ (l++[n7 p.line,n7 p.col,c]):=by
 fun_induction w_ l with
 | case1=>simp[w_,n7]
 | case2 a t b u x rest ih=>exact ih h
 | case3=>exact h.elim
def Bm(mg:Str->Option b_)(base:Heap):Prop:=∃ bm ob,mg "__builtins__" = some (.ref bm)/\base.get? bm=some ob/\ob.cls=.type "module" /\ ob.dict=some E8/\ob.data=.plain
def Dj(tabs:d4)(d:LamD)(clos:List (Str×Addr)):TE:=λσ H Q=>TabsOk tabs H/\∀ f c H1,SameT H H1->TabsOk tabs H1->H f=none->H1 f=some (.ext (b9 f d clos c))->H1 c=some (.ext (bU c d.qual))->Q (.ref f) H1
def fY{c b:Type}:∀{l:List (c×b)},(l.map (·.1)).Nodup->∀ x∈l,∀ y∈l,x.1=y.1->x=y
 | [],_,x,hx,_,_,_=>by cases hx
 | a::r,nd,x,hx,y,hy,e=>by
  rw[l_,sr]at nd
  rcases i_.mp hx with rfl | hx' <;> rcases i_.mp hy with rfl | hy'
  .rfl
  .exact absurd (nh.mpr ⟨y,hy',e.symm⟩) nd.1
  .exact absurd (nh.mpr ⟨x,hx',e⟩) nd.1
  .exact fY nd.2 x hx' y hy' e
def jP:∀{l:List (Pos×Str)},(l.Pairwise λx y=>¬(x.1.line=y.1.line/\x.1.col=y.1.col))->∀ x∈l,∀ y∈l,(x.1.line=y.1.line/\x.1.col=y.1.col)->x=y
 | [],_,x,hx,_,_,_=>by cases hx
 | a::r,nd,x,hx,y,hy,e=>by
  rw[FH]at nd
  rcases i_.mp hx with rfl | hx' <;> rcases i_.mp hy with rfl | hy'
  .rfl
  .exact absurd e (nd.1 y hy')
  .exact absurd ⟨e.1.symm,e.2.symm⟩ (nd.1 x hx')
  .exact jP nd.2 x hx' y hy' e
section
variable {X:Cx}{tabs:d4}{P c:Addr}{ls:List (Pos×Str)}{d:LamD}{clos:List (Str×Addr)}{pos:Pos}
def di(Y:X.env.code=.ref c)(hC:ED X.K c P=true)(hB:Bm X.mg X.base)(hq:X.env.qual ++ "<lambda>" = d.qual)(ah:F0 d.scope X.env=pure clos)(al:defaultsOf d.params X.env=([],[]))
  (hm:(P,ls)∈tabs) (hl:(pos,d.qual)∈ls) (bl:(tabs.map (·.1)).Nodup) (a0:ls.Pairwise λx y=>¬(x.1.line=y.1.line/\x.1.col=y.1.col)):PE X (.Lambda d.params d.body d.scope pos) (Dj tabs d clos):=by
 intro bF s σ H Q I h;obtain⟨hT,hQ⟩:=h;refine kla_eval al ?_;rw[hq];obtain⟨J,r,p,ab⟩:=hT _ hm;have A:s.heap.Ns oe X.mg:=I.mod.glob.keeps I.bk;have C:Jc s.heap c P:=Kp I.kIn hC;have v:s.heap.get? P=some (Fz J):=I.hok P _ r
 have bq:oe≠P:=λq=>by
  obtain⟨o,es,ep,e,hd,_⟩:=A;rw[q,v]at e;cases e;cases hd
 obtain⟨bm,ob,b1,b2,b3,b4,R⟩:=hB;have O:=I.bk _ _ b2
 have as:bm≠P:=λq=>by
  rw[q,v]at O;cases O;cases b3
 have bg:bm≠oe:=λq=>by
  obtain⟨o,es,ep,e,hd,_⟩:=A;rw[q,e]at O;cases O;rw[hd]at R;cases R
 have bt:bm≠E8:=λq=>by
  obtain⟨mb,⟨o,es,ep,e,hd,_⟩,_⟩:=I.mod.blt;rw[q,e]at b2;cases b2;rw[hd]at R;cases R
 have BA:s.heap.BuiltinsAt X.mg P:=⟨bm,ob,b1,bt,bg,as,O,b3,b4,R⟩
 rcases ab _ hl with hn | ⟨i,hc,bn⟩
 .refine HY (mg:=X.mg) ah I.ok.glob A Y C v p hn bq BA λi L h' tk hx w G S an=>?_
  have M:H i=none:=I.hok.fresh w;have j:H h'.objs.size=none:=I.hok.fresh (lB w (rA G));have T:i≠h'.objs.size:=kw G;have a3:P≠i:=ai r M;have Z:P≠h'.objs.size:=ai r j
  obtain⟨f,hf⟩:∃ f,f=h'.objs.size:=⟨_,rfl⟩
  obtain⟨ob',hob⟩:∃ o,o=IS "<lambda>" d.qual d.params d.body d.scope clos ((X.mg "__name__").getD .none) i L:=⟨_,rfl⟩
  have a2:(h'.push ob').get? f=some ob':=by rw[hf,hob];exact ie _ rfl
  have k:∀ b o,b≠P->s.heap.get? b=some o->(h'.push ob').get? b=some o:=λb o n e=>c_ _ (hx b o n e)
  have D:(h'.push ob').get? P=some (Fz (J ++ #[n7 pos.line,n7 pos.col,.ref i])):=c_ _ an
  have a1:bU i d.qual (h'.push ob'):=by
   obtain⟨E,oc,vs,t,e2,bb,a5,hv⟩:=S;cases e2;exact⟨oc,vs,t,c_ _ bb,a5,hv⟩
  rw[<- hf]at j T Z ⊢;rw[<- hob]
  obtain⟨H1,hH1⟩:∃ H1,H1=upd (upd (upd H P (.tbl (J ++ #[n7 pos.line,n7 pos.col,.ref i]))) i (.ext (bU i d.qual))) f (.ext (b9 f d clos i)):=⟨_,rfl⟩
  have gf:H1 f=some (.ext (b9 f d clos i)):=by rw[hH1];exact ac
  have gc:H1 i=some (.ext (bU i d.qual)):=by rw[hH1,ae T];exact ac
  have W:H1 P=some (.tbl (J ++ #[n7 pos.line,n7 pos.col,.ref i])):=by rw[hH1,ae Z,ae a3];exact ac
  have go:∀ b,b≠P->b≠i->b≠f->H1 b=H b:=λb h1 h2 h3=>by rw[hH1,ae h3,ae h2,ae h1]
  have g:∀ b o,b≠P->H b=some o->H1 b=some o:=λb o n e=>by rw[go b n (ai e M) (ai e j)];exact e
  have F:∀ b o,H b=some o->(∀ qs,o≠.tbl qs)->b≠P:=λb o e n z=>by rw[z,r]at e;cases e;exact n J rfl
  have un:Un X.fs [] H H1 s.heap (h'.push ob'):=by
   refine⟨λb o e n _ _=>k b o (λz=>by rw[z,r]at n;cases n) e,λb o e n _ _=>⟨o.slots,k b o (λz=>by rw[z,r]at n;cases n) e⟩,λb o e n _=>?_,λb o e _=>?_,λb xs e=>g b _ (F b _ e λ_ z=>nomatch z) e,λb o u e=>g b _ (F b _ e λ_ z=>nomatch z) e,λb qs e=>?_⟩
   .have hb:b<s.heap.objs.size:=f_ e
    rw[go b (λz=>by rw[z,r]at n;cases n) (kw (g_ hb w)) (by rw[hf];exact kw (g_ hb (lB w (rA G))))];exact n
   .by_cases hb:b=P
    .rw[hb];exact⟨_,D⟩
    .exact⟨o,k b o hb e⟩
   .by_cases hb:b=P
    .rw[hb,r]at e
     cases e;rw[hb];exact⟨_,W⟩
    .exact⟨#[],by rw[g b _ hb e];simp⟩
  have br:HOk X.prog X.w H1 (h'.push ob'):=λa o e=>by
   by_cases h1:a=f
   .subst h1;rw[gf]at e;cases e;exact jQ (by rw[a2,hob])
   by_cases h2:a=i
   .subst h2;rw[gc]at e;cases e;exact ko a1
   by_cases h3:a=P
   .subst h3;rw[W]at e;cases e;exact D
   rw[go a h3 h2 h1]at e;refine(I.hok a o e).stay (λb u hb q=>k b u ?_ q) (λb q=>g b _ (F b _ q λ_ z=>nomatch z) q) λb xs q=>g b _ (F b _ q λ_ z=>nomatch z) q
   rcases hb with rfl | hb
   .exact h3
   .exact F b _ hb λ_ z=>nomatch z
  refine⟨.ref f,H1,I.un (h':=h'.push ob') (t':=tk) un br,rfl,hQ f i H1 ⟨λb o e=>?_,λb qs e=>?_⟩ (λq hq'=>?_) j gf gc⟩
  .by_cases hb:b=P
   .subst hb
    rw[r]at e;cases e;exact⟨λz=>(hY z).elim,_,W⟩
   .exact⟨λ_=>g b o hb e,o,g b o hb e⟩
  .by_cases hb:b=P
   .subst hb
    rw[r]at e;cases e;exact⟨_,W,λt=>by rw[nw];exact be _ t⟩
   .exact⟨#[],by rw[g b _ hb e];simp,λt=>by simpa using t⟩
  .by_cases hqP:q.1=P
   .have a':q=(P,ls):=fY bl q hq' (P,ls) hm hqP
    subst a';refine⟨_,W,by rw[nw];exact be _ p,λK B=>?_⟩;rw[nw]
    by_cases hp:pos.line=K.1.line/\pos.col=K.1.col
    .have:=jP a0 (pos,d.qual) hl K B hp
     subst this;exact .inr ⟨i,F5 _ p hn,gc⟩
    .have eo:=dS (c:=.ref i) J.toList p hp
     rcases ab K B with z | ⟨E,z1,z2⟩
     .exact .inl (eo.trans z)
     .exact .inr ⟨E,eo.trans z1,g E _ (F E _ z2 λ_ z=>nomatch z) z2⟩
   .obtain⟨qs,e1,e2,e3⟩:=hT q hq'
    exact⟨qs,g _ _ hqP e1,e2,λK B=>(e3 K B).imp id λ⟨E,z1,z2⟩=>⟨E,z1,g E _ (F E _ z2 λ_ z=>nomatch z) z2⟩⟩
 .refine Hu (mg:=X.mg) ah I.ok.glob A Y C v p hc BA λL h' tk hk N=>?_
  have j:H h'.objs.size=none:=I.hok.fresh N;have sm:Same H (upd H h'.objs.size (.ext (b9 h'.objs.size d clos i))):=Same.new j;refine⟨.ref h'.objs.size,_,I.laid (a:=h'.objs.size) (o:=.ext (b9 h'.objs.size d clos i)) (t':=tk) (λb u e=>c_ _ (hk b u e)) N (jQ (ie _ rfl)),rfl,hQ _ i _ sm.t (hT.same sm) j ac (sm _ _ bn)⟩
end
def untrs(H:Hp)(cs:List Addr):Hp:=λb=>if b∈cs then none else H b
def bJ{H:Hp}{a:List Addr}{b:Addr}(h:b∈a):untrs H a b=none:=by unfold untrs;rw[if_pos h]
def ay{H:Hp}{a:List Addr}{b:Addr}(h:b ∉ a):untrs H a b=H b:=by unfold untrs;rw[if_neg h]
def aM{H:Hp}{a:List Addr}{b:Addr}(h:H b=none):untrs H a b=none:=by unfold untrs;split <;> first | rfl | exact h
abbrev CellsAt(H:Hp):List (Str×Addr)->List V->Prop:=Paired λ(p:Str×Addr) (v:V)=>H p.2=some (.ext (aZ p.2 v))
def CellsAt.mem{H:Hp}:∀{clos:List (Str×Addr)}{vals:List V},CellsAt H clos vals->∀ p∈clos,∃ v,H p.2=some (.ext (aZ p.2 v))
 | _,_,.nil,p,h=>by cases h
 | _,_,.cons r t,p,h=>by
  rcases i_.mp h with rfl | h
  .exact⟨_,r⟩
  .exact CellsAt.mem t p h
def CellsAt.get{H:Hp}:∀{clos:List (Str×Addr)}{vals:List V}{i:Nat}{v:V},CellsAt H clos vals->vals[i]? = some v->∃ p,clos[i]? = some p/\H p.2=some (.ext (aZ p.2 v))
 | _,_,_,_,.nil,h=>by cases h
 | _,_,0,_,.cons r t,h=>by cases h;exact⟨_,rfl,r⟩
 | _,_,i+1,_,.cons r t,h=>CellsAt.get (i:=i) t h
def CellsAt.at{H:Hp}{a:List (Str×Addr)}{c:List V}(d:CellsAt H a c){b:Addr}(f:b∈a.map (·.2)):∃ v,H b=some (.ext (aZ b v)):=by
 obtain⟨p,g,rfl⟩:=nh.mp f;exact d.mem p g
def aq{H:Hp}{a:List (Str×Addr)}{c:List V}{b:Addr}{o:HO}(d:CellsAt H a c)(h:H b=some o)(n:∀ v,o≠.ext (aZ b v)):untrs H (a.map (·.2)) b=some o:=by
 rw[ay λz=>?_]
 .exact h
 .obtain⟨v,e⟩:=d.at z
  rw[h]at e;exact n v (k7 e)
def bQ{a:Type}:∀{l:List (Str×a)}{x:Str}{u:a},(l.map (·.1)).Nodup->(x,u)∈l->l.lookup x=some u
 | [],_,_,_,h=>by cases h
 | (y,w)::r,x,u,nd,h=>by
  rw[l_,sr]at nd
  rcases i_.mp h with e | h
  .cases e;simp[E3]
  .have:x≠y:=λz=>nd.1 (nh.mpr ⟨(x,u),h,z⟩)
   rw[Gi,beq_eq_false_iff_ne.mpr this];exact bQ nd.2 h
def uD{a:Type}{l:List a}(h:l.Nodup):l.reverse.Nodup:=by
 unfold List.Nodup at h ⊢;rw[List.pairwise_reverse];exact h.imp λn z=>n z.symm
def fe(d:LamD)(L f c:Addr)(clos:List (Str×Addr)):Env:={ scope:=d.scope,locals:=L,globals:=oe,cells:=clos,qual:=d.qual ++ ".<locals>.",func:=some f,code:=.ref c,frame:=some L,builtins:=E8 }
def cxL(P:hH)(w:lA)(K:Frag)(mg:Str->Option b_)(base:Heap)(N:List Str)(d:LamD)(clos:List (Str×Addr))(f c:Addr)(A:m_)(outer:List Env)(s:e_)(H:Hp):Cx where
 prog:=P
 w:=w
 K:=K
 mg:=mg
 base:=base
 A:=A.deeper (fe d s.heap.objs.size f c clos)
 N:=N
 s₀:=s
 H₀:=untrs H (clos.map (·.2))
 env:=fe d s.heap.objs.size f c clos
 outer:=outer
 stack:=fe d s.heap.objs.size f c clos::outer
 ex:=[]
 calm:=true
 fn:=λ_=>false
 pn:=[]
 xe:=λ_ _=>False
def LamOkC(P:hH)(w:lA)(K:Frag)(mg:Str->Option b_)(base:Heap)(k:Nat)(d:LamD)(fv ps:List Str)(sp:List (Str×Addr)->List V->Sp):Prop :=
 ∀(A:m_) (outer:List Env) (s:e_) (H:Hp) (f c:Addr) (clos:List (Str×Addr)) (us:List b_) (vs vals:List V) (Q:VK) (E:XK),Room k A->Env0 P w K mg base A outer s H->H f=some (.ext (b9 f d clos c))->H c=some (.ext (bU c d.qual)) ->
  clos.map (·.1)=fv->(clos.map (·.2)).Nodup->CellsAt H clos vals->Vals vs us->sp clos vals vs H Q E->E_ (lh P w) A (.call (.ref f) ⟨us,[]⟩) (CR CX0 outer P w H s Q E) s
def LamOk(P:hH)(w:lA)(K:Frag)(mg:Str->Option b_)(base:Heap)(k:Nat)(d:LamD)(fv ps:List Str)(sp:List V->Sp):Prop:=LamOkC P w K mg base k d fv ps λ_=>sp
structure LamScope(d:LamD)(fv ps:List Str):Prop where
 kind:d.scope.kind=.function
 co:d.scope.isCoroutine=false
 gen:d.scope.isGenerator=false
 nocell:∀ x∈d.scope.names,x.2≠.cell
 par:∀ x ∈ ps,d.scope.names.lookup x = some .local
 free:∀ x∈d.scope.names,x.2=.free->x.1∈fv
 fr:∀ x∈fv,d.scope.names.lookup x=some .free
 nd:(ps++fv).Nodup
def a4{a b:Type}[BEq a][LawfulBEq a]:∀{l:List (a×b)}{x:a}{u:b},l.lookup x=some u->(x,u)∈l
 | [],_,_,h=>by cases h
 | (y,w)::r,x,u,h=>by
  rw[Gi]at h;cases e:x == y with
  | true=>rw[e]at h;cases h;rw[eq_of_beq e];exact gT ..
  | false=>rw[e]at h;exact hI _ (a4 h)
def lC{P:hH}{w:lA}{K:Frag}{mg:Str->Option b_}{E:Heap}{d:LamD}{M ps:List Str}{a:List (Str×Addr)}{f c:Addr}{A:m_}{j:List Env}{s:e_}{H:Hp}{us:List b_}{vs g:List V}{J:Heap}{tk:Nat}
  (S:LamScope d M ps) (hd:A.handled=none) (F:Env0 P w K mg E A j s H) (hl:vs.length=ps.length) (r:Vals vs us) (D:a.map (·.1)=M) (al:(a.map (·.2)).Nodup) (T:CellsAt H a g)
  (ab:J.Ns s.heap.objs.size (λx=>(ps.zip us).reverse.lookup x)) (hk:∀ b o,s.heap.get? b=some o->J.get? b=some o) :
  Inv (cxL P w K mg E (ps++M) d a f c A j s H) [] ((vs++g).map some) (untrs H (a.map (·.2))) { s with heap:=J,toks:=tk }:=by
 have R:(a.map (·.1)).Nodup:=by rw[D];exact(rD.mp S.nd).2.1
 have Z:ps.Nodup:=(rD.mp S.nd).1;have as:us.length=ps.length:=by rw[<- r.length];exact hl
 have Q:∀ x k,a.lookup x=some k->k∈a.map (·.2):=λx k e=>nh.mpr ⟨(x,k),a4 e,rfl⟩
 have B:∀ b v,H b=some (.ext (aZ b v))->∃ u,RelV v u/\J.IsCell b (some u):=λb v e=>by
  obtain⟨⟨o,u,G,C,g3⟩,_⟩:=F.hok b _ e;exact⟨u,g3,o,hk _ _ G,C⟩
 have L:∀ b:Addr,b ∉ (cxL P w K mg E (ps++M) d a f c A j s H).ex:=λb z=>absurd (show b∈([]:List Addr) from z) (by simp)
 have a0:a.length=M.length:=by rw[<- D,d_]
 have an:g.length=a.length:=(rn T).symm
 refine⟨⟨F.mod,S.kind,rfl,rfl,fS _,λy z k J h2=>?_,λy hy=>?_,λy k h=>(hY h).elim,λ_=>hd,Gu F.frames,.inr ⟨rfl,rfl⟩,λb z=>absurd z (L b),λb o e=>⟨(F.bs b o e).1,aM (F.bs b o e).2⟩,F.bsz,λb _ _=>L b,λb z=>absurd z (L b),F.funs,λb hb=>aM (F.frf b hb)⟩,
  rfl,F.bare,Un.kept hk,⟨_,ab,λi y v G C g3=>?_⟩,λy k h=>?_,aM (F.hok.fresh (fS _)),λy k h=>bJ (Q y k h),λp O=>absurd (show p∈([]:List (Addr×Obj)) from O) (by simp),λb u e=>?_,?_⟩
 .have J:a.lookup y=some k:=J
  have h2:a.lookup z=some k:=h2;have e1:=a4 J;have e2:=a4 h2;have X:((a.map λp=>(p.2,p.1)).map (·.1)).Nodup:=by rw[A8];exact al
  have:=fY X (k,y) (nh.mpr ⟨_,e1,rfl⟩) (k,z) (nh.mpr ⟨_,e2,rfl⟩) rfl;exact congrArg KE this
 .have hy:d.scope.names.lookup y=some .cell\/d.scope.names.lookup y=some .free:=hy
  rcases hy with hy | hy
  .exact absurd rfl (S.nocell _ (a4 hy))
  .have:=S.free _ (a4 hy) rfl
   rw[<- D]at this;obtain⟨p,O,e⟩:=nh.mp this;have e':p.1=y:=e;exact⟨p.2,bQ R (by show(y,p.2)∈a;rw[<- e'];exact O)⟩
 .have G:(ps++M)[i]? = some y:=G
  by_cases hi:i<ps.length
  .rw[p0 hi]at G
   rw[gb,p0 (by lia)]at C
   have N:vs[i]? = some v:=by
    cases q:vs[i]? with
    | none=>rw[q]at C;cases C
    | some x=>rw[q]at C;cases C;rfl
   obtain⟨u,hu,Y⟩:=r.get N;refine⟨u,Y,.inl ⟨S.par y (ge G),?_⟩⟩;have ah:(y,u)∈ps.zip us:=ge (i:=i) (by rw[List.getElem?_zip_eq_some];exact⟨G,hu⟩);refine bQ ?_ (List.mem_reverse.mpr ah);rw[List.map_reverse];refine uD ?_;have:(ps.zip us).map (·.1)=ps:=by rw[List.map_fst_zip];lia
   rw[this];exact Z
  .rw[o_ (by lia)]at G
   rw[gb,o_ (by lia)]at C
   have N:g[i - ps.length]? = some v:=by
    rw[hl]at C;cases q:g[i - ps.length]? with
    | none=>rw[q]at C;cases C
    | some x=>rw[q]at C;cases C;rfl
   obtain⟨p,O,e⟩:=T.get N;rw[<- D,gb,O]at G;cases G;obtain⟨u,Y,ic⟩:=B _ _ e;have I:=ge O;refine⟨u,Y,.inr ⟨.inr (S.fr p.1 ?_),p.2,bQ R I,ic⟩⟩;rw[<- D];exact nh.mpr ⟨p,I,rfl⟩
 .obtain⟨v,e⟩:=T.at (Q y k h)
  obtain⟨u,_,ic⟩:=B _ _ e;exact⟨_,ic⟩
 .by_cases hb:b∈a.map (·.2)
  .rw[bJ hb]at e;cases e
  .rw[ay hb]at e
   refine(F.hok b u e).stay (λW u' _ q=>hk W u' q) (λW q=>?_) λW xs q=>?_
   .exact aq T q λv z=>nomatch z
   .exact aq T q λv z=>nomatch z
 .show((vs++g).map some).length=(ps++M).length
  rw[d_,gV,gV];lia
section
variable {P:hH}{w:lA}{K:Frag}{mg:Str->Option b_}{base:Heap}
def sG{d:LamD}{O ps:List Str}{k:Nat}{sp:List (Str×Addr)->List V->Sp}(S:LamScope d O ps)
  (C:∀(pm ctv:b_) (clos:List (Str×Addr)) (c:Addr) (us:List b_),us.length=ps.length->FW (kla_fn "<lambda>" d.qual d.params d.body d.scope clos pm (.ref c) ctv) ⟨us,[]⟩=pure (ps.zip us))
  (ab:∀ clos vals vs H Q E,sp clos vals vs H Q E->vs.length=ps.length)
  (x:∀(A:m_) (outer:List Env) (s:e_) (H:Hp) (f c:Addr) (clos:List (Str×Addr)) (vals vs:List V) (Q:VK) (E:XK),Room k (A.deeper (fe d s.heap.objs.size f c clos))->clos.map (·.1)=O->CellsAt H clos vals->sp clos vals vs H Q E ->
   ∃ t,PE (cxL P w K mg base (ps++O) d clos f c A outer s H) d.body t/\t ((vs++vals).map some) (untrs H (clos.map (·.2))) (λv H'=>∀ H3,Same H' H3->(∀ p∈clos,H3 p.2=H p.2)->Q v H3)) :
  LamOkC P w K mg base (k+1) d O ps sp:=by
 intro A outer s H f c clos us vs vals Q E Y j hf hc G ah D r N;have hl:=ab _ _ _ _ _ _ N;have W:us.length=ps.length:=by rw[<- r.length];exact hl
 obtain⟨⟨pm,ctv,ef⟩,_,_⟩:=j.hok f _ hf;obtain⟨⟨oc,R,ct,ec,ed,ev⟩,_,_⟩:=j.hok c _ hc;have Z:s.heap.NoLimit:=j.mod.nolimit.keeps λb o e=>(j.bs b o e).1
 obtain⟨t,ht,hq⟩:=x A outer s H f c clos vals vs Q E (Y.deeper _) G D N;refine PySem.W.kla_callFunE (body:=d.body) Y.depth ef rfl S.co S.gen rfl ⟨c,oc,R,ct,rfl,ec,ed,ev⟩ ?_;rw[C pm ctv clos c us W];refine fL (G6 S.nocell (λy hy=>S.par y.1 (Fy hy).1) (λh1 hns hsb=>?_) S.kind);have hk:∀ b o,s.heap.get? b=some o->h1.get? b=some o:=λb o e=>hsb.extBut b o (kw (f_ e)) (c_ _ e)
 refine⟨Z.fresh _ hsb,?_⟩;show E_ _ _ (.expr d.body (fe d s.heap.objs.size f c clos)) _ _;have I:=lC (f:=f) (c:=c) (tk:=s.toks+(ps.zip us).length) S Y.hd j hl r G ah D hns hk;refine PySem.W.kla_codeExpr (rc (ht [] _ _ _ _ I hq) (λu s' hs=>?_) λe s' z=>k_ z);obtain⟨v,H',J,rv,q⟩:=hs
 obtain⟨cs,hcs⟩:∃ cs,cs=clos.map (·.2):=⟨_,rfl⟩
 have h:Un (frs outer) [] (untrs H (clos.map (·.2))) H' s.heap s'.heap:=J.base
 have B:∀ b,b∈clos.map (·.2)->∃ o v,s.heap.get? b=some o/\H b=some (.ext (aZ b v)):=λb a=>by
  obtain⟨v,e⟩:=D.at a;obtain⟨⟨o,_,g,_⟩,_⟩:=j.hok b _ e;exact⟨o,v,g,e⟩
 have T:∀ b∈clos.map (·.2),H' b=none:=λb a=>by
  obtain⟨o,v,g,_⟩:=B b a;exact h.free b o g (bJ a) (by simp)
 let H3:Hp:=λb=>if b∈clos.map (·.2) then H b else H' b
 have g1:∀ b,b∈clos.map (·.2)->H3 b=H b:=λb a=>if_pos a
 have X:∀ b,b ∉ clos.map (·.2)->H3 b=H' b:=λb a=>if_neg a
 have F:Same H' H3:=λb o e=>by
  rw[X b λz=>by rw[T b z]at e;cases e];exact e
 have up:∀ b o,H b=some o->(∀ v,o≠.ext (aZ b v))->b ∉ clos.map (·.2):=λb o e n z=>by
  obtain⟨v,i⟩:=D.at z;rw[e]at i;exact n v (k7 i)
 refine⟨v,H3,J.os,J.bare,⟨λb o e n a L=>h.keep b o e (aM n) a L,λb o e n a L=>h.slot b o e (aM n) a L,λb o e n L=>?_,h.there,λb xs e=>?_,λb o u e=>?_,λb ps' e=>?_⟩,λb o e=>?_,rv,q H3 F λp hp=>g1 p.2 (nh.mpr ⟨p,hp,rfl⟩)⟩
 .rw[X b λz=>by obtain⟨_,v,_,i⟩:=B b z;rw[n]at i;cases i]
  exact h.free b o e (aM n) L
 .exact F _ _ (h.tups b xs (aq D e λv z=>nomatch z))
 .exact F _ _ (h.frzs b o u (aq D e λv z=>nomatch z))
 .obtain⟨M,z⟩:=h.tbls b ps' (aq D e λv z=>nomatch z)
  exact⟨M,F _ _ z⟩
 .by_cases a:b∈clos.map (·.2)
  .rw[g1 b a]at e
   obtain⟨o',v',g,i⟩:=B b a;rw[e]at i;cases i;obtain⟨⟨o2,u2,k1,k2,k3⟩,_⟩:=j.hok b _ e;refine fU ⟨o2,u2,h.keep b o2 k1 (bJ a) (λz=>?_) (by simp),k2,k3⟩;rw[j.frf b z]at e;cases e
  .rw[X b a]at e
   refine(J.hok b o e).stay (λb' u' _ q=>q) (λb' q=>F _ _ q) λb' xs q=>F _ _ q
def dB{d:LamD}{g ps:List Str}{k:Nat}{sp:List V->Sp}(S:LamScope d g ps)
  (b:∀(pm ctv:b_) (clos:List (Str×Addr)) (c:Addr) (us:List b_),us.length=ps.length->FW (kla_fn "<lambda>" d.qual d.params d.body d.scope clos pm (.ref c) ctv) ⟨us,[]⟩=pure (ps.zip us))
  (h:∀ vals vs H Q E,sp vals vs H Q E->vs.length=ps.length)
  (a:∀(A:m_) (outer:List Env) (s:e_) (H:Hp) (f c:Addr) (clos:List (Str×Addr)) (vals vs:List V) (Q:VK) (E:XK),Room k (A.deeper (fe d s.heap.objs.size f c clos))->clos.map (·.1)=g->CellsAt H clos vals->sp vals vs H Q E ->
   ∃ t,PE (cxL P w K mg base (ps++g) d clos f c A outer s H) d.body t/\t ((vs++vals).map some) (untrs H (clos.map (·.2))) (λv H'=>∀ H3,Same H' H3->(∀ p∈clos,H3 p.2=H p.2)->Q v H3)) :
  LamOk P w K mg base (k+1) d g ps sp:=sG (sp:=λ_=>sp) S b (λ_=>h) a
end
def PE.or{X:Cx}{e:Expr}{t t':TE}(h:PE X e t)(h':PE X e t'):PE X e (λσ H Q=>t σ H Q\/t' σ H Q):=λa s σ H Q I q=>q.elim (h a s σ H Q I) (h' a s σ H Q I)
def pD(d:LamD)(fv:List Str)(sp:List (Str×Addr)->List V->Sp):V->List V->Hp->VK->Prop:=λv vs H Q=>∃ f c clos vals,v=.ref f/\H f=some (.ext (b9 f d clos c))/\H c=some (.ext (bU c d.qual))/\clos.map (·.1)=fv/\(clos.map (·.2)).Nodup/\CellsAt H clos vals/\sp clos vals vs H Q λ_ _ _=>False
def ke(d:LamD)(fv:List Str)(sp:List V->Sp):V->List V->Hp->VK->Prop:=pD d fv λ_=>sp
def Bx(d:LamD)(fv:List Str)(sp:List V->Sp)(tf:TE)(t:TA):TE:=λσ H Q=>tf σ H λv H1=>(∃ f d' clos c,v=.ref f/\H1 f=some (.ext (b9 f d' clos c)))/\t σ H1 λvs H2=>(∀ f d' clos c,v=.ref f->H1 f=some (.ext (b9 f d' clos c))->H2 f=some (.ext (b9 f d' clos c)))/\ke d fv sp v vs H2 Q
section
variable {X:Cx}{d:LamD}{fv ps:List Str}{k:Nat}{sp:List V->Sp}{x:Str}{p pos:Pos}{tf:TE}{t:TA}{e:Expr}{es:List Expr}
def tK{sp:List (Str×Addr)->List V->Sp}{a:List (Addr×Obj)}{j:St}{H:Hp}{s:e_}{Q:VK}{us:List b_}{vs:List V}{v:V}{u:b_}(L:LamOkC X.prog X.w X.K X.mg X.base k d fv ps sp)(q:Room k X.A)(I:Inv X a j H s)(w:RelV v u)(r:Vals vs us)(h:pD d fv sp v vs H Q) :
  ig (lh X.prog X.w) X.A (call u us) (EP X a j Q) X.xe s:=by
 obtain⟨f,c,b,i,rfl,x,A,y,p,o,z⟩:=h;obtain rfl:u=lb f:=w;refine Fk (A5 (L X.A X.stack s H f c b us vs i Q _ q I.env0 x A y p o r z) λr B g=>?_);cases r with
 | error e=>exact k_ g
 | ok fl =>
  cases fl with
  | ret u=>exact I.after g
  | next=>exact k_ g
  | brk=>exact k_ g
  | cont=>exact k_ g
def nO{H:Hp}{s:e_}{P:hH}{w:lA}{f c:Addr}{d:LamD}{a:List (Str×Addr)}(b:HOk P w H s.heap)(h:H f=some (.ext (b9 f d a c))):FnAt f s.heap:=by
 obtain⟨⟨j,g,i⟩,_,_⟩:=b f _ h;exact⟨_,_,_,_,i⟩
def dA(G:PE X (.Name x p) tf)(L:LamOk X.prog X.w X.K X.mg X.base k d fv ps sp)(F:Room k X.A)(B:PA X (e::es) t)
  (D:lg (e::es) X.env=(false,eval e X.env)::lg es X.env:=by rfl) (b:(z_ pos (lg es X.env)).any (·.1)=false:=by rfl):PE X (.Call (.Name x p) (e::es) [] pos) (Bx d fv sp tf t):=by
 intro a s j H Q I h;refine ql (thn (G a s j H _ I h) λu E ⟨v,z,g,A,⟨f,K,o,c,C,w⟩,q⟩=>?_);subst C;obtain rfl:u=lb f:=A;refine callWith_F (nO g.hok w) (thn (B pos a E j z _ g q) λM J ⟨N,O,y,r,i⟩=>⟨nO y.hok (i.1 _ _ _ _ rfl w),?_⟩) D b;exact tK L F y (v:=.ref f) rfl r i.2
def eJ{sp:List (Str×Addr)->List V->Sp}(j:PE X (.Name x p) tf)(L:LamOkC X.prog X.w X.K X.mg X.base k d fv ps sp)(o:Room k X.A):PE X (.Call (.Name x p) [] [] pos) (λσ H Q=>tf σ H λv H1=>pD d fv sp v [] H1 Q):=by
 intro a s σ H Q I h;refine ql (thn (j a s σ H _ I h) λu z ⟨v,H1,g,r,q⟩=>?_);obtain⟨f,c,b,i,y,w,_⟩:=id q;subst y;obtain rfl:u=lb f:=r;exact PySem.W.callWith_F0 (nO g.hok w) (tK (us:=[]) L o g (v:=.ref f) rfl .nil q)
def aY(b:PE X (.Name x p) tf)(L:LamOk X.prog X.w X.K X.mg X.base k d fv ps sp)(a:Room k X.A):PE X (.Call (.Name x p) [] [] pos) (λσ H Q=>tf σ H λv H1=>ke d fv sp v [] H1 Q):=eJ b L a
end
abbrev TR:=VK->(V->St->Hp->Prop)->St->Hp->Prop
def PR(X:Cx)(sts:List Stmt)(t:TR):Prop :=
 ∀(pins:List (Addr×Obj)) (s:e_) (σ:St) (H:Hp) (R:VK) (Z:V->St->Hp->Prop),Inv X pins σ H s->t R Z σ H ->
  ig (lh X.prog X.w) X.A (execs sts X.env) (λf s'=>∃ u,f=.ret u/\((∃ v σ' H',Inv X pins σ' H' s'/\RelV v u/\(R v H'\/Z v σ' H'))\/∃ v H',s'.os=X.s₀.os/\FD s'.gens/\Un X.fs X.ex X.H₀ H' X.s₀.heap s'.heap/\HOk X.prog X.w H' s'.heap/\RelV v u/\R v H')) X.xe s
section
variable {X:Cx}{e:Expr}{te:TE}{pos:Pos}{st:Stmt}{rest:List Stmt}{t:TS}{u:TR}
def iV(g:PE X e te):PR X [.Return (some e) pos] (λ_ Z σ H=>te σ H λv H'=>Z v σ H'):=by
 intro a s σ H R Z I h;refine B0 (Gg (thn (g a s σ H _ I h) λv i ⟨x,c,d,b,f⟩=>?_));exact⟨v,rfl,.inl ⟨x,σ,c,d,b,.inr f⟩⟩
def cw(k:PS X st t)(g:PR X rest u):PR X (st::rest) (λR Z σ H=>t { nx:=u R Z,rt:=R } σ H):=by
 intro a s σ H R Z I h;refine B0 (thn (k a s σ H { nx:=u R Z,rt:=R } I h) λf i q=>?_);cases f with
 | next =>
  obtain⟨b,c,d,q⟩:=q;exact g a i b c R Z d q
 | ret v =>
  obtain⟨j,b,c,d,r,q⟩:=q;exact⟨v,rfl,.inl ⟨j,b,c,d,r,.inl q⟩⟩
 | brk=>obtain⟨_,_,_,q⟩:=q;exact k_ q
 | cont=>obtain⟨_,_,_,q⟩:=q;exact k_ q
end
def gt(cells:List (Str×Addr))(N:List Str)(σ:St)(H3:Hp):Prop:=∀(i:Nat) (y:Str) (v:V) (c:Addr),N[i]? = some y->σ[i]? = some (some v)->cells.lookup y=some c->H3 c=some (.ext (aZ c v))
def ez{y:Str}{c:Addr}:∀(names:List (Str×A2)) (n:Nat) (acc:List (Str×Addr)),(y,c)∈oi n names acc->(y,c)∈acc\/(y,GB)∈names
 | [],n,acc,h=>.inl h
 | (x,k)::r,n,acc,h=>by
  unfold oi at h
  split at h
  .rename_i hk
   rcases ez r (n+1) ((x,n)::acc) h with z | z
   .rcases i_.mp z with e | z
    .cases e
     rw[eq_of_beq hk];exact .inr (gT ..)
    .exact .inl z
   .exact .inr (hI _ z)
  .rcases ez r n acc h with z | z
   .exact .inl z
   .exact .inr (hI _ z)
section
variable {P:hH}{w:lA}{K:Frag}{mg:Str->Option b_}{base:Heap}
def v8{CX:CXT}{N:List Str}{B:Str}{scope:D_}{f:Addr}{Z:b_}{A:m_}{a:List Env}{s I:e_}{H H':Hp}{E:XK}{X:St}(hN:N.Nodup)(T:∀ p∈scope.names,p.2=.cell->scope.names.lookup p.1=some .cell)
  {F:List (Addr×Obj)}(J:Inv (cV CX P w K mg base N B scope f Z A a s H E) F X H' I) :
  ∃ H3,Same H' H3/\gt (oi (s.heap.objs.size+1) scope.names []) N X H3/\(∀ b,H' b=none->H3 b≠none->∃ y,(oi (s.heap.objs.size+1) scope.names []).lookup y=some b)/\Un (frs a) [] H H3 s.heap I.heap/\HOk P w H3 I.heap:=by
 have g:∀ y c,(oi (s.heap.objs.size+1) scope.names []).lookup y=some c->scope.names.lookup y=some .cell:=λy c e=>by
  rcases ez _ _ _ (a4 e) with z | z
  .cases z
  .exact T _ z rfl
 obtain⟨cells,hcells⟩:∃ l,l=oi (s.heap.objs.size+1) scope.names []:=⟨_,rfl⟩
 rw[<- hcells]at g ⊢;have d:(cV CX P w K mg base N B scope f Z A a s H E).env.cells=cells:=hcells.symm
 let G:Addr->V->Prop:=λb v=>∃(i:Nat) (y:Str),N[i]? = some y/\X[i]? = some (some v)/\cells.lookup y=some b
 have G1:∀ b v S,G b v->G b S->v=S:=by
  rintro b v S ⟨i,y,O,M,x⟩ ⟨j,z,b1,b2,b3⟩;have:y=z:=J.ok.inj y z b (by rw[d];exact x) (by rw[d];exact b3);subst this;have:i=j:=iq hN O b1;subst this;rw[M]at b2;cases b2;rfl
 have W:∀ b v,G b v->H' b=none/\s.heap.objs.size<=b/\aZ b v I.heap:=by
  rintro b v ⟨i,y,O,M,x⟩;refine⟨J.freeC y b (by rw[d];exact x),J.ok.cab y b rfl (by rw[d];exact x),?_⟩;obtain⟨m,hn,hl⟩:=J.loc;obtain⟨u,r,l⟩:=hl i y v O M (.inr (.inl (g y b x)))
  rcases l with⟨k,_⟩ | ⟨k,c,e,o,ho,hd⟩
  .exfalso
   have k:scope.names.lookup y = some .local:=k;rw[g y b x]at k;cases k
  .have e:cells.lookup y=some c:=by rw[<- d];exact e
   rw[x]at e;cases e;exact⟨o,u,ho,hd,r⟩
 classical
 let H3:Hp:=λb=>if h:∃ v,G b v then some (.ext (aZ b (FP h))) else H' b
 have g1:∀ b v,G b v->H3 b=some (.ext (aZ b v)):=λb v h=>by
  have Q:∃ v,G b v:=⟨v,h⟩
  show(if h:∃ v,G b v then some (.ext (aZ b (FP h))) else H' b)=_;rw[dif_pos Q,G1 b _ v (Ij Q) h]
 have R:∀ b,(¬∃ v,G b v)->H3 b=H' b:=λb h=>dif_neg h
 have D:Same H' H3:=λb o e=>by
  rw[R b λ⟨v,z⟩=>by rw[(W b v z).1]at e;cases e];exact e
 have C:Un (frs a) [] H H' s.heap I.heap:=J.base;refine⟨H3,D,λi y v c O M x=>g1 c v ⟨i,y,O,M,x⟩,(λb n1 n2=>?_),⟨C.keep,C.slot,λb o e n Q=>?_,C.there,λb xs e=>D _ _ (C.tups b xs e),λb o u e=>D _ _ (C.frzs b o u e),λb ps e=>?_⟩,λb o e=>?_⟩
 .by_cases h:∃ v,G b v
  .obtain⟨v,i,y,_,_,x⟩:=h
   exact⟨y,x⟩
  .rw[R b h]at n2
   exact absurd n1 n2
 .rw[R b λ⟨v,z⟩=>absurd (g_ (f_ e) (W b v z).2.1) (o5 _)]
  exact C.free b o e n Q
 .obtain⟨L,z⟩:=C.tbls b ps e
  exact⟨L,D _ _ z⟩
 .by_cases h:∃ v,G b v
  .obtain⟨v,h⟩:=h
   rw[g1 b v h]at e;cases e;exact fU (W b v h).2.2
  .rw[R b h]at e
   exact(J.hok b o e).stay (λY u' _ q=>q) (λY q=>D _ _ q) λY xs q=>D _ _ q
def jS{N:List Str}{c:Str}{scope:D_}{f:Addr}{i:b_}{A:m_}{a:List Env}{s:e_}{H:Hp}{E:XK}{k:Nat}{g:Addr}{fd:p_}{ps:List Str}{sp:Sp}{ds:List b_}{D:List V}{x:Str}{p M rp:Pos}{e:Expr}{T:List Expr}{t:TA}
  (hN:N.Nodup) (ah:∀ p∈scope.names,p.2=.cell->scope.names.lookup p.1=some .cell)
  (F:FnOk P w K mg base CX0 k g fd ps sp) (hr:Room k (cV CX0 P w K mg base N c scope f i A a s H E).nox.A) (hg:Gl (cV CX0 P w K mg base N c scope f i A a s H E).nox x) (hm:mg x=some (.ref g)) (hk:Fp K (.ref g)=true) (B:Binds K fd ps ds) (hd:Vals D ds)
  (ha:PA (cV CX0 P w K mg base N c scope f i A a s H E).nox (e::T) t) (ab:(x == ("__debug__" : Str))=false:=by decide)
  (he:lg (e::T) (cV CX0 P w K mg base N c scope f i A a s H E).nox.env=(false,eval e (cV CX0 P w K mg base N c scope f i A a s H E).nox.env)::lg T (cV CX0 P w K mg base N c scope f i A a s H E).nox.env:=by rfl)
  (an:(z_ M (lg T (cV CX0 P w K mg base N c scope f i A a s H E).nox.env)).any (·.1)=false:=by rfl) :
  PR (cV CX0 P w K mg base N c scope f i A a s H E).nox [.Return (some (.Call (.Name x p) (e::T) [] M)) rp]
   (λR _ σ H'=>t σ H' λvs H1=>∀ H3,Same H1 H3->gt (oi (s.heap.objs.size+1) scope.names []) N σ H3->sp (vs++D) H3 R λ_ _ _=>False):=by
 intro G s1 σ H1 R Z I h;refine B0 (Gg ?_);refine ql (eQ I hg hm ?_ ab);refine GI (h₀:=base) I.ok.mod.kin hk (thn (ha M G s1 σ H1 _ I h) λW s2 ⟨vs,H2,I2,r,q⟩=>⟨I2.kIn,?_⟩) he an;have J:Inv (cV CX0 P w K mg base N c scope f i A a s H E) G σ H2 s2:=I2.unwish;obtain⟨H3,sm,hc,O,C,as⟩:=v8 hN ah J;have r2:Vals (vs++D) (W++ds):=r.append hd;have q':=q H3 sm hc;have hl:(W++ds).length=ps.length:=by rw[<- r2.length];exact F.len _ _ _ _ q'
 have hL:∀ b∈frs (envOfC c scope s.heap.objs.size f i::a),b=s.heap.objs.size\/b∈frs a:=λb B=>by
  have:b∈s.heap.objs.size::frs a:=B;exact i_.mp this
 have e0:Env0 P w K mg base (cV CX0 P w K mg base N c scope f i A a s H E).A (envOfC c scope s.heap.objs.size f i::a) s2 H3:=by
  have z:=J.env0;refine⟨z.frames,z.mod,λb o e=>⟨(z.bs b o e).1,C.free b o (J.ok.bs b o e).1 (J.ok.bs b o e).2 (by simp)⟩,z.bsz,z.funs,λb B=>?_,as,z.bare⟩;cases q3:H3 b with
  | none=>rfl
  | some o =>
   obtain⟨y,hy⟩:=O b (z.frf b B) (by rw[q3];simp)
   rcases hL b B with rfl | hb'
   .exact absurd rfl (J.cne y _ hy)
   .obtain⟨_,o',a0,_⟩:=J.ok.funs.mem hb'
    have:=J.ok.cab y b rfl hy;exact absurd (g_ (f_ a0) this) (o5 _)
 refine Fk (A5 (F.run _ _ s2 H3 ⟨W,[]⟩ (W++ds) (vs++D) R _ hr e0 (B s2 W J.kIn hl) r2 q') λrr s' X=>?_);cases rr with
 | error e=>exact k_ X
 | ok fl =>
  cases fl with
  | ret u =>
   obtain⟨v,H4,os,Q,d,S,rv,qq⟩:=X
   have Y:∀ b o,s.heap.get? b=some o->b ∉ frs a->b ∉ frs (envOfC c scope s.heap.objs.size f i::a):=λb o e n z=>by
    rcases hL b z with rfl | z
    .exact absurd (f_ e) (o5 _)
    .exact n z
   have a1:∀ b,b∈frs a->b∈frs (envOfC c scope s.heap.objs.size f i::a):=λb z=>by
    show b∈s.heap.objs.size::frs a;exact hI _ z
   refine⟨u,rfl,.inr ⟨v,H4,os.trans J.os,Q,⟨λb o e n B j=>d.keep b o (C.keep b o e n B j) (C.free b o e n j) (Y b o e B) j,λb o e n B j=>?_,λb o e n j=>?_,λb o e j=>?_,λb xs e=>d.tups b xs (C.tups b xs e),λb o u e=>d.frzs b o u (C.frzs b o u e),λb qs e=>?_⟩,S,rv,qq⟩⟩
   .obtain⟨sl,L⟩:=C.slot b o e n B j
    obtain⟨al,e2⟩:=d.slot b _ L (C.free b o e n j) (a1 b B) j;exact⟨al,e2⟩
   .obtain⟨o',L⟩:=C.there b o e j
    exact d.free b o' L (C.free b o e n j) j
   .obtain⟨o',L⟩:=C.there b o e j
    exact d.there b o' L j
   .obtain⟨m1,L⟩:=C.tbls b qs e
    obtain⟨m2,e2⟩:=d.tbls b _ L;exact⟨m1++m2,by rw[e2,E9]⟩
  | next=>exact k_ X
  | brk=>exact k_ X
  | cont=>exact k_ X
def Fun.okL{x a:Str}{st:Stmt}{f c:Addr}{O:p_}{N ps:List Str}{k:Nat}{sp:Sp}(F:Fun K x a st f O)(hc:O.code=.ref c)(S:FnScope N ps (ap st))(C:∀ p∈(ap st).names,p.2=.cell->(ap st).names.lookup p.1=some .cell)
  (h:∀ vs H Q E,sp vs H Q E->vs.length=ps.length)
  (d:∀(A:m_) (outer:List Env) (s:e_) (H:Hp) (vs:List V) (Q:VK) (E:XK),Room k (A.deeper (envOfC a (ap st) s.heap.objs.size f (.ref c)))->sp vs H Q E ->
   ∃ t,PR (cV CX0 P w K mg base N a (ap st) f (.ref c) A outer s H E).nox (bI st) t/\t Q (λv σ H'=>∀ H3,Same H' H3->gt (oi (s.heap.objs.size+1) (ap st).names []) N σ H3->Q v H3) (start N vs) H):FnOk P w K mg base CX0 (k+1) f O ps sp:=by
 obtain⟨oc,od,kV,ab,pm,an,M,ct,ah,rfl,lk,D⟩:=F.ex;obtain rfl:M=.ref c:=hc;refine⟨h,λA outer s H T us vs Q E G j Y r i=>?_⟩;have hl:=h _ _ _ _ i;have W:K.In s.heap:=j.mod.kin.keeps λb o e=>(j.bs b o e).1
 have L:s.heap.NoLimit:=j.mod.nolimit.keeps λb o e=>(j.bs b o e).1
 have g:∀ y ∈ ps.zip us,(ap st).names.lookup y.1 = some .local\/((ap st).names.lookup y.1 = some .cell/\((oi (s.heap.objs.size + 1) (ap st).names []).lookup y.1).isSome = true):=λ⟨n,v⟩ hy=>by
  rcases S.par n (Fy hy).1 with q | q
  .exact .inl q
  .exact .inr ⟨q,FX _ _ _ (.inl q)⟩
 refine E5 G.depth (W _ _ lk) rfl S.co S.gen rfl (KR W D) (Y _ _ _ _ ?_);refine FY S.kind g λal he R x=>?_
 subst he;refine⟨L.keeps x.toInCall.keep,GK ?_⟩;obtain⟨t,Z,hq⟩:=d A outer s H vs Q E (G.deeper _) i;have I:Inv (cV CX0 P w K mg base N a (ap st) f (.ref c) A outer s H E) [] (start N vs) H R:=iW S G.hd j hl r x;refine rc (Z [] R (start N vs) H Q _ (I.wish _) hq) (λfl s' B=>?_) λe s' B=>k_ B
 obtain⟨u,rfl,⟨v,as,H',J,z,q⟩ | ⟨v,H',g1,g2,g3,g4,z,q⟩⟩:=B
 .have J:=J.unwish
  rcases q with q | q
  .exact⟨v,H',J.os,J.bare,J.base,J.hok,z,q⟩
  .obtain⟨H3,h1,h2,_,X,h4⟩:=v8 S.nd C J
   exact⟨v,H3,J.os,J.bare,X,h4,z,q H3 h1 h2⟩
 .exact⟨v,H',g1,g2,g3,g4,z,q⟩
def Fun.okF{x a:Str}{st:Stmt}{f c:Addr}{O:p_}{N ps:List Str}{k:Nat}{sp:Sp}(F:Fun K x a st f O)(hc:O.code=.ref c)(S:FnScope N ps (ap st))(C:∀ p∈(ap st).names,p.2=.cell->(ap st).names.lookup p.1=some .cell)
  (h:∀ vs H Q E,sp vs H Q E->vs.length=ps.length)
  (d:∀(A:m_) (outer:List Env) (s:e_) (H:Hp) (vs:List V) (Q:VK) (E:XK),Room k (A.deeper (envOfC a (ap st) s.heap.objs.size f (.ref c)))->sp vs H Q E ->
   ∃ t,PR (cV CX0 P w K mg base N a (ap st) f (.ref c) A outer s H E).nox (bI st) t/\t Q (λv σ H'=>∀ H3,Same H' H3->gt (oi (s.heap.objs.size+1) (ap st).names []) N σ H3->(∀ y b,(oi (s.heap.objs.size+1) (ap st).names []).lookup y=some b->H' b=none)->Q v H3) (start N vs) H):FnOk P w K mg base CX0 (k+1) f O ps sp:=by
 obtain⟨oc,od,kV,ab,pm,an,M,ct,ah,rfl,lk,D⟩:=F.ex;obtain rfl:M=.ref c:=hc;refine⟨h,λA outer s H T us vs Q E G j Y r i=>?_⟩;have hl:=h _ _ _ _ i;have W:K.In s.heap:=j.mod.kin.keeps λb o e=>(j.bs b o e).1
 have L:s.heap.NoLimit:=j.mod.nolimit.keeps λb o e=>(j.bs b o e).1
 have g:∀ y ∈ ps.zip us,(ap st).names.lookup y.1 = some .local\/((ap st).names.lookup y.1 = some .cell/\((oi (s.heap.objs.size + 1) (ap st).names []).lookup y.1).isSome = true):=λ⟨n,v⟩ hy=>by
  rcases S.par n (Fy hy).1 with q | q
  .exact .inl q
  .exact .inr ⟨q,FX _ _ _ (.inl q)⟩
 refine E5 G.depth (W _ _ lk) rfl S.co S.gen rfl (KR W D) (Y _ _ _ _ ?_);refine FY S.kind g λal he R x=>?_
 subst he;refine⟨L.keeps x.toInCall.keep,GK ?_⟩;obtain⟨t,Z,hq⟩:=d A outer s H vs Q E (G.deeper _) i;have I:Inv (cV CX0 P w K mg base N a (ap st) f (.ref c) A outer s H E) [] (start N vs) H R:=iW S G.hd j hl r x;refine rc (Z [] R (start N vs) H Q _ (I.wish _) hq) (λfl s' B=>?_) λe s' B=>k_ B
 obtain⟨u,rfl,⟨v,as,H',J,z,q⟩ | ⟨v,H',g1,g2,g3,g4,z,q⟩⟩:=B
 .have J:=J.unwish
  rcases q with q | q
  .exact⟨v,H',J.os,J.bare,J.base,J.hok,z,q⟩
  .obtain⟨H3,h1,h2,_,X,h4⟩:=v8 S.nd C J
   exact⟨v,H3,J.os,J.bare,X,h4,z,q H3 h1 h2 λy b e=>J.freeC y b e⟩
 .exact⟨v,H',g1,g2,g3,g4,z,q⟩
end
def ut{P:hH}{w:lA}{K:Frag}{mg mb:Str->Option b_}{CX:CXT}{k:Nat}{fa a:Addr}{fd:p_}{x:Str}{sp:Sp}{f:e_}{vs:List b_}{R:List Int}{y:List Addr}
  (KX:K.In f.heap) (W:f.heap.Ns oe mg) (g:f.heap.Ns E8 mb) (a2:∀ x:Str,x ≠ "__name__" -> mb x=px x) (J:f.heap.NoLimit) (hg:f.gens = #[])
  (I:f.heap.get? a=some { cls:=.type "list",data:=.seq vs.toArray }) (hi:Fb vs R) (hl:R.length<=sizeLine) (hr:Room k HS) (ah:Bm mg f.heap)
  (j:∀ P∈y,f.heap.get? P=some (Fz #[])) (a3:∀ P∈y,∃ c,ED K c P=true) (ab:∀ P∈y,K.lookup P=none)
  (F:∀ base:Heap,K.In base->base.Ns oe mg->Bm mg base->FnOk P w K mg base CX k fa fd [x] sp) (G:∀(s:e_) (u:b_),JM s fd ⟨[u],[]⟩ [(x,u)])
  (a1:∀ H:Hp,(∀ P∈y,H P=some (.tbl #[]))->SqL K H a (R.map V.int)->sp [.ref a] H (λv _=>v=.bl true) λ_ _ _=>False)
  (a0:∀ H e s',CX [] H f (λ_ _ _=>False) e s'->False) :
  E_ (lh P w) HS (.call (.ref fa) ⟨[.ref a],[]⟩) (λr s'=>r=.ok (.ret (.bool true))/\OldK f.heap s'.heap/\s'.os=f.os/\FD s'.gens) f:=by
 have rv:=mQ hi;have Q:=hi.length;have Y:a ∉ y:=λz=>by have:=j a z;rw[I]at this;cases this
 have E:∀ H:Hp,(∀ P∈y,H P=some (.tbl #[]))->SqL K H a (R.map V.int)->HOk P w H f.heap->(∀ b u,H b=some u->(b=a/\∃ o xs,u=.frz o (.lst xs))\/(b∈y/\u=.tbl #[]))->(H a≠none->K.lookup a=none) ->
   E_ (lh P w) HS (.call (.ref fa) ⟨[.ref a],[]⟩) (λr s'=>r=.ok (.ret (.bool true))/\OldK f.heap s'.heap/\s'.os=f.os/\FD s'.gens) f:=by
  intro H hT hS S hA hK;have p:∀{b:Addr}{o:Obj},f.heap.get? b=some o->H b=none->(me f.heap H).get? b=some o:=λe n=>wI e n
  have al:∀{b:Addr}{o:Obj},f.heap.get? b=some o->o.cls≠.none->(∀ X n,o.data≠.seq X n)->H b=none:=λ{b o} e d1 d2=>by
   cases q:H b with
   | none=>rfl
   | some u =>
    rcases hA b u q with⟨rfl,_⟩ | ⟨g,_⟩
    .rw[I]at e;cases e;exact(d2 _ _ rfl).elim
    .rw[j b g]at e;cases e;exact(d1 rfl).elim
  have an:∀{b:Addr}{o:Obj}{O:Array FA}{N:Nat},f.heap.get? b=some o->o.data=.dict O N->H b=none:=λ{b o O N} e d=>by
   cases q:H b with
   | none=>rfl
   | some u =>
    rcases hA b u q with⟨rfl,_⟩ | ⟨g,_⟩
    .rw[I]at e;cases e
     have d':Data.seq vs.toArray _=Data.dict O N:=d;cases d'
    .rw[j b g]at e;cases e;cases d
  have A:∀{b:Addr}{m:Str->Option b_},f.heap.Ns b m->(me f.heap H).Ns b m:=λ{b m} ⟨o,O,N,e,d,r⟩=>⟨o,O,N,p e (an e d),d,r⟩
  have L:K.In (me f.heap H):=λb o e=>p (KX b o e) (by
   cases q:H b with
   | none=>rfl
   | some u =>
    rcases hA b u q with⟨rfl,_⟩ | ⟨g,_⟩
    .rw[hK (by rw[q];simp)]at e;cases e
    .rw[ab b g]at e;cases e)
  have hM:Mod K mg (me f.heap H):=⟨L,A W,⟨mb,A g,a2⟩,let ⟨mc,h1,h2⟩:=J;⟨mc,A h1,h2⟩⟩
  have hB:Bm mg (me f.heap H):=by
   obtain⟨bm,ob,b1,b2,b3,b4,b5⟩:=ah;exact⟨bm,ob,b1,p b2 (al b2 (by rw[b3];simp) (λX n=>by rw[b5];intro z;cases z)),b3,b4,b5⟩
  have e0:Env0 P w K mg (me f.heap H) HS [] f H:=⟨rfl,hM,λb o e=>yA e,IY (ue _ _),trivial,λb g=>absurd (show b∈([]:List Addr) from g) (by simp),S,.of_eq hg⟩
  refine A5 ((F _ L (A W) hB).run HS [] f H ⟨[.ref a],[]⟩ [.ref a] [.ref a] _ _ hr e0 (G f (.ref a)) (.cons rfl .nil) (a1 H hT hS)) λr s' h=>?_
  cases r with
  | error e=>exact(a0 H e s' h).elim
  | ok fl =>
   cases fl with
   | next=>exact k_ h
   | brk=>exact k_ h
   | cont=>exact k_ h
   | ret u =>
    obtain⟨v,H',os,M,un,B,r',q⟩:=h;have q':v=.bl true:=q;subst q';obtain rfl:u=HM true:=r';refine⟨rfl,⟨λb o e=>?_,λb o e=>un.there b o e (by simp)⟩,os,M⟩;cases q:H b with
    | none=>exact .inl (un.keep b o e q (by intro z;exact absurd (show b∈([]:List Addr) from z) (by simp)) (by simp))
    | some u =>
     rcases hA b u q with⟨_,ob,xs,rfl⟩ | ⟨g,rfl⟩
     .have z2:=un.frzs b ob _ q
      obtain⟨e1,_⟩:=S b _ q;obtain⟨e2,_⟩:=B b _ z2;rw[e]at e1;cases e1;exact .inl e2
     .obtain⟨c,hc⟩:=a3 b g
      have C:=Kp KX hc;obtain⟨D,z⟩:=un.tbls b _ q;have z2:s'.heap.get? b=some (Fz (#[]++D)):=B b _ z;rw[j b g]at e;cases e;exact .inr (.inl ⟨(C.tab (j b g)).isCodeTable,rfl,#[],D,rfl,z2⟩)
 let T:Hp:=λb=>if b∈y then some (.tbl #[]) else none
 cases hk:K.lookup a with
 | some o =>
  have e:=KX a o hk;rw[I]at e;cases e;refine E T (λP Z=>if_pos Z) (.inr ⟨_,vs.toArray,_,hk,rfl,rfl,rfl,by rw[nf,Q];exact hl,by simpa using rv⟩) (λb u z=>?_) (λb u z=>?_) λz=>absurd (if_neg Y) z
  .by_cases g:b∈y
   .have i:=(if_pos g).symm.trans z
    cases i;exact j b g
   .have i:=(if_neg g).symm.trans z
    cases i
  .by_cases g:b∈y
   .have i:=(if_pos g).symm.trans z
    cases i;exact .inr ⟨g,rfl⟩
   .have i:=(if_neg g).symm.trans z
    cases i
 | none =>
  refine E (λb=>if b=a then some (.frz { cls:=.type "list",data:=.seq vs.toArray } (.lst (R.map V.int))) else T b) (λP Z=>?_) (.inl (.inr ⟨{ cls:=.type "list",data:=.seq vs.toArray },if_pos rfl⟩)) (λb u z=>?_) (λb u z=>?_) λ_=>hk
  .have as:P≠a:=λz=>Y (by rw[<- z];exact Z)
   exact(if_neg as).trans (if_pos Z)
  .by_cases g:b=a
   .have i:=(if_pos g).symm.trans z
    cases i;subst g;exact⟨I,by rw[d_];exact hl,vs,_,rv,I⟩
   .have i:=(if_neg g).symm.trans z
    by_cases g:b∈y
    .have i:=(if_pos g).symm.trans i
     cases i;exact j b g
    .have i:=(if_neg g).symm.trans i
     cases i
  .by_cases g:b=a
   .have i:=(if_pos g).symm.trans z
    cases i;exact .inl ⟨g,_,_,rfl⟩
   .have i:=(if_neg g).symm.trans z
    by_cases g:b∈y
    .have i:=(if_pos g).symm.trans i
     cases i;exact .inr ⟨g,rfl⟩
    .have i:=(if_neg g).symm.trans i
     cases i
def walk_ofT{l:PySem.W.OpenLaw}{n k:Nat}{q:hH}{j:List Str}{R:(Str->Option b_)->Heap->Prop}{L:lA->Heap->Prop}{d:DefRec}{K:Params->Frag}{CX:CXT}{sp:Frag->List Addr->Sp}{x:Str}{b:List Addr}
  (hn:l.most=some n) (I:n<=sizeLine) (A:d.params.defaults=[]) (X:Room k HS)
  (N:∀(w:lA) (h:Heap),L w h->(K w.params).In h/\∀ P∈b,h.get? P=some (Fz #[]))
  (F:∀(ts':List Addr),ts'=b->∀(w:lA) (mg:Str->Option b_) (fa:Addr) (h:Heap),(K w.params).In h->h.Ns oe mg->mg d.name=some (.ref fa) ->
   ∃ fd:p_,(∀(s:e_) (u:b_),JM s fd ⟨[u],[]⟩ [(x,u)])/\(∀ P∈b,∃ c,ED (K w.params) c P=true)/\(∀ P∈b,(K w.params).lookup P=none) /\
    ∀ base:Heap,(K w.params).In base->base.Ns oe mg->Bm mg base->FnOk l.prog w (K w.params) mg base CX k fa fd [x] (sp (K w.params) b))
  (B:∀(K:Frag) (H:Hp) (a:Addr) (ns:List Int),ns.length<=n->(∀ P∈b,H P=some (.tbl #[]))->SqL K H a (ns.map V.int)->sp K b [.ref a] H (λv _=>v=.bl true) λ_ _ _=>False)
  (E:∀(H:Hp) (s:e_) (e:b_) (s':e_),CX [] H s (λ_ _ _=>False) e s'->False) :
  PySem.W.WalkO q j R L l.row.toRowW d [] (λf vs=>PySem.call f vs):=by
 refine Att.attach_call hn A λw J i mg mb fa o pm cd T a vs ns G Y ho hd W C r p g hg=>?_
 obtain⟨M,S⟩:=N w _ Y;obtain⟨fd,O,D,y,hF⟩:=F b rfl w mg fa _ M G.T.g C;have z:Bm mg i.heap:=let ⟨bm,ob,b1,_,b3,b4,b5,b6⟩:=G.T.bmain;⟨bm,ob,b1,b3,b4,b5,b6⟩;exact ut M G.T.g G.T.b G.T.builtins G.T.nolimit hg r p (lB g I) X z S D y hF O (λH Q Z=>B (K w.params) H a ns g Q Z) λH e s'=>E H i e s'
end L2
namespace FrM
def kr(t b:Int):Int×Int:=(t/(o0 t b:Int),b/(o0 t b:Int))
end FrM
namespace L2
open PySem PySem.Spec PyProof.Rows
def nW:List V->List b_->Bool
 | [],[]=>true
 | .int i::xs,.int j _::us=>decide (i=j) && nW xs us
 | _,_=>false
def je:∀{xs:List V}{us:List b_},nW xs us=true->Vals xs us
 | [],[],_=>.nil
 | .int i::xs,.int j t::us,h=>by
  have h:(decide (i=j) && nW xs us)=true:=h;rw[il]at h;have e:=of_decide_eq_true h.1;exact .cons ⟨t,by rw[e]⟩ (je h.2)
def wG(K:Frag)(a:Addr)(xs:List V):Bool :=
 match K.lookup a with
 | some o =>
  (match o.cls with
  | .type t=>t == "tuple"
  | _=>false) &&
  (match o.data with
  | .seq its _=>decide (its.size<=1000) && nW xs its.toList
  | _=>false)
 | none=>false
def Ao{K:Frag}{H:Hp}{a:Addr}{xs:List V}(h:wG K a xs=true):SqT K H a xs:=by
 unfold wG at h
 split at h
 .rename_i o e
  rw[il]at h;obtain⟨c,b⟩:=h
  split at c
  .rename_i t ec
   split at b
   .rename_i its n ed
    rw[il]at b;refine .inr ⟨o,its,n,e,by rw[ec,beq_iff_eq.mp c],ed,?_,je b.2⟩;have:=of_decide_eq_true b.1;have:sizeLine=16777216:=j_;lia
   .cases b
  .cases c
 .cases h
def TyS(K:Frag)(H:Hp)(x:V)(t:b_):Prop:=TyOf K H x t\/∃ a xs,x=.ref a/\t=.type "tuple" /\ SqT K H a xs
section
variable {X:Cx}
open PySem.W in
def DF{b:List (Addr×Obj)}{g:St}{H:Hp}{s:e_}{x:V}{u t:b_}(I:Inv X b g H s)(d:RelV x u)(ty:TyS X.K H x t) :
  ∃ Hh:Heap->Prop,KitX X.K u t Hh/\Hh s.heap/\u≠.builtin "__main__.__loader__#opaque" := by
 rcases ty with ty | ⟨a,j,rfl,rfl,h⟩
 .exact wH I d ty
 .cases(show u=lb a from d)
  obtain⟨f,i,p,k⟩:=I.tuple h;exact⟨_,kitx_tuple,let ⟨o,e,c,_⟩:=p;⟨o,e,c⟩,λz=>nomatch z⟩
def xf:px "sum" = some (.builtin "sum"):=by decide +kernel
def iA:∀{ns:List Int}{us:List b_},Vals (ns.map V.int) us->Fb us ns
 | [],_,.nil=>.nil
 | n::ns,_,.cons r t=>by
  obtain⟨a,rfl⟩:=r;exact .cons _ _ (iA t)
inductive rSumI(K:Frag)(xs:List V)(H:Hp)(Q:VK):Prop
 | mk(p:Addr)(ns:List Int)(h0:xs=[.ref p])(h1:SqL K H p (ns.map V.int))(h2:Q (.int ns.sum) H):rSumI K xs H Q
def mL(x:X.calm=true):CallR X (.builtin "sum") (rSumI X.K):=by
 intro d s C H xs A Q I r h;obtain⟨p,a,rfl,k,q⟩:=h;obtain⟨u,rfl,i⟩:=dW r;cases i;obtain⟨b,g,v,z⟩:=I.list k;have f:=iA g;obtain⟨xs,c⟩:=f.allInts.items;have w:(numsOf b)=a:=f.numsOf;refine sum_intListG (I.ok.hd x) (xs:=xs) (by rw[<- c];exact v.isList) λy D B j=>?_
 have o:preSum (numAt xs) xs.size=a.sum:=by
  rw[preSum_eq,rb (by simp),<- w,<- nums_intItems,<- c]
 rw[o];exact⟨.int a.sum,H,I.kept j,⟨_,rfl⟩,q⟩
def eF(B:X.calm=true):CallR X (.type "list") (λxs H Q=>∃(p:Addr) (n:Nat),xs=[.ref p]/\n<=1000/\H p=some (.rng 0 (n:Int))/\∀ l,H l=none->Q (.ref l) (upd H l (.lst ((lj n).map λ(i:Nat)=>V.int (i:Int))))):=by
 intro f s L H xs K Q I r h;obtain⟨p,n,rfl,M,e,q⟩:=h;obtain⟨u,rfl,w⟩:=dW r;cases w
 obtain⟨t,J,G,k⟩:=(show ObjOk X.prog X.w H s.heap p (.rng 0 (n:Int)) from I.hok p _ e)
 refine call_list_range (n:=n) (I.ok.hd B) k (small_one (by decide) (by decide) (by lia) (by lia)) (by rw[rangeSize_one];split <;> lia) (by lia) λF D d c v A y=>?_
 refine⟨.ref s.heap.objs.size,_,I.laid (t':=D) (o:=.lst ((lj n).map λ(i:Nat)=>V.int (i:Int))) v (fS _) ?_,rfl,q _ (I.hok.fresh (fS _))⟩;obtain⟨E,z⟩:=y;refine⟨by rw[d_,A6,j_];lia,d.toList,c,nQ (by rw[d_,A6];simpa using E.symm) λi x u a g=>?_,A⟩;rw[gb]at a
 have b:i<n:=by
  by_cases b:i<n
  .exact b
  .rw[List.getElem?_eq_none (by rw[A6];lia)]at a
   cases a
 rw[FB b]at a;cases a;obtain⟨j,C⟩:=z i u (by simpa using g);refine(show ∃ t',u=C_ (i:Int) t' from⟨j,?_⟩);rw[C]
 congr 1
 lia
end
def dE:Expr:=.Name "" ⟨0,0,0,0⟩
def dl(st:Stmt)(i:Nat):Stmt:=(bI st).getD i (.Pass ⟨0,0,0,0⟩)
def jK:Stmt->Expr
 | .Return (some e) _=>e
 | _=>dE
def oJ:Expr->Nat->Expr
 | .Call _ es _ _,i=>es.getD i dE
 | _,_=>dE
def yB:Expr->Nat->Expr
 | .List es _,i=>es.getD i dE
 | _,_=>dE
def yJ:Expr->Nat->Expr
 | .Tuple es _ _,i=>es.getD i dE
 | _,_=>dE
def eY(q:Str):Expr->LamD
 | .Lambda p b s _=>⟨q,p,b,s⟩
 | _=>⟨q,default,dE,default⟩
def jM:Expr->Pos
 | .Lambda _ _ _ p=>p
 | _=>⟨0,0,0,0⟩
def iU:px "sorted" = some (.builtin "sorted"):=by decide +kernel
def eK:∀{us:List b_}{ns:List Int},Fb us ns->Vals (ns.map V.int) us
 | _,_,.nil=>.nil
 | _,_,.cons n t h=>.cons ⟨_,rfl⟩ (eK h)
def nJ{X:Cx}:CallR X (.builtin "sorted") (λxs H Q=>∃(p:Addr) (ns:List Int),xs=[.ref p]/\SqL X.K H p (ns.map V.int)/\ns.length<64/\∀ q (ns':List Int),ns'.Perm ns->ns'.Pairwise (·<=·)->H q=none->Q (.ref q) (upd H q (.lst (ns'.map V.int)))):=by
 intro g s J H xs G Q I r h;obtain⟨p,ns,rfl,w,E,q⟩:=h;obtain⟨u,rfl,v⟩:=dW r;cases v;obtain⟨d,i,y,F⟩:=I.list w;have B:=iA i;have k:d.length=ns.length:=by have:=i.length;rw[d_]at this;exact this.symm
 refine sorted_ints y.isList B (by lia) λc ns' A j D=>?_
 obtain⟨e,x⟩:=sortedAll_at s.heap d c;have C:H (s.heap.objs.size+1)=none:=I.hok.fresh (Fs _);have f:sizeLine=16777216:=j_;refine⟨.ref (s.heap.objs.size+1),_,I.laid (a:=s.heap.objs.size+1) (o:=.lst (ns'.map V.int)) (t':=s.toks) (λb u z=>sortedAll_old z) (Fs _) ⟨?_,c.toList,e,eK A,?_⟩,rfl,q _ ns' j D C⟩
 .rw[d_,j.length_eq];lia
 .rw[x,Jd]
def pK{prog:hH}{w:lA}{A:m_}{E:b_->e_->Prop}{a l:Addr}{items:Array b_}(b:l≠a):∀(n i:Nat) (s:e_) (Q:List b_->e_->Prop),
  s.heap.IsListIter a l i->s.heap.IsList l items->i+n<=items.size ->
  (∀ h':Heap,h'.IsListIter a l (i+n)->EA a s.heap h'->Q ((items.toList.drop i).take n) { s with heap:=h' }) ->
  ig (lh prog w) A (draw (.ref a) n) Q E s
 | 0,i,s,Q,hi,hl,hle,q=>by
  have p:=q s.heap hi (by constructor <;> intros <;> first | rfl | assumption);rw[Lu]at p;exact fL p
 | n+1,i,s,Q,hi,hl,hle,q=>by
  have d:i<items.size:=by lia
  have r:items[i]? = some items[i]:=by simp[d]
  refine a_ (JJ hi hl r λu h f=>?_);refine a_ (u_ (pK b n (i+1) _ _ h (hl.extBut f.extBut b) (by lia) λo j g=>?_));refine fL ?_;have c:o.IsListIter a l (i+(n+1)):=by rw[show i+(n+1)=i+1+n by lia];exact j
  have k:=q o c (f.trans g)
  have e:(items.toList.drop i).take (n+1)=items[i]::(items.toList.drop (i+1)).take n:=by
   rw[Ix (by simpa using d),Ju];simp
  rw[e]at k;exact k
def jL{prog:hH}{w:lA}{A:m_}{E:b_->e_->Prop}{s:e_}{l:Addr}{items:Array b_}{Q:List b_->e_->Prop}(r:A.handled=none)(f:s.heap.IsList l items)
  (q:∀ h':Heap,HG s.heap.objs.size s.heap h'->Q items.toList { s with heap:=h' }):ig (lh prog w) A (Kf (.ref l) items.size none) Q E s:=by
 have d:l≠s.heap.objs.size:=by
  obtain⟨o,k,_⟩:=f;exact kw (f_ k)
 unfold Kf;refine a_ ?_;unfold notIterableAtAll;refine a_ (LA (Heap.IsList.typeIs f) F.slot_list_iter.lookup (fL ?_));simp only[pa,if_false];refine a_ (u_ (HW f ?_));have c:=f.push { cls:=ra "list_iterator",data:=Jk #[lb l,C_ 0 0] }
 have h:(s.heap.push { cls:=ra "list_iterator",data:=Jk #[lb l,C_ 0 0] }).IsListIter s.heap.objs.size l 0:=⟨_,ie _ rfl,rfl,rfl⟩
 refine a_ (u_ (pK d items.size 0 _ _ h c (by lia) λu g a=>?_));have e:(items.toList.drop 0).take items.size=items.toList:=by rw[Ls];exact rb (by simp)
 rw[e,if_neg (by simp)];refine a_ (u_ (J4 r g (c.extBut a.extBut d) (by simp) λp i=>?_));exact fL (q p λb o j e=>i b o j (a.extBut b o j (c_ _ e)))
section
variable {X:Cx}{pos:Pos}
def Ea(K:Frag)(n:Nat)(t:TGs):TG:=λv σ H Q=>∃ a xs,v=.ref a/\SqL K H a xs/\xs.length=n/\t xs σ H Q
def AK{f:List Expr}{k:Nat}{t:TGs}{n:Nat}(J:X.calm=true)(h:PGs X f t)
  (K:(EU f X.env).length=n:=by rfl) (j:(EU f X.env).findIdx? (·.1)=none:=by rfl):PG X (.Tuple f k pos) (Ea X.K n t):=by
 intro c s q H v u Q I r i;obtain⟨a,A,z,F,D,i⟩:=i;subst z;cases r;obtain⟨g,p,⟨o,x,e,C,M,d⟩,L⟩:=I.list F
 have y:s.heap.IsList a g.toArray:=⟨o,e,C,x,d⟩
 rw[arm_assign_Tuple];refine a_ (FE ?_);unfold unpack;refine a_ (u_ ?_);rw[j];have G:(EU f X.env).length=g.toArray.size:=by simp[K,<- D,p.length]
 rw[G];refine jL (I.ok.hd J) y λw E=>?_
 have B:Inv X c q H { s with heap:=w }:=I.kept (t':=s.toks) λb o e=>E b o (kw (f_ e)) e
 exact h c _ q H A _ Q B (by simpa using p) i
end
structure FunD(K:Frag)(x qual:Str)(st:Stmt)(f:Addr)(fd:p_):Prop where
 ex:∃(oc:b_) (od:Option Addr) (dV kV doc pm:b_) (an:Option Addr) (cdv ct:b_) (osl:Array (Option b_)),
  fd=fnOf x qual (cX st) (bI st) (ap st) dV kV doc pm an cdv ct/\K.lookup f=some ⟨oc,od,.func fd,osl⟩/\I_ K cdv qual=true
 kp:Fp K (.ref f)=true
section
variable {P:hH}{w:lA}{K:Frag}{mg:Str->Option b_}{base:Heap}
def FunD.okG{x a:Str}{st:Stmt}{f:Addr}{h:p_}{N ps:List Str}{k:Nat}{sp:Sp}(F:FunD K x a st f h)(S:FnScope N ps (ap st))(d:∀ vs H Q E,sp vs H Q E->vs.length=ps.length)
  (b:∀(cdv:b_) (A:m_) (outer:List Env) (s:e_) (H:Hp) (vs:List V) (Q:VK) (E:XK),Room k (A.deeper (envOfC a (ap st) s.heap.objs.size f cdv))->sp vs H Q E ->
   ∃ t,PSs (cxG P w K mg base N a (ap st) f cdv A outer s H E) (bI st) t/\t { nx:=λ_ H'=>Q .non H',rt:=Q } (start N vs) H):FnOk P w K mg base (CXG P w) (k+1) f h ps sp:=by
 obtain⟨q,y,r,v,j,B,u,cdv,z,o,rfl,i,c⟩:=F.ex;exact wK i c S d λA outer s H vs Q E p g=>b cdv A outer s H vs Q E p g
def fund_mk{x a:Str}{st:Stmt}{f:Addr}{oc:b_}{od i:Option Addr}{g:Array (Option b_)}{h j d p b o:b_}(l:K.lookup f=some ⟨oc,od,.func (fnOf x a (cX st) (bI st) (ap st) h j d p i b o),g⟩)
  (c:I_ K b a=true) (k:Fp K (.ref f)=true):FunD K x a st f (fnOf x a (cX st) (bI st) (ap st) h j d p i b o):=⟨⟨oc,od,h,j,d,p,i,b,o,g,rfl,l,c⟩,k⟩
def binds_dflt{a:p_}{D:Addr}{o:Obj}{items:Array b_}{n:Nat}{ps:List Str}{ds:List b_}(f:a.defaults=.ref D)(d:K.lookup D=some o)(b:o.data=.seq items n)
  (h:∀ us:List b_,(us++ds).length=ps.length->∃ k,FW a ⟨us,[]⟩=seqItems? a.defaults >>= k/\k (some items)=pure (ps.zip (us++ds))):Binds K a ps ds:=λs us X i=>by
 obtain⟨k,g,c⟩:=h us i;exact .of_defaults f (X _ _ d) b g c
def BK{us:List b_}{v:b_}(h:(us++[v]).length=3):∃ x y,us=[x,y]:=by
 rw[gV]at h
 match us,h with
 | [x,y],_=>exact⟨x,y,rfl⟩
 | [],h=>cases h
 | [_],h=>cases h
 | _::_::_::tl,h=>simp at h
end
end L2
namespace L2
open PySem PySem.Calls PySem.Spec PyProof.Rows PySem.W
section
variable {prog:hH}{w:lA}{s:e_}{A:m_}{E:b_->e_->Prop}
def vn{t:Addr}{us:List b_}{f:List Int}{R:b_->e_->Prop}(x:IsTup s.heap t us.toArray)(q:Fb us f)(a:us.length<64)
  (d:∀(out:Array b_) (ns':List Int),Fb out.toList ns'->ns'.Perm f->ns'.Pairwise (·<=·)->R (.ref (s.heap.objs.size+1)) { s with heap:=sortedAll s.heap us out }) :
  ig (lh prog w) A (call (.builtin "sorted") [.ref t]) R E s:=by
 obtain⟨o,i,y,n,p⟩:=id x;have k:us.length<=sizeLine:=by rw[j_];lia
 refine call_function_entry kind_sorted plain_sorted entry_sorted (args_sorted1 _) ?_;unfold FG.«sorted»;refine a_ (m:=checkCount "sorted" 1 1 _) (fL (a_ ?_));unfold collect;refine a_ (LU (GW Kq ?_));show ig _ _ (do again (.builtin "list.__iadd__" ⟨[<- Lc [],.ref t],[]⟩)) _ _ s;refine a_ (Gp (fL ⟨FN _ (by decide +kernel),GW Lw ?_⟩));show ig _ _ (GZ (.ref s.heap.objs.size) (.ref t) (.ref s.heap.objs.size)) _ _ { s with heap:=s.heap.push (A1 "list" #[] 0) };unfold GZ;have b:(s.heap.push (A1 "list" #[] 0)).get? t=some o:=c_ _ i;have c:(s.heap.push (A1 "list" #[] 0)).get? s.heap.objs.size=some (A1 "list" #[] 0):=ie _ rfl;refine a_ (JP (T := "tuple") ⟨o,b,y⟩ ?_);have e:(ra "tuple" == ra "tuple")=true:=rfl;rw[if_pos (by rw[e];simp)];refine a_ (HZ b p (a_ (HZ (xs:=#[]) (n:=0) c rfl ?_)));rw[if_neg (by simp)];refine a_ (Hv (xs:=#[]) (n:=0) c rfl (fL ?_) (h_ _) (by show(#[]++us.toArray).size<=sizeLine+1;simp only[Array.size_append,nf,KZ];lia));show ig (lh prog w) _ (do let o <- load s.heap.objs.size;match o.data with | .seq xs _=>pure xs.toList | _=>unsupported "internal:collect") _ E { s with heap:=(s.heap.push (A1 "list" #[] 0)).update s.heap.objs.size (EL (· ++ us.toArray)) };refine a_ (KQ (LB c _) ?_);show ig _ _ (pure ((#[]:Array b_)++us.toArray).toList) _ E _;have j:((#[]:Array b_)++us.toArray).toList=us:=by simp
 rw[j];refine fL (a_ (Gp ?_));have h:((s.heap.push (A1 "list" #[] 0)).update s.heap.objs.size (EL (· ++ us.toArray))).objs.size=s.heap.objs.size+1:=by rw[Heap.size_update,size_push']
 have g:(((s.heap.push (A1 "list" #[] 0)).update s.heap.objs.size (EL (· ++ us.toArray))).push (A1 "list" us.toArray 0)).get? (s.heap.objs.size+1)=some (A1 "list" us.toArray 0):=by rw[<- h];exact ie _ rfl
 show ig _ _ _ _ _ { s with heap:=((s.heap.push (A1 "list" #[] 0)).update s.heap.objs.size (EL (· ++ us.toArray))).push (A1 "list" us.toArray 0) };rw[h];exact a_ (u_ (B1 LV ⟨_,g,rfl⟩ LC (list_sort_tree g q a λout ns' u r v=>⟨_,rfl,fL ⟨_,rfl,d out ns' u r v⟩⟩) (LW _)))
end
def gO{X:Cx}:CallR X (.builtin "sorted") (λxs H Q=>∃(p:Addr) (ns:List Int),xs=[.ref p]/\(SqL X.K H p (ns.map V.int)\/SqT X.K H p (ns.map V.int))/\ns.length<64/\∀ q (ns':List Int),ns'.Perm ns->ns'.Pairwise (·<=·)->H q=none->Q (.ref q) (upd H q (.lst (ns'.map V.int)))):=by
 intro d s A H xs D Q I r h;obtain⟨p,ns,rfl,hq,F,q⟩:=h
 rcases hq with hq | hq
 .exact nJ d s A H _ D Q I r ⟨p,ns,rfl,hq,F,q⟩
 obtain⟨u,rfl,v⟩:=dW r;cases v;obtain⟨c,j,w,G⟩:=I.tuple hq;have x:=iA j;have k:c.length=ns.length:=by have:=j.length;rw[d_]at this;exact this.symm
 refine vn w x (by lia) λf ns' B i C=>?_
 obtain⟨e,E⟩:=sortedAll_at s.heap c f;have y:H (s.heap.objs.size+1)=none:=I.hok.fresh (Fs _);have g:sizeLine=16777216:=j_;refine⟨.ref (s.heap.objs.size+1),_,I.laid (a:=s.heap.objs.size+1) (o:=.lst (ns'.map V.int)) (t':=s.toks) (λb u z=>sortedAll_old z) (Fs _) ⟨?_,f.toList,e,eK B,?_⟩,rfl,q _ ns' i C y⟩
 .rw[d_,i.length_eq];lia
 .rw[E,Jd]
end L2
namespace WSrt
open PySem PySem.W PyProof.Rows
def run{α:Type}(lt:Nat->Nat->Bool):KasT α->α
 | .ret x=>x
 | .ask i j k=>run lt (k (lt i j))
def d8{a b:Type}(lt:Nat->Nat->Bool)(f:a->KasT b):∀ t:KasT a,run lt (t.bind f)=run lt (f (run lt t))
 | .ret _=>rfl
 | .ask i j k=>d8 lt f (k (lt i j))
def e(p:Array Nat)(i:Nat):Nat:=(p[i]?).getD 0
def aS(p:Array Nat)(i:Nat):p.getD i 0=e p i:=by unfold e;simp[Array.getD_eq_getD_getElem?]
variable (lt:Nat->Nat->Bool) (n:Nat)
structure Wk:Prop where
 asy:∀ i j,i<n->j<n->lt i j=true->lt j i=false
 tr:∀ i j k,i<n->j<n->k<n->lt j i=false->lt k j=false->lt k i=false
structure PV(p:Array Nat):Prop where
 sz:p.size=n
 pm:p.toList.Perm (lj n)
def e_list{p:Array Nat}{i:Nat}(h:i<p.size):p.toList[i]? = some (e p i):=by
 unfold e;rw[EO];simp[h]
def PV.bd{p:Array Nat}(h:PV n p){i:Nat}(b:i<n):e p i<n:=by
 have:=e_list (p:=p) (i:=i) (by rw[h.sz];exact b);have a:=h.pm.mem_iff.mp (ge this);exact A9.mp a
def PV.ne{p:Array Nat}(h:PV n p){i j:Nat}(v:i<n)(q:j<n)(a:i≠j):e p i≠e p j:=by
 have s:p.toList.Nodup:=h.pm.nodup_iff.mpr IG;have k:=e_list (p:=p) (i:=i) (by rw[h.sz];exact v);have u:=e_list (p:=p) (i:=j) (by rw[h.sz];exact q);intro z;rw[z]at k
 have r:=(fP.mp k)
 have w:=(fP.mp u)
 obtain⟨f,g⟩:=r;obtain⟨d,b⟩:=w;have o:=tW.mp s
 rcases J6 i j with c | c | c
 .exact o i j f d c (g.trans b.symm)
 .exact a c
 .exact o j i d f c (b.trans g.symm)
def Asc(p:Array Nat)(m:Nat):Prop:=∀ i j,i<j->j<m->lt (e p j) (e p i)=false
def Dsc(p:Array Nat)(m:Nat):Prop:=∀ i j,i<j->j<m->lt (e p i) (e p j)=false
def Blk(p:Array Nat)(i j:Nat):Prop:=∀ x y,i<=x->x<j->i<=y->y<j->lt (e p x) (e p y)=false
variable (T:Wk lt n)
include T
theorem wg{p:Array Nat}{m:Nat}(h:PV n p)(g:1<=m)(d:m<n)(a:Asc lt p m)(c:lt (e p m) (e p (m - 1))=false):Asc lt p (m+1):=by
 intro i j b f
 by_cases c1:j<m
 .exact a i j b c1
 .have:j=m:=by omega
  subst this
  by_cases c2:i=j - 1
  .rw[c2];exact c
  .exact T.tr _ (e p (j - 1)) _ (h.bd n (by omega)) (h.bd n (by omega)) (h.bd n (by omega)) (a i (j - 1) (by omega) (by omega)) c
theorem kn{p:Array Nat}{m:Nat}(h:PV n p)(g:1<=m)(d:m<n)(a:Dsc lt p m)(c:lt (e p (m - 1)) (e p m)=false):Dsc lt p (m+1):=by
 intro i j b f
 by_cases c1:j<m
 .exact a i j b c1
 .have:j=m:=by omega
  subst this
  by_cases c2:i=j - 1
  .rw[c2];exact c
  .exact T.tr _ (e p (j - 1)) _ (h.bd n (by omega)) (h.bd n (by omega)) (h.bd n (by omega)) c (a i (j - 1) (by omega) (by omega))
theorem jV{p:Array Nat}(h:PV n p):∀(f m:Nat),1<=m->m+f<=n->Asc lt p m->m<=run lt (FI p f m)/\run lt (FI p f m)<=m+f/\Asc lt p (run lt (FI p f m))/\(run lt (FI p f m)<m+f->lt (e p (run lt (FI p f m))) (e p (run lt (FI p f m) - 1))=true)
 | 0,m,_,_,a=>⟨fS _,fS _,a,λz=>absurd z (o5 _)⟩
 | f+1,m,h1,h2,a=>by
  have d:run lt (FI p (f+1) m)=run lt (if lt (e p m) (e p (m - 1))=true then .ret m else FI p f (m+1)):=by
   show run lt (if lt (p.getD m 0) (p.getD (m - 1) 0)=true then .ret m else FI p f (m+1))=_;rw[aS,aS]
  rw[d];cases c:lt (e p m) (e p (m - 1)) with
  | true =>
   rw[if_pos rfl];exact⟨fS _,by show m<=_;omega,a,λ_=>c⟩
  | false =>
   rw[if_neg (by decide)];obtain⟨j,i,b,g⟩:=jV h f (m+1) (by omega) (by omega) (wg lt n T h h1 (by omega) a c);exact⟨by omega,by omega,b,λz=>g (by omega)⟩
omit T in
theorem jj{p:Array Nat}{i m k:Nat}(a:m<=p.size):e (Fd p i m) k=if i<=k/\k<m then e p (i+m - 1 - k) else e p k:=by
 unfold e Fd;rw[getElem?_mirror_all a]
 split <;> rfl
omit T in
theorem PV.rev{p:Array Nat}(h:PV n p)(i m:Nat):PV n (Fd p i m):=⟨by unfold Fd;rw[mirror_size];exact h.sz,(FM.mp (mirror_perm p i m ((m - i)/2))).trans h.pm⟩
theorem pR{p:Array Nat}{i m:Nat}(h:PV n p)(g:m<=n)(a:Dsc lt p m)(b:Blk lt p i m):Dsc lt (Fd p i m) m:=by
 intro x y c f;have d:m<=p.size:=by rw[h.sz];exact g
 rw[jj d,jj d]
 by_cases cy:i<=y/\y<m
 .rw[if_pos cy]
  by_cases cx:i<=x/\x<m
  .rw[if_pos cx]
   exact b _ _ (by omega) (by omega) (by omega) (by omega)
  .rw[if_neg cx]
   exact a _ _ (by omega) (by omega)
 .rw[if_neg cy,if_neg (by omega)]
  exact a _ _ c f
theorem fQ:∀(f:Nat) (p:Array Nat) (m q:Nat),PV n p->q+1<=m->m+f<=n->Dsc lt p m->Blk lt p (m - (q+1)) m->∃ p' m' q',run lt (F6 f p m q)=(p',m',q')/\PV n p'/\m<=m'/\m'<=m+f/\q'+1<=m'/\Dsc lt p' m'/\Blk lt p' (m' - (q'+1)) m'
 | 0,p,m,q,h,hq,_,a,b=>⟨p,m,q,rfl,h,fS _,fS _,hq,a,b⟩
 | f+1,p,m,q,h,hq,hf,a,b=>by
  have M:run lt (F6 (f+1) p m q)=run lt (if lt (e p m) (e p (m - 1))=true then (if q > 0 then F6 f (Fd p (m - (q+1)) m) (m+1) 0 else F6 f p (m+1) 0) else (if lt (e p (m - 1)) (e p m)=true then .ret (p,m,q) else F6 f p (m+1) (q+1))):=by
   show run lt (if lt (p.getD m 0) (p.getD (m - 1) 0)=true then (if q > 0 then F6 f (Fd p (m - (q+1)) m) (m+1) 0 else F6 f p (m+1) 0) else .ask (p.getD (m - 1) 0) (p.getD m 0) λd=>if d=true then .ret (p,m,q) else F6 f p (m+1) (q+1))=_;rw[aS,aS]
   split <;> rfl
  rw[M]
  have g:∀ p':Array Nat,PV n p'->Blk lt p' (m+1 - (0+1)) (m+1):=λp' k x y i w j z=>by
   have:x=m:=by omega
   have:y=m:=by omega
   subst x y;cases c:lt (e p' m) (e p' m) with
   | false=>rfl
   | true=>rw[T.asy _ _ (k.bd n (by omega)) (k.bd n (by omega)) c]at c;exact absurd c (by decide)
  have D:m<=p.size:=by rw[h.sz];omega
  cases c:lt (e p m) (e p (m - 1)) with
  | true =>
   have A:=T.asy _ _ (h.bd n (by omega)) (h.bd n (by omega)) c;rw[if_pos rfl]
   by_cases hq0:q > 0
   .rw[if_pos hq0]
    have k:=h.rev n (m - (q+1)) m;have J:=pR lt n T h (by omega) a b
    have K:lt (e (Fd p (m - (q+1)) m) (m - 1)) (e (Fd p (m - (q+1)) m) m)=false:=by
     rw[jj D,jj D,if_pos ⟨by omega,by omega⟩,if_neg (by omega)];have I:m - (q+1)+m - 1 - (m - 1)=m - (q+1):=by omega
     rw[I];exact T.tr _ (e p (m - 1)) _ (h.bd n (by omega)) (h.bd n (by omega)) (h.bd n (by omega)) A (b _ _ (by omega) (by omega) (by omega) (by omega))
    obtain⟨p',m',q',r,o,E,B,s,v,u⟩:=fQ f _ (m+1) 0 k (by omega) (by omega) (kn lt n T k (by omega) (by omega) J K) (g _ k);exact⟨p',m',q',r,o,by omega,by omega,s,v,u⟩
   .rw[if_neg hq0]
    obtain⟨p',m',q',r,o,E,B,s,v,u⟩:=fQ f p (m+1) 0 h (by omega) (by omega) (kn lt n T h (by omega) (by omega) a A) (g _ h);exact⟨p',m',q',r,o,by omega,by omega,s,v,u⟩
  | false =>
   rw[if_neg (by decide)];cases d:lt (e p (m - 1)) (e p m) with
   | true =>
    rw[if_pos rfl];exact⟨p,m,q,rfl,h,fS _,by omega,hq,a,b⟩
   | false =>
    rw[if_neg (by decide)]
    have H:Blk lt p (m+1 - (q+1+1)) (m+1):=by
     have L:m+1 - (q+1+1)=m - (q+1):=by omega
     rw[L]
     have G:∀ x,m - (q+1)<=x->x<m->lt (e p x) (e p m)=false/\lt (e p m) (e p x)=false:=λx C F =>
      ⟨T.tr _ (e p (m - 1)) _ (h.bd n (by omega)) (h.bd n (by omega)) (h.bd n (by omega)) d (b _ _ C F (by omega) (by omega)),T.tr _ (e p (m - 1)) _ (h.bd n (by omega)) (h.bd n (by omega)) (h.bd n (by omega)) (b _ _ (by omega) (by omega) C F) c⟩
     intro x y i w j z
     by_cases cx:x=m
     .by_cases cy:y=m
      .rw[cx,cy]
       exact g p h m m (by omega) (by omega) (by omega) (by omega)
      .rw[cx];exact(G y j (by omega)).2
     .by_cases cy:y=m
      .rw[cy];exact(G x i (by omega)).1
      .exact b x y i (by omega) j (by omega)
    obtain⟨p',m',q',r,o,E,B,s,v,u⟩:=fQ f p (m+1) (q+1) h (by omega) (by omega) (kn lt n T h (by omega) (by omega) a d) H;exact⟨p',m',q',r,o,by omega,by omega,s,v,u⟩
omit T in
theorem xX{p:Array Nat}{m:Nat}(h:PV n p)(c:m<=n)(a:Dsc lt p m):Asc lt (Fd p 0 m) m:=by
 intro i j d f;have b:m<=p.size:=by rw[h.sz];exact c
 rw[jj b,jj b,if_pos ⟨by omega,by omega⟩,if_pos ⟨by omega,by omega⟩];exact a _ _ (by omega) (by omega)
theorem o8{p:Array Nat}{m:Nat}(h:PV n p)(f:1<=m)(c:m<=n)(a:Dsc lt p m):∃ m' p',run lt (GC m n p)=(m',p')/\PV n p'/\Asc lt p' m'/\1<=m'/\m'<=n:=by
 unfold GC;rw[d8];have b:=h.rev n 0 m;obtain⟨i,g,d,_⟩:=jV lt n T b (n - m) m f (by omega) (xX lt n h c a);exact⟨_,_,rfl,b,d,by omega,by omega⟩
theorem nj{p:Array Nat}{m:Nat}(h:PV n p)(v:1<=m)(i:m<n)(a:Dsc lt p (m+1)):∃ m' p',run lt (GP m n p)=(m',p')/\PV n p'/\Asc lt p' m'/\1<=m'/\m'<=n:=by
 unfold GP;rw[d8]
 have b:Blk lt p (m+1 - (0+1)) (m+1):=λx y r k q s=>by
  have:x=m:=by omega
  have:y=m:=by omega
  subst x y;cases c:lt (e p m) (e p m) with
  | false=>rfl
  | true=>rw[T.asy _ _ (h.bd n i) (h.bd n i) c]at c;exact absurd c (by decide)
 obtain⟨p',m',d,j,f,z,u,w,g,o⟩:=fQ lt n T (n - (m+1)) p (m+1) 0 h (by omega) (by omega) a b;rw[j];show ∃ m'' p'',run lt (if d > 0 then GC m' n (Fd p' (m' - (d+1)) m') else GC m' n p')=_/\_
 by_cases c:d > 0
 .rw[if_pos c]
  exact o8 lt n T (f.rev n _ _) (by omega) (by omega) (pR lt n T f (by omega) g o)
 .rw[if_neg c]
  exact o8 lt n T f (by omega) (by omega) g
theorem qu{p:Array Nat}{m:Nat}(h:PV n p)(v:1<=m)(u:m<n)(q:Asc lt p m)(f:lt (e p 0) (e p (m - 1))=false)(r:lt (e p (m - 1)) (e p m)=false):Dsc lt (Fd p 0 m) (m+1):=by
 have d:m<=p.size:=by rw[h.sz];omega
 have b:∀ x y,x<=y->y<m->lt (e p y) (e p x)=false:=λx y g a=>by
  by_cases z:x=y
  .subst z
   cases c4:lt (e p x) (e p x) with
   | false=>rfl
   | true=>rw[T.asy _ _ (h.bd n (by omega)) (h.bd n (by omega)) c4]at c4;exact absurd c4 (by decide)
  .exact q x y (by omega) a
 have c:∀ x y,x<m->y<m->lt (e p x) (e p y)=false:=λx y k a =>
  T.tr _ (e p 0) _ (h.bd n (by omega)) (h.bd n (by omega)) (h.bd n (by omega)) (T.tr _ (e p (m - 1)) _ (h.bd n (by omega)) (h.bd n (by omega)) (h.bd n (by omega)) (b y (m - 1) (by omega) (by omega)) f) (b 0 x (by omega) k)
 intro i j o s;rw[jj d,jj d,if_pos ⟨by omega,by omega⟩]
 by_cases cj:j<m
 .rw[if_pos ⟨by omega,cj⟩]
  exact c _ _ (by omega) (by omega)
 .rw[if_neg (by omega)]
  have:j=m:=by omega
  subst this;exact T.tr _ (e p (j - 1)) _ (h.bd n (by omega)) (h.bd n (by omega)) (h.bd n (by omega)) r (c _ _ (by omega) (by omega))
theorem mI{p:Array Nat}(h:PV n p)(s:2<=n):∃ m' p',run lt (Lx n p)=(m',p')/\PV n p'/\Asc lt p' m'/\1<=m'/\m'<=n:=by
 unfold Lx;rw[d8];have q:Asc lt p 1:=λi j d k=>by omega
 obtain⟨b,o,a,g⟩:=jV lt n T h (n - 1) 1 (fS _) (by omega) q;generalize run lt (FI p (n - 1) 1)=m at b o a g
 by_cases c:m=n
 .have:(m == n)=true:=by simpa using c
  rw[if_pos this];exact⟨m,p,rfl,h,a,b,by omega⟩
 .have:¬(m == n)=true:=by simpa using c
  rw[if_neg this];have f:=T.asy _ _ (h.bd n (by omega)) (h.bd n (by omega)) (g (by omega))
  by_cases c2:m > 1
  .rw[if_pos c2]
   show ∃ m' p',run lt (if lt (p.getD 0 0) (p.getD (m - 1) 0)=true then .ret (m,p) else GP m n (Fd p 0 m))=_/\_;rw[aS,aS];cases c3:lt (e p 0) (e p (m - 1)) with
   | true =>
    rw[if_pos rfl];exact⟨m,p,rfl,h,a,b,by omega⟩
   | false =>
    rw[if_neg (by decide)];exact nj lt n T (h.rev n 0 m) (by omega) (by omega) (qu lt n T h b (by omega) a c3 f)
  .rw[if_neg c2]
   have r:m=1:=by omega
   subst r;refine nj lt n T h (by omega) (by omega) ?_;intro i j d k;have:i=0:=by omega
   have:j=1:=by omega
   subst i j;exact f
theorem i8{p:Array Nat}{k:Nat}(h:PV n p)(g:k<n)(a:Asc lt p k):∀(f l r:Nat),l<=r->r<=k->r - l<=f->(∀ i,i<l->lt (e p k) (e p i)=false)->(∀ i,r<=i->i<k->lt (e p i) (e p k)=false) ->
  run lt (B_ p k f l r)<=k/\(∀ i,i<run lt (B_ p k f l r)->lt (e p k) (e p i)=false)/\(∀ i,run lt (B_ p k f l r)<=i->i<k->lt (e p i) (e p k)=false)
 | 0,l,r,h1,h2,h3,lo,hi=>⟨by show l<=k;omega,lo,λi d b=>hi i (by have z:l<=i:=d;omega) b⟩
 | f+1,l,r,h1,h2,h3,lo,hi=>by
  by_cases c:l >= r
  .have s:run lt (B_ p k (f+1) l r)=l:=by
    show run lt (if l >= r then .ret l else _)=l;rw[if_pos c];rfl
   rw[s];exact⟨by omega,lo,λi d b=>hi i (by omega) b⟩
  .have s:run lt (B_ p k (f+1) l r)=run lt (if lt (e p k) (e p ((l+r)/2))=true then B_ p k f l ((l+r)/2) else B_ p k f ((l+r)/2+1) r):=by
    show run lt (if l >= r then .ret l else .ask (p.getD k 0) (p.getD ((l+r)/2) 0) λc=>if c=true then B_ p k f l ((l+r)/2) else B_ p k f ((l+r)/2+1) r)=_;rw[if_neg c,aS,aS];rfl
   rw[s];have o:l<=(l+r)/2:=by omega
   have q:(l+r)/2<r:=by omega
   generalize (l+r)/2=m at o q;cases cc:lt (e p k) (e p m) with
   | true =>
    have j:=T.asy _ _ (h.bd n g) (h.bd n (by omega)) cc;rw[if_pos rfl];refine i8 h g a f l m o (by omega) (by omega) lo λi d b=>?_
    by_cases c3:i=m
    .rw[c3];exact j
    .exact T.tr _ (e p m) _ (h.bd n g) (h.bd n (by omega)) (h.bd n (by omega)) j (a m i (by omega) b)
   | false =>
    rw[if_neg (by decide)];refine i8 h g a f (m+1) r (by omega) h2 (by omega) (λi d=>?_) hi
    by_cases c3:i=m
    .rw[c3];exact cc
    .exact T.tr _ (e p m) _ (h.bd n (by omega)) (h.bd n (by omega)) (h.bd n g) (a i m (by omega) (by omega)) cc
omit T in
theorem m9{p:Array Nat}{k l i:Nat}(b:k<p.size)(c:l<=k):e (GQ p k (k - l)) i=if i=l then e p k else if l<i/\i<=k then e p (i - 1) else e p i:=by
 unfold e;rw[getElem?_bubble b (k - l) (by omega)];have a:k - (k - l)=l:=by omega
 rw[a]
 split
 .rfl
 .split <;> rfl
theorem sA:∀(f:Nat) (p:Array Nat) (k:Nat),PV n p->k+f<=n->Asc lt p k->∃ p',run lt (H_ f p k)=p'/\PV n p'/\Asc lt p' (k+f)
 | 0,p,k,h,_,a=>⟨p,rfl,h,a⟩
 | f+1,p,k,h,hk,a=>by
  obtain⟨b,r,s⟩:=i8 lt n T h (by omega) a k 0 k (by omega) (fS _) (by omega) (λi hi=>by omega) (λi h1 h2=>by omega)
  have w:run lt (H_ (f+1) p k)=run lt (H_ f (GQ p k (k - run lt (B_ p k k 0 k))) (k+1)):=by
   show run lt ((B_ p k k 0 k).bind λl=>H_ f (GQ p k (k - l)) (k+1))=_;rw[d8]
  rw[w];generalize run lt (B_ p k k 0 k)=l at b r s;have d:k<p.size:=by rw[h.sz];omega
  have v:PV n (GQ p k (k - l)):=⟨by rw[bubble_size];exact h.sz,(FM.mp (bubble_perm p k (k - l))).trans h.pm⟩
  have x:Asc lt (GQ p k (k - l)) (k+1):=by
   intro i j q B
   by_cases c1:i=l
   .have g:e (GQ p k (k - l)) i=e p k:=by rw[m9 d b,if_pos c1]
    have o:e (GQ p k (k - l)) j=e p (j - 1):=by rw[m9 d b,if_neg (by omega),if_pos ⟨by omega,by omega⟩]
    rw[g,o];exact s (j - 1) (by omega) (by omega)
   .by_cases c2:j=l
    .have g:e (GQ p k (k - l)) i=e p i:=by rw[m9 d b,if_neg c1,if_neg (by omega)]
     have o:e (GQ p k (k - l)) j=e p k:=by rw[m9 d b,if_pos c2]
     rw[g,o];exact r i (by omega)
    .have g:e (GQ p k (k - l)) i=if l<i then e p (i - 1) else e p i:=by
      rw[m9 d b,if_neg c1]
      by_cases c:l<i
      .rw[if_pos ⟨c,by omega⟩,if_pos c]
      .rw[if_neg (λz=>c z.1),if_neg c]
     have o:e (GQ p k (k - l)) j=if l<j then e p (j - 1) else e p j:=by
      rw[m9 d b,if_neg c2]
      by_cases c:l<j
      .rw[if_pos ⟨c,by omega⟩,if_pos c]
      .rw[if_neg (λz=>c z.1),if_neg c]
     rw[g,o]
     split
     .split
      .exact a _ _ (by omega) (by omega)
      .exact a _ _ (by omega) (by omega)
     .split
      .omega
      .exact a _ _ q (by omega)
  obtain⟨p',u,y,A⟩:=sA f _ (k+1) v (by omega) x;exact⟨p',u,y,by rw[show k+(f+1)=k+1+f by omega];exact A⟩
theorem run_sort(i:2<=n):∃ p,run lt (Kr n)=p/\PV n p/\Asc lt p n:=by
 unfold Kr;rw[d8]
 have h:PV n (EI (lj n)):=⟨by simp,by simp⟩
 obtain⟨m,p,j,d,b,q,r⟩:=mI lt n T h i;rw[j];show ∃ a,run lt (if m<n then H_ (n - max m 1) p (max m 1) else .ret p)=a/\_;have k:max m 1=m:=by omega
 by_cases c:m<n
 .rw[if_pos c,k]
  obtain⟨a,g,o,f⟩:=sA lt n T (n - m) p m d (by omega) b;exact⟨a,g,o,by rw[show m+(n - m)=n by omega]at f;exact f⟩
 .rw[if_neg c]
  have:m=n:=by omega
  subst this;exact⟨p,rfl,d,b⟩
omit T in
def In{α:Type}:KasT α->Prop
 | .ret _=>True
 | .ask i j k=>i<n/\j<n/\i≠j/\In (k (lt i j))
omit T in
theorem gi{a b:Type}{f:a->KasT b}:∀{t:KasT a},In lt n t->In lt n (f (run lt t))->In lt n (t.bind f)
 | .ret _,_,h=>h
 | .ask i j k,h,h'=>⟨h.1,h.2.1,h.2.2.1,gi h.2.2.2 h'⟩
omit T in
theorem rG{p:Array Nat}(h:PV n p):∀(f m:Nat),1<=m->m+f<=n->In lt n (FI p f m)
 | 0,_,_,_=>trivial
 | f+1,m,h1,h2=>by
  refine⟨by rw[aS];exact h.bd n (by omega),by rw[aS];exact h.bd n (by omega),by rw[aS,aS];exact h.ne n (by omega) (by omega) (by omega),?_⟩;dsimp only
  split
  .exact trivial
  .exact rG h f (m+1) (by omega) (by omega)
omit T in
theorem j4:∀(f:Nat) (p:Array Nat) (m q:Nat),PV n p->1<=m->m+f<=n->In lt n (F6 f p m q)
 | 0,_,_,_,_,_,_=>trivial
 | f+1,p,m,q,h,h1,h2=>by
  refine⟨by rw[aS];exact h.bd n (by omega),by rw[aS];exact h.bd n (by omega),by rw[aS,aS];exact h.ne n (by omega) (by omega) (by omega),?_⟩;dsimp only
  split
  .split
   .exact j4 f _ _ _ (h.rev n _ _) (by omega) (by omega)
   .exact j4 f _ _ _ h (by omega) (by omega)
  .refine⟨by rw[aS];exact h.bd n (by omega),by rw[aS];exact h.bd n (by omega),by rw[aS,aS];exact h.ne n (by omega) (by omega) (by omega),?_⟩
   dsimp only
   split
   .exact trivial
   .exact j4 f _ _ _ h (by omega) (by omega)
omit T in
theorem sv{p:Array Nat}{m:Nat}(h:PV n p)(a:1<=m)(b:m<=n):In lt n (GC m n p):=gi lt n (rG lt n (h.rev n 0 m) (n - m) m a (by omega)) trivial
theorem pq{p:Array Nat}{m:Nat}(h:PV n p)(z:1<=m)(g:m<n)(a:Dsc lt p (m+1)):In lt n (GP m n p):=by
 have d:Blk lt p (m+1 - (0+1)) (m+1):=λx y r o q s=>by
  have:x=m:=by omega
  have:y=m:=by omega
  subst x y;cases c:lt (e p m) (e p m) with
  | false=>rfl
  | true=>rw[T.asy _ _ (h.bd n g) (h.bd n g) c]at c;exact absurd c (by decide)
 obtain⟨i,b,f,k,j,B,w,A,v,u⟩:=fQ lt n T (n - (m+1)) p (m+1) 0 h (by omega) (by omega) a d;refine gi lt n (j4 lt n _ _ _ _ h (by omega) (by omega)) ?_;rw[k];show In lt n (if f > 0 then GC b n (Fd i (b - (f+1)) b) else GC b n i)
 split
 .exact sv lt n (j.rev n _ _) (by omega) (by omega)
 .exact sv lt n j (by omega) (by omega)
theorem xo{p:Array Nat}(h:PV n p)(s:2<=n):In lt n (Lx n p):=by
 refine gi lt n (rG lt n h (n - 1) 1 (by omega) (by omega)) ?_;have q:Asc lt p 1:=λi j a k=>by omega
 obtain⟨f,o,b,g⟩:=jV lt n T h (n - 1) 1 (fS _) (by omega) q;generalize run lt (FI p (n - 1) 1)=m at f o b g
 by_cases c:m=n
 .have:(m == n)=true:=by simpa using c
  rw[if_pos this];exact trivial
 .have:¬(m == n)=true:=by simpa using c
  rw[if_neg this];have d:=T.asy _ _ (h.bd n (by omega)) (h.bd n (by omega)) (g (by omega))
  by_cases c2:m > 1
  .rw[if_pos c2]
   refine⟨by rw[aS];exact h.bd n (by omega),by rw[aS];exact h.bd n (by omega),by rw[aS,aS];exact h.ne n (by omega) (by omega) (by omega),?_⟩;rw[aS,aS];cases c3:lt (e p 0) (e p (m - 1)) with
   | true=>exact trivial
   | false =>
    show In lt n (if false=true then _ else GP m n (Fd p 0 m));rw[if_neg (by decide)];exact pq lt n T (h.rev n 0 m) (by omega) (by omega) (qu lt n T h f (by omega) b c3 d)
  .rw[if_neg c2]
   have r:m=1:=by omega
   subst r;refine pq lt n T h (by omega) (by omega) ?_;intro i j a k;have:i=0:=by omega
   have:j=1:=by omega
   subst i j;exact d
omit T in
theorem kE{p:Array Nat}{k:Nat}(h:PV n p)(a:k<n):∀(f l r:Nat),r<=k->In lt n (B_ p k f l r)
 | 0,_,_,_=>trivial
 | f+1,l,r,h2=>by
  show In lt n (if l >= r then .ret l else .ask (p.getD k 0) (p.getD ((l+r)/2) 0) λc=>if c=true then B_ p k f l ((l+r)/2) else B_ p k f ((l+r)/2+1) r)
  split
  .exact trivial
  .refine⟨by rw[aS];exact h.bd n a,by rw[aS];exact h.bd n (by omega),by rw[aS,aS];exact h.ne n a (by omega) (by omega),?_⟩
   dsimp only
   split
   .exact kE h a f l _ (by omega)
   .exact kE h a f _ r h2
omit T in
theorem xq:∀(f:Nat) (p:Array Nat) (k:Nat),PV n p->k+f<=n->In lt n (H_ f p k)
 | 0,_,_,_,_=>trivial
 | f+1,p,k,h,hk=>by
  refine gi lt n (kE lt n h (by omega) k 0 k (fS _)) ?_;exact xq f _ (k+1) ⟨by rw[bubble_size];exact h.sz,(FM.mp (bubble_perm p k _)).trans h.pm⟩ (by omega)
theorem In_sort(b:2<=n):In lt n (Kr n):=by
 have a:PV n (EI (lj n)):=⟨by simp,by simp⟩
 refine gi lt n (xo lt n T a b) ?_;obtain⟨m,p,c,d,f,g,h⟩:=mI lt n T a b;rw[c];show In lt n (if m<n then H_ (n - max m 1) p (max m 1) else .ret p)
 split
 .exact xq lt n _ _ _ d (by omega)
 .exact trivial
omit T in
theorem wp_run{b:Type}{a:Nat->Nat->(Bool->e_->Prop)->e_->Prop}{s:e_}(c:∀ i j,i<n->j<n->i≠j->∀ C,C (lt i j) s->a i j C s){Q:b->e_->Prop}:∀ t:KasT b,In lt n t->Q (run lt t) s->t.kasWp a Q s
 | .ret _,_,h=>h
 | .ask i j k,hi,h=>c i j hi.1 hi.2.1 hi.2.2.1 _ (wp_run c (k (lt i j)) hi.2.2.2 h)
end WSrt
namespace L2
open PySem PySem.Spec PyProof.Rows PySem.W
def ord(lt:Nat->Nat->Bool)(n:Nat):List Nat:=if 2<=n then (WSrt.run lt (Kr n)).toList else lj n
def vH{lt:Nat->Nat->Bool}{n:Nat}(T:WSrt.Wk lt n):(ord lt n).Perm (lj n):=by
 unfold ord
 split
 .rename_i h
  obtain⟨p,e,a,b⟩:=WSrt.run_sort lt n T h;rw[e];exact a.pm
 .exact .refl _
def yH{lt:Nat->Nat->Bool}{n:Nat}(T:WSrt.Wk lt n):(ord lt n).Pairwise λi j=>lt j i=false:=by
 unfold ord
 split
 .rename_i h
  obtain⟨p,e,c,f⟩:=WSrt.run_sort lt n T h;rw[e,tW];intro i j o d b;have a:j<n:=by rw[y2,c.sz]at d;exact d
  have g:=(fP.mp (WSrt.e_list (p:=p) (i:=i) (by rw[c.sz];lia))).2;have k:=(fP.mp (WSrt.e_list (p:=p) (i:=j) (by rw[c.sz];lia))).2;rw[g,k];exact f i j b a
 .match n with
  | 0=>exact Go
  | 1=>exact F7 _ _
  | n+2=>exact absurd (show 2<=n+2 by lia) (by assumption)
def DE(h:Heap)(d:Addr)(es:Array FA)(ep:Nat):Prop:=∃ o,h.get? d=some o/\o.ExactDict/\o.data=.dict es ep
def DE.on{h h':Heap}{d:Addr}{a:Array FA}{b:Nat}(x:DE h d a b)(k:∀ o,h.get? d=some o->h'.get? d=some o):DE h' d a b:=let ⟨o,e,r⟩:=x;⟨o,k o e,r⟩
def DE.lt{h:Heap}{d:Addr}{a:Array FA}{b:Nat}(x:DE h d a b):d<h.objs.size:=let ⟨_,e,_⟩:=x;f_ e
def DE.ty{s:e_}{d:Addr}{a:Array FA}{b:Nat}(x:DE s.heap d a b):s.TypeIs (.ref d) "dict" := let ⟨o,e,c,_⟩:=x;⟨o,e,c.1⟩
section
variable {prog:hH}{w:lA}{A:m_}{E:b_->e_->Prop}{s:e_}{d I:Addr}{es:Array FA}{ep i:Nat}
def yS{Q:b_->e_->Prop}(f:(d == sN)=false)(x:DE s.heap d es ep)
  (q:Q (.ref s.heap.objs.size) { s with heap:=s.heap.push { cls:=.type "dict_keyiterator",data:=.fields #[.ref d,.int 0 0,.int es.size 0,.int ep 0] } }):ig (lh prog w) A (LI (.ref d)) Q E s:=by
 have a:=x.ty;obtain⟨g,b,h,c⟩:=id x;refine wpAny_pyIter_slot a K1 (B1 K1 a F.entry_dict_iter ?_ (F.args_dict_iter_1 _));unfold FG.«dict.__iter__»;refine a_ ?_;unfold Builtin.Dict.dictSlotNone;refine a_ (J7 a (fL ?_));show ig _ _ (HH d >>= _) _ _ _;unfold HH;rw[if_neg (λz=>by rw[f]at z;cases z)];refine a_ (fL (a_ (Gj b c (a_ (IM b c ?_)))));refine a_ (pw (fL ⟨_,rfl, "dict_keyiterator",_,⟨_,ie _ rfl,rfl⟩,F.slot_dict_keyiterator_next.lookup,?_⟩));simpa[n7] using q
def zi{Q:Option b_->e_->Prop}{e:FA}(a:s.heap.IsKeyIter I d i es.size ep)(x:DE s.heap d es ep)(o:es[i]? = some e)
  (q:∀ h',h'.IsKeyIter I d (i+1) es.size ep->EA I s.heap h'->Q (some e.key) { s with heap:=h' }):ig (lh prog w) A (JI (.ref I)) Q E s:=by
 obtain⟨r,g,p,c⟩:=id a;obtain⟨u,j,v,k⟩:=id x;unfold JI;refine a_ (wpAny_attempt (Gy (name:=Gn "__next__") a.typeIs EY (B1 EY a.typeIs Ik ?_ (Ia _))));refine a_ (fL (a_ (a_ ?_)))
 first | refine a_ (ES a.typeIs (fL ?_)) | refine a_ (Fg a.typeIs (fL ?_))
 refine a_ (LX g c ?_);have f:Gm "dict_keyiterator" = false:=by decide
 simp only[f,pa,if_false];show ig _ _ (if (lb d == n_)=true then _ else _) _ _ _;rw[if_neg (λz:(lb d == n_)=true=>hY z)];refine a_ (fL (a_ (Gj j k ?_)));rw[if_neg (by simp)];refine a_ (fL (a_ (IM j k ?_)));rw[if_neg (by simp)];refine fL ?_;obtain⟨h,rfl⟩:=A3.mp o;simp only[show ¬((i:Int)<0) from by lia,if_false,ub,C1 h];refine a_ ?_
 first | refine a_ (ES a.typeIs (fL ?_)) | refine a_ (Fg a.typeIs (fL ?_))
 refine a_ (J8 a.typeIs ?_);show ig _ _ (LR (.ref I) 1 (n7 ((i:Int)+1)) >>= _) _ _ _;refine a_ (F4 g c (by simp) ?_)
 have b:(s.heap.update I (EB (·.setIfInBounds 1 (n7 ((i:Int)+1))))).IsKeyIter I d (i+1) es.size ep:=⟨_,A7 _ g (EX (EM c _)),(J5 ..).trans p,by rw[EM c];simp[n7]⟩
 refine a_ (u_ (a_ (J8 (s:={ s with heap:=s.heap.update I (EB (·.setIfInBounds 1 (n7 ((i:Int)+1)))) }) b.typeIs ?_)));show ig _ _ (pure es[i].key) _ _ _;exact fL (fL ⟨_,rfl,fL (q _ b (ET ..))⟩)
def Ax{Q:Option b_->e_->Prop}(p:A.handled=none)(c:s.heap.IsKeyIter I d i es.size ep)(x:DE s.heap d es ep)(o:es.size<=i)
  (q:∀ h',HG I s.heap h'->Q none { s with heap:=h' }):ig (lh prog w) A (JI (.ref I)) Q E s:=by
 obtain⟨r,j,y,g⟩:=id c;obtain⟨u,h,v,k⟩:=id x;unfold JI;refine a_ (wpAny_attempt (Gy (name:=Gn "__next__") c.typeIs EY (B1 EY c.typeIs Ik ?_ (Ia _))));refine a_ (fL (a_ (a_ ?_)))
 first | refine a_ (ES c.typeIs (fL ?_)) | refine a_ (Fg c.typeIs (fL ?_))
 refine a_ (LX j g ?_);have f:Gm "dict_keyiterator" = false:=by decide
 simp only[f,pa,if_false];show ig _ _ (if (lb d == n_)=true then _ else _) _ _ _;rw[if_neg (λz:(lb d == n_)=true=>hY z)];refine a_ (fL (a_ (Gj h k ?_)));rw[if_neg (by simp)];refine a_ (fL (a_ (IM h k ?_)));rw[if_neg (by simp)];refine fL ?_;simp only[show ¬((i:Int)<0) from by lia,if_false,ub,Ge o];refine a_ ?_
 first | refine a_ (ES c.typeIs (fL ?_)) | refine a_ (Fg c.typeIs (fL ?_))
 show ig _ _ (LR (.ref I) 0 .none >>= _) _ _ _;refine a_ (F4 j g (by simp) ?_);show ig _ _ (newExc (.type "StopIteration") [] >>= _) _ _ _;refine a_ ?_;simp only[newExc,newTuple];refine a_ (pw (a_ (m:=LY _ _) (wpAny_of_eq (a:=n_) (by first | rfl | (simp only[LY];rfl)) (pw ?_ (by size_fits)))) (by size_fits));simp only[raiseNew];refine a_ (wpAny_handled ?_);rw[show A.in1.handled=none from p];refine a_ (fL (wpAny_throw ?_));refine a_ (Lz (T := "StopIteration") (b:=true) ⟨_,ie _ rfl,rfl⟩ isSubtype_stop ?_);exact fL (q _ (((ET ..).extBut.push _).push _))
def xA(u:A.handled=none)(k:d≠I):Walks prog w A I [I,d] [I] es.size (λi v=>∃ e,es[i]? = some e/\v=e.key) (λi h=>h.IsKeyIter I d i es.size ep/\DE h d es ep) where
 sub:=λb f=>by rw[ir.mp f];exact gT ..
 frame:=λ_ _ _ a p=>⟨a.1.at λo e=>p I (gT ..) o e,a.2.on λo e=>p d (by simp) o e⟩
 item:=λi s Q E q a c=>by
  refine zi a.1 a.2 (C1 q) λj r g=>?_
  exact c _ j s.toks ⟨_,C1 q,rfl⟩ ⟨r,a.2.on λo e=>g.extBut d o k e⟩ λb o f e=>g.extBut b o (λz=>f (by rw[z];exact gT ..)) e
 done:=λs Q E a c=>Ax u a.1 a.2 (fS _) λj g=>c j s.toks λb o f e=>g b o (λz=>f (by rw[z];exact gT ..)) e
 self:=λ_ _ _ _ a c=>wpAny_pyIter_keyiter a.1 c
def Ap(c:(d == sN)=false):KdlSrc prog w "dict" d d es.size (λi v=>∃ e,es[i]? = some e/\v=e.key) (λh=>DE h d es ep) where
 type:=λ_ x=>x.ty
 there:=λ_ x=>⟨x.lt,x.lt⟩
 keep:=λ_ _ x b=>x.on λo e=>b d (.inl rfl) o e
 notList:=by decide
 notTuple:=by decide
 hint:=λ_ _ _ _ x q=>kdl_hint_dict x.ty q
 iter:=λ_ _ a x=>⟨_,_,(λ_ _ q=>yS c x q),xA a (kw x.lt),⟨⟨_,ie _ rfl,rfl,rfl⟩,x.on λo e=>c_ _ e⟩⟩
def kx(es:Array FA):List b_:=es.toList.map (·.key)
def qO{a:Array b_}(h:ItemsOf (λi v=>∃ e,es[i]? = some e/\v=e.key) a es.size):a.toList=kx es:=by
 obtain⟨g,b⟩:=h;refine List.ext_getElem? λj=>?_
 unfold kx;rw[gb,EO,EO]
 by_cases c:j<a.size
 .obtain⟨e,f,d⟩:=b j _ (C1 c)
  rw[C1 c,f,d];rfl
 .rw[Ge (by lia),Ge (by lia)];rfl
def qV{Q:List b_->e_->Prop}(h:A.handled=none)(i:(d == sN)=false)(x:DE s.heap d es ep)(g:es.size<=sizeLine)
  (q:∀ h' tk,s.heap.objs.size<h'.objs.size->(∀ b o,s.heap.get? b=some o->h'.get? b=some o)->Q (kx es) { s with heap:=h',toks:=tk }):ig (lh prog w) A (collect (.ref d)) Q E s:=by
 unfold collect;refine a_ (LU (GW Kq ?_));show ig _ _ (do again (.builtin "list.__iadd__" ⟨[<- Lc [],.ref d],[]⟩)) _ _ _;refine a_ (Gp (fL ⟨FN _ (by decide +kernel),GW Lw ?_⟩));have c:=x.lt;refine kdl_extend (R:=λr f=>match r with | Except.ok (Flow.ret v)=>ig (lh prog w) A (match v with | lb a=>(do let o <- load a;match o.data with | Data.seq xs _=>pure xs.toList | _=>unsupported "internal:collect") | _=>unsupported "internal:collect") Q E f | Except.ok _=>False | Except.error e=>E e f) (s:={ s with heap:=s.heap.push { cls:=.type "list",data:=.seq #[] } }) (Ap i) h (x.on λo e=>c_ _ e) s.heap.objs.size (FJ c) (FJ c) _ 0 (ie _ rfl) (λh' tk acc c' hk hS ha=>?_) g
 show ig (lh prog w) A (do
   let o <- load s.heap.objs.size
   match o.data with
   | .seq xs _=>pure xs.toList
   | _=>unsupported "internal:collect") Q E _
 refine a_ (KQ hS (fL ?_));rw[qO ha];exact q h' tk (f_ hS) λb o e=>hk b o (kw (f_ e)) (c_ _ e)
end
section
def KT.at{H:Hp}:∀{kvs:List (List Key×V)}{xs:List (List Key×Addr×b_)}{i:Nat}{kv:List Key×V},KT H kvs xs->kvs[i]? = some kv->∃ x,xs[i]? = some x/\H x.2.1=some (.tup (kv.1.map kV))
 | _,_,_,_,.nil,h=>by cases h
 | _,_,0,_,.cons r t,h=>by cases h;exact⟨_,rfl,r.2.1⟩
 | _,_,i+1,_,.cons r t,h=>KT.at (i:=i) t h
def mP{vs:List b_}(f:Nat->V):∀{o:List Nat},(∀ i∈o,RelV (f i) (vs.getD i n_))->Vals (o.map f) (o.map λi=>vs.getD i n_)
 | [],_=>.nil
 | i::o,h=>.cons (h i (gT ..)) (mP f λj a=>h j (hI _ a))
end
end L2
namespace L2
open PySem PySem.Spec PyProof.Rows
section
variable {prog:hH}{w:lA}{KT:Type}[DecidableEq KT]{knd:HeapKind prog w KT}{A:m_}{E:b_->e_->Prop}{s:e_}{d a:Addr}{xs:List (KT×Addr×b_)}{k:KT}{dflt:b_}
def sdH{Q:b_->e_->Prop}(B:knd.room A)(b:knd.is s.heap k a)(D:s.heap.DictOfH knd d xs)(hsz:xs.length<=sizeLine)
  (G:∀ p,G8 xs k=some p->Q p.2 { s with toks:=s.toks+knd.draws k })
  (C:G8 xs k=none->∀ h',h'.DictOfH knd d (Ld xs k a dflt)->EA d s.heap h'->Q dflt { s with heap:=h',toks:=s.toks+knd.draws k }):ig (lh prog w) A (Je d (.ref a) dflt) Q E s:=by
 obtain⟨o,I,F,f,H,c,r,q,u⟩:=D;unfold Je;refine u_ (a_ (knd.pyHash B b (a_ (wpAny_dictFind_heap (s:={ s with toks:=s.toks+knd.draws k }) B b f c r q u ?_ ?_))))
 .intro i
  have h:k ∉ xs.map (·.1):=not_mem_keys_of_get i;have g:=atKey_none_of_get i
  refine a_ (Hy (a_ (wpAny_updateDictKeys (hz:=by have e:=size_of_entries r;lia) (s:={ s with toks:=s.toks+knd.draws k }) f c (fL (C g _ ⟨_,_,F+1,A7 _ f (Obj.isFreed_of_dict (Jv c _)),
   H.mapDictKeys _,Jv c _,?_,?_,?_⟩ (ET ..))))))
  .rw[Ks g]
   simp[r,entryOfKey]
  .rw[Ks g]
   intro x hx
   rcases wh.mp hx with hx | hx
   .exact knd.keeps (q x hx) f c (ET ..)
   .simp only[ir]at hx
    subst hx;exact knd.keeps b f c (ET ..)
  .rw[Ks g]
   rw[nv,rD];refine⟨u,by simp,?_⟩;intro x hx y v;simp only[l_,GM,ir]at v;subst v;exact λe=>h (e ▸ hx)
 .intro j p z
  have g:=atKey_of_get u z;refine a_ (Gj (s:={ s with toks:=s.toks+knd.draws k }) f c ?_);rw[entry_at r j,z];exact a_ (Hy (fL (G p g)))
def uJ(g:(d == sN)=false)(b:b_):MeetsIn prog w (FG.«dict.setdefault» ⟨[.ref d,.ref a,b],[]⟩) (λA R s=>knd.room A.in1/\∃ k xs,knd.is s.heap k a/\s.heap.DictOfH knd d xs/\xs.length<=sizeLine /\
  (∀ p,G8 xs k=some p->R (.ok (.ret p.2)) { s with toks:=s.toks+knd.draws k })/\(G8 xs k=none->∀ h',h'.DictOfH knd d (Ld xs k a b)->EA d s.heap h'->R (.ok (.ret b)) { s with heap:=h',toks:=s.toks+knd.draws k })) :=
 .of_wp λA R s ⟨i,k,xs,c,f,q,o,h⟩=>by
  unfold FG.«dict.setdefault»;refine a_ ?_;unfold Builtin.Dict.keyAndDefault;refine a_ (J7 f.typeIs (show ig _ _ (pure (d,lb a,some b)) _ _ s from fL ?_));show ig _ _ (if (d == sN)=true then _ else (Je d (.ref a) b >>= _)) _ _ s;rw[if_neg (by rw[g];exact hY)];exact a_ (sdH i c f q (λp j=>fL ⟨_,rfl,o p j⟩) λhn h' m' s'=>fL ⟨_,rfl,h hn h' m' s'⟩)
end
def Ec(td ty tx:TE):TE:=λσ H Q=>td σ H λx H1=>∃ a,x=.ref a/\IsD H1 a/\ty σ H1 λy H2=>tx σ H2 λz H3=>∃ kvs k b,y=.ref b/\H3 b=some (.tup (k.map kV))/\H3 a=some (.dT kvs)/\kvs.length<sizeLine /\
 (∀ v,cb kvs k=some v->Q v H3)/\(cb kvs k=none->Q z (upd H3 a (.dT (kvs++[(k,z)]))))
section
variable {X:Cx}{o e f:Expr}{apos cpos:Pos}{td ty tx:TE}
def BP(R:X.A.units+1<FR)(ho:PE X o td)(he:PE X e ty)(hf:PE X f tx)(m:M2 X o "setdefault" apos e f cpos):PE X (.Call (.Attribute o "setdefault" apos) [e,f] [] cpos) (Ec td ty tx):=by
 intro g s A H Q I h;refine Le m.base m.few m.line Ii Hr PySem.F.type_dict_setdefault (thn (ho g s A H _ I h) λu s1 ⟨x,O,C,Z,a,P,d,q1⟩=>?_);subst P;obtain rfl:u=lb a:=Z;obtain⟨t1,t2,_⟩:=wJ C d;refine⟨t1,t2,?_⟩;rw[m.trees]
 refine Ff rfl (GA (Fa (thn (he g s1 A O _ C q1) λiv N ⟨y,H2,I2,ry,q2⟩ =>
  Fa (thn (hf g N A H2 _ I2 q2) λfv s3 ⟨z,M,v,K,i,k,b,S,E,w,l,q3,W⟩=>G0 ?_))))
 subst S;cases(show iv=lb b from ry);obtain⟨zz,G,B,r,J⟩:=ww v.hok w;have hz:B.length<=sizeLine:=by rw[<- rn r];exact zz
 refine JT Hr J.typeIs PySem.F.entry_dict_setdefault (PySem.F.args_dict_setdefault_3 _ _ _) (uJ (knd:=Gx (bA X.prog X.w)) G fv) ⟨F3 R,k,B,kP v.hok E,J,hz,λp T=>?_,λhn h' m' s'=>?_⟩
 .have j:=r.val k
  rw[T]at j;cases q:cb i k with
  | none=>rw[q]at j;exact k_ j
  | some y'=>rw[q]at j;exact⟨y',M,v.tok _,j,q3 y' q⟩
 .have j:=r.val k
  rw[hn]at j
  have q:cb i k=none:=by
   cases q:cb i k with
   | none=>rfl
   | some y'=>rw[q]at j;exact k_ j
  have Y:(i++[(k,z)]).length<=sizeLine:=by rw[gV];exact l
  have F:=r.put k E K;rw[wW z q]at F;obtain⟨ob,es,ep,D,h2,L,h4,_,h5⟩:=m';refine⟨z,_,nK (ob:=.dT (i++[(k,z)])) v (by rw[w];exact x_) s' ⟨ob,D⟩ ⟨Y,G,_,F.keeps λc ys ec=>?_,ob,es,ep,D,h2,L,h4,h5⟩,K,W q⟩;rw[ae (cF ec w (λz=>nomatch z))];exact ec
end
end L2
namespace L2
open PySem PySem.Spec PyProof.Rows PySem.W
def j8(lt:Nat->Nat->Bool)(n:Nat):List Nat:=ord lt n
def mv{lt:Nat->Nat->Bool}{n:Nat}(T:WSrt.Wk lt n):(j8 lt n).Perm (lj n):=vH T
def vi{lt:Nat->Nat->Bool}{n:Nat}(T:WSrt.Wk lt n):(j8 lt n).Pairwise λi j=>lt j i=false:=yH T
structure Tot(lt:Nat->Nat->Bool)(n:Nat):Prop where
 asy:∀ i j,i<n->j<n->lt i j=true->lt j i=false
 tr:∀ i j k,i<n->j<n->k<n->lt i j=true->lt j k=true->lt i k=true
 tot:∀ i j,i<n->j<n->i≠j->lt i j=false->lt j i=true
section
variable {prog:hH}{w:lA}{A:m_}{E:b_->e_->Prop}{s:e_}{κ:G_}{lt:Nat->Nat->Bool}
def BN{ks vs:List b_}(o:ks.length=vs.length)(d:2<=vs.length)(T:WSrt.Wk lt vs.length)(g:vs.length<64)
  (y:∀ i j,i<vs.length->j<vs.length->i≠j->∀ C,C (lt i j) s->Li prog w A κ ks i j C s){Q:Unit×SortSt->e_->Prop}
  (h:∀ st,(arrOf st).map (·.2)=EI ((j8 lt vs.length).map λi=>vs.getD i n_)->failedOf st=none->Q ((),st) s) :
  ig (lh prog w) A ((sortRuns').run (SortSt.mk' κ (ks.toArray.zip vs.toArray) #[] 7 none)) Q E s:=by
 obtain⟨p,c,u,B⟩:=WSrt.run_sort lt vs.length T d
 refine rc (kat_run (ks:=ks) (vs:=vs) (Q:=λa b=>b=s/\arrOf a=p.map (kas_item (ks.toArray.zip vs.toArray))/\failedOf a=none) (G:=λk b=>k=p/\b=s)
  o d g (λk a b D x v q=>⟨q.2,by rw[x,q.1],v⟩) (WSrt.wp_run lt vs.length (λi j hi hj hn C hC=>y i j hi hj hn C hC) _ (WSrt.In_sort lt vs.length T d) ⟨c,rfl⟩)) ?_ λ_ _ z=>z
 rintro⟨⟨⟩,a⟩ b ⟨rfl,f,r⟩;refine h a ?_ r;rw[kat_snds o f];unfold j8 ord;rw[if_pos d,c]
def y9{a:Addr}{vs:List b_}{m:Nat}{κ:G_}{lt:Nat->Nat->Bool}{P:PySem.Fin->e_->Prop}(p:s.heap.get? a=some (A1 "list" vs.toArray m))(T:WSrt.Wk lt vs.length)(hz:vs.length<16000000)(v:vs.length<64)
  (D:2<=vs.length->∀ g,(∀ b o,b≠a->s.heap.get? b=some o->g.get? b=some o)->∀ Q:G_->e_->Prop,Q κ { s with heap:=g }->ig (lh prog w) A (LZ vs.toArray) Q (λ_ _=>False) { s with heap:=g })
  (y:∀ g,(∀ b o,b≠a->s.heap.get? b=some o->g.get? b=some o)->∀ i j,i<vs.length->j<vs.length->i≠j->∀ C,C (lt i j) { s with heap:=g }->Li prog w A κ vs i j C { s with heap:=g })
  (h:P (.done (.ret .none)) { s with heap:=sortedHeap s.heap a vs (EI ((j8 lt vs.length).map λi=>vs.getD i n_)) }) :
  ig (lh prog w) A (FG.«list.sort» ⟨[.ref a],[]⟩) P E s:=by
 rw[list_sort_plain];have x:a<s.heap.objs.size:=f_ p;refine a_ (HZ p rfl (a_ (Hv p rfl ?_)))
 obtain⟨c1,ho1⟩:∃ c1,(s.heap.update a (EL λ_=>(#[]:Array b_))).get? a=some (A1 "list" #[] c1):=⟨_,LB p λ_=>#[]⟩
 refine a_ (Kt ho1 rfl (a_ (wpAny_newTuple (a_ (Gp (u_ ?_))))));have c:(((s.heap.update a (EL λ_=>(#[]:Array b_))).push (A1 "tuple" vs.toArray 0)).push (A1 "list" #[] 0)).get? a=some (A1 "list" #[] c1):=c_ _ (c_ _ ho1);have d:∀ b o,b≠a->s.heap.get? b=some o->(((s.heap.update a (EL λ_=>(#[]:Array b_))).push (A1 "tuple" vs.toArray 0)).push (A1 "list" #[] 0)).get? b=some o:=λb o hb e=>c_ _ (c_ _ (by rw[GV _ _ _ _ hb];exact e))
 show ig (lh prog w) A _ P E { s with heap:=((s.heap.update a (EL λ_=>(#[]:Array b_))).push (A1 "tuple" vs.toArray 0)).push (A1 "list" #[] 0) };dsimp only
 by_cases h2:vs.toArray.size<2
 .rw[if_pos h2,if_pos h2]
  refine a_ (fL ?_);rw[StateT.run_pure];refine a_ (fL ?_);dsimp only;refine a_ (Kt c rfl (a_ (Hv c rfl ?_ (hsz2:=by rw[Array.size_map];show(pairsOf vs).size<=_;rw[pairsOf_size,j_];lia))));simp only[bne_self_eq_false,pa,if_false];have r:vs.length<2:=by simpa using h2
  have H:j8 lt vs.length=lj vs.length:=by unfold j8 ord;rw[if_neg (by lia)]
  rw[H]at h;have f:=kas_range (vs.toArray.zip vs.toArray);rw[show(vs.toArray.zip vs.toArray).size=vs.length by simp]at f;have q:arrOf (SortSt.mk' L0 (vs.toArray.zip vs.toArray) #[] 7 none)=(EI (lj vs.length)).map (kas_item (vs.toArray.zip vs.toArray)):=f.symm;have G:=(kat_snds (ks:=vs) rfl q).symm;rw[show(lj vs.length).map (λi=>vs.getD i n_)=(EI (lj vs.length)).toList.map (λi=>vs.getD i n_) from rfl,G]at h;exact fL h
 .rw[if_neg h2,if_neg h2]
  have r:2<=vs.length:=by simpa using h2
  refine a_ (rc (D r _ d (λk F=>k=κ/\F={ s with heap:=((s.heap.update a (EL λ_=>(#[]:Array b_))).push (A1 "tuple" vs.toArray 0)).push (A1 "list" #[] 0) }) ⟨rfl,rfl⟩) (λk s0 hs=>?_) λ_ _ z=>z.elim);obtain⟨rfl,rfl⟩:=hs;refine a_ (BN rfl r T v (λi j J I K C B=>y _ d i j J I K C B) λst' hout hf=>?_);dsimp only;have u:(EI ((j8 lt vs.length).map λi=>vs.getD i n_)).size=vs.length:=by rw[nf,d_,(mv T).length_eq,A6]
  rw[hout];refine a_ (Kt c rfl (a_ (Hv c rfl ?_ (hsz2:=lB (IY u) (by rw[j_];lia)))));rw[hf];simp only[bne_self_eq_false,pa,if_false];exact fL h
end
end L2
namespace LexM
def aH:List Int->List Int->Bool
 | [],[]=>false
 | [],_::_=>true
 | _::_,[]=>false
 | x::xs,y::ys=>if x=y then aH xs ys else decide (x<y)
def om:∀ a,aH a a=false
 | []=>rfl
 | x::xs=>by rw[aH,if_pos rfl];exact om xs
def kq:∀ a b,aH a b=true->aH b a=false
 | [],[],h=>by cases h
 | [],_::_,_=>rfl
 | _::_,[],h=>by cases h
 | x::xs,y::ys,h=>by
  rw[aH]at h ⊢
  by_cases e:x=y
  .rw[if_pos e]at h;rw[if_pos e.symm];exact kq xs ys h
  .rw[if_neg e]at h;rw[if_neg (λz=>e z.symm)]
   have:=of_decide_eq_true h;exact decide_eq_false (by omega)
def oz:∀ a b,a≠b->aH a b=true\/aH b a=true
 | [],[],h=>absurd rfl h
 | [],_::_,_=>.inl rfl
 | _::_,[],_=>.inr rfl
 | x::xs,y::ys,h=>by
  rw[aH,aH]
  by_cases e:x=y
  .rw[if_pos e,if_pos e.symm]
   exact oz xs ys λz=>h (by rw[e,z])
  .rw[if_neg e,if_neg (λz=>e z.symm)]
   rcases Int.lt_or_gt_of_ne e with z | z
   .exact .inl (decide_eq_true z)
   .exact .inr (decide_eq_true z)
def iP:∀ a b c,aH a b=true->aH b c=true->aH a c=true
 | [],[],_,h,_=>by cases h
 | [],_::_,[],_,h=>by cases h
 | [],_::_,_::_,_,_=>rfl
 | _::_,[],_,h,_=>by cases h
 | _::_,_::_,[],_,h=>by cases h
 | x::xs,y::ys,z::zs,h,k=>by
  rw[aH]at h k ⊢
  by_cases e:x=y
  .rw[if_pos e]at h
   by_cases e2:y=z
   .rw[if_pos e2]at k;rw[if_pos (e.trans e2)];exact iP xs ys zs h k
   .rw[if_neg e2]at k;rw[if_neg (λq=>e2 (by omega))]
    have:=of_decide_eq_true k;exact decide_eq_true (by omega)
  .rw[if_neg e]at h
   have h:=of_decide_eq_true h
   by_cases e2:y=z
   .rw[if_neg (by omega)];exact decide_eq_true (by omega)
   .rw[if_neg e2]at k
    have k:=of_decide_eq_true k;rw[if_neg (by omega)];exact decide_eq_true (by omega)
end LexM
namespace L2
open PySem PySem.Spec PyProof.Rows PySem.W LexM
def Ti(h:Heap)(x:List Int)(a:Addr):Prop:=∃ o its n,h.get? a=some o/\o.cls=.type "tuple" /\ o.data=.seq its n/\Fb its.toList x
section
variable {prog:hH}{w:lA}{A:m_}{E:b_->e_->Prop}{s:e_}
def Ti.ty{x:List Int}{a:Addr}(h:Ti s.heap x a):s.TypeIs (.ref a) "tuple" := by
 obtain⟨o,c,n,b,d,_⟩:=h;exact⟨o,b,d⟩
def r9{x y:List Int}{a b:Addr}{P:PySem.Fin->e_->Prop}(R:Ti s.heap x a)(O:Ti s.heap y b)(h:P (.done (.ret (.bool (aH x y)))) s) :
  ig (lh prog w) A (FG.«tuple.__lt__» ⟨[.ref a,.ref b],[]⟩) P E s:=by
 have K:=O.ty;obtain⟨X,B,Z,G,_,M,N⟩:=R;obtain⟨Y,C,W,H,_,I,J⟩:=O;show ig _ _ (K0 (.ref b) (.type "tuple") >>= _) _ _ s;refine a_ (Lz K isSubtype_tuple_tuple ?_);simp only[GY,pa,if_false];refine a_ (K2 G M ?_);refine a_ (K2 H I ?_);refine a_ ?_
 refine wpAny_forIn_list _
  (λj r o=>r.1=none/\o=s/\∃ D F g d,j=List.zip g d/\Fb g D/\Fb d F/\aH D F=aH x y/\decide (g.length<d.length)=decide (B.size<C.size))
  _ ?_ ?_ _ _ ⟨rfl,rfl,x,y,B.toList,C.toList,rfl,N,J,rfl,by simp⟩
 .rintro⟨u,v⟩ j r o ⟨L,rfl,D,F,g,d,p,k,i,c,f⟩
  cases k with
  | nil=>simp at p
  | @cons k1 t1 xs'' x'' hx'' =>
   cases i with
   | nil=>simp at p
   | @cons k2 t2 ys'' y'' hy'' =>
    simp only[JD,Jm,Prod.mk.injEq]at p;obtain⟨⟨rfl,rfl⟩,rfl⟩:=p;refine a_ (Il ?_)
    by_cases hk:k1=k2
    .subst hk
     rw[show(k1 == k1)=true by simp];simp only[GY,pa,if_false];refine fL ⟨rfl,rfl,x'',y'',xs'',ys'',rfl,hx'',hy'',?_,by simpa using f⟩;rw[<- c,aH,if_pos rfl]
    .rw[show(k1 == k2)=false by simpa using hk]
     simp only[Bool.not_false,if_true];have S:decide (k1<k2)=aH x y:=by rw[<- c,aH,if_neg hk]
     rw[<- S]at h;refine a_ (Hy ?_);refine a_ ?_;refine rc (show ig (lh prog w) A (richCompare .Lt (.int k1 t1) (.int k2 t2)) (λv Q=>v=.bool (decide (k1<k2))/\Q=o) E o from lt_int ⟨rfl,rfl⟩) (λv Q hv=>?_) λ_ _ z=>z
     obtain⟨rfl,rfl⟩:=hv;exact fL (fL h)
 .rintro⟨r1,T⟩ o ⟨L,rfl,D,F,g,d,p,k,i,c,f⟩
  simp only at L;subst L;refine fL ?_
  have q:decide (B.size<C.size)=aH x y:=by
   rw[<- c,<- f];cases k with
   | nil =>
    cases i with
    | nil=>rfl
    | cons _ _ _=>simp[aH]
   | cons _ _ _ =>
    cases i with
    | nil=>simp[aH]
    | cons _ _ _=>simp at p
  show P (.done (.ret (.bool (decide (B.size<C.size))))) o;rw[q];exact h
def qy{a:Bool}{C:Bool->e_->Prop}:∀{xs ys:List b_}{x y:List Int}(i:Nat),Fb xs x->Fb ys y->decide (xs.length<ys.length)=a->C (aH x y) s->KatLex prog w A true a C (xs.zip ys) i s
 | _,_,_,_,i,.nil,.nil,hf,h=>kat_nil (by rw[<- hf];exact h)
 | _,_,_,_,i,.nil,.cons _ _ _,hf,h=>kat_nil (by rw[<- hf,decide_eq_true (by simp)];exact h)
 | _,_,_,_,i,.cons _ _ _,.nil,hf,h=>kat_nil (by rw[<- hf,decide_eq_false (by simp)];exact h)
 | _,_,_,_,i,.cons p t hx,.cons q t' hy,hf,h=>by
  rw[JD];refine kat_cons (Il ?_);rw[aH]at h
  by_cases e:p=q
  .rw[show(p == q)=true by simpa using e]
   rw[if_pos e]at h;exact kat_yes (qy (i+1) hx hy (by rw[<- hf];simp) h)
  .rw[show(p == q)=false by simpa using e]
   rw[if_neg e]at h;cases i with
   | zero=>exact kat_no (oneLt_int h)
   | succ i=>exact kat_no (kat_one _ _ (lt_int h))
def yM{x y:List Int}{a b:Addr}{C:Bool->e_->Prop}(o:Ti s.heap x a)(k:Ti s.heap y b)(h:C (aH x y) s):ig (lh prog w) A (L3 (tuples' true) (.ref a) (.ref b)) C E s:=by
 obtain⟨q,u,z,d,_,c,f⟩:=o;obtain⟨r,v,p,g,_,j,i⟩:=k;exact kat_lt d c g j (qy 0 f i (by simp) h)
def wT{x y:List Int}{a b:Addr}{C:Bool->e_->Prop}(f:A.units<FR)(c:Ti s.heap x a)(d:Ti s.heap y b)(h:C (aH x y) s):ig (lh prog w) A (L3 oneType' (.ref a) (.ref b)) C E s:=by
 rw[keyLt'_oneType,oneLt'_eq];simp only[if_true];refine a_ (wpAny_cRoomFor_or (.inr f) ?_);refine a_ (wpAny_callSpecialIfBound?_slot c.ty GH (B1 GH c.ty K3 (r9 c d ⟨_,rfl,?_⟩) (KF _ _)));exact z3 h
def vd{x y:List Int}{a b:Addr}{C:Bool->e_->Prop}(f:A.units<FR)(c:Ti s.heap x a)(d:Ti s.heap y b)(h:C (aH x y) s):ig (lh prog w) A (L3 L0 (.ref a) (.ref b)) C E s:=by
 show ig _ _ (oneLt' false (.ref a) (.ref b)) _ _ s;refine kat_one _ _ ?_;refine wpAny_richCompare_same_room (op:=.Lt) c.ty d.ty GH (B1 GH c.ty K3 (r9 c d ⟨_,rfl,(λe=>nomatch e),h⟩) (KF _ _)) f
inductive Tis(h:Heap):List b_->List (List Int)->Prop
 | nil:Tis h [] []
 | cons {a:Addr}{x:List Int}{vs:List b_}{gs:List (List Int)}(hx:Ti h x a) (t:Tis h vs gs):Tis h (.ref a::vs) (x::gs)
def Tis.len{h:Heap}:∀{vs:List b_}{gs:List (List Int)},Tis h vs gs->vs.length=gs.length
 | _,_,.nil=>rfl
 | _,_,.cons _ t=>by rw[py,py,t.len]
def Tis.mem{h:Heap}:∀{vs:List b_}{gs:List (List Int)},Tis h vs gs->∀ v∈vs,∃ a x,v=.ref a/\Ti h x a
 | _,_,.nil,v,hv=>by cases hv
 | _,_,.cons hx t,v,hv=>by
  rcases i_.mp hv with rfl | hv
  .exact⟨_,_,rfl,hx⟩
  .exact t.mem v hv
def lu{M:HN}:∀{vs:List b_}{gs:List (List Int)}{Q:List (Option b_)->e_->Prop},Tis s.heap vs gs->(∀ fs:List (Option b_),fs.length=gs.length->(∀(i:Nat) (x:List Int),gs[i]? = some x->(fs[i]? = some none/\x=[])\/∃(n:Int) (t:Tok) (r:List Int),fs[i]? = some (some (C_ n t))/\x=n::r)->Q fs s)->ig M A (vs.mapM firstOfTuple') Q E s
 | _,_,Q,.nil,h=>by rw[List.mapM_nil];exact fL (h [] rfl λi x e=>by cases e)
 | _,_,Q,.cons (a:=a) (x:=x) hx t,h=>by
  obtain⟨o,b,n,c,j,f,d⟩:=hx;rw[List.mapM_cons];refine a_ ?_;rw[kas_first_eq];refine a_ (Looks.here (show Looks M s.heap (JR (.ref a)) o.cls from(Looks.ld c).andThen .now) ?_);rw[j,if_neg (by first | decide | simp)];refine a_ (HZ c f (fL ?_));refine a_ (lu (Q:=λp g=>ig M A (pure (b[0]? :: p)) Q E g) t λfs hl hf=>fL (h _ (by rw[py,py,hl]) λi y hy=>?_));cases i with
  | succ i=>exact hf i y hy
  | zero =>
   cases hy;have k:b[0]? = b.toList[0]?:=by simp
   rw[List.getElem?_cons_zero,k];generalize b.toList=l at d;cases d with
   | nil=>exact .inl ⟨rfl,rfl⟩
   | cons n t _=>exact .inr ⟨n,t,_,rfl,rfl⟩
def mX(gs:List (List Int)):G_:=if gs.all (λx=>!x.isEmpty) then tuples' true else if (gs.headD []).isEmpty then oneType' else L0
def vb{M:HN}{vs:List b_}{q:List (List Int)}{Q:G_->e_->Prop}(t:Tis s.heap vs q)(S:2<=vs.length)(h:Q (mX q) s):ig M A (LZ vs.toArray) Q E s:=by
 have P:=t.len;rw[kat_kind_eq,JX,map_eq_pure_bind];refine a_ (a_ (lu t λj B z=>fL ?_))
 by_cases ha:q.all (λx=>!x.isEmpty)=true
 .have I:∀ f∈j,∃(n:Int) (t:Tok),f=some (C_ n t):=λf p=>by
   obtain⟨i,y⟩:=v_ p;have H:i<q.length:=by rw[<- B];exact(fP.mp y).1
   have G:=ki H
   rcases z i _ G with⟨c,d⟩ | ⟨n,t,r,c,d⟩
   .have:=oo.mp ha _ (Ku H)
    rw[d]at this;cases this
   .rw[y]at c
    exact⟨n,t,k7 c⟩
  rw[mX,if_pos ha]at h
  obtain⟨k,rfl,D⟩:∃ k:List b_,j=k.map some/\∀ v∈k,∃(n:Int) (t:Tok),v=C_ n t:=by
   clear z B
   induction j with
   | nil=>exact⟨[],rfl,λv hv=>by cases hv⟩
   | cons f j ih =>
    obtain⟨k,e,D⟩:=ih λg G=>I g (hI _ G)
    obtain⟨n,t,rfl⟩:=I f (gT ..);refine⟨C_ n t::k,by rw[e];rfl,λv hv=>?_⟩
    rcases i_.mp hv with rfl | hv
    .exact⟨n,t,rfl⟩
    .exact D v hv
  rw[d_]at B
  obtain⟨w1,wr,rfl⟩:∃ w1 wr,k=w1::wr:=by
   match k,(show 0<k.length by lia) with
   | w1::wr,_=>exact⟨w1,wr,rfl⟩
  have u:(((w1::wr).map some).toArray.all λx=>x.isSome)=true:=by simp
  rw[if_pos u];refine a_ (Hy ?_);have p:(((w1::wr).map some).toArray.filterMap id)=(w1::wr).toArray:=by simp
  rw[p,LF,JX,map_eq_pure_bind];refine a_ (a_ (a_ (kas_mapM (r:=ra "int") _ (λv hv J F=>?_) (fL ?_))))
  .obtain⟨n,t,rfl⟩:=D v hv
   exact(Looks.of_pure rfl).here F
  .have b:((t_ (λ_=>ra "int") (w1::wr)).toArray.all λx=>x == ra "int")=true:=by
    simp only[Kv,JY,oo];intro _ _;exact(by decide:(ra "int" == ra "int")=true)
   have w:(t_ (λ_=>ra "int") (w1::wr)).toArray[0]? = some (ra "int"):=by simp
   rw[w];simp only[b,if_true];exact fL (fL h)
 .have C:(j.toArray.all λx=>x.isSome)=false:=by
   rw[Kv];cases hb:j.all λx=>x.isSome with
   | false=>rfl
   | true =>
    refine absurd (oo.mpr λx L=>?_) ha;obtain⟨i,y⟩:=v_ L
    rcases z i x y with⟨c,_⟩ | ⟨n,t,r,_,d⟩
    .have:=oo.mp hb _ (ge c)
     cases this
    .rw[d];rfl
  rw[C];simp only[pa,if_false];rw[mX,if_neg ha]at h
  obtain⟨g0,gr,rfl⟩:∃ g0 gr,q=g0::gr:=by
   match q,(show 0<q.length by lia) with
   | g0::gr,_=>exact⟨g0,gr,rfl⟩
  have w:j.toArray[0]? = j[0]?:=by simp
  rw[w]
  rcases z 0 g0 rfl with⟨c,d⟩ | ⟨n,R,r,c,d⟩
  .rw[c]
   simp only[JE,id_eq,Jn,pa,if_false];rw[show((g0::gr).headD []).isEmpty=true by rw[d];rfl,if_pos rfl]at h;rw[LF,JX,map_eq_pure_bind]
   obtain⟨v1,vr,rfl⟩:∃ v1 vr,vs=v1::vr:=by
    match vs,(show 0<vs.length by lia) with
    | v1::vr,_=>exact⟨v1,vr,rfl⟩
   refine a_ (a_ (a_ (kas_mapM (r:=ra "tuple") _ (λv hv J F=>?_) (fL ?_))))
   .obtain⟨a,x,rfl,o,O,n,K,N,_⟩:=t.mem v hv
    refine Looks.here (show Looks M s.heap (JR (.ref a)) o.cls from(Looks.ld K).andThen .now) ?_;rw[N];exact F
   .have b:((t_ (λ_=>ra "tuple") (v1::vr)).toArray.all λx=>x == ra "tuple")=true:=by
     simp only[Kv,JY,oo];intro _ _;exact(by decide:(ra "tuple" == ra "tuple")=true)
    have w:(t_ (λ_=>ra "tuple") (v1::vr)).toArray[0]? = some (ra "tuple"):=by simp
    rw[w];simp only[b,if_true];exact fL (fL h)
  .rw[c]
   simp only[JE,id_eq,Jl,if_true];rw[show((g0::gr).headD []).isEmpty=false by rw[d];rfl]at h;exact fL h
def yo{x y:List Int}{a b:Addr}{g:List (List Int)}{C:Bool->e_->Prop}(f:A.units<FR)(d:Ti s.heap x a)(c:Ti s.heap y b)(h:C (aH x y) s):ig (lh prog w) A (L3 (mX g) (.ref a) (.ref b)) C E s:=by
 unfold mX
 split
 .exact yM d c h
 .split
  .exact wT f d c h
  .exact vd f d c h
end
section
def Row(H:Hp)(a:Addr)(x:List Int):Prop:=H a=some (.tup (x.map V.int))
def pC:∀{x:List Int}{us:List b_},Vals (x.map V.int) us->Fb us x
 | [],us,r=>by cases r;exact .nil
 | n::x,us,r=>by
  cases r with
  | cons r1 r =>
   obtain⟨t,rfl⟩:=r1;exact .cons n t (pC r)
def rF{P:hH}{w:lA}{H:Hp}{h:Heap}(f:HOk P w H h){a:Addr}{x:List Int}(g:Row H a x):Ti h x a:=by
 obtain⟨_,b,i,o,c,j,n,d⟩:=(show ObjOk P w H h a (.tup _) from f a _ g)
 exact⟨o,b.toArray,n,c,j,d,by simpa using pC i⟩
end
section
variable {prog:hH}{w:lA}{A:m_}{E:b_->e_->Prop}{s:e_}{d I:Addr}{es:Array FA}{ep i:Nat}
def qD{κ:G_}{lt:Nat->Nat->Bool}{Q:b_->e_->Prop}{vs:List b_}(G:A.handled=none)(B:(d == sN)=false)(x:DE s.heap d es ep)(a:kx es=vs)(T:WSrt.Wk lt vs.length)(hz:vs.length<64)
  (v:2<=vs.length->∀ g tk,(∀ b o,s.heap.get? b=some o->g.get? b=some o)->∀ Q:G_->e_->Prop,Q κ { s with heap:=g,toks:=tk }->ig (lh prog w) A.in1.in1 (LZ vs.toArray) Q (λ_ _=>False) { s with heap:=g,toks:=tk })
  (H:∀ g tk,(∀ b o,s.heap.get? b=some o->g.get? b=some o)->∀ i j,i<vs.length->j<vs.length->i≠j->∀ C,C (lt i j) { s with heap:=g,toks:=tk }->Li prog w A.in1.in1 κ vs i j C { s with heap:=g,toks:=tk })
  (h:∀(r:Addr) g tk m,(∀ b o,s.heap.get? b=some o->g.get? b=some o)->s.heap.objs.size<=r->g.get? r=some (A1 "list" (EI ((j8 lt vs.length).map λi=>vs.getD i n_)) m)->Q (.ref r) { s with heap:=g,toks:=tk }) :
  ig (lh prog w) A (call (.builtin "sorted") [.ref d]) Q E s:=by
 have J:vs.length=es.size:=by rw[<- a];unfold kx;rw[d_,y2]
 have I:sizeLine=16777216:=j_;refine Calls.call_function_entry kind_sorted plain_sorted entry_sorted (args_sorted1 _) ?_;unfold FG.«sorted»;refine a_ (m:=checkCount "sorted" 1 1 _) (fL (a_ (qV G B x (by lia) λk tk p u=>a_ (Gp ?_ (by rw[a];lia)))));rw[a];have c:(k.push (A1 "list" vs.toArray 0)).get? k.objs.size=some (A1 "list" vs.toArray 0):=ie _ rfl
 have f:∀ b o,s.heap.get? b=some o->(k.push (A1 "list" vs.toArray 0)).get? b=some o/\b≠k.objs.size:=λb o e=>⟨c_ _ (u b o e),kw (f_ (u b o e))⟩
 refine a_ (u_ (B1 LV ⟨_,c,rfl⟩ LC (y9 (s:={ s with heap:=k.push (A1 "list" vs.toArray 0),toks:=tk }) (lt:=lt) (κ:=κ) c T (by lia) hz (λy g q D z=>v y g tk (λb o e=>q b o (f b o e).2 (f b o e).1) D z) (λg q=>H g tk λb o e=>q b o (f b o e).2 (f b o e).1) ⟨_,rfl,?_⟩) (LW _)));obtain⟨m,F⟩:=sortedHeap_at (out:=EI ((j8 lt vs.length).map λi=>vs.getD i n_)) c;refine fL ⟨_,rfl,h k.objs.size _ tk m (λb o e=>?_) (rA p) F⟩;rw[sortedHeap_old (f b o e).2 (f_ (f b o e).1)];exact(f b o e).1
end
section
variable {X:Cx}
def oE(x:List Int):(x.map (r_:Int->Key)).map kV=x.map V.int:=by rw[A8];rfl
def wn{a:List (List Int)}(d:a.Nodup){n:Nat}(b:n=a.length):Tot (λi j=>aH (a.getD i []) (a.getD j [])) n:=by
 subst b;refine⟨λi j _ _ h=>kq _ _ h,λi j k _ _ _ h1 h2=>iP _ _ _ h1 h2,λi j h1 h2 b h=>?_⟩
 have c:a.getD i []≠a.getD j []:=λe=>by
  have f:a.getD i []=a[i]:=by simp[EQ,h1]
  have g:a.getD j []=a[j]:=by simp[EQ,h2]
  rw[f,g]at e
  rcases Nat.lt_or_gt_of_ne b with z | z
  .exact(tW.mp d i j h1 h2 z) e
  .exact(tW.mp d j i h2 h1 z) e.symm
 rcases oz _ _ c with z | z
 .have h:aH (a.getD i []) (a.getD j [])=false:=h
  rw[h]at z;cases z
 .exact z
def zk{a:List (List Int)}{n:Nat}(U:Tot (λi j=>aH (a.getD i []) (a.getD j [])) n):WSrt.Wk (λi j=>aH (a.getD i []) (a.getD j [])) n :=
 ⟨U.asy,λi j k g f o c b=>by
  cases e:aH (a.getD k []) (a.getD i []) with
  | false=>rfl
  | true =>
   exfalso;have c:aH (a.getD j []) (a.getD i [])=false:=c;have b:aH (a.getD k []) (a.getD j [])=false:=b
   by_cases e1:i=j
   .subst e1;rw[e]at b;cases b
   .have h:=U.tot j i f g (λz=>e1 z.symm) c
    have d:=iP _ _ _ e h
    rw[b]at d;cases d⟩
def ma(hc:X.calm=true)(hu:X.A.units+64<FR):CallR X (.builtin "sorted") (λxs H Q=>∃(p:Addr) (kvs:List (List Key×V)) (gs:List (List Int)),xs=[.ref p]/\H p=some (.dT kvs)/\kvs.length<64/\kvs.map (·.1)=gs.map (λx=>x.map r_)/\gs.Nodup /\
  ∀ q (o:List Nat) (f:Nat->V),H q=none->o.Perm (lj gs.length)->(o.Pairwise λi j=>aH (gs.getD j []) (gs.getD i [])=false)->(∀ i,i<gs.length->∃ b,f i=.ref b/\Row H b (gs.getD i []))->Q (.ref q) (upd H q (.lst (o.map f)))):=by
 intro A s σ H xs us Q I r h;obtain⟨p,kvs,gs,rfl,hp,hz,y,gd,q⟩:=h;obtain⟨u,rfl,rx⟩:=dW r;cases rx;obtain⟨z,nm,xs,B,ob,es,ep,g1,g2,g3,g4,g5,g6⟩:=ww I.hok hp;have lx:kvs.length=xs.length:=rn B;have Y:kvs.length=gs.length:=by have:=congrArg GF y;rwa [d_,d_]at this
 obtain⟨vs,hvs⟩:∃ vs,vs=xs.map λx=>lb x.2.1:=⟨_,rfl⟩
 have ek:kx es=vs:=by unfold kx;rw[g4,A8,hvs];rfl
 have lv:vs.length=kvs.length:=by rw[hvs,d_,lx]
 have g:∀ i,i<vs.length->∃ a,vs.getD i n_=.ref a/\Row H a (gs.getD i []):=λi c=>by
  obtain⟨kv,hkv⟩:∃ x,kvs[i]? = some x:=⟨_,ki (by lia)⟩
  obtain⟨x,hx,Z⟩:=B.at hkv;refine⟨x.2.1,?_,?_⟩
  .rw[hvs,EQ,gb,hx];rfl
  .have e:=congrArg (λl=>l[i]?) y
   simp only[gb,hkv]at e;have O:i<gs.length:=by lia
   rw[ki O]at e;have e:kv.1=gs[i].map r_:=k7 e;show H x.2.1=_;rw[Z,e,oE,show gs.getD i []=gs[i] by simp[EQ,O]]
 have P:∀{d:Heap}{tk:Nat},(∀ b o,s.heap.get? b=some o->d.get? b=some o)->Inv X A σ H { s with heap:=d,toks:=tk }:=λk=>I.kept k
 have U:=wn gd (n:=vs.length) (by lia);have T:=zk U
 have E:∀{d:Heap},HOk X.prog X.w H d->Tis d vs gs:=λ{d} ok=>by
  have L:∀(vs:List b_) (gs:List (List Int)),vs.length=gs.length->(∀ i,i<vs.length->∃ a,vs.getD i n_=.ref a/\Row H a (gs.getD i []))->Tis d vs gs:=by
   intro vs
   induction vs with
   | nil=>intro gs e _;cases gs with | nil=>exact .nil | cons _ _=>cases e
   | cons v vs ih =>
    intro gs e R;cases gs with
    | nil=>cases e
    | cons x gs =>
     obtain⟨a,w,h1⟩:=R 0 (by simp);obtain rfl:v=lb a:=w;exact .cons (rF ok h1) (ih gs (by simpa using e) λi c=>R (i+1) (by simpa using c))
  exact L vs gs (by lia) g
 refine qD (vs:=vs) (κ:=mX gs) (lt:=λi j=>aH (gs.getD i []) (gs.getD j [])) (I.ok.hd hc) nm ⟨ob,g1,g2,g3⟩ ek T (by lia) (λh2 d tk k Q' q'=>?_) (λd tk k i j c hj S C hC=>?_) λrr d tk m k big at'=>?_
 .exact vb (E (P (tk:=tk) k).hok) h2 q'
 .have J:=P (tk:=tk) k
  obtain⟨a,ea,oa⟩:=g i c;obtain⟨b,eb,K⟩:=g j hj;unfold Li;rw[ea,eb];exact yo (by show X.A.units+1+1<FR;lia) (rF J.hok oa) (rF J.hok K) hC
 .have S:H rr=none:=I.hok.fresh big
  have D:=mv T;have N:=vi T;generalize j8 (λi j=>aH (gs.getD i []) (gs.getD j [])) vs.length=o at D N at';have F:sizeLine=16777216:=j_;have M:∀ i∈o,i<vs.length:=λi c=>A9.mp (D.mem_iff.mp c)
  let f:Nat->V:=λi=>match vs.getD i n_ with | .ref a=>.ref a | _=>.non
  have W:∀ i,i<vs.length->∃ a,f i=.ref a/\vs.getD i n_=.ref a/\Row H a (gs.getD i []):=λi c=>by
   obtain⟨a,w,G⟩:=g i c;exact⟨a,by show(match vs.getD i n_ with | .ref a=>V.ref a | _=>.non)=_;rw[w],w,G⟩
  refine⟨.ref rr,_,I.laid (a:=rr) (o:=.lst (o.map f)) (t':=tk) k big ⟨?_,_,m,mP (vs:=vs) f λi c=>?_,at'⟩,rfl,q rr o f S (by rw[<- Y,<- lv];exact D) N λi c=>?_⟩
  .rw[d_,D.length_eq,A6];lia
  .obtain⟨a,w,e2,_⟩:=W i (M i c)
   rw[w,e2];rfl
  .obtain⟨a,w,_,G⟩:=W i (by lia)
   exact⟨a,w,G⟩
end
end L2
namespace L2
open PySem PySem.Spec PyProof.Rows
section
variable {X:Cx}{o e:Expr}{es:List Expr}{to:TE}{t:TA}{apos cpos:Pos}
def pe_m.extend(f:PE X o to)(h:PA X (e::es) t)(b:EF o "extend" X.env (eval o X.env)=eval o X.env:=by rfl)
  (d:((z_ cpos (lg (e::es) X.env)).all (λx=>!x.1) && (G2 cpos (FK [] X.env)).all (λx=>x.1.isSome) && decide ((e::es).length+([]:List Gh).length+(if ([]:List Gh).isEmpty then 0 else 1)<30))=true:=by rfl)
  (c:(apos.endLine == cpos.line)=true:=by rfl) (g:lg (e::es) X.env=(false,eval e X.env)::lg es X.env:=by rfl) (a:(z_ cpos (lg es X.env)).any (·.1)=false:=by rfl) :
  PE X (.Call (.Attribute o "extend" apos) (e::es) [] cpos) (tBM X.K "list" sd to t):=xH F_ Kk F.type_list_extend tX f h b d c g a
end
end L2
namespace Du
open FrM
def fr(q:Rat):Int×Int:=(q.num,(q.den:Int))
def mE(n:Int){d:Nat}(a:d≠0):kr n (d:Int)=fr (mkRat n d):=by
 unfold kr fr;rw[Rat.num_mkRat,Rat.den_mkRat,if_neg a,if_neg a];have e:o0 n (d:Int)=d.gcd n.natAbs:=by rw[o0,Nat.gcd_comm];rfl
 rw[e];rfl
def low_div(t:Int){b:Int}(a:0<b):kr t b=fr ((t:Rat)/(b:Rat)):=by
 obtain⟨d,rfl⟩:=Int.eq_ofNat_of_zero_le (Int.le_of_lt a);rw[mE t (by omega),<- Hs,<- Kw]
def Bq(D:Nat)(q:Rat):Prop:=0<=q/\q<=1/\∃ n:Nat,q*(D:Rat)=(n:Rat)
def wD{D:Nat}(h:0<D):(0:Rat)<(D:Rat):=by exact_mod_cast h
def DA{D:Nat}{q:Rat}{n:Int}(a:0<D)(e:q*(D:Rat)=(n:Rat)):q=mkRat n D:=by
 have b:=wD a;have:q=(n:Rat)/(D:Rat):=by grind
 rw[this,<- Kw,Hs];rfl
def qQ{a b:Rat}(c:0<=a)(d:0<=b):0<=a*b:=Rat.mul_nonneg c d
end Du
namespace Tb
open FrM Du
inductive Tr where
 | leaf (ns:List Int)
 | die (ps:List (Int×Tr))
def tot(ps:List (Int×Tr)):Int:=(ps.map (·.1)).sum
mutual
def lv:Tr->Nat
 | .leaf _=>1
 | .die ps=>lvs ps
def lvs:List (Int×Tr)->Nat
 | []=>0
 | (_,u)::r=>lv u+lvs r
end
mutual
def sz:Tr->Nat
 | .leaf _=>1
 | .die ps=>szs ps+1
def szs:List (Int×Tr)->Nat
 | []=>0
 | (_,u)::r=>sz u+szs r
end
mutual
def Ok:Tr->Prop
 | .leaf ns=>ns.Nodup/\ns.length<=24
 | .die ps=>ps≠[]/\Oks ps
def Oks:List (Int×Tr)->Prop
 | []=>True
 | (m,u)::r=>1<=m/\Ok u/\Oks r
end
abbrev Way:=List Int×(Int×Int)
mutual
def wl:Tr->Int->Int->List Way
 | .leaf ns,t,b=>[(ns,(t,b))]
 | .die ps,t,b=>wls ps t b (tot ps)
def wls:List (Int×Tr)->Int->Int->Int->List Way
 | [],_,_,_=>[]
 | (m,u)::r,t,b,S=>wls r t b S++wl u (t*m) (b*S)
end
abbrev Ent:=Tr×(Int×Int)
def st:List Ent->List Way
 | []=>[]
 | (u,(t,b))::r=>st r++wl u t b
def stL:List Ent->Nat
 | []=>0
 | (u,_)::r=>stL r+lv u
def stS:List Ent->Nat
 | []=>0
 | (u,_)::r=>stS r+sz u
def nN:∀(a b:List Ent),st (a++b)=st b++st a
 | [],b=>by simp[st]
 | (u,(t,c))::a,b=>by rw[G7,st,nN a b,st,append_assoc]
def stS_app:∀(a b:List Ent),stS (a++b)=stS a+stS b
 | [],b=>by simp[stS]
 | (u,c)::a,b=>by rw[G7,stS,stS_app a b,stS];lia
def kids(ps:List (Int×Tr))(t b S:Int):List Ent:=ps.map λp=>(p.2,(t*p.1,b*S))
def rW(t b S:Int):∀ ps:List (Int×Tr),st (kids ps t b S)=wls ps t b S
 | []=>rfl
 | (m,u)::r=>by
  have a:=rW t b S r;unfold kids at *;rw[l_,st,a,wls]
def stS_kids(t b S:Int):∀ ps:List (Int×Tr),stS (kids ps t b S)=szs ps
 | []=>rfl
 | (m,u)::r=>by
  have a:=stS_kids t b S r;unfold kids at *;rw[l_,stS,a,szs];lia
mutual
def wS:∀ t:Tr,Ok t->1<=lv t
 | .leaf _,_=>by simp[lv]
 | .die ps,h=>by rw[lv];rw[Ok]at h;exact yd ps h.2 h.1
def yd:∀ ps:List (Int×Tr),Oks ps->ps≠[]->1<=lvs ps
 | [],_,h=>absurd rfl h
 | (m,u)::r,h,_=>by rw[Oks]at h;rw[lvs];have:=wS u h.2.1;lia
end
def StOk(s:List Ent):Prop:=∀ e∈s,Ok e.1
def tM:∀ s:List Ent,StOk s->s.length<=stL s
 | [],_=>fS _
 | (u,c)::r,h=>by
  have:=tM r λe a=>h e (hI _ a)
  have:=wS u (h _ gT);rw[stL,py];lia
def tU:∀{ps:List (Int×Tr)},Oks ps->∀ p∈ps,1<=p.1/\Ok p.2
 | (m,u)::r,h,p,hp=>by
  rw[Oks]at h
  rcases i_.mp hp with rfl | hp
  .exact⟨h.1,h.2.1⟩
  .exact tU h.2.2 p hp
def StOk.kids{ps:List (Int×Tr)}{t b S:Int}(h:Oks ps):StOk (kids ps t b S):=λe a=>by
 obtain⟨p,c,rfl⟩:=nh.mp a;exact(tU h p c).2
mutual
def wl_len:∀(t:Tr) (a b:Int),(wl t a b).length=lv t
 | .leaf _,_,_=>rfl
 | .die ps,a,b=>by rw[wl,lv];exact sh ps a b _
def sh:∀(ps:List (Int×Tr)) (a b S:Int),(wls ps a b S).length=lvs ps
 | [],_,_,_=>rfl
 | (m,u)::r,a,b,S=>by rw[wls,lvs,gV,sh r,wl_len u];lia
end
structure Wk(t:Tr)(ways:List Way)(s:List Ent):Prop where
 all:ways++st s=wl t 1 1
 ok:StOk s
def Wk.start{t:Tr}(h:Ok t):Wk t [] [(t,(1,1))]:=⟨by simp[st],λe a=>by cases ir.mp a;exact h⟩
def Wk.leaf{t:Tr}{c:List Way}{s:List Ent}{d:List Int}{a b:Int}(h:Wk t c (s++[(.leaf d,(a,b))])):Wk t (c++[(d,(a,b))]) s:=by
 refine⟨?_,λe f=>h.ok e (z4 _ f)⟩;have:=h.all;rw[nN]at this;rw[append_assoc];exact this
def Wk.die{t:Tr}{c:List Way}{s:List Ent}{ps:List (Int×Tr)}{a b:Int}(h:Wk t c (s++[(.die ps,(a,b))])):Wk t c (s++kids ps a b (tot ps)):=by
 have o:=h.ok _ (li _ gT);rw[Ok]at o;refine⟨?_,λe he=>?_⟩
 .rw[nN,rW]
  have:=h.all;rw[nN]at this;simpa[st,wl] using this
 .rcases wh.mp he with he | he
  .exact h.ok e (z4 _ he)
  .exact StOk.kids o.2 e he
def vx:∀ s:List Ent,(st s).length=stL s
 | []=>rfl
 | (u,(a,b))::r=>by rw[st,stL,gV,vx r,wl_len]
def Wk.few{t:Tr}{a:List Way}{s:List Ent}(h:Wk t a s):a.length+s.length<=lv t:=by
 have e:=congrArg GF h.all;rw[gV,vx,wl_len]at e;have:=tM s h.ok;lia
def Wk.done{t:Tr}{a:List Way}(h:Wk t a []):a=wl t 1 1:=by have:=h.all;simpa[st] using this
abbrev Rws:=List (List Int×Rat)
def cQ(W:Rws)(k:List Int):Rat:=((W.filter λw=>decide (w.1=k)).map (·.2)).sum
def kB{k:List Int}:cQ [] k=0:=rfl
def bW{w:List Int×Rat}{W:Rws}{k:List Int}:cQ (w::W) k=(if w.1=k then w.2 else 0)+cQ W k:=by
 unfold cQ;rw[J9]
 by_cases h:w.1=k
 .rw[if_pos (decide_eq_true h),if_pos h,l_,Ez]
 .rw[if_neg (by simp[h]),if_neg h];grind
def vh{W:Rws}{k:List Int}(h:k ∉ W.map (·.1)):cQ W k=0:=by
 induction W with
 | nil=>rfl
 | cons w W ih =>
  rw[l_,i_,not_or]at h;rw[bW,if_neg (λe=>h.1 e.symm),ih h.2];grind
def dD(k:List Int)(m:Rat):Rws->Rws
 | []=>[(k,m)]
 | x::r=>if x.1=k then (k,x.2+m)::r else x::dD k m r
def NdR(st:Rws):Prop:=(st.map (·.1)).Nodup
def i4(k:List Int)(m:Rat):∀ st:Rws,(dD k m st).map (·.1)=if k∈st.map (·.1) then st.map (·.1) else st.map (·.1)++[k]
 | []=>by simp[dD]
 | x::r=>by
  rw[dD]
  by_cases c:x.1=k
  .rw[if_pos c];simp[c]
  .rw[if_neg c,l_,i4 k m r,l_]
   have a:¬k=x.1:=λe=>c e.symm
   by_cases d:k∈r.map (·.1)
   .rw[if_pos d,if_pos (hI _ d)]
   .rw[if_neg d,if_neg (by simp only[i_,not_or];exact⟨a,d⟩)];rfl
def NdR.add{k:List Int}{m:Rat}{st:Rws}(h:NdR st):NdR (dD k m st):=by
 unfold NdR at *;rw[i4]
 split
 .exact h
 .rename_i n
  exact rD.mpr ⟨h,by simp,λa d b c e=>n (by rw[ir]at c;rw[<- c,<- e];exact d)⟩
def pY{k a:List Int}{m:Rat}:∀{st:Rws},cQ (dD k m st) a=cQ st a+if k=a then m else 0
 | []=>by rw[dD,bW,kB];grind
 | x::r=>by
  rw[dD]
  by_cases c:x.1=k
  .rw[if_pos c,bW,bW]
   show(if k=a then x.2+m else 0)+cQ r a=_
   rw[c];split <;> grind
  .rw[if_neg c,bW,bW,pY];grind
def oG(W:Rws):Rws:=W.foldl (λst w=>dD w.1 w.2 st) []
def uO(st:Rws):∀(W:Rws) (k:List Int),cQ (W.foldl (λst w=>dD w.1 w.2 st) st) k=cQ st k+cQ W k:=by
 intro W
 induction W generalizing st with
 | nil=>intro k;rw[KG,kB];grind
 | cons w W ih=>intro k;rw[HD,ih,pY,bW];grind
def uk(W:Rws)(k:List Int):cQ (oG W) k=cQ W k:=by
 unfold oG;rw[uO,kB];grind
def v6(st:Rws)(h:NdR st):∀ W:Rws,NdR (W.foldl (λst w=>dD w.1 w.2 st) st):=by
 intro W
 induction W generalizing st with
 | nil=>exact h
 | cons w W ih=>exact ih _ h.add
def sC(W:Rws):NdR (oG W):=v6 [] Ir W
def rH(st:Rws):∀(W:Rws) (k:List Int),k∈(W.foldl (λst w=>dD w.1 w.2 st) st).map (·.1)↔k∈st.map (·.1)\/k∈W.map (·.1):=by
 intro W
 induction W generalizing st with
 | nil=>intro k;simp
 | cons w W ih =>
  intro k;rw[HD,ih,i4,l_,i_]
  split
  .rename_i h
   constructor
   .rintro(a | a)
    .exact .inl a
    .exact .inr (.inr a)
   .rintro(a | a | a)
    .exact .inl a
    .exact .inl (by rw[a];exact h)
    .exact .inr a
  .rw[wh,ir]
   constructor
   .rintro((a | a) | a)
    .exact .inl a
    .exact .inr (.inl a)
    .exact .inr (.inr a)
   .rintro(a | a | a)
    .exact .inl (.inl a)
    .exact .inl (.inr a)
    .exact .inr a
def adds_keys(W:Rws)(k:List Int):k∈(oG W).map (·.1)↔k∈W.map (·.1):=by
 unfold oG;rw[rH];simp
def wq{st:Rws}(a:NdR st):∀ x∈st,cQ st x.1=x.2:=by
 induction st with
 | nil=>intro x hx;cases hx
 | cons y r ih =>
  intro x hx;unfold NdR at a;rw[l_,sr]at a;rw[bW]
  rcases i_.mp hx with rfl | hx
  .rw[if_pos rfl,vh a.1];grind
  .have e:=ih a.2 x hx
   rw[if_neg (λz=>a.1 (by rw[z];exact nh.mpr ⟨x,hx,rfl⟩)),e];grind
abbrev Grp:=List (List Int×List (Int×Int))
def pushG(k:List Int)(c:Int×Int):Grp->Grp
 | []=>[(k,[c])]
 | x::r=>if x.1=k then (k,x.2++[c])::r else x::pushG k c r
def grp(W:List Way):Grp:=W.foldl (λg w=>pushG w.1 w.2 g) []
def qv(c:Int×Int):Rat:=(c.1:Rat)/(c.2:Rat)
def sumQ(l:List (Int×Int)):Rat:=(l.map qv).sum
def rat(g:Grp):Rws:=g.map λx=>(x.1,sumQ x.2)
def toR(W:List Way):Rws:=W.map λw=>(w.1,qv w.2)
def qj(k:List Int)(c:Int×Int):∀ g:Grp,rat (pushG k c g)=dD k (qv c) (rat g)
 | []=>by
  show [(k,sumQ [c])]=[(k,qv c)];unfold sumQ;simp only[l_,GM,Ez,sum_nil];have:qv c+0=qv c:=by grind
  rw[this]
 | x::r=>by
  rw[pushG]
  by_cases h:x.1=k
  .rw[if_pos h]
   show(k,sumQ (x.2++[c]))::rat r=dD k (qv c) ((x.1,sumQ x.2)::rat r);rw[dD,if_pos h];have:sumQ (x.2++[c])=sumQ x.2+qv c:=by unfold sumQ;rw[nv,Jf];simp only[l_,GM,Ez,sum_nil];grind
   rw[this]
  .rw[if_neg h]
   show(x.1,sumQ x.2)::rat (pushG k c r)=dD k (qv c) ((x.1,sumQ x.2)::rat r);rw[dD,if_neg h,qj k c r]
def xu(g:Grp):∀ W:List Way,rat (W.foldl (λg w=>pushG w.1 w.2 g) g)=(toR W).foldl (λst w=>dD w.1 w.2 st) (rat g):=by
 intro W
 induction W generalizing g with
 | nil=>rfl
 | cons w W ih =>
  rw[HD,ih,qj];rfl
def rat_grp(W:List Way):rat (grp W)=oG (toR W):=xu [] W
def grp_snoc{W:List Way}{i:Nat}{w:Way}(h:W[i]? = some w):grp (W.take (i+1))=pushG w.1 w.2 (grp (W.take i)):=by
 unfold grp;rw[oN,h,List.foldl_append];rfl
mutual
def wf:Tr->Rat->Rws
 | .leaf ns,q=>[(ns,q)]
 | .die ps,q=>wfs ps q (tot ps)
def wfs:List (Int×Tr)->Rat->Int->Rws
 | [],_,_=>[]
 | (m,u)::r,q,S=>wf u (q*((m:Rat)/(S:Rat)))++wfs r q S
end
def BE{a b m S:Int}(d:b≠0)(f:S≠0):qv (a*m,b*S)=qv (a,b)*((m:Rat)/(S:Rat)):=by
 unfold qv;have g:(b:Rat)≠0:=by exact_mod_cast d
 have c:(S:Rat)≠0:=by exact_mod_cast f
 simp only[Rat.intCast_mul]
 grind
def nL:∀{ps:List (Int×Tr)},Oks ps->(ps.length:Int)<=tot ps
 | [],_=>by simp[tot]
 | (m,u)::r,h=>by
  rw[Oks]at h;have:=nL h.2.2;unfold tot at *;rw[l_,Ez,py];have:=h.1;show((r.length+1:Nat):Int)<=m+_;lia
mutual
def zF:∀(t:Tr) (a b:Int),Ok t->0<b->(toR (wl t a b)).Perm (wf t (qv (a,b)))
 | .leaf ns,a,b,_,_=>by rw[wl,wf];exact .refl _
 | .die ps,a,b,h,hb=>by
  rw[Ok]at h;rw[wl,wf];have:=nL h.2;have:0<ps.length:=Jw.mpr h.1;exact wa ps a b (tot ps) h.2 hb (by lia)
def wa:∀(ps:List (Int×Tr)) (a b S:Int),Oks ps->0<b->0<S->(toR (wls ps a b S)).Perm (wfs ps (qv (a,b)) S)
 | [],_,_,_,_,_,_=>by rw[wls,wfs];exact .refl _
 | (m,u)::r,a,b,S,h,hb,hS=>by
  rw[Oks]at h;rw[wls,wfs];have e:toR (wls r a b S++wl u (a*m) (b*S))=toR (wls r a b S)++toR (wl u (a*m) (b*S)):=by unfold toR;rw[nv]
  rw[e,<- BE (by lia) (by lia)];exact(List.perm_append_comm).trans ((zF u _ _ h.2.1 (GR hb hS)).append (wa r a b S h.2.2 hb hS))
end
end Tb
namespace Tb
open FrM Du LexM
def so(l:List Int):List Int:=l.mergeSort (λa b=>decide (a<=b))
def so_perm(l:List Int):(so l).Perm l:=List.mergeSort_perm l _
def so_srt(l:List Int):(so l).Pairwise (·<=·):=by
 have h:=List.pairwise_mergeSort (le:=λ(a b:Int)=>decide (a<=b)) (by intro a b c h1 h2;simp at *;lia) (by intro a b;simp;lia) l;exact h.imp λh=>by simpa using h
def le_uniq:∀{a b:List Int},a.Perm b->a.Pairwise (·<=·)->b.Pairwise (·<=·)->a=b
 | [],b,p,_,_=>(List.nil_perm.mp p).symm ▸ rfl
 | x::a,[],p,_,_=>absurd p.length_eq (by simp)
 | x::a,y::b,p,h1,h2=>by
  rw[FH]at h1 h2
  have e:x=y:=by
   have c:x∈y::b:=p.mem_iff.mp gT;have d:y∈x::a:=p.mem_iff.mpr gT
   rcases i_.mp c with z | z
   .exact z
   .rcases i_.mp d with z' | z'
    .exact z'.symm
    .have:=h2.1 x z
     have:=h1.1 y z';lia
  subst e;rw[le_uniq (List.perm_cons x |>.mp p) h1.2 h2.2]
def so_uniq{a l:List Int}(h:a.Perm l)(s:a.Pairwise (·<=·)):a=so l:=le_uniq (h.trans (so_perm l).symm) s (so_srt l)
def kW(W:List Way):List Way:=W.map λw=>(so w.1,w.2)
def kR(W:Rws):Rws:=W.map λw=>(so w.1,w.2)
def Bk(W:List Way):toR (kW W)=kR (toR W):=by unfold toR kW kR;rw[A8,A8];rfl
def kt(t:Tr):Rws:=kR (wf t 1)
def y6{t:Tr}(h:Ok t):(toR (kW (wl t 1 1))).Perm (kt t):=by
 rw[Bk];have:=zF t 1 1 h (by decide);have e:qv (1,1)=1:=by unfold qv;grind
 rw[e]at this;exact this.map _
structure IsTab(W R:Rws):Prop where
 pm:R.Perm (oG W)
 up:(R.map (·.1)).Pairwise λa b=>aH a b=true
def tG:∀{a b:List (List Int)},(a.Pairwise λx y=>aH x y=true)->(b.Pairwise λx y=>aH x y=true)->(∀ x,x∈a↔x∈b)->a=b
 | [],[],_,_,_=>rfl
 | [],y::b,_,_,h=>absurd ((h y).mpr gT) (by simp)
 | x::a,[],_,_,h=>absurd ((h x).mp gT) (by simp)
 | x::a,y::b,h1,h2,h=>by
  rw[FH]at h1 h2
  have e:x=y:=by
   rcases i_.mp ((h x).mp gT) with z | z
   .exact z
   .rcases i_.mp ((h y).mpr gT) with z' | z'
    .exact z'.symm
    .have d:=kq _ _ (h2.1 x z)
     rw[h1.1 y z']at d;cases d
  subst e
  have:a=b:=tG h1.2 h2.2 λz=>by
   have c:=h z;rw[i_,i_]at c
   constructor
   .intro m
    rcases c.mp (.inr m) with e | e
    .have:=h1.1 z m;rw[e,om]at this;cases this
    .exact e
   .intro m
    rcases c.mpr (.inr m) with e | e
    .have:=h2.1 z m;rw[e,om]at this;cases this
    .exact e
  rw[this]
def IsTab.keys{W R:Rws}(h:IsTab W R)(k:List Int):k∈R.map (·.1)↔k∈W.map (·.1):=by
 rw[<- adds_keys W k];exact(h.pm.map _).mem_iff
def IsTab.val{W R:Rws}(h:IsTab W R){x:List Int×Rat}(a:x∈R):x.2=cQ W x.1:=by
 rw[<- uk,wq (sC W) x (h.pm.mem_iff.mp a)]
def IsTab.eqv{W R:Rws}(h:IsTab W R):R=(R.map (·.1)).map λk=>(k,cQ W k):=by
 rw[A8]
 have:∀ x∈R,x=((λk=>(k,cQ W k)) ∘ λx=>x.1) x:=λx hx=>by
  show x=(x.1,cQ W x.1);rw[<- h.val hx]
 conv=>lhs;rw[<- map_id R]
 exact Hb this
def tab_of{g:Rws}{o:List Nat}(s:NdR g)(f:o.Perm (lj g.length))(C:o.Pairwise λi j=>aH ((g.map (·.1)).getD j []) ((g.map (·.1)).getD i [])=false) :
  (o.map λi=>g.getD i ([],0)).Perm g/\((o.map λi=>g.getD i ([],0)).map (·.1)).Pairwise λa b=>aH a b=true:=by
 constructor
 .have e:(lj g.length).map (λi=>g.getD i ([],0))=g:=by
   apply List.ext_getElem
   .simp
   .intro i p u
    rw[List.getElem_map,List.getElem_range,EQ,ki u];rfl
  have:=f.map λi=>g.getD i ([],0)
  rw[e]at this;exact this
 .have w:o.Nodup:=f.nodup_iff.mpr IG
  rw[A8,JZ];have D:=C.and w;refine List.Pairwise.imp_of_mem (λ{i j} v r h=>?_) D;have d:i<g.length:=A9.mp (f.mem_iff.mp v);have k:j<g.length:=A9.mp (f.mem_iff.mp r);have x:(g.map (·.1)).getD i []=(g.getD i ([],0)).1:=by simp[EQ,d]
  have A:(g.map (·.1)).getD j []=(g.getD j ([],0)).1:=by simp[EQ,k]
  rw[x,A]at h
  have B:(g.getD i ([],0)).1≠(g.getD j ([],0)).1:=λe=>by
   have q:(g.map (·.1))[i]'(by simpa using d)=(g.map (·.1))[j]'(by simpa using k):=by
    simp[EQ,d,k]at e;simpa using e
   have c:∀ i j (d:i<(g.map (·.1)).length) (k:j<(g.map (·.1)).length),i<j->(g.map (·.1))[i]≠(g.map (·.1))[j]:=tW.mp s
   rcases J6 i j with y | y | y
   .exact c i j _ _ y q
   .exact h.2 y
   .exact c j i _ _ y q.symm
  rcases oz _ _ B with z | z
  .exact z
  .have p:=h.1
   rw[z]at p;cases p
abbrev sm(W:Rws):Rat:=(W.map (·.2)).sum
def pm(p:List Int->Bool)(W:Rws):Rat:=(W.map λx=>if p x.1=true then x.2 else 0).sum
def Nn(D:Nat)(x:Rat):Prop:=0<=x/\∃ n:Nat,x*(D:Rat)=(n:Rat)
def Nn.add{D:Nat}{x y:Rat}(h:Nn D x)(h':Nn D y):Nn D (x+y):=by
 obtain⟨a,n,e⟩:=h;obtain⟨b,m,f⟩:=h';refine⟨by grind,n+m,?_⟩
 push_cast
 grind
def Nn.zero{D:Nat}:Nn D 0:=⟨by grind,0,by grind⟩
structure Gd(D:Nat)(W:Rws):Prop where
 nn:∀ x∈W,Nn D x.2
 le:sm W<=1
def mR{D:Nat}:∀{W:Rws},(∀ x∈W,Nn D x.2)->Nn D (sm W)
 | [],_=>by show Nn D 0;exact Nn.zero
 | x::W,h=>by
  show Nn D (x.2+sm W);exact(h x gT).add (mR λy a=>h y (hI _ a))
def ri(A B:Rws):sm (A++B)=sm A+sm B:=by unfold sm;rw[nv,Jf]
def sQ{D:Nat}{p:List Int->Bool}:∀{W:Rws}{i:Nat},(∀ x∈W,Nn D x.2)->Nn D (pm p (W.take i))/\pm p (W.take i)<=sm W
 | [],i,_=>by
  rw[List.take_nil];exact⟨(show Nn D 0 from Nn.zero),(show(0:Rat)<=0 by grind)⟩
 | x::W,0,h=>by
  have:=(mR h).1;exact⟨(show Nn D 0 from Nn.zero),(show(0:Rat)<=sm (x::W) from this)⟩
 | x::W,i+1,h=>by
  have c:=h x gT;obtain⟨a,b⟩:=sQ (p:=p) (i:=i) λy hy=>h y (hI _ hy)
  rw[Ju];have e:pm p (x::W.take i)=(if p x.1=true then x.2 else 0)+pm p (W.take i):=by unfold pm;rw[l_,Ez]
  have d:sm (x::W)=x.2+sm W:=by unfold sm;rw[l_,Ez]
  rw[e,d];have:=c.1
  split
  .exact⟨c.add a,by grind⟩
  .exact⟨Nn.zero.add a,by grind⟩
def Gd.pm{D:Nat}{W:Rws}(h:Gd D W)(p:List Int->Bool)(i:Nat):Bq D (Tb.pm p (W.take i)):=by
 obtain⟨⟨a,n⟩,b⟩:=sQ (p:=p) (i:=i) h.nn;have:=h.le;exact⟨a,by grind,n⟩
def Gd.pmA{D:Nat}{W:Rws}(h:Gd D W)(p:List Int->Bool):Bq D (Tb.pm p W):=by
 have:=h.pm p W.length;rwa [oD]at this
def Gd.left{D:Nat}{A B:Rws}(h:Gd D (A++B)):Gd D A:=by
 refine⟨λx a=>h.nn x (z4 _ a),?_⟩;have b:=h.le;rw[ri]at b;have:=(mR (D:=D) (W:=B) λx a=>h.nn x (li _ a)).1
 grind
def Gd.right{D:Nat}{A B:Rws}(h:Gd D (A++B)):Gd D B:=by
 refine⟨λx a=>h.nn x (li _ a),?_⟩;have b:=h.le;rw[ri]at b;have:=(mR (D:=D) (W:=A) λx a=>h.nn x (z4 _ a)).1
 grind
def Gd.sm{D:Nat}{W:Rws}(h:Gd D W):Bq D (Tb.sm W):=⟨(mR h.nn).1,h.le,(mR h.nn).2⟩
def Gd.one{D:Nat}{W:Rws}(h:Gd D W){x:List Int×Rat}(b:x∈W):Bq D x.2:=by
 obtain⟨A,B,rfl⟩:=List.append_of_mem b;have c:=h.right;have a:Gd D ([x]++B):=c;have:=a.left.sm;have e:Tb.sm [x]=x.2:=by show x.2+0=x.2;grind
 rw[e]at this;exact this
def yV{W:Rws}{k:List Int}:cQ W k=pm (λy=>decide (y=k)) W:=by
 induction W with
 | nil=>rfl
 | cons w W ih =>
  rw[bW,ih];have e:pm (λy=>decide (y=k)) (w::W)=(if decide (w.1=k)=true then w.2 else 0)+pm (λy=>decide (y=k)) W:=by unfold pm;rw[l_,Ez]
  rw[e]
  by_cases h:w.1=k
  .rw[if_pos h,if_pos (decide_eq_true h)]
  .rw[if_neg h,if_neg (by simp[h])]
def tR{A B:Rws}(h:A.Perm B):sm A=sm B:=by
 induction h with
 | nil=>rfl
 | @cons x l1 l2 _ ih=>show x.2+sm l1=x.2+sm l2;rw[ih]
 | swap x y l=>show y.2+(x.2+sm l)=x.2+(y.2+sm l);grind
 | trans _ _ a b=>rw[a,b]
def sg(k:List Int)(m:Rat):∀ st:Rws,sm (dD k m st)=sm st+m
 | []=>by show m+0=0+m;grind
 | x::r=>by
  rw[dD]
  split
  .show(x.2+m)+sm r=x.2+sm r+m;grind
  .show x.2+sm (dD k m r)=x.2+sm r+m;rw[sg k m r];grind
def yx(st:Rws):∀ W:Rws,sm (W.foldl (λst w=>dD w.1 w.2 st) st)=sm st+sm W:=by
 intro W
 induction W generalizing st with
 | nil=>show _=sm st+0;rw[KG];grind
 | cons w W ih=>rw[HD,ih,sg];show _=sm st+(w.2+sm W);grind
def yO(W:Rws):sm (oG W)=sm W:=by unfold oG;rw[yx];show(0:Rat)+_=_;grind
def IsTab.sm{W R:Rws}(h:IsTab W R):Tb.sm R=Tb.sm W:=by rw[tR h.pm,yO]
def IsTab.gd{D:Nat}{W R:Rws}(h:IsTab W R)(g:Gd D W):Gd D R:=by
 refine⟨λx a=>?_,by rw[h.sm];exact g.le⟩;rw[h.val a,yV];have:=g.pmA λy=>decide (y=x.1)
 exact⟨this.1,this.2.2⟩
def CJ(W:Rws):sm (kR W)=sm W:=by unfold sm kR;rw[A8];rfl
mutual
def dn:Tr->Nat
 | .leaf _=>1
 | .die ps=>(tot ps).toNat*dns ps
def dns:List (Int×Tr)->Nat
 | []=>1
 | (_,u)::r=>dn u*dns r
end
structure Ch(D:Int)(c:Int×Int):Prop where
 t0:0<=c.1
 le:c.1<=c.2
 b0:0<c.2
 dv:c.2 ∣ D
def lcm_step{r n D:Int}(q:0<r)(f:0<n)(u:r ∣ D)(j:n ∣ D):0<r/(o0 r n:Int)*n/\r ∣ r/(o0 r n:Int)*n/\n ∣ r/(o0 r n:Int)*n/\r/(o0 r n:Int)*n ∣ D:=by
 have x:0<o0 r n:=Ib _ (by lia);have k:(0:Int)<(o0 r n:Int):=by lia
 obtain⟨c,d⟩:=Ko (a:=r) (b:=n);obtain⟨e,v⟩:=FV (a:=r) (b:=n)
 have s:r/(o0 r n:Int)=c:=by
  have:=F8 c (show(o0 r n:Int)≠0 by lia);rw[<- d]at this;exact this
 have i:0<c:=by
  rcases Jg 0 c with h | h
  .exact h
  .have:=Int.mul_nonpos_of_nonneg_of_nonpos (Int.le_of_lt k) h;lia
 rw[s];refine⟨GR i f,⟨e,?_⟩,⟨c,Hq _ _⟩,?_⟩
 .rw[d]
  conv=>lhs;rw[v]
  generalize (o0 r n:Int)=g;rw[<- Int.mul_assoc,Hq c g]
 .have l:(Jh r n:Int) ∣ D:=by
   have:=Nat.lcm_dvd (GD.mpr u) (GD.mpr j);exact GD.mp (by rw[Int.natAbs_natCast];exact this)
  have o:(Jh r n:Int)=c*n:=by
   have:=Int.gcd_mul_lcm r n
   have p:(o0 r n:Int)*(Jh r n:Int)=r*n:=by
    have h:((o0 r n*Jh r n:Nat):Int)=((r*n).natAbs:Int):=by rw[this,GO]
    rw[Int.natCast_mul]at h;have:=GR q f;lia
   have w:(o0 r n:Int)*(Jh r n:Int)=(o0 r n:Int)*(c*n):=by
    rw[p,<- Int.mul_assoc,<- d]
   exact Int.eq_of_mul_eq_mul_left (by lia) w
  rw[<- o];exact l
def rQ{L t b:Int}(d:0<L)(f:0<b)(h:b ∣ L):((t*(L/b):Int):Rat)=qv (t,b)*(L:Rat):=by
 obtain⟨c,rfl⟩:=h;rw[F8 c (by lia)];have a:(b:Rat)≠0:=by have:b≠0:=(by lia);exact_mod_cast this
 unfold qv
 push_cast
 grind
def top_sum{L:Int}(a:0<L):∀{fs:List (Int×Int)},(∀ f∈fs,0<f.2/\f.2 ∣ L)->(((fs.map λf=>f.1*(L/f.2)).sum:Int):Rat)=sumQ fs*(L:Rat)
 | [],_=>by show((0:Int):Rat)=0*_;grind
 | f::fs,h=>by
  have c:=rQ (t:=f.1) a (h f gT).1 (h f gT).2;have d:=top_sum a λx b=>h x (hI _ b)
  rw[l_,Ez,KH,c,d];have e:sumQ (f::fs)=qv (f.1,f.2)+sumQ fs:=by unfold sumQ;rw[l_,Ez]
  rw[e]
  grind
def low_tops{L T:Int}{q:Rat}(a:0<L)(e:(T:Rat)=q*(L:Rat)):kr T L=fr q:=by
 rw[low_div T a,e];have b:(L:Rat)≠0:=by have:L≠0:=(by lia);exact_mod_cast this
 congr 1
 grind
def CT(q:Rat):qv (fr q)=q:=by
 unfold qv fr;have:=Rat.num_divInt_den q;rw[Hs]at this;exact this
def bq_bt{D:Nat}{q:Rat}(i:0<D)(h:Bq D q):0<=q.num/\q.num<=(q.den:Int)/\(0:Int)<q.den/\(q.den:Int) ∣ (D:Int):=by
 obtain⟨d,j,n,e⟩:=h;have f:q*(D:Rat)=((n:Int):Rat):=by rw[e];rfl
 have g:=DA i f;have l:=mE (n:Int) (show D≠0 by lia);rw[<- g]at l;have k:(kr (n:Int) (D:Int)).2=(q.den:Int):=by rw[l];rfl
 have c:(D:Int)/(o0 (n:Int) (D:Int):Int)=(q.den:Int):=k;refine⟨Rat.num_nonneg.mpr d,?_,by have:=q.den_pos;lia,?_⟩
 .have:q<=1:=j
  rw[Rat.le_iff]at this;simpa using this
 .rw[<- c]
  exact Int.ediv_dvd_of_dvd (FV (a:=(n:Int)) (b:=(D:Int)))
def Lm2:Nat:=2 ^ 2720
def bt_of{D:Nat}{i:Int}(a:0<D)(b:D<=Lm2)(c:0<=i)(h:i<=(D:Int)):Bt 2721 i:=by
 unfold Bt;have e:(2:Nat) ^ 2721=Lm2*2:=by unfold Lm2;exact Nat.pow_succ 2 2720
 rw[e];have:0<Lm2:=by unfold Lm2;exact Nat.pow_pos (by decide)
 lia
def bq_bb{D:Nat}{q:Rat}(f:0<D)(g:D<=Lm2)(h:Bq D q):Bt 2721 q.num/\Bt 2721 (q.den:Int):=by
 obtain⟨a,b,c,d⟩:=bq_bt f h;have:=ER (by lia) d;exact⟨bt_of f g a (by lia),bt_of f g (by lia) this⟩
def ch_bt{D:Nat}{c:Int×Int}(a:0<D)(b:D<=Lm2)(h:Ch (D:Int) c):Bt 2721 c.1/\Bt 2721 c.2:=by
 have:=ER (by lia) h.dv;have:=h.le;have:=h.b0;exact⟨bt_of a b h.t0 (by lia),bt_of a b (by lia) (by lia)⟩
def fb:Nat->Nat
 | 0=>0
 | d+1=>32+4*fb d
mutual
def Dp:Nat->Tr->Prop
 | _,.leaf ns=>ns.Nodup/\ns.length<=6
 | 0,.die _=>False
 | d+1,.die ps=>1<=ps.length/\ps.length<=4/\Dps d ps
def Dps:Nat->List (Int×Tr)->Prop
 | _,[]=>True
 | d,(m,u)::r=>1<=m/\m<=1000000000/\Dp d u/\Dps d r
end
mutual
def wV:∀(t:Tr) (a b:Int),Ok t->∀ w∈wl t a b,w.1.Nodup/\w.1.length<=24
 | .leaf ns,a,b,h,w,hw=>by rw[wl]at hw;rw[Ok]at h;rw[ir.mp hw];exact h
 | .die ps,a,b,h,w,hw=>by rw[wl]at hw;rw[Ok]at h;exact tE ps a b _ h.2 w hw
def tE:∀(ps:List (Int×Tr)) (a b S:Int),Oks ps->∀ w∈wls ps a b S,w.1.Nodup/\w.1.length<=24
 | [],_,_,_,_,w,hw=>by rw[wls]at hw;cases hw
 | (m,u)::r,a,b,S,h,w,hw=>by
  rw[Oks]at h;rw[wls]at hw
  rcases wh.mp hw with hw | hw
  .exact tE r a b S h.2.2 w hw
  .exact wV u _ _ h.2.1 w hw
end
def pL{k:List Int}{c:Int×Int}:∀ g:Grp,(pushG k c g).length<=g.length+1
 | []=>by rw[pushG];simp
 | y::r=>by
  rw[pushG]
  split
  .simp
  .rw[py,py];have:=pL (k:=k) (c:=c) r;lia
def Gk(W:List Way)(n:Nat)(g:Grp):Prop:=g.length<=n/\∀ x∈g,x.2.length<=n/\∀ c∈x.2,∃ w∈W,w.2=c
def Gk.push{W:List Way}{n:Nat}{g:Grp}(h:Gk W n g){w:Way}(b:w∈W):Gk W (n+1) (pushG w.1 w.2 g):=by
 refine⟨lB (pL g) (by have:=h.1;lia),λx hx=>?_⟩
 have f:∀ g:Grp,(∀ x∈g,x.2.length<=n/\∀ c∈x.2,∃ w∈W,w.2=c)->∀ x∈pushG w.1 w.2 g,x.2.length<=n+1/\∀ c∈x.2,∃ w∈W,w.2=c:=by
  intro g
  induction g with
  | nil=>intro _ x hx;rw[pushG]at hx;rw[ir.mp hx];exact⟨by simp,λc hc=>⟨w,b,(ir.mp hc).symm⟩⟩
  | cons y r ih =>
   intro h x hx;rw[pushG]at hx;have a:=h y gT
   split at hx
   .rcases i_.mp hx with rfl | hx
    .refine⟨by rw[gV];have:=a.1;simp;lia,λc hc=>?_⟩
     rcases wh.mp hc with hc | hc
     .exact a.2 c hc
     .exact⟨w,b,(ir.mp hc).symm⟩
    .have:=h x (hI _ hx);exact⟨by lia,this.2⟩
   .rcases i_.mp hx with rfl | hx
    .exact⟨by have:=a.1;lia,a.2⟩
    .exact ih (λz d=>h z (hI _ d)) x hx
 exact f g h.2 x hx
def grp_gk(W:List Way):∀ i,i<=W.length->Gk W i (grp (W.take i))
 | 0,_=>⟨fS _,λx a=>by cases a⟩
 | i+1,h=>by
  obtain⟨w,hw⟩:∃ w,W[i]? = some w:=⟨_,ki (by lia)⟩
  rw[grp_snoc hw];exact(grp_gk W i (by lia)).push (ge hw)
def rat_keys(g:Grp):(rat g).map (·.1)=g.map (·.1):=by unfold rat;rw[A8];rfl
def grp_nd(W:List Way):NdR (rat (grp W)):=by rw[rat_grp];exact sC _
def kW_len(t:Tr):(kW (wl t 1 1)).length=lv t:=by unfold kW;rw[d_,wl_len]
def kW_get{W:List Way}{i:Nat}{w:Way}(h:W[i]? = some w):(kW W)[i]? = some (so w.1,w.2):=by unfold kW;rw[gb,h];rfl
def askd(ps k:List Int):List Int:=k.filter λx=>decide (x∈ps)
def mem_askd{ps k:List Int}{x:Int}:x∈askd ps k↔x∈k/\x∈ps:=by unfold askd;rw[KN];simp
def tp(L:Int)(r:List Int×Rat):Int:=r.2.num*(L/(r.2.den:Int))
def iR(l:List Int)(x y:Int):Prop:=x∈l/\y∈l
instance (l:List Int) (x y:Int):Decidable (iR l x y):=inferInstanceAs (Decidable (_/\_))
def tF(ps:List Int)(L:Int)(R:Rws)(x y:Int):Int:=(R.map λr=>if iR (askd ps r.1) x y then tp L r else 0).sum
def mm(R:Rws)(x y:Int):Rat:=pm (λk=>decide (iR k x y)) R
def tF_snoc{ps:List Int}{L:Int}{R:Rws}{i:Nat}{r:List Int×Rat}(h:R[i]? = some r)(x y:Int):tF ps L (R.take (i+1)) x y=tF ps L (R.take i) x y+if iR (askd ps r.1) x y then tp L r else 0:=by
 unfold tF;rw[oN,h,nv,Jf];simp
def tF_rat{ps:List Int}{L:Int}(f:0<L){x y:Int}(d:x∈ps)(b:y∈ps):∀{R:Rws},(∀ r∈R,(r.2.den:Int) ∣ L)->((tF ps L R x y:Int):Rat)=mm R x y*(L:Rat)
 | [],_=>by show((0:Int):Rat)=0*_;grind
 | r::R,h=>by
  have i:=tF_rat f d b λz k=>h z (hI _ k)
  have j:tF ps L (r::R) x y=(if iR (askd ps r.1) x y then tp L r else 0)+tF ps L R x y:=by unfold tF;rw[l_,Ez]
  have o:mm (r::R) x y=(if decide (iR r.1 x y)=true then r.2 else 0)+mm R x y:=by unfold mm pm;rw[l_,Ez]
  rw[j,o,KH,i];have g:(0:Int)<(r.2.den:Int):=by have:=r.2.den_pos;lia
  by_cases c:iR r.1 x y
  .have a:iR (askd ps r.1) x y:=⟨mem_askd.mpr ⟨c.1,d⟩,mem_askd.mpr ⟨c.2,b⟩⟩
   rw[if_pos a,if_pos (decide_eq_true c)];unfold tp;rw[rQ f g (h r gT)];have:qv (r.2.num,(r.2.den:Int))=r.2:=CT r.2;rw[this];grind
  .have a:¬iR (askd ps r.1) x y:=λz=>c ⟨(mem_askd.mp z.1).1,(mem_askd.mp z.2).1⟩
   rw[if_neg a,if_neg (by simp[c])]
   grind
abbrev F2t:=Int->Int->Int
def F1(F:F2t)(l:List Int)(n:Nat)(t:Int):F2t:=λx y=>F x y+if x∈l.take n/\y∈l then t else 0
def F2(F:F2t)(l:List Int)(n m:Nat)(t:Int):F2t:=λx y=>F1 F l n t x y+if l[n]? = some x/\y∈l.take m then t else 0
def F1_zero(F:F2t)(l:List Int)(t:Int):F1 F l 0 t=F:=by funext x y;unfold F1;simp
def F2_zero(F:F2t)(l:List Int)(n:Nat)(t:Int):F2 F l n 0 t=F1 F l n t:=by funext x y;unfold F2;simp
def F1_end(F:F2t)(l:List Int)(t:Int)(x y:Int):F1 F l l.length t x y=F x y+if iR l x y then t else 0:=by
 unfold F1;rw[oD]
 by_cases c:iR l x y
 .rw[if_pos c,if_pos (show x∈l/\y∈l from c)]
 .rw[if_neg c,if_neg (show ¬(x∈l/\y∈l) from c)]
def jz{l:List Int}(c:l.Nodup){n:Nat}{z:Int}(h:l[n]? = some z):z ∉ l.take n:=λf=>by
 obtain⟨i,a⟩:=v_ f;rw[List.getElem?_take]at a
 split at a
 .rename_i lt
  obtain⟨b,g⟩:=fP.mp a;obtain⟨d,j⟩:=fP.mp h;exact(tW.mp c i n b d lt) (g.trans j.symm)
 .cases a
def gM{l:List Int}{n:Nat}{z x:Int}(h:l[n]? = some z):x∈l.take (n+1)↔x∈l.take n\/x=z:=by
 rw[oN,h,wh];simp
def F2_end{F:F2t}{l:List Int}(a:l.Nodup){n:Nat}{z t:Int}(h:l[n]? = some z):F2 F l n l.length t=F1 F l (n+1) t:=by
 funext x y
 unfold F2 F1;rw[oD];have e:=gM (x:=x) h;have b:=jz a h;rw[h]
 by_cases c:x=z
 .subst c
  rw[if_neg (λw=>b w.1)]
  by_cases d:y∈l
  .rw[if_pos ⟨rfl,d⟩,if_pos ⟨e.mpr (.inr rfl),d⟩];lia
  .rw[if_neg (λw=>d w.2),if_neg (λw=>d w.2)];lia
 .rw[if_neg (λ(w:some z=some x/\y∈l)=>c (k7 w.1).symm)]
  have:(x∈l.take (n+1)/\y∈l)↔(x∈l.take n/\y∈l):=by rw[e];simp[c]
  by_cases d:x∈l.take n/\y∈l
  .rw[if_pos d,if_pos (this.mpr d)];lia
  .rw[if_neg d,if_neg (λw=>d (this.mp w))];lia
def F2_step{F:F2t}{l:List Int}(h:l.Nodup){n m:Nat}{a b t:Int}(i:l[n]? = some a)(f:l[m]? = some b):F2 F l n (m+1) t=λx y=>if x=a/\y=b then F2 F l n m t a b+t else F2 F l n m t x y:=by
 funext x y
 have e:=gM (x:=y) f;have g:=jz h f;unfold F2;rw[i]
 by_cases c:x=a/\y=b
 .rw[if_pos c]
  obtain⟨rfl,rfl⟩:=c;rw[if_pos ⟨rfl,e.mpr (.inr rfl)⟩,if_neg (λw=>g w.2)];lia
 .rw[if_neg c]
  have:(some a=some x/\y∈l.take (m+1))↔(some a=some x/\y∈l.take m):=by
   rw[e]
   constructor
   .rintro⟨w,w' | w'⟩
    .exact⟨w,w'⟩
    .exact absurd ⟨(k7 w).symm,w'⟩ c
   .rintro⟨w,w'⟩;exact⟨w,.inl w'⟩
  by_cases d:some a=some x/\y∈l.take m
  .rw[if_pos d,if_pos (this.mpr d)]
  .rw[if_neg d,if_neg (λw=>d (this.mp w))]
def askd_nd{ps k:List Int}(h:k.Nodup):(askd ps k).Nodup:=h.filter _
def askd_len(ps k:List Int):(askd ps k).length<=k.length:=GE _ _
def askd_snoc{ps k:List Int}{i:Nat}{x:Int}(h:k[i]? = some x):askd ps (k.take (i+1))=askd ps (k.take i)++if x∈ps then [x] else []:=by
 unfold askd;rw[oN,h,Gq];simp[J9]
def AQ{D:Nat}{R:Rws}(g:Gd D R)(x y:Int):Bq D (mm R x y):=g.pmA _
def tF_le{ps:List Int}{L:Int}{D:Nat}{R:Rws}(a:0<L)(g:Gd D R){x y:Int}(c:x∈ps)(b:y∈ps)(h:∀ r∈R,(r.2.den:Int) ∣ L):0<=tF ps L R x y/\tF ps L R x y<=L:=by
 have e:=tF_rat a c b h;obtain⟨d,j,_⟩:=AQ g x y;have i:(0:Rat)<(L:Rat):=by exact_mod_cast a
 have f:=qQ d (show(0:Rat)<=(L:Rat) by grind);have k:=qQ (show 0<=1 - mm R x y by grind) (show(0:Rat)<=(L:Rat) by grind)
 constructor
 .have:(0:Rat)<=((tF ps L R x y:Int):Rat):=by rw[e];exact f
  exact_mod_cast this
 .have:((tF ps L R x y:Int):Rat)<=(L:Rat):=by rw[e];grind
  exact_mod_cast this
def tab_key{t:Tr}(h:Ok t){R:Rws}(a:IsTab (toR (kW (wl t 1 1))) R):∀ r∈R,r.1.Nodup/\r.1.length<=24:=λr c=>by
 have:=(a.keys r.1).mp (nh.mpr ⟨r,c,rfl⟩);unfold toR kW at this;rw[A8,A8]at this;obtain⟨w,b,e⟩:=nh.mp this;have e:so w.1=r.1:=e;obtain⟨d,f⟩:=wV t 1 1 h w b;rw[<- e];exact⟨(so_perm w.1).nodup_iff.mpr d,by rw[(so_perm w.1).length_eq];exact f⟩
mutual
def Ak:∀(t:Tr) (q:Rat),Ok t->sm (wf t q)=q
 | .leaf ns,q,_=>by rw[wf];show q+0=q;grind
 | .die ps,q,h=>by
  rw[Ok]at h;have b:=nL h.2;have c:0<ps.length:=Jw.mpr h.1;rw[wf,v9 ps q (tot ps) h.2 (by lia)];have a:((tot ps:Int):Rat)≠0:=by have:tot ps≠0:=(by lia);exact_mod_cast this
  grind
def v9:∀(ps:List (Int×Tr)) (q:Rat) (S:Int),Oks ps->0<S->sm (wfs ps q S)=q*((tot ps:Rat)/(S:Rat))
 | [],q,S,_,hS=>by
  rw[wfs];show(0:Rat)=q*(((0:Int):Rat)/(S:Rat))
  grind
 | (m,u)::r,q,S,h,hS=>by
  rw[Oks]at h;rw[wfs,ri,Ak u _ h.2.1,v9 r q S h.2.2 hS];have a:tot ((m,u)::r)=m+tot r:=by unfold tot;rw[l_,Ez]
  rw[a]
  push_cast
  grind
end
mutual
def bnd:Tr->(List Int->Tr)->Tr
 | .leaf ns,g=>g (so ns)
 | .die ps,g=>.die (ci ps g)
def ci:List (Int×Tr)->(List Int->Tr)->List (Int×Tr)
 | [],_=>[]
 | (m,u)::r,g=>(m,bnd u g)::ci r g
end
def bnds_map(g:List Int->Tr):∀ ps:List (Int×Tr),ci ps g=ps.map λp=>(p.1,bnd p.2 g)
 | []=>by rw[ci];rfl
 | (m,u)::r=>by rw[ci,bnds_map g r];rfl
def o7(ps:List (Int×Tr))(g:List Int->Tr):tot (ci ps g)=tot ps:=by unfold tot;rw[bnds_map,A8];rfl
mutual
def Dq:Nat->Tr->Prop
 | _,.leaf ns=>ns.Nodup/\ns.length<=12
 | 0,.die _=>False
 | d+1,.die ps=>1<=ps.length/\ps.length<=4/\Dqs d ps
def Dqs:Nat->List (Int×Tr)->Prop
 | _,[]=>True
 | d,(m,u)::r=>1<=m/\m<=1000000000/\Dq d u/\Dqs d r
end
mutual
def Lb:Tr->Prop
 | .leaf ns=>ns.length<=12
 | .die ps=>Lbs ps
def Lbs:List (Int×Tr)->Prop
 | []=>True
 | (_,u)::r=>Lb u/\Lbs r
end
mutual
def Par(o:Int):Tr->Prop
 | .leaf ns=>(∀ x∈ns,x % 2=o)/\ns.length<=6/\ns.Nodup
 | .die ps=>CN o ps
def CN(o:Int):List (Int×Tr)->Prop
 | []=>True
 | (_,u)::r=>Par o u/\CN o r
end
mutual
def Lq:Tr->Prop
 | .leaf ns=>ns.length<=6
 | .die ps=>Lqs ps
def Lqs:List (Int×Tr)->Prop
 | []=>True
 | (_,u)::r=>Lq u/\Lqs r
end
def tab_eq{W R c:Rws}(h:IsTab W R)(g:(c.map (·.1)).Pairwise λa b=>aH a b=true)(d:∀ k,k∈c.map (·.1)↔k∈W.map (·.1))(f:∀ x∈c,x.2=cQ W x.1):c=R:=by
 have e:c.map (·.1)=R.map (·.1):=tG g h.up λk=>by rw[d,h.keys]
 have i:c=(c.map (·.1)).map λk=>(k,cQ W k):=by
  rw[A8]
  have:∀ x∈c,x=((λk=>(k,cQ W k)) ∘ λx=>x.1) x:=λx hx=>by
   show x=(x.1,cQ W x.1);rw[<- f x hx]
  conv=>lhs;rw[<- map_id c]
  exact Hb this
 rw[i,h.eqv,e]
end Tb
namespace Tb
open FrM Du LexM
def fl(qs:List (Int×List Int)):Tr:=.die (qs.map λz=>(z.1,.leaf z.2))
mutual
def Dk:Nat->Tr->Prop
 | _,.leaf ns=>ns.Nodup/\ns.length<=24
 | 0,.die _=>False
 | d+1,.die ps=>1<=ps.length/\ps.length<=1000/\Dks d ps
def Dks:Nat->List (Int×Tr)->Prop
 | _,[]=>True
 | d,(m,u)::r=>1<=m/\m<=1000000000/\Dk d u/\Dks d r
end
def dk_part{d:Nat}{ps:List (Int×Tr)}(h:Dks d ps):∀{p:Int×Tr},p∈ps->1<=p.1/\p.1<=1000000000/\Dk d p.2:=by
 induction ps with
 | nil=>intro p hp;cases hp
 | cons x r ih =>
  intro p hp;obtain⟨m,u⟩:=x;rw[Dks]at h
  rcases i_.mp hp with rfl | hp
  .exact⟨h.1,h.2.1,h.2.2.1⟩
  .exact ih h.2.2.2 hp
end Tb
namespace Tb
open FrM Du LexM
def stm:Nat->List Int->Nat->Tr
 | 0,held,_=>.leaf held
 | s+1,held,n=>.die ((lj held.length).map (λpl=>(1,stm s (held.set pl (n:Int)) (n+1)))++[((n:Int)+1 - (held.length:Int),stm s held (n+1))])
def stP(s:Nat)(held:List Int)(n:Nat):List (Int×Tr):=(lj held.length).map (λpl=>((1:Int),stm s (held.set pl (n:Int)) (n+1)))++[((n:Int)+1 - (held.length:Int),stm s held (n+1))]
def stP_tot(s:Nat)(a:List Int)(n:Nat):tot (stP s a n)=(n:Int)+1:=by
 unfold tot stP;rw[nv,Jf,A8];have:((λx:Int×Tr=>x.1) ∘ λpl=>((1:Int),stm s (a.set pl (n:Int)) (n+1)))=λ_=>(1:Int):=rfl
 rw[this,List.map_const',A6,List.sum_replicate_int];simp;lia
structure Hd(held:List Int)(n:Nat):Prop where
 nd:held.Nodup
 lt:∀ x∈held,0<=x/\x<(n:Int)
 len:held.length<=n
def xC{l:List Int}{i:Nat}{x y:Int}(h:y∈l.set i x):y∈l\/y=x:=Iy h
def Hd.stay{a:List Int}{n:Nat}(h:Hd a n):Hd a (n+1):=⟨h.nd,λx b=>by have:=h.lt x b;push_cast;lia,by have:=h.len;lia⟩
def Hd.put{a:List Int}{n:Nat}(h:Hd a n)(pl:Nat):Hd (a.set pl (n:Int)) (n+1):=by
 refine⟨?_,λx g=>?_,by rw[HI];have:=h.len;lia⟩
 .rw[List.nodup_iff_pairwise_ne,tW]
  intro i j c b d;rw[J_,J_];rw[HI]at c b;have f:=tW.mp h.nd i j c b d
  split
  .split
   .lia
   .intro e
    have:=(h.lt _ (Ku b)).2;rw[<- e]at this;lia
  .split
   .intro e
    have:=(h.lt _ (Ku c)).2;rw[e]at this;lia
   .exact f
 .rcases xC g with h1 | h1
  .have:=h.lt x h1;push_cast;lia
  .rw[h1];push_cast;lia
def gd_ch{D:Nat}{t:Tr}{R:Rws}(a:Ok t)(u:0<D)(r:∀ w∈wl t 1 1,Ch (D:Int) w.2)(g:IsTab (toR (kW (wl t 1 1))) R):Gd D R:=by
 refine g.gd ⟨λx b=>?_,?_⟩
 .unfold toR at b
  obtain⟨w,h,rfl⟩:=nh.mp b;obtain⟨y,f,rfl⟩:=nh.mp h;have c:=r y f;obtain⟨e,p⟩:=c.dv;show Nn D (qv y.2);have d:=c.b0
  have k:0<=e:=by
   rcases Jg e 0 with z | z
   .have:=IH d z;lia
   .exact z
  have s:((y.2.2:Int):Rat)≠0:=by have:y.2.2≠0:=(by lia);exact_mod_cast this
  have j:(0:Rat)<=(y.2.1:Rat):=by exact_mod_cast c.t0
  have o:(0:Rat)<(y.2.2:Rat):=by exact_mod_cast d
  unfold qv;refine⟨?_,(y.2.1*e).toNat,?_⟩
  .rw[Rat.div_def]
   exact qQ j (by have:=Rat.inv_pos.mpr o;grind)
  .have i:((D:Nat):Rat)=((y.2.2*e:Int):Rat):=by rw[<- p];rfl
   have q:(((y.2.1*e).toNat:Nat):Rat)=((y.2.1*e:Int):Rat):=by
    have:(((y.2.1*e).toNat:Nat):Int)=y.2.1*e:=Int.toNat_of_nonneg (K4 c.t0 k);rw[<- this];rfl
   rw[i,q]
   push_cast
   grind
 .rw[tR (y6 a)]
  unfold kt;rw[CJ,Ak t 1 a]
  grind
def stP_len(s:Nat)(a:List Int)(n:Nat):(stP s a n).length=a.length+1:=by unfold stP;simp
def rng(m:Nat):List Int:=(lj m).map λ(k:Nat)=>(k:Int)
def rng_hd(m:Nat):Hd (rng m) m:=⟨JZ.mpr (IG.imp λ{a b} n e=>n (by lia)),λx hx=>by obtain⟨k,hk,rfl⟩:=nh.mp hx;have:=A9.mp hk;show 0<=(k:Int)/\(k:Int)<_;lia,by unfold rng;simp⟩
def rng_len(m:Nat):(rng m).length=m:=by unfold rng;simp
def mem_rng{m:Nat}{x:Int}:x∈rng m↔0<=x/\x<(m:Int):=by
 unfold rng;rw[nh]
 constructor
 .rintro⟨k,c,rfl⟩;have:=A9.mp c;lia
 .rintro⟨a,b⟩;exact⟨x.toNat,A9.mpr (by lia),by lia⟩
def tS(m s:Nat):Tr:=stm s (rng m) m
def fM(ps:List Int)(go:Int->Tr):Tr:=if ps.length=1 then go (ps.headD 0) else .die (ps.map λx=>(1,go x))
def wo(ps:List Int)(x:Int):List Int:=ps.filter λy=>!decide (y=x)
def pN:Nat->Nat->List Int->Nat->List Int->List Int->Tr
 | 0,_,_,_,_,tk=>.leaf tk
 | w+1,c1,P1,c2,P2,tk =>
  if c2=0 then fM P1 λx=>pN w (c1 - 1) (wo P1 x) c2 P2 (tk++[x])
  else if c1=0 then fM P2 λx=>pN w c1 P1 (c2 - 1) (wo P2 x) (tk++[x])
  else .die [((c1:Int),fM P1 λx=>pN w (c1 - 1) (wo P1 x) c2 P2 (tk++[x])),((c2:Int),fM P2 λx=>pN w c1 P1 (c2 - 1) (wo P2 x) (tk++[x]))]
def pF1(w c1:Nat)(P1:List Int)(c2:Nat)(P2 tk:List Int):Tr:=fM P1 λx=>pN w (c1 - 1) (wo P1 x) c2 P2 (tk++[x])
def pF2(w c1:Nat)(P1:List Int)(c2:Nat)(P2 tk:List Int):Tr:=fM P2 λx=>pN w c1 P1 (c2 - 1) (wo P2 x) (tk++[x])
def pN_zero(b:Nat)(a:List Int)(c:Nat)(d tk:List Int):pN 0 b a c d tk=.leaf tk:=by rw[pN]
def pN_succ(w a:Nat)(c:List Int)(b:Nat)(d tk:List Int):pN (w+1) a c b d tk=if b=0 then pF1 w a c b d tk else if a=0 then pF2 w a c b d tk else .die [((a:Int),pF1 w a c b d tk),((b:Int),pF2 w a c b d tk)]:=by rw[pN];rfl
def cn(S P:List Int):Nat:=(P.filter λx=>decide (x∈S)).length
def sE{P:List Int}{x:Int}(a:P.Nodup)(h:x∈P):P.Perm (x::wo P x):=by
 have e:wo P x=P.erase x:=by
  unfold wo;rw[a.erase_eq_filter];refine J1 λy _=>?_
  by_cases c:y=x <;> simp[c]
 rw[e];exact List.perm_cons_erase h
def xK{P:List Int}{x:Int}(a:P.Nodup)(h:x∈P):(wo P x).length=P.length - 1:=by
 have:=(sE a h).length_eq;rw[py]at this;lia
def xD{tk a b:List Int}{x:Int}(c:(tk++(a++b)).Nodup)(d:x∈a):(tk++[x]++(wo a x++b)).Nodup:=by
 have f:a.Nodup:=(rD.mp (rD.mp c).2.1).1;refine(II ?_).mp c;rw[append_assoc];exact(((sE f d).append_right b).append_left tk)
def sS{tk a b:List Int}(c:(tk++(a++b)).Nodup):(tk++(b++a)).Nodup:=(II (List.perm_append_comm.append_left tk)).mp c
open Classical in
def Iv(w c s:Nat):Prop:=s=c\/w<=s
structure Pv(w c1:Nat)(P1:List Int)(c2:Nat)(P2 tk:List Int):Prop where
 nd:(tk++(P1++P2)).Nodup
 i1:Iv w c1 P1.length
 i2:Iv w c2 P2.length
 all:w<=c1+c2
 few:tk.length+w<=24
def Pv.n1{w b:Nat}{a:List Int}{c:Nat}{d tk:List Int}(h:Pv w b a c d tk):a.Nodup:=(rD.mp (rD.mp h.nd).2.1).1
def Pv.n2{w c:Nat}{b:List Int}{d:Nat}{a tk:List Int}(h:Pv w c b d a tk):a.Nodup:=(rD.mp (rD.mp h.nd).2.1).2.1
def Pv.one{w c:Nat}{b:List Int}{f:Nat}{d tk:List Int}(h:Pv (w+1) c b f d tk)(j:0<c){x:Int}(a:x∈b):Pv w (c - 1) (wo b x) f d (tk++[x]):=by
 have i:=xK h.n1 a;have g:=IT a;have:=h.all;have:=h.few;refine⟨xD h.nd a,?_,?_,by lia,by rw[gV];show tk.length+1+w<=24;lia⟩
 .rcases h.i1 with e | e
  .exact .inl (by lia)
  .exact .inr (by lia)
 .rcases h.i2 with e | e
  .exact .inl e
  .exact .inr (by lia)
def Pv.two{w f:Nat}{d:List Int}{c:Nat}{a tk:List Int}(h:Pv (w+1) f d c a tk)(j:0<c){x:Int}(b:x∈a):Pv w f d (c - 1) (wo a x) (tk++[x]):=by
 have i:=xK h.n2 b;have g:=IT b;have:=h.all;have:=h.few;refine⟨sS (xD (sS h.nd) b),?_,?_,by lia,by rw[gV];show tk.length+1+w<=24;lia⟩
 .rcases h.i1 with e | e
  .exact .inl e
  .exact .inr (by lia)
 .rcases h.i2 with e | e
  .exact .inl (by lia)
  .exact .inr (by lia)
def Pv.ne1{w b:Nat}{a:List Int}{d:Nat}{c tk:List Int}(h:Pv (w+1) b a d c tk)(f:0<b):0<a.length:=by
 rcases h.i1 with e | e <;> lia
def Pv.ne2{w d:Nat}{c:List Int}{b:Nat}{a tk:List Int}(h:Pv (w+1) d c b a tk)(f:0<b):0<a.length:=by
 rcases h.i2 with e | e <;> lia
def rnf(s n:Nat):List Int:=(lj n).map λ(k:Nat)=>(s:Int)+(k:Int)
def mem_rnf{s n:Nat}{x:Int}:x∈rnf s n↔(s:Int)<=x/\x<(s:Int)+(n:Int):=by
 unfold rnf;rw[nh]
 constructor
 .rintro⟨k,c,rfl⟩;have:=A9.mp c;lia
 .rintro⟨a,b⟩;exact⟨(x - s).toNat,A9.mpr (by lia),by lia⟩
def rnf_len(s n:Nat):(rnf s n).length=n:=by unfold rnf;simp
def AE(s n:Nat):(rnf s n).Nodup:=JZ.mpr (IG.imp λ{a b} h e=>h (by lia))
def AL(s n:Nat):(rng s++rnf s n).Nodup:=by
 rw[rD];refine⟨(rng_hd s).nd,AE s n,λa d b c e=>?_⟩;have:=mem_rng.mp d;have:=mem_rnf.mp c;lia
def pS(w c1 s1 c2 s2:Nat):Tr:=pN w c1 (rng s1) c2 (rnf s1 s2) []
structure Pq(w c1 s1 c2 s2:Nat):Prop where
 i1:Iv w c1 s1
 i2:Iv w c2 s2
 all:w<=c1+c2
 few:w<=24
 l1:s1<=c1
 l2:s2<=c2
def Pq.pv{w c a d b:Nat}(h:Pq w c a d b):Pv w c (rng a) d (rnf a b) [] :=
 ⟨by rw[Ja];exact AL a b,by rw[rng_len];exact h.i1,by rw[rnf_len];exact h.i2,h.all,by show 0+w<=24;have:=h.few;lia⟩
end Tb
namespace L2
open PySem PySem.Spec PyProof.Rows
structure DefD where
 name:Str
 qual:Str
 params:Io
 body:List Stmt
 scope:D_
def ce(f:Addr)(d:DefD)(clos:List (Str×Addr))(c:Addr):Heap->Prop:=λh=>∃ doc pm ctv,h.get? f=some (Hc d.name d.qual d.params d.body d.scope clos doc pm c ctv)
def j7{P:hH}{w:lA}{H:Hp}{h:Heap}{f:Addr}{d:DefD}{g:List (Str×Addr)}{c:Addr}{b i a:b_}(e:h.get? f=some (Hc d.name d.qual d.params d.body d.scope g b i c a)):ObjOk P w H h f (.ext (ce f d g c)) :=
 ⟨⟨b,i,a,e⟩,⟨_,e⟩,λp o ⟨b,i,a,j⟩ k=>⟨b,i,a,k _ j⟩⟩
def DQ(tabs:d4)(d:DefD)(clos:List (Str×Addr))(i:Nat):TS:=λD σ H=>TabsOk tabs H/\∀ f c H1,SameT H H1->TabsOk tabs H1->(∀ b o,(∀ q∈tabs,q.1≠b)->H b=some o->H1 b=some o)->H f=none->H1 f=some (.ext (ce f d clos c))->H1 c=some (.ext (bU c d.qual))->D.nx (σ.set i (some (.ref f))) H1
def DefD.l(d:DefD):LamD:=⟨d.qual,d.params,default,d.scope⟩
def pG(P:hH)(w:lA)(K:Frag)(mg:Str->Option b_)(base:Heap)(k:Nat)(d:DefD)(fv ps:List Str)(sp:List V->Sp):Prop :=
 ∀(A:m_) (outer:List Env) (s:e_) (H:Hp) (f c:Addr) (clos:List (Str×Addr)) (us:List b_) (vs vals:List V) (Q:VK) (E:XK),Room k A->Env0 P w K mg base A outer s H->H f=some (.ext (ce f d clos c))->H c=some (.ext (bU c d.qual)) ->
  clos.map (·.1)=fv->(clos.map (·.2)).Nodup->CellsAt H clos vals->Vals vs us->sp vals vs H Q E->E_ (lh P w) A (.call (.ref f) ⟨us,[]⟩) (CR CX0 outer P w H s Q E) s
section
variable {P:hH}{w:lA}{K:Frag}{mg:Str->Option b_}{base:Heap}
def Be{d:DefD}{N ps:List Str}{k:Nat}{sp:List V->Sp}(S:LamScope d.l N ps)
  (D:∀(doc pm ctv:b_) (clos:List (Str×Addr)) (c:Addr) (us:List b_),us.length=ps.length->FW (fnX d.name d.qual d.params d.body d.scope clos .none .none doc pm none (.ref c) ctv) ⟨us,[]⟩=pure (ps.zip us))
  (al:∀ vals vs H Q E,sp vals vs H Q E->vs.length=ps.length)
  (B:∀(A:m_) (outer:List Env) (s:e_) (H:Hp) (f c:Addr) (clos:List (Str×Addr)) (vals vs:List V) (Q:VK) (E:XK),Room k (A.deeper (fe d.l s.heap.objs.size f c clos))->clos.map (·.1)=N->CellsAt H clos vals->sp vals vs H Q E ->
   ∃ t,PSs (cxL P w K mg base (ps++N) d.l clos f c A outer s H) d.body t/\t { nx:=λ_ H'=>∀ H3,Same H' H3->(∀ p∈clos,H3 p.2=H p.2)->Q .non H3,rt:=λv H'=>∀ H3,Same H' H3->(∀ p∈clos,H3 p.2=H p.2)->Q v H3 } ((vs++vals).map some) (untrs H (clos.map (·.2)))) :
  pG P w K mg base (k+1) d N ps sp:=by
 intro A outer s H f c clos us vs vals Q E hr x hf hc L an F r R;have hl:=al _ _ _ _ _ R;have ab:us.length=ps.length:=by rw[<- r.length];exact hl
 obtain⟨⟨doc,pm,ctv,ef⟩,_,_⟩:=x.hok f _ hf;obtain⟨⟨oc,Y,ct,ec,ed,ev⟩,_,_⟩:=x.hok c _ hc;have ah:s.heap.NoLimit:=x.mod.nolimit.keeps λb o e=>(x.bs b o e).1
 obtain⟨t,ht,hq⟩:=B A outer s H f c clos vals vs Q E (hr.deeper _) L F R;refine E5 (body:=d.body) hr.depth ef rfl S.co S.gen rfl ⟨c,oc,Y,ct,rfl,ec,ed,ev⟩ ?_;rw[D doc pm ctv clos c us ab];refine fL (G6 S.nocell (λy hy=>S.par y.1 (Fy hy).1) (λh1 hns hsb=>?_) S.kind);have hk:∀ b o,s.heap.get? b=some o->h1.get? b=some o:=λb o e=>hsb.extBut b o (kw (f_ e)) (c_ _ e)
 refine⟨ah.fresh _ hsb,?_⟩;show E_ _ _ (.func d.body (fe d.l s.heap.objs.size f c clos)) _ _;have I:=lC (f:=f) (c:=c) (tk:=s.toks+(ps.zip us).length) S hr.hd x hl r L an F hns hk;refine GK (rc (ht [] _ _ _ _ I hq) (λfl W X=>?_) λe W z=>k_ z)
 have T:∀{i:St}{H':Hp}{v:V}{u:b_},Inv (cxL P w K mg base (ps++N) d.l clos f c A outer s H) [] i H' W->RelV v u->(∀ H3,Same H' H3->(∀ p∈clos,H3 p.2=H p.2)->Q v H3)->CE outer P w H s Q u W:=λ{i H' v u} J rv q=>by
  obtain⟨cs,hcs⟩:∃ cs,cs=clos.map (·.2):=⟨_,rfl⟩
  have h:Un (frs outer) [] (untrs H (clos.map (·.2))) H' s.heap W.heap:=J.base
  have C:∀ b,b∈clos.map (·.2)->∃ o v,s.heap.get? b=some o/\H b=some (.ext (aZ b v)):=λb a=>by
   obtain⟨v,e⟩:=F.at a;obtain⟨⟨o,_,g,_⟩,_⟩:=x.hok b _ e;exact⟨o,v,g,e⟩
  have Z:∀ b∈clos.map (·.2),H' b=none:=λb a=>by
   obtain⟨o,v,g,_⟩:=C b a;exact h.free b o g (bJ a) (by simp)
  let H3:Hp:=λb=>if b∈clos.map (·.2) then H b else H' b
  have g1:∀ b,b∈clos.map (·.2)->H3 b=H b:=λb a=>if_pos a
  have g2:∀ b,b ∉ clos.map (·.2)->H3 b=H' b:=λb a=>if_neg a
  have G:Same H' H3:=λb o e=>by
   rw[g2 b λz=>by rw[Z b z]at e;cases e];exact e
  have up:∀ b o,H b=some o->(∀ v,o≠.ext (aZ b v))->b ∉ clos.map (·.2):=λb o e n z=>by
   obtain⟨v,j⟩:=F.at z;rw[e]at j;exact n v (k7 j)
  refine⟨v,H3,J.os,J.bare,⟨λb o e n a M=>h.keep b o e (aM n) a M,λb o e n a M=>h.slot b o e (aM n) a M,λb o e n M=>?_,h.there,λb xs e=>?_,λb o u e=>?_,λb ps' e=>?_⟩,λb o e=>?_,rv,q H3 G λp hp=>g1 p.2 (nh.mpr ⟨p,hp,rfl⟩)⟩
  .rw[g2 b λz=>by obtain⟨_,v,_,j⟩:=C b z;rw[n]at j;cases j]
   exact h.free b o e (aM n) M
  .exact G _ _ (h.tups b xs (aq F e λv z=>nomatch z))
  .exact G _ _ (h.frzs b o u (aq F e λv z=>nomatch z))
  .obtain⟨O,z⟩:=h.tbls b ps' (aq F e λv z=>nomatch z)
   exact⟨O,G _ _ z⟩
  .by_cases a:b∈clos.map (·.2)
   .rw[g1 b a]at e
    obtain⟨o',v',g,j⟩:=C b a;rw[e]at j;cases j;obtain⟨⟨o2,u2,k1,k2,k3⟩,_⟩:=x.hok b _ e;refine fU ⟨o2,u2,h.keep b o2 k1 (bJ a) (λz=>?_) (by simp),k2,k3⟩;rw[x.frf b z]at e;cases e
   .rw[g2 b a]at e
    refine(J.hok b o e).stay (λb' u' _ q=>q) (λb' q=>G _ _ q) λb' xs q=>G _ _ q
 cases fl with
 | ret u =>
  obtain⟨v,i,H',J,rv,q⟩:=X;exact T J rv q
 | next =>
  obtain⟨i,H',J,q⟩:=X;exact T J (show RelV .non .none from rfl) q
 | brk =>
  obtain⟨_,_,_,q⟩:=X;exact k_ q
 | cont =>
  obtain⟨_,_,_,q⟩:=X;exact k_ q
end
def Cm(d:DefD)(fv:List Str)(sp:List V->Sp):V->List V->Hp->VK->Prop:=λv vs H Q=>∃ f c clos vals,v=.ref f/\H f=some (.ext (ce f d clos c))/\H c=some (.ext (bU c d.qual))/\clos.map (·.1)=fv/\(clos.map (·.2)).Nodup/\CellsAt H clos vals/\sp vals vs H Q λ_ _ _=>False
section
variable {X:Cx}{d:DefD}{fv ps:List Str}{k:Nat}{sp:List V->Sp}{x:Str}{p:Pos}
def yP{a:List (Addr×Obj)}{j:St}{H:Hp}{s:e_}{Q:VK}{us:List b_}{vs:List V}{v:V}{u:b_}(L:pG X.prog X.w X.K X.mg X.base k d fv ps sp)(q:Room k X.A)(I:Inv X a j H s)(w:RelV v u)(r:Vals vs us)(h:Cm d fv sp v vs H Q) :
  ig (lh X.prog X.w) X.A (call u us) (EP X a j Q) X.xe s:=by
 obtain⟨f,c,b,i,rfl,x,A,y,p,o,z⟩:=h;obtain rfl:u=lb f:=w;refine Fk (A5 (L X.A X.stack s H f c b us vs i Q _ q I.env0 x A y p o r z) λr B g=>?_);cases r with
 | error e=>exact k_ g
 | ok fl =>
  cases fl with
  | ret u=>exact I.after g
  | next=>exact k_ g
  | brk=>exact k_ g
  | cont=>exact k_ g
def pW{H:Hp}{s:e_}{P:hH}{w:lA}{f c:Addr}{d:DefD}{a:List (Str×Addr)}(b:HOk P w H s.heap)(i:H f=some (.ext (ce f d a c))):FnAt f s.heap:=by
 obtain⟨⟨h,k,g,j⟩,_,_⟩:=b f _ i;exact⟨_,_,_,_,j⟩
end
section
variable {M:HN}{A:m_}{E:b_->e_->Prop}{s₀ s:e_}{m cm:Str->Option b_}{env:Env}{oc:List (Str×Addr)}
def gA:∀(names:List (Str×A2)) (n:Nat) (acc:List (Str×Addr)),oi n names acc=oi n names []++acc
 | [],n,acc=>rfl
 | (x,k)::r,n,acc=>by
  unfold oi
  split
  .rw[gA r (n+1) ((x,n)::acc),gA r (n+1) [(x,n)],append_assoc];rfl
  .exact gA r n acc
def dY{a:Type}{l b:List (Str×a)}{x:Str}{u:a}(h:l.lookup x=some u):(l++b).lookup x=some u:=by rw[JF,h];rfl
def xM{b:Type}{l a:List (Str×b)}{x:Str}{u:b}(h:l.lookup x=none)(h':a.lookup x=some u):(l++a).lookup x=some u:=by rw[JF,h,h'];rfl
def DT{n:Str}{v:b_}{Q:Unit->e_->Prop}(x:GJ s₀ env.locals m oc cm s)(g:env.scope.kind = .function)(j:env.kindOf n = some .local)
  (h:∀ s',GJ s₀ env.locals (λy=>if y = n then some v else m y) oc cm s'->Q () s'):ig M A (Hg env n v) Q E s:=by
 refine J3 j x.toInCall.ns (λi d a=>h _ ⟨⟨?_,d,λb o e=>?_,x.toInCall.fresh⟩,λk c hc=>?_,x.apart,x.above⟩) (by rw[g];rfl)
 .obtain⟨f,p,rfl⟩:=x.toInCall.same
  exact⟨i,_,rfl⟩
 .exact a.extBut b o (kw (g_ (f_ e) x.toInCall.fresh)) (x.toInCall.keep b o e)
 .exact(x.cell k c hc).sameBut a (FJ (x.above k c (q_ hc)))
def Eo{n:Str}{c:Addr}{v:b_}{Q:Unit->e_->Prop}(x:GJ s₀ env.locals m oc cm s)(j:env.scope.kind = .function)(r:env.kindOf n = some .cell)
  (f:oc.lookup n=some c) (q:env.cells.lookup n=some c)
  (h:∀ s',GJ s₀ env.locals m oc (λy=>if y = n then some v else cm y) s'->Q () s'):ig M A (Hg env n v) Q E s:=by
 have d:=x.above n c (q_ f);refine Kc j r q (x.cell n c f) λp g a=>h _ ⟨⟨?_,x.toInCall.ns.sameBut a (kw d),λb o e=>?_,x.toInCall.fresh⟩,λk c' hk'=>?_,x.apart,x.above⟩
 .obtain⟨i,u,rfl⟩:=x.toInCall.same
  exact⟨p,_,rfl⟩
 .exact a.extBut b o (kw (Hm (g_ (f_ e) x.toInCall.fresh) d)) (x.toInCall.keep b o e)
 .by_cases hkn:k=n
  .subst hkn
   rw[f]at hk';cases hk';simpa using g
  .rw[if_neg hkn]
   exact(x.cell k c' hk').sameBut a λe=>hkn (JN x.apart (q_ hk') (e ▸ q_ f))
def xw(f:Str×b_->PUnit->Sem (ForInStep PUnit))(i:∀ n v u,f (n,v) u=(do Hg env n v;pure (.yield ⟨⟩)))(d:env.scope.kind=.function)(k:∀ n c,oc.lookup n=some c->env.cells.lookup n=some c) :
  ∀(binds:List (Str×b_)) (m cm:Str->Option b_) (s:e_) (Q:PUnit->e_->Prop),GJ s₀ env.locals m oc cm s ->
   (∀ x ∈ binds,env.kindOf x.1 = some .local\/(env.kindOf x.1 = some .cell/\(oc.lookup x.1).isSome = true)) ->
   (∀ s',GJ s₀ env.locals (G3 env.kindOf binds m) oc (G4 env.kindOf binds cm) s'->Q ⟨⟩ s')->ig M A (forIn binds ⟨⟩ f) Q E s
 | [],m,cm,s,Q,x,_,h=>by rw[List.forIn_nil];exact fL (h s x)
 | (n,v)::r,m,cm,s,Q,x,hkind,h=>by
  rw[Kl,i];have o:∀ y ∈ r,env.kindOf y.1 = some .local\/(env.kindOf y.1 = some .cell/\(oc.lookup y.1).isSome = true):=λy p=>hkind y (hI _ p)
  rcases hkind (n,v) gT with a | ⟨a,g⟩
  .refine a_ (a_ (DT x d a λs' j=>fL (xw f i d k r _ _ s' Q j o λs'' x''=>h s'' ?_)))
   unfold G3 G4;rw[if_pos a,if_pos a];exact x''
  .obtain⟨c,g⟩:=FS.mp g
   have b:¬env.kindOf n = some .local:=by rw[a];decide
   refine a_ (a_ (Eo x d a g (k _ _ g) λs' j=>fL (xw f i d k r _ _ s' Q j o λs'' x''=>h s'' ?_)));unfold G3 G4;rw[if_neg b,if_neg b];exact x''
def yi{scope:D_}{d:Addr}{i:List (Str×Addr)}{f:List (Str×b_)}{k:Str}{j:Option Addr}{g:b_}{a:Addr}{Q:Env->e_->Prop}(z:scope.kind=.function)
  (p:∀ x ∈ f,scope.names.lookup x.1 = some .local\/(scope.names.lookup x.1 = some .cell/\((oi (s.heap.objs.size + 1) scope.names []).lookup x.1).isSome = true))
  (y:∀ env,env=newEnv scope s.heap.objs.size d (oi (s.heap.objs.size+1) scope.names []++i) k j g none a ->
   ∀ s',GJ s env.locals (G3 env.kindOf f λ_=>none) (oi (s.heap.objs.size + 1) scope.names []) (G4 env.kindOf f λ_=>none) s'->Q env s') :
  ig M A (Jb scope d i f k j g none a) Q E s:=by
 simp only[Jb,Jn,pa,if_false];refine a_ (wpAny_alloc ?_);refine a_ (wpAny_layCells _ (λw q v=>by cases hkc:q == GB <;> simp[hkc]) _ _ _ _ ?_);have r:=cellsFrom_ok scope.names (s.heap.push { cls:=.type "frame",data:=.dict #[] }) (s.heap.objs.size+1) [] ⟨λ_ _ u=>(nomatch u),Go⟩ (by rw[Fh];exact fS _);rw[Fh]at r;rw[show({ s with heap:=s.heap.push { cls:=.type "frame",data:=.dict #[] } }:e_).heap.objs.size=s.heap.objs.size+1 from Fh ..,gA]
 refine a_ (xw (s₀:=s) (oc:=oi (s.heap.objs.size+1) scope.names []) (env:=newEnv scope s.heap.objs.size d (oi (s.heap.objs.size+1) scope.names []++i) k j g none a)
  _ (λ_ _ _=>rfl) z (λn c h=>dY h) f (λ_=>none) (λ_=>none) _ _
  ⟨⟨⟨_,_,rfl⟩,(Heap.Ns.new s.heap (.type "frame")).keeps (LG _ _),λb o e=>LG _ _ b o (c_ _ e),fS _⟩,
   λn c B=>(r.empty n c (q_ B)).1,r.apart,λn c u=>(r.empty n c u).2⟩
  p λs' x=>fL (y _ rfl s' x))
end
def cq(d:LamD)(L f c:Addr)(clos:List (Str×Addr)):Env:={ scope:=d.scope,locals:=L,globals:=oe,cells:=oi (L+1) d.scope.names []++clos,qual:=d.qual ++ ".<locals>.",func:=some f,code:=.ref c,frame:=some L,builtins:=E8 }
def cxW(P:hH)(w:lA)(K:Frag)(mg:Str->Option b_)(base:Heap)(N:List Str)(d:LamD)(clos:List (Str×Addr))(f c:Addr)(A:m_)(outer:List Env)(s:e_)(H:Hp):Cx where
 prog:=P
 w:=w
 K:=K
 mg:=mg
 base:=base
 A:=A.deeper (cq d s.heap.objs.size f c clos)
 N:=N
 s₀:=s
 H₀:=untrs H (clos.map (·.2))
 env:=cq d s.heap.objs.size f c clos
 outer:=outer
 stack:=cq d s.heap.objs.size f c clos::outer
 ex:=[]
 calm:=true
 fn:=λx=>d.scope.names.lookup x == some .cell
 pn:=[]
 xe:=λ_ _=>False
structure BScope(d:LamD)(N fv ps:List Str):Prop where
 kind:d.scope.kind=.function
 co:d.scope.isCoroutine=false
 gen:d.scope.isGenerator=false
 nd:N.Nodup
 pre:N.take (ps++fv).length=ps++fv
 par:∀ x ∈ ps,d.scope.names.lookup x = some .local\/d.scope.names.lookup x = some .cell
 free:∀ x∈d.scope.names,x.2=.free->x.1∈fv
 fr:∀ x∈fv,d.scope.names.lookup x=some .free
 ck:∀ p∈d.scope.names,p.2=.cell->d.scope.names.lookup p.1=some .cell
def Dg{l:List (Str×Addr)}(h:(l.map (·.2)).Nodup){x y:Str}{c:Addr}(d:(x,c)∈l)(b:(y,c)∈l):x=y:=by
 have a:((l.map λp=>(p.2,p.1)).map (·.1)).Nodup:=by rw[A8];exact h
 exact congrArg KE (fY a (c,x) (nh.mpr ⟨_,d,rfl⟩) (c,y) (nh.mpr ⟨_,b,rfl⟩) rfl)
section
variable {P:hH}{w:lA}{K:Frag}{mg:Str->Option b_}{base:Heap}
def nM{d:LamD}{N a ps:List Str}(S:BScope d N a ps){n:Nat}{y:Str}{c:Addr}(h:(oi n d.scope.names []).lookup y=some c):d.scope.names.lookup y=some .cell:=by
 rcases ez _ _ _ (a4 h) with z | z
 .cases z
 .exact S.ck _ z rfl
def qM{d:LamD}{N T ps:List Str}{g:List (Str×Addr)}{f c:Addr}{A:m_}{C:List Env}{s s1:e_}{H:Hp}{us:List b_}{vs B:List V}
  (S:BScope d N T ps) (hd:A.handled=none) (L:Env0 P w K mg base A C s H) (hl:vs.length=ps.length) (r:Vals vs us) (O:g.map (·.1)=T) (a1:(g.map (·.2)).Nodup) (ca:CellsAt H g B)
  (x:GJ s s.heap.objs.size (G3 (cq d s.heap.objs.size f c g).kindOf (ps.zip us) λ_=>none) (oi (s.heap.objs.size+1) d.scope.names []) (G4 (cq d s.heap.objs.size f c g).kindOf (ps.zip us) λ_=>none) s1) :
  Inv (cxW P w K mg base N d g f c A C s H) [] (start N (vs++B)) (untrs H (g.map (·.2))) s1:=by
 have a':us.length=ps.length:=by rw[<- r.length];exact hl
 have a3:B.length=g.length:=(rn ca).symm;have bb:g.length=T.length:=by rw[<- O,d_]
 have Q:(ps++T).Nodup:=by rw[<- S.pre];exact S.nd.sublist (JO _ _)
 have al:(g.map (·.1)).Nodup:=by rw[O];exact(rD.mp Q).2.1
 have ab:ps.Nodup:=(rD.mp Q).1;have as:(ps++T).length<=N.length:=by have:=congrArg GF S.pre;rw[mx]at this;lia
 have a2:ps.length+T.length<=N.length:=by rwa [gV]at as
 obtain⟨h1,tk,rfl,hk⟩:=x.done
 obtain⟨oc,hoc⟩:∃ oc,oc=oi (s.heap.objs.size+1) d.scope.names []:=⟨_,rfl⟩
 have I:(cxW P w K mg base N d g f c A C s H).env.cells=oc++g:=by rw[hoc];rfl
 have an:∀ y j,oc.lookup y=some j->d.scope.names.lookup y=some .cell:=λy j h=>nM S (by rw[<- hoc];exact h)
 rw[<- hoc]at x;have Y:∀ y j,(y,j)∈g->j∈g.map (·.2):=λy j e=>nh.mpr ⟨(y,j),e,rfl⟩
 have D:∀ b v,H b=some (.ext (aZ b v))->∃ u,RelV v u/\h1.IsCell b (some u)/\b<s.heap.objs.size:=λb v e=>by
  obtain⟨⟨o,u,Z,J,g3⟩,_⟩:=L.hok b _ e;exact⟨u,g3,⟨o,hk _ _ Z,J⟩,f_ Z⟩
 have W:∀ y j,(y,j)∈g->j<s.heap.objs.size:=λy j h=>by
  obtain⟨v,e⟩:=ca.at (Y y j h);obtain⟨_,_,_,lt⟩:=D _ _ e;exact lt
 have G:∀ y j,(y,j)∈oc->s.heap.objs.size<j:=λy j h=>x.above y j h
 have X:∀ b:Addr,b ∉ (cxW P w K mg base N d g f c A C s H).ex:=λb z=>absurd (show b∈([]:List Addr) from z) (by simp)
 have F:∀{y j},(cxW P w K mg base N d g f c A C s H).env.cells.lookup y=some j->(y,j)∈oc\/(y,j)∈g:=λ{y j} h=>by
  rw[I]at h;exact wh.mp (a4 h)
 have E:∀ y,d.scope.names.lookup y=some .cell->∃ j,oc.lookup y=some j:=λy h=>by rw[hoc];exact lE h
 refine⟨⟨L.mod,S.kind,rfl,rfl,fS _,λy z j h1 h2=>?_,λy hy=>?_,λy j hf h=>?_,λ_=>hd,Gu L.frames,.inr ⟨rfl,rfl⟩,λb z=>absurd z (X b),λb o e=>⟨(L.bs b o e).1,aM (L.bs b o e).2⟩,L.bsz,λb _ _=>X b,λb z=>absurd z (X b),L.funs,λb hb=>aM (L.frf b hb)⟩,
  rfl,L.bare,Un.kept hk,⟨_,x.toInCall.ns,λi y v Z J g3=>?_⟩,λy j h=>?_,aM (L.hok.fresh (fS _)),λy j h=>?_,λp M=>absurd (show p∈([]:List (Addr×Obj)) from M) (by simp),λb u e=>?_,?_⟩
 .rcases F h1 with k1 | k1 <;> rcases F h2 with k2 | k2
  .exact JN x.apart k1 k2
  .exact absurd (Hm (G _ _ k1) (W _ _ k2)) (o5 _)
  .exact absurd (Hm (G _ _ k2) (W _ _ k1)) (o5 _)
  .exact Dg a1 k1 k2
 .have hy:d.scope.names.lookup y=some .cell\/d.scope.names.lookup y=some .free:=hy
  rw[I]
  rcases hy with hy | hy
  .obtain⟨j,e⟩:=E y hy
   exact⟨j,dY e⟩
  .have:=S.free _ (a4 hy) rfl
   rw[<- O]at this;obtain⟨p,M,e⟩:=nh.mp this;have e':p.1=y:=e;have h1:g.lookup y=some p.2:=bQ al (by show(y,p.2)∈g;rw[<- e'];exact M);cases q:oc.lookup y with
   | none=>exact⟨p.2,xM q h1⟩
   | some j=>exact⟨j,dY q⟩
 .have hf:(d.scope.names.lookup y == some .cell)=true:=hf
  have hf:=eq_of_beq hf;obtain⟨c2,e⟩:=E y hf;rw[I,dY e]at h;cases h;exact rA (G y _ (a4 e))
 .have Z:N[i]? = some y:=Z
  have hi:i<(vs++B).length:=by
   unfold start at J
   by_cases hi:i<(vs++B).length
   .exact hi
   .rw[o_ (by simpa using hi),IL]at J
    split at J <;> cases J
  have ha:(vs++B)[i]? = some v:=by
   unfold start at J;rw[p0 (by simpa using hi),gb]at J;cases e:(vs++B)[i]? with
   | none=>rw[e]at J;cases J
   | some a=>rw[e]at J;cases J;rfl
  have a5:(vs++B).length=ps.length+T.length:=by rw[gV];lia
  have M:(ps++T)[i]? = some y:=by rw[<- S.pre,ID (by rw[gV];lia)];exact Z
  by_cases hi2:i<ps.length
  .rw[p0 (by lia)]at ha
   rw[p0 hi2]at M;obtain⟨u,hu,rv⟩:=r.get ha;refine⟨u,rv,?_⟩
   rcases S.par y (ge M) with k | k
   .exact .inl ⟨k,iX ab M hu k⟩
   .obtain⟨j,e⟩:=E y k
    refine .inr ⟨.inl k,j,by rw[I];exact dY e,?_⟩;have q:=x.cell y j e;rw[i3 ab M hu (by show d.scope.names.lookup y≠_;rw[k];decide)]at q;exact q
  .rw[o_ (by lia)]at ha
   rw[o_ (by lia)]at M;rw[hl]at ha;obtain⟨p,ah,e⟩:=ca.get ha;rw[<- O,gb,ah]at M;cases M;obtain⟨u,rv,ic,_⟩:=D _ _ e;have R:=ge ah;have kf:=S.fr p.1 (by rw[<- O];exact nh.mpr ⟨p,R,rfl⟩);refine⟨u,rv,.inr ⟨.inr kf,p.2,?_,ic⟩⟩;rw[I];refine xM ?_ (bQ al R);cases q:oc.lookup p.1 with
   | none=>rfl
   | some j=>have:=an _ _ q;rw[kf]at this;cases this
 .rcases F h with k | k
  .have a0:oc.lookup y=some j:=by
    cases q:oc.lookup y with
    | none =>
     exfalso
     have:d.scope.names.lookup y=some .cell:=by
      rcases ez _ _ _ (show(y,j)∈oi (s.heap.objs.size+1) d.scope.names [] by rw[<- hoc];exact k) with z | z
      .cases z
      .exact S.ck _ z rfl
     obtain⟨c2,e⟩:=E y this;rw[q]at e;cases e
    | some c2=>rw[I,dY q]at h;exact h
   exact⟨_,x.cell y j a0⟩
  .obtain⟨v,e⟩:=ca.at (Y y j k)
   obtain⟨u,_,ic,_⟩:=D _ _ e;exact⟨_,ic⟩
 .rcases F h with k | k
  .exact aM (L.hok.fresh (rA (G y j k)))
  .exact bJ (Y y j k)
 .by_cases hb:b∈g.map (·.2)
  .rw[bJ hb]at e;cases e
  .rw[ay hb]at e
   refine(L.hok b u e).stay (λb' u' _ q=>hk b' u' q) (λb' q=>?_) λb' xs q=>?_
   .exact aq ca q λv z=>nomatch z
   .exact aq ca q λv z=>nomatch z
 .show(start N (vs++B)).length=N.length
  unfold start;rw[gV,d_,EK,gV];lia
def yW{d:List Env}{s x:e_}{A:m_}{H H':Hp}{a:List (Str×Addr)}{r:List V}(E:Env0 P w K mg base A d s H)(B:CellsAt H a r)(f:Un (frs d) [] (untrs H (a.map (·.2))) H' s.heap x.heap)(D:HOk P w H' x.heap) :
  ∃ H3,Same H' H3/\(∀ p∈a,H3 p.2=H p.2)/\(∀ b,b ∉ a.map (·.2)->H3 b=H' b)/\Un (frs d) [] H H3 s.heap x.heap/\HOk P w H3 x.heap:=by
 obtain⟨cs,hcs⟩:∃ cs,cs=a.map (·.2):=⟨_,rfl⟩
 have h:∀ b,b∈a.map (·.2)->∃ o v,s.heap.get? b=some o/\H b=some (.ext (aZ b v)):=λb c=>by
  obtain⟨v,e⟩:=B.at c;obtain⟨⟨o,_,g,_⟩,_⟩:=E.hok b _ e;exact⟨o,v,g,e⟩
 have C:∀ b∈a.map (·.2),H' b=none:=λb c=>by
  obtain⟨o,v,g,_⟩:=h b c;exact f.free b o g (bJ c) (by simp)
 let H3:Hp:=λb=>if b∈a.map (·.2) then H b else H' b
 have I:∀ b,b∈a.map (·.2)->H3 b=H b:=λb c=>if_pos c
 have y:∀ b,b ∉ a.map (·.2)->H3 b=H' b:=λb c=>if_neg c
 have i:Same H' H3:=λb o e=>by
  rw[y b λz=>by rw[C b z]at e;cases e];exact e
 refine⟨H3,i,λp J=>I p.2 (nh.mpr ⟨p,J,rfl⟩),y,⟨λb o e n c hx=>f.keep b o e (aM n) c hx,λb o e n c hx=>f.slot b o e (aM n) c hx,λb o e n hx=>?_,f.there,λb xs e=>?_,λb o u e=>?_,λb ps' e=>?_⟩,λb o e=>?_⟩
 .rw[y b λz=>by obtain⟨_,v,_,j⟩:=h b z;rw[n]at j;cases j]
  exact f.free b o e (aM n) hx
 .exact i _ _ (f.tups b xs (aq B e λv z=>nomatch z))
 .exact i _ _ (f.frzs b o u (aq B e λv z=>nomatch z))
 .obtain⟨k,z⟩:=f.tbls b ps' (aq B e λv z=>nomatch z)
  exact⟨k,i _ _ z⟩
 .by_cases c:b∈a.map (·.2)
  .rw[I b c]at e
   obtain⟨S,Q,g,j⟩:=h b c;rw[e]at j;cases j;obtain⟨⟨G,N,M,O,L⟩,_⟩:=E.hok b _ e;refine fU ⟨G,N,f.keep b G M (bJ c) (λz=>?_) (by simp),O,L⟩;rw[E.frf b z]at e;cases e
  .rw[y b c]at e
   exact(D b o e).stay (λF R _ q=>q) (λF q=>i _ _ q) λF xs q=>i _ _ q
def Bl{d:LamD}{N fv ps:List Str}{a:List (Str×Addr)}{f c:Addr}{A:m_}{g:List Env}{s E:e_}{H H':Hp}{R:List V}{Z:St}(S:BScope d N fv ps)(e0:Env0 P w K mg base A g s H)(ca:CellsAt H a R)
  {L:List (Addr×Obj)}(J:Inv (cxW P w K mg base N d a f c A g s H) L Z H' E) :
  ∃ H3,Same H' H3/\gt (oi (s.heap.objs.size+1) d.scope.names []) N Z H3/\(∀ p∈a,H3 p.2=H p.2)/\(∀ b,H' b=none->H3 b≠none->(∃ y,(oi (s.heap.objs.size+1) d.scope.names []).lookup y=some b)\/b∈a.map (·.2))/\Un (frs g) [] H H3 s.heap E.heap/\HOk P w H3 E.heap:=by
 obtain⟨oc,hoc⟩:∃ l,l=oi (s.heap.objs.size+1) d.scope.names []:=⟨_,rfl⟩
 rw[<- hoc];have C:∀ y D,oc.lookup y=some D->d.scope.names.lookup y=some .cell:=λy D e=>nM S (by rw[<- hoc];exact e)
 have x:∀{y D},oc.lookup y=some D->(cxW P w K mg base N d a f c A g s H).env.cells.lookup y=some D:=λ{y D} e=>by
  show(oi (s.heap.objs.size+1) d.scope.names []++a).lookup y=some D;rw[<- hoc];exact dY e
 let G:Addr->V->Prop:=λb v=>∃(i:Nat) (y:Str),N[i]? = some y/\Z[i]? = some (some v)/\oc.lookup y=some b
 have G1:∀ b v X,G b v->G b X->v=X:=by
  rintro b v X ⟨i,y,Q,O,B⟩ ⟨j,z,b1,b2,b3⟩;have:y=z:=J.ok.inj y z b (x B) (x b3);subst this;have:i=j:=iq S.nd Q b1;subst this;rw[O]at b2;cases b2;rfl
 have Y:∀ b v,G b v->H' b=none/\s.heap.objs.size<=b/\aZ b v E.heap:=by
  rintro b v ⟨i,y,Q,O,B⟩;refine⟨J.freeC y b (x B),J.ok.cab y b (by show(d.scope.names.lookup y == some .cell)=true;rw[C y b B];rfl) (x B),?_⟩;obtain⟨m,hn,hl⟩:=J.loc;obtain⟨u,r,l⟩:=hl i y v Q O (.inr (.inl (C y b B)))
  rcases l with⟨k,_⟩ | ⟨k,c2,e,o,ho,hd⟩
  .exfalso
   have k:d.scope.names.lookup y = some .local:=k;rw[C y b B]at k;cases k
  .rw[x B]at e
   cases e;exact⟨o,u,ho,hd,r⟩
 classical
 let H2:Hp:=λb=>if h:∃ v,G b v then some (.ext (aZ b (FP h))) else H' b
 have g1:∀ b v,G b v->H2 b=some (.ext (aZ b v)):=λb v h=>by
  have T:∃ v,G b v:=⟨v,h⟩
  show(if h:∃ v,G b v then some (.ext (aZ b (FP h))) else H' b)=_;rw[dif_pos T,G1 b _ v (Ij T) h]
 have W:∀ b,(¬∃ v,G b v)->H2 b=H' b:=λb h=>dif_neg h
 have I:Same H' H2:=λb o e=>by
  rw[W b λ⟨v,z⟩=>by rw[(Y b v z).1]at e;cases e];exact e
 have F:Un (frs g) [] (untrs H (a.map (·.2))) H' s.heap E.heap:=J.base
 have u2:Un (frs g) [] (untrs H (a.map (·.2))) H2 s.heap E.heap:=⟨F.keep,F.slot,λb o e n T=>by
   rw[W b λ⟨v,z⟩=>absurd (g_ (f_ e) (Y b v z).2.1) (o5 _)]
   exact F.free b o e n T,F.there,λb xs e=>I _ _ (F.tups b xs e),λb o u e=>I _ _ (F.frzs b o u e),λb ps e=>by
   obtain⟨M,z⟩:=F.tbls b ps e
   exact⟨M,I _ _ z⟩⟩
 have k2:HOk P w H2 E.heap:=λb o e=>by
  by_cases h:∃ v,G b v
  .obtain⟨v,h⟩:=h
   rw[g1 b v h]at e;cases e;exact fU (Y b v h).2.2
  .rw[W b h]at e
   exact(J.hok b o e).stay (λb' u' _ q=>q) (λb' q=>I _ _ q) λb' xs q=>I _ _ q
 obtain⟨H3,s3,r3,o3,u3,k3⟩:=yW e0 ca u2 k2;refine⟨H3,λb o e=>s3 b o (I b o e),λi y v D Q O B=>s3 _ _ (g1 D v ⟨i,y,Q,O,B⟩),r3,λb n1 n2=>?_,u3,k3⟩
 by_cases hb:b∈a.map (·.2)
 .exact .inr hb
 .rw[o3 b hb]at n2
  by_cases h:∃ v,G b v
  .obtain⟨v,i,y,_,_,B⟩:=h
   exact .inl ⟨y,B⟩
  .rw[W b h]at n2
   exact absurd n1 n2
end
end L2
namespace L2
open PySem PySem.Spec PySem.Calls PyProof.Rows
def bZ(c:Addr)(q:Str)(T:Addr):Heap->Prop:=λh=>bU c q h/\Jc h c T
section
variable {P:hH}{w:lA}{H:Hp}{h:Heap}
def vj{c T:Addr}{q:Str}(x:bZ c q T h):ObjOk P w H h c (.ext (bZ c q T)) :=
 ⟨x,let ⟨⟨o,_,_,e,_⟩,_⟩:=x;⟨o,e⟩,λB A ⟨⟨o,i,t,j,r⟩,s,a,u,b,y,f,p,v,d,z,g⟩ k=>⟨⟨o,i,t,k _ j,r⟩,s,a,u,b,y,f,p,v,d,k _ z,g⟩⟩
end
def fJ{f:Addr}{d:DefD}{a:List (Str×Addr)}{c:Addr}{v:V}:HO.ext (ce f d a c)≠HO.ext (aZ f v):=λe=>by
 injection e with e
 obtain⟨h,g⟩:=dU f (Hc d.name d.qual d.params d.body d.scope a .none .none c .none) (by intro z;cases z);have y:aZ f v h:=by rw[<- e];exact⟨_,_,_,g⟩
 obtain⟨o,u,b,i,_⟩:=y;rw[g]at b;cases b;cases i
def eM{f:Addr}{d:DefD}{g a:List (Str×Addr)}{c i:Addr}{d':LamD}:HO.ext (ce f d g c)≠HO.ext (b9 f d' a i):=λe=>by
 injection e with e
 obtain⟨h,j⟩:=dU f (Hc d.name d.qual d.params d.body d.scope g .none .none c .none) (by intro z;cases z);have y:b9 f d' a i h:=by rw[<- e];exact⟨_,_,_,j⟩
 obtain⟨o,u,b⟩:=y;rw[j]at b;injection b with b
 injection b with _ _ b
 injection b with b
 injection b with _ _ _ b
 cases b
def nV{f:Addr}{d d':LamD}{g a:List (Str×Addr)}{c i:Addr}(e:HO.ext (b9 f d g c)=HO.ext (b9 f d' a i)):d.qual=d'.qual:=by
 injection e with e
 obtain⟨h,j⟩:=dU f (IS "<lambda>" d.qual d.params d.body d.scope g .none c .none) (by intro z;cases z);have y:b9 f d' a i h:=by rw[<- e];exact⟨_,_,j⟩
 obtain⟨o,u,b⟩:=y;rw[j]at b;injection b with b
 injection b with _ _ b
 injection b with b
 injection b
def pJ{b p:Addr}{v:V}(e:HO.ext (aZ b (.ref p))=HO.ext (aZ b v)):v=.ref p:=by
 injection e with e
 obtain⟨h,c⟩:=dU b { cls:=.type "cell",data:=.cell (some (.ref p)) } (by intro z;cases z);have y:aZ b v h:=by rw[<- e];exact⟨_,_,c,rfl,rfl⟩
 obtain⟨o,u,a,d,r⟩:=y;rw[c]at a;cases a;cases d
 cases v <;> first | (obtain⟨_,z⟩:=r;cases z;done) | (cases r;rfl) | (cases r;done)
def PWc(X:Cx)(H0:Hp)(sts:List Stmt)(t:TR):Prop :=
 ∀(pins:List (Addr×Obj)) (s:e_) (σ:St) (H:Hp) (R:VK) (Z:V->St->Hp->Prop),Inv X pins σ H s->t R Z σ H ->
  ig (lh X.prog X.w) X.A (execs sts X.env) (λf s'=>∃ u,f=.ret u/\((∃ v σ' H',Inv X pins σ' H' s'/\RelV v u/\Z v σ' H')\/∃ v H',s'.os=X.s₀.os/\FD s'.gens/\Un X.fs X.ex H0 H' X.s₀.heap s'.heap/\HOk X.prog X.w H' s'.heap/\RelV v u/\R v H')) X.xe s
def ph{X:Cx}{c:Hp}{st:Stmt}{rest:List Stmt}{t:TS}{u:TR}(i:PS X st t)(g:PWc X c rest u):PWc X c (st::rest) (λR Z σ H=>t { nx:=u R Z,rt:=λ_ _=>False } σ H):=by
 intro a s σ H R Z I h;refine B0 (thn (i a s σ H { nx:=u R Z,rt:=λ_ _=>False } I h) λf s1 q=>?_);cases f with
 | next =>
  obtain⟨b,d,j,q⟩:=q;exact g a s1 b d R Z j q
 | ret v=>obtain⟨_,_,_,_,_,q⟩:=q;exact k_ q
 | brk=>obtain⟨_,_,_,q⟩:=q;exact k_ q
 | cont=>obtain⟨_,_,_,q⟩:=q;exact k_ q
def vU(q:Str):Stmt->DefD
 | .FunctionDef n p b _ _ _ s _ _ _=>⟨n,q,p,b,s⟩
 | _=>⟨"",q,default,[],default⟩
def vy:Stmt->Pos
 | .FunctionDef _ _ _ _ _ _ _ _ _ p=>p
 | _=>⟨0,0,0,0⟩
abbrev ocB(d:LamD)(s:e_):List (Str×Addr):=oi (s.heap.objs.size+1) d.scope.names []
section
variable {P:hH}{w:lA}{K:Frag}{mg:Str->Option b_}{base:Heap}
def pZ{d:LamD}{N fv a5:List Str}{i:List (Str×Addr)}{ab:List V}{f c:Addr}{A:m_}{a:List Env}{s:e_}{H:Hp}{k:Nat}{g:Addr}{fd:p_}{ps:List Str}{sp:Sp}{ds:List b_}{G:List V}{x:Str}{p L rp:Pos}{e:Expr}{es:List Expr}{t:TA}
  (S:BScope d N fv a5) (M:Env0 P w K mg base A a s H) (ca:CellsAt H i ab)
  (F:FnOk P w K mg base CX0 k g fd ps sp) (hr:Room k (cxW P w K mg base N d i f c A a s H).A) (hg:Gl (cxW P w K mg base N d i f c A a s H) x) (hm:mg x=some (.ref g)) (hk:Fp K (.ref g)=true) (j:Binds K fd ps ds) (hd:Vals G ds)
  (ha:PA (cxW P w K mg base N d i f c A a s H) (e::es) t) (an:(x == ("__debug__" : Str))=false:=by decide)
  (he:lg (e::es) (cxW P w K mg base N d i f c A a s H).env=(false,eval e (cxW P w K mg base N d i f c A a s H).env)::lg es (cxW P w K mg base N d i f c A a s H).env:=by rfl)
  (a1:(z_ L (lg es (cxW P w K mg base N d i f c A a s H).env)).any (·.1)=false:=by rfl) :
  PWc (cxW P w K mg base N d i f c A a s H) H [.Return (some (.Call (.Name x p) (e::es) [] L)) rp]
   (λR _ σ H'=>t σ H' λvs H1=>∀ H3,Same H1 H3->(∀ p∈i,H3 p.2=H p.2)->gt (ocB d s) N σ H3->(∀ y b,(ocB d s).lookup y=some b->H1 b=none)->sp (vs++G) H3 R λ_ _ _=>False):=by
 intro Q s1 σ H1 R Z I h;refine B0 (Gg ?_);refine ql (eQ I hg hm ?_ an);refine GI (h₀:=base) I.ok.mod.kin hk (thn (ha L Q s1 σ H1 _ I h) λY s2 ⟨vs,H2,J,r,q⟩=>⟨J.kIn,?_⟩) he a1;obtain⟨H3,sm,hc,al,O,D,a2⟩:=Bl S M ca J;have r2:Vals (vs++G) (Y++ds):=r.append hd;have q':=q H3 sm al hc λy b e=>J.freeC y b (dY e)
 have hl:(Y++ds).length=ps.length:=by rw[<- r2.length];exact F.len _ _ _ _ q'
 have hL:∀ b∈frs (cq d s.heap.objs.size f c i::a),b=s.heap.objs.size\/b∈frs a:=λb j=>by
  have:b∈s.heap.objs.size::frs a:=j;exact i_.mp this
 have as:∀ b∈i.map (·.2),b<s.heap.objs.size/\b ∉ frs a:=λb j=>by
  obtain⟨v,e⟩:=ca.at j;obtain⟨⟨o,_,g1,_⟩,_⟩:=M.hok b _ e;exact⟨f_ g1,λz=>by rw[M.frf b z]at e;cases e⟩
 have E:Env0 P w K mg base (cxW P w K mg base N d i f c A a s H).A (cq d s.heap.objs.size f c i::a) s2 H3:=by
  have z:=J.env0;refine⟨z.frames,z.mod,λb o e=>⟨(z.bs b o e).1,D.free b o (M.bs b o e).1 (M.bs b o e).2 (by simp)⟩,z.bsz,z.funs,λb j=>?_,a2,z.bare⟩;cases q3:H3 b with
  | none=>rfl
  | some o =>
   rcases O b (z.frf b j) (by rw[q3];simp) with⟨y,hy⟩ | hy
   .rcases hL b j with rfl | hb'
    .exact absurd rfl (J.cne y _ (dY hy))
    .obtain⟨_,o',a3,_⟩:=M.funs.mem hb'
     have:=J.ok.cab y b (by show(d.scope.names.lookup y == some .cell)=true;rw[nM S hy];rfl) (dY hy);exact absurd (g_ (f_ a3) this) (o5 _)
   .obtain⟨c1,c2⟩:=as b hy
    rcases hL b j with rfl | hb'
    .exact absurd c1 (o5 _)
    .exact absurd hb' c2
 refine Fk (A5 (F.run _ _ s2 H3 ⟨Y,[]⟩ (Y++ds) (vs++G) R _ hr E (j s2 Y J.kIn hl) r2 q') λrr s' X=>?_);cases rr with
 | error e=>exact k_ X
 | ok fl =>
  cases fl with
  | ret u =>
   obtain⟨v,H4,os,T,B,W,rv,qq⟩:=X
   have ah:∀ b o,s.heap.get? b=some o->b ∉ frs a->b ∉ frs (cq d s.heap.objs.size f c i::a):=λb o e n z=>by
    rcases hL b z with rfl | z
    .exact absurd (f_ e) (o5 _)
    .exact n z
   have a':∀ b,b∈frs a->b∈frs (cq d s.heap.objs.size f c i::a):=λb z=>by
    show b∈s.heap.objs.size::frs a;exact hI _ z
   refine⟨u,rfl,.inr ⟨v,H4,os.trans J.os,T,⟨λb o e n j C=>B.keep b o (D.keep b o e n j C) (D.free b o e n C) (ah b o e j) C,λb o e n j C=>?_,λb o e n C=>?_,λb o e C=>?_,λb xs e=>B.tups b xs (D.tups b xs e),λb o u e=>B.frzs b o u (D.frzs b o u e),λb qs e=>?_⟩,W,rv,qq⟩⟩
   .obtain⟨sl,E⟩:=D.slot b o e n j C
    obtain⟨a0,e2⟩:=B.slot b _ E (D.free b o e n C) (a' b j) C;exact⟨a0,e2⟩
   .obtain⟨o',E⟩:=D.there b o e C
    exact B.free b o' E (D.free b o e n C) C
   .obtain⟨o',E⟩:=D.there b o e C
    exact B.there b o' E C
   .obtain⟨m1,E⟩:=D.tbls b qs e
    obtain⟨m2,e2⟩:=B.tbls b _ E;exact⟨m1++m2,by rw[e2,E9]⟩
  | next=>exact k_ X
  | brk=>exact k_ X
  | cont=>exact k_ X
end
def eL(P:hH)(w:lA)(K:Frag)(mg:Str->Option b_)(base:Heap)(k:Nat)(d:DefD)(fv ps:List Str)(sp:Addr->List (Str×Addr)->List V->Sp):Prop :=
 ∀(A:m_) (outer:List Env) (s:e_) (H:Hp) (f c T:Addr) (clos:List (Str×Addr)) (us:List b_) (vs vals:List V) (Q:VK) (E:XK),Room k A->Env0 P w K mg base A outer s H->H f=some (.ext (ce f d clos c))->H c=some (.ext (bZ c d.qual T)) ->
  clos.map (·.1)=fv->(clos.map (·.2)).Nodup->CellsAt H clos vals->Vals vs us->sp T clos vals vs H Q E->E_ (lh P w) A (.call (.ref f) ⟨us,[]⟩) (CR CX0 outer P w H s Q E) s
section
variable {P:hH}{w:lA}{K:Frag}{mg:Str->Option b_}{base:Heap}
def tj{d:DefD}{N C ps:List Str}{k:Nat}{sp:Addr->List (Str×Addr)->List V->Sp}(S:BScope d.l N C ps)
  (g:∀(doc pm ctv:b_) (clos:List (Str×Addr)) (c:Addr) (us:List b_),us.length=ps.length->FW (fnX d.name d.qual d.params d.body d.scope clos .none .none doc pm none (.ref c) ctv) ⟨us,[]⟩=pure (ps.zip us))
  (G:∀ T clos vals vs H Q E,sp T clos vals vs H Q E->vs.length=ps.length)
  (a:∀(A:m_) (outer:List Env) (s:e_) (H:Hp) (f c T:Addr) (clos:List (Str×Addr)) (vals vs:List V) (Q:VK) (E:XK),Room k (A.deeper (cq d.l s.heap.objs.size f c clos))->Env0 P w K mg base A outer s H->clos.map (·.1)=C->(clos.map (·.2)).Nodup->CellsAt H clos vals->H c=some (.ext (bZ c d.qual T))->sp T clos vals vs H Q E ->
   ∃ t,PWc (cxW P w K mg base N d.l clos f c A outer s H) H d.body t/\t Q (λ_ _ _=>False) (start N (vs++vals)) (untrs H (clos.map (·.2)))) :
  eL P w K mg base (k+1) d C ps sp:=by
 intro A outer s H f c T clos us vs vals Q E D h hf R i p W r j;have M:=G _ _ _ _ _ _ _ j;have B:us.length=ps.length:=by rw[<- r.length];exact M
 obtain⟨⟨doc,pm,ctv,ef⟩,_,_⟩:=h.hok f _ hf;obtain⟨⟨⟨oc,y,ct,ec,X,Y⟩,_⟩,_,_⟩:=h.hok c _ R;have F:s.heap.NoLimit:=h.mod.nolimit.keeps λb o e=>(h.bs b o e).1
 obtain⟨t,Z,hq⟩:=a A outer s H f c T clos vals vs Q E (D.deeper _) h i p W R j;refine E5 (body:=d.body) D.depth ef rfl S.co S.gen rfl ⟨c,oc,y,ct,rfl,ec,X,Y⟩ ?_;rw[g doc pm ctv clos c us B];refine fL (yi S.kind (λ⟨n,v⟩ hy=>?_) λenv he s1 x=>?_)
 .rcases S.par n (Fy hy).1 with q | q
  .exact .inl q
  .exact .inr ⟨q,FX _ _ _ (.inl q)⟩
 subst he;refine⟨F.keeps x.toInCall.keep,?_⟩;show E_ _ _ (.func d.body (cq d.l s.heap.objs.size f c clos)) _ _;have I:=qM (N:=N) (d:=d.l) (f:=f) (c:=c) S D.hd h M r i p W x;refine GK (rc (Z [] _ _ _ Q (λ_ _ _=>False) I hq) (λfl s' hs=>?_) λe s' z=>k_ z);obtain⟨u,rfl,⟨v,ab,O,J,L,q⟩ | ⟨v,O,g1,g2,g3,g4,L,q⟩⟩:=hs
 .exact k_ q
 .exact⟨v,O,g1,g2,g3,g4,L,q⟩
end
def CB(d:DefD)(fv:List Str)(sp:Addr->List (Str×Addr)->List V->Sp):V->List V->Hp->VK->Prop:=λv vs H Q=>∃ f c T clos vals,v=.ref f/\H f=some (.ext (ce f d clos c))/\H c=some (.ext (bZ c d.qual T))/\clos.map (·.1)=fv/\(clos.map (·.2)).Nodup/\CellsAt H clos vals/\sp T clos vals vs H Q λ_ _ _=>False
structure CallD(X:Cx)(rd:V->List V->Hp->VK->Prop):Prop where
 fn:∀{v vs H Q},rd v vs H Q->∃ f d clos c,v=.ref f/\H f=some (.ext (ce f d clos c))
 run:∀{pins σ H s Q us vs v u},Inv X pins σ H s->RelV v u->Vals vs us->rd v vs H Q->ig (lh X.prog X.w) X.A (call u us) (EP X pins σ Q) X.xe s
def AO(rd:V->List V->Hp->VK->Prop)(tf:TE)(t:TA):TE:=λσ H Q=>tf σ H λv H1=>(∃ f d clos c,v=.ref f/\H1 f=some (.ext (ce f d clos c)))/\t σ H1 λvs H2=>rd v vs H2 Q
section
variable {X:Cx}{d:DefD}{fv ps:List Str}{k:Nat}{x:Str}{p pos:Pos}{tf:TE}{t:TA}{e:Expr}{es:List Expr}
def Cl{sp:List V->Sp}(L:pG X.prog X.w X.K X.mg X.base k d fv ps sp)(i:Room k X.A):CallD X (Cm d fv sp):=⟨λ⟨f,c,a,b,j,g,_⟩=>⟨f,d,a,c,j,g⟩,λI rv r h=>yP L i I rv r h⟩
def vQ{sp:Addr->List (Str×Addr)->List V->Sp}(L:eL X.prog X.w X.K X.mg X.base k d fv ps sp)(p:Room k X.A):CallD X (CB d fv sp):=⟨λ⟨f,c,T,a,b,j,i,_⟩=>⟨f,d,a,c,j,i⟩,λ{pins σ H s Q us vs v u} I rv r h=>by
 obtain⟨f,c,T,a,b,rfl,q,x,j,i,o,w⟩:=h;obtain rfl:u=lb f:=rv;refine Fk (A5 (L X.A X.stack s H f c T a us vs b Q _ p I.env0 q x j i o r w) λr y g=>?_);cases r with
 | error e=>exact k_ g
 | ok fl =>
  cases fl with
  | ret u=>exact I.after g
  | next=>exact k_ g
  | brk=>exact k_ g
  | cont=>exact k_ g⟩
def kZ{g:V->List V->Hp->VK->Prop}(J:PE X (.Name x p) tf)(C:CallD X g)(z:PA X (e::es) t)
  (B:lg (e::es) X.env=(false,eval e X.env)::lg es X.env:=by rfl) (b:(z_ pos (lg es X.env)).any (·.1)=false:=by rfl):PE X (.Call (.Name x p) (e::es) [] pos) (AO g tf t):=by
 intro a s j H Q I h;refine ql (thn (J a s j H _ I h) λu D ⟨v,w,d,y,⟨f,O,k,c,A,K⟩,q⟩=>?_);subst A;obtain rfl:u=lb f:=y;refine callWith_F (pW d.hok K) (thn (z pos a D j w _ d q) λP L ⟨S,T,o,r,i⟩=>⟨?_,C.run o (v:=.ref f) rfl r i⟩) B b;obtain⟨M,N,E,R,F,G⟩:=C.fn i;cases F;exact pW o.hok G
end
def Dt(P c:Addr)(tabs:d4)(d:LamD)(clos:List (Str×Addr)):TE:=λσ H Q=>(∃ q,H c=some (.ext (bZ c q P)))/\Dj tabs d clos σ H Q
def Cv(P c:Addr)(tabs:d4)(d:DefD)(clos:List (Str×Addr))(i:Nat):TS:=λD σ H=>(∃ q,H c=some (.ext (bZ c q P)))/\DQ tabs d clos i D σ H
section
variable {X:Cx}{tabs:d4}{P c:Addr}{ls:List (Pos×Str)}{d:LamD}{clos:List (Str×Addr)}{pos:Pos}
def xW(Y:X.env.code=.ref c)(hB:Bm X.mg X.base)(hq:X.env.qual ++ "<lambda>" = d.qual)(ah:F0 d.scope X.env=pure clos)(al:defaultsOf d.params X.env=([],[]))
  (hm:(P,ls)∈tabs) (hl:(pos,d.qual)∈ls) (bn:(tabs.map (·.1)).Nodup) (a1:ls.Pairwise λx y=>¬(x.1.line=y.1.line/\x.1.col=y.1.col)):PE X (.Lambda d.params d.body d.scope pos) (Dt P c tabs d clos):=by
 intro bL s σ H Q I h;obtain⟨⟨q0,a0⟩,hT,hQ⟩:=h;refine kla_eval al ?_;rw[hq];obtain⟨J,r,p,ab⟩:=hT _ hm;have A:s.heap.Ns oe X.mg:=I.mod.glob.keeps I.bk;have C:Jc s.heap c P:=(I.hok c _ a0).1.2;have v:s.heap.get? P=some (Fz J):=I.hok P _ r
 have br:oe≠P:=λq=>by
  obtain⟨o,es,ep,e,hd,_⟩:=A;rw[q,v]at e;cases e;cases hd
 obtain⟨bm,ob,b1,b2,b3,b4,R⟩:=hB;have O:=I.bk _ _ b2
 have as:bm≠P:=λq=>by
  rw[q,v]at O;cases O;cases b3
 have bl:bm≠oe:=λq=>by
  obtain⟨o,es,ep,e,hd,_⟩:=A;rw[q,e]at O;cases O;rw[hd]at R;cases R
 have bF:bm≠E8:=λq=>by
  obtain⟨mb,⟨o,es,ep,e,hd,_⟩,_⟩:=I.mod.blt;rw[q,e]at b2;cases b2;rw[hd]at R;cases R
 have BA:s.heap.BuiltinsAt X.mg P:=⟨bm,ob,b1,bF,bl,as,O,b3,b4,R⟩
 rcases ab _ hl with hn | ⟨i,hc,bq⟩
 .refine HY (mg:=X.mg) ah I.ok.glob A Y C v p hn br BA λi L h' tk hx w G S an=>?_
  have M:H i=none:=I.hok.fresh w;have j:H h'.objs.size=none:=I.hok.fresh (lB w (rA G));have T:i≠h'.objs.size:=kw G;have a5:P≠i:=ai r M;have Z:P≠h'.objs.size:=ai r j
  obtain⟨f,hf⟩:∃ f,f=h'.objs.size:=⟨_,rfl⟩
  obtain⟨ob',hob⟩:∃ o,o=IS "<lambda>" d.qual d.params d.body d.scope clos ((X.mg "__name__").getD .none) i L:=⟨_,rfl⟩
  have a3:(h'.push ob').get? f=some ob':=by rw[hf,hob];exact ie _ rfl
  have k:∀ b o,b≠P->s.heap.get? b=some o->(h'.push ob').get? b=some o:=λb o n e=>c_ _ (hx b o n e)
  have D:(h'.push ob').get? P=some (Fz (J ++ #[n7 pos.line,n7 pos.col,.ref i])):=c_ _ an
  have a2:bU i d.qual (h'.push ob'):=by
   obtain⟨E,oc,vs,t,e2,bg,a',hv⟩:=S;cases e2;exact⟨oc,vs,t,c_ _ bg,a',hv⟩
  rw[<- hf]at j T Z ⊢;rw[<- hob]
  obtain⟨H1,hH1⟩:∃ H1,H1=upd (upd (upd H P (.tbl (J ++ #[n7 pos.line,n7 pos.col,.ref i]))) i (.ext (bU i d.qual))) f (.ext (b9 f d clos i)):=⟨_,rfl⟩
  have gf:H1 f=some (.ext (b9 f d clos i)):=by rw[hH1];exact ac
  have gc:H1 i=some (.ext (bU i d.qual)):=by rw[hH1,ae T];exact ac
  have W:H1 P=some (.tbl (J ++ #[n7 pos.line,n7 pos.col,.ref i])):=by rw[hH1,ae Z,ae a5];exact ac
  have go:∀ b,b≠P->b≠i->b≠f->H1 b=H b:=λb h1 h2 h3=>by rw[hH1,ae h3,ae h2,ae h1]
  have g:∀ b o,b≠P->H b=some o->H1 b=some o:=λb o n e=>by rw[go b n (ai e M) (ai e j)];exact e
  have F:∀ b o,H b=some o->(∀ qs,o≠.tbl qs)->b≠P:=λb o e n z=>by rw[z,r]at e;cases e;exact n J rfl
  have un:Un X.fs [] H H1 s.heap (h'.push ob'):=by
   refine⟨λb o e n _ _=>k b o (λz=>by rw[z,r]at n;cases n) e,λb o e n _ _=>⟨o.slots,k b o (λz=>by rw[z,r]at n;cases n) e⟩,λb o e n _=>?_,λb o e _=>?_,λb xs e=>g b _ (F b _ e λ_ z=>nomatch z) e,λb o u e=>g b _ (F b _ e λ_ z=>nomatch z) e,λb qs e=>?_⟩
   .have hb:b<s.heap.objs.size:=f_ e
    rw[go b (λz=>by rw[z,r]at n;cases n) (kw (g_ hb w)) (by rw[hf];exact kw (g_ hb (lB w (rA G))))];exact n
   .by_cases hb:b=P
    .rw[hb];exact⟨_,D⟩
    .exact⟨o,k b o hb e⟩
   .by_cases hb:b=P
    .rw[hb,r]at e
     cases e;rw[hb];exact⟨_,W⟩
    .exact⟨#[],by rw[g b _ hb e];simp⟩
  have bt:HOk X.prog X.w H1 (h'.push ob'):=λa o e=>by
   by_cases h1:a=f
   .subst h1;rw[gf]at e;cases e;exact jQ (by rw[a3,hob])
   by_cases h2:a=i
   .subst h2;rw[gc]at e;cases e;exact ko a2
   by_cases h3:a=P
   .subst h3;rw[W]at e;cases e;exact D
   rw[go a h3 h2 h1]at e;refine(I.hok a o e).stay (λb u hb q=>k b u ?_ q) (λb q=>g b _ (F b _ q λ_ z=>nomatch z) q) λb xs q=>g b _ (F b _ q λ_ z=>nomatch z) q
   rcases hb with rfl | hb
   .exact h3
   .exact F b _ hb λ_ z=>nomatch z
  refine⟨.ref f,H1,I.un (h':=h'.push ob') (t':=tk) un bt,rfl,hQ f i H1 ⟨λb o e=>?_,λb qs e=>?_⟩ (λq hq'=>?_) j gf gc⟩
  .by_cases hb:b=P
   .subst hb
    rw[r]at e;cases e;exact⟨λz=>(hY z).elim,_,W⟩
   .exact⟨λ_=>g b o hb e,o,g b o hb e⟩
  .by_cases hb:b=P
   .subst hb
    rw[r]at e;cases e;exact⟨_,W,λt=>by rw[nw];exact be _ t⟩
   .exact⟨#[],by rw[g b _ hb e];simp,λt=>by simpa using t⟩
  .by_cases hqP:q.1=P
   .have bb:q=(P,ls):=fY bn q hq' (P,ls) hm hqP
    subst bb;refine⟨_,W,by rw[nw];exact be _ p,λK B=>?_⟩;rw[nw]
    by_cases hp:pos.line=K.1.line/\pos.col=K.1.col
    .have:=jP a1 (pos,d.qual) hl K B hp
     subst this;exact .inr ⟨i,F5 _ p hn,gc⟩
    .have eo:=dS (c:=.ref i) J.toList p hp
     rcases ab K B with z | ⟨E,z1,z2⟩
     .exact .inl (eo.trans z)
     .exact .inr ⟨E,eo.trans z1,g E _ (F E _ z2 λ_ z=>nomatch z) z2⟩
   .obtain⟨qs,e1,e2,e3⟩:=hT q hq'
    exact⟨qs,g _ _ hqP e1,e2,λK B=>(e3 K B).imp id λ⟨E,z1,z2⟩=>⟨E,z1,g E _ (F E _ z2 λ_ z=>nomatch z) z2⟩⟩
 .refine Hu (mg:=X.mg) ah I.ok.glob A Y C v p hc BA λL h' tk hk N=>?_
  have j:H h'.objs.size=none:=I.hok.fresh N;have sm:Same H (upd H h'.objs.size (.ext (b9 h'.objs.size d clos i))):=Same.new j;refine⟨.ref h'.objs.size,_,I.laid (a:=h'.objs.size) (o:=.ext (b9 h'.objs.size d clos i)) (t':=tk) (λb u e=>c_ _ (hk b u e)) N (jQ (ie _ rfl)),rfl,hQ _ i _ sm.t (hT.same sm) j ac (sm _ _ bq)⟩
end
section
variable {X:Cx}{tabs:d4}{P c:Addr}{ls:List (Pos×Str)}{d:DefD}{clos:List (Str×Addr)}{pos:Pos}
def zm{i:Nat}(hN:X.N.Nodup)(hi:X.N[i]? = some d.name)(J:Loc X.env.scope d.name)(an:X.fn d.name = true\/X.env.scope.names.lookup d.name = some .local)(ah:X.env.code = .ref c)(hB:Bm X.mg X.base)(hq:qualnameIn X.env d.name d.name = d.qual)(a0:F0 d.scope X.env = pure clos)
  (bl:d.params.defaults=[]) (bF:d.params.kw_defaults=[]) (a5:Kx d.params none X.env=[])
  (hm:(P,ls)∈tabs) (hl:(pos,d.qual)∈ls) (b0:(tabs.map (·.1)).Nodup) (bb:ls.Pairwise λx y=>¬(x.1.line=y.1.line/\x.1.col=y.1.col)):PS X (.FunctionDef d.name d.params d.body [] none [] d.scope none d.name pos) (Cv P c tabs d clos i):=by
 intro a1 s σ H D I h;obtain⟨⟨q0,a'⟩,hT,hQ⟩:=h;refine nestDef_K bl bF a5 ?_;rw[hq];obtain⟨Q,w,r,as⟩:=hT _ hm;have E:s.heap.Ns oe X.mg:=I.mod.glob.keeps I.bk;have C:Jc s.heap c P:=(I.hok c _ a').1.2;have A:s.heap.get? P=some (Fz Q):=I.hok P _ w
 have b':oe≠P:=λq=>by
  obtain⟨o,es,ep,e,hd,_⟩:=E;rw[q,A]at e;cases e;cases hd
 obtain⟨bm,ob,b1,b2,b3,b4,Y⟩:=hB;have W:=I.bk _ _ b2
 have a3:bm≠P:=λq=>by
  rw[q,A]at W;cases W;cases b3
 have bS:bm≠oe:=λq=>by
  obtain⟨o,es,ep,e,hd,_⟩:=E;rw[q,e]at W;cases W;rw[hd]at Y;cases Y
 have cc:bm≠E8:=λq=>by
  obtain⟨mb,⟨o,es,ep,e,hd,_⟩,_⟩:=I.mod.blt;rw[q,e]at b2;cases b2;rw[hd]at Y;cases Y
 have BA:s.heap.BuiltinsAt X.mg P:=⟨bm,ob,b1,cc,bS,a3,W,b3,b4,Y⟩
 rcases as _ hl with hn | ⟨j,hc,b6⟩
 .refine PySem.W.makeFunction_K (mg:=X.mg) a0 I.ok.glob E ah C A r hn b' BA λj L O h' tk hx B N Z a2=>?_
  have S:H j=none:=I.hok.fresh B;have k:H h'.objs.size=none:=I.hok.fresh (lB B (rA N));have ab:j≠h'.objs.size:=kw N;have bq:P≠j:=ai w S;have al:P≠h'.objs.size:=ai w k
  obtain⟨f,hf⟩:∃ f,f=h'.objs.size:=⟨_,rfl⟩
  obtain⟨ob',hob⟩:∃ o,o=Hc d.name d.qual d.params d.body d.scope clos O ((X.mg "__name__").getD .none) j L:=⟨_,rfl⟩
  have bn:(h'.push ob').get? f=some ob':=by rw[hf,hob];exact ie _ rfl
  have p:∀ b o,b≠P->s.heap.get? b=some o->(h'.push ob').get? b=some o:=λb o n e=>c_ _ (hx b o n e)
  have G:(h'.push ob').get? P=some (Fz (Q ++ #[n7 pos.line,n7 pos.col,.ref j])):=c_ _ a2
  have bg:bU j d.qual (h'.push ob'):=by
   obtain⟨K,oc,vs,t,e2,bL,br,hv⟩:=Z;cases e2;exact⟨oc,vs,t,c_ _ bL,br,hv⟩
  rw[<- hf]at k ab al ⊢;rw[<- hob]
  obtain⟨H1,hH1⟩:∃ H1,H1=upd (upd (upd H P (.tbl (Q ++ #[n7 pos.line,n7 pos.col,.ref j]))) j (.ext (bU j d.qual))) f (.ext (ce f d clos j)):=⟨_,rfl⟩
  have gf:H1 f=some (.ext (ce f d clos j)):=by rw[hH1];exact ac
  have gc:H1 j=some (.ext (bU j d.qual)):=by rw[hH1,ae ab];exact ac
  have gP:H1 P=some (.tbl (Q ++ #[n7 pos.line,n7 pos.col,.ref j])):=by rw[hH1,ae al,ae bq];exact ac
  have go:∀ b,b≠P->b≠j->b≠f->H1 b=H b:=λb h1 h2 h3=>by rw[hH1,ae h3,ae h2,ae h1]
  have g:∀ b o,b≠P->H b=some o->H1 b=some o:=λb o n e=>by rw[go b n (ai e S) (ai e k)];exact e
  have M:∀ b o,H b=some o->(∀ qs,o≠.tbl qs)->b≠P:=λb o e n z=>by rw[z,w]at e;cases e;exact n Q rfl
  have un:Un X.fs [] H H1 s.heap (h'.push ob'):=by
   refine⟨λb o e n _ _=>p b o (λz=>by rw[z,w]at n;cases n) e,λb o e n _ _=>⟨o.slots,p b o (λz=>by rw[z,w]at n;cases n) e⟩,λb o e n _=>?_,λb o e _=>?_,λb xs e=>g b _ (M b _ e λ_ z=>nomatch z) e,λb o u e=>g b _ (M b _ e λ_ z=>nomatch z) e,λb qs e=>?_⟩
   .have hb:b<s.heap.objs.size:=f_ e
    rw[go b (λz=>by rw[z,w]at n;cases n) (kw (g_ hb B)) (by rw[hf];exact kw (g_ hb (lB B (rA N))))];exact n
   .by_cases hb:b=P
    .rw[hb];exact⟨_,G⟩
    .exact⟨o,p b o hb e⟩
   .by_cases hb:b=P
    .rw[hb,w]at e
     cases e;rw[hb];exact⟨_,gP⟩
    .exact⟨#[],by rw[g b _ hb e];simp⟩
  have ca:HOk X.prog X.w H1 (h'.push ob'):=λa o e=>by
   by_cases h1:a=f
   .subst h1;rw[gf]at e;cases e;exact j7 (by rw[bn,hob])
   by_cases h2:a=j
   .subst h2;rw[gc]at e;cases e;exact ko bg
   by_cases h3:a=P
   .subst h3;rw[gP]at e;cases e;exact G
   rw[go a h3 h2 h1]at e;refine(I.hok a o e).stay (λb u hb q=>p b u ?_ q) (λb q=>g b _ (M b _ q λ_ z=>nomatch z) q) λb xs q=>g b _ (M b _ q λ_ z=>nomatch z) q
   rcases hb with rfl | hb
   .exact h3
   .exact M b _ hb λ_ z=>nomatch z
  have IU:Inv X a1 σ H1 { s with heap:=h'.push ob',toks:=tk }:=I.un (h':=h'.push ob') (t':=tk) un ca;refine cz IU hN hi J (v:=.ref f) (u:=.ref f) rfl (λs2 I2=>⟨_,H1,I2,hQ f j H1 ⟨λb o e=>?_,λb qs e=>?_⟩ (λq hq'=>?_) (λb o nb e=>g b o (λz=>nb _ hm z.symm) e) k gf gc⟩) an
  .by_cases hb:b=P
   .subst hb
    rw[w]at e;cases e;exact⟨λz=>(hY z).elim,_,gP⟩
   .exact⟨λ_=>g b o hb e,o,g b o hb e⟩
  .by_cases hb:b=P
   .subst hb
    rw[w]at e;cases e;exact⟨_,gP,λt=>by rw[nw];exact be _ t⟩
   .exact⟨#[],by rw[g b _ hb e];simp,λt=>by simpa using t⟩
  .by_cases hqP:q.1=P
   .have bt:q=(P,ls):=fY b0 q hq' (P,ls) hm hqP
    subst bt;refine⟨_,gP,by rw[nw];exact be _ r,λR F=>?_⟩;rw[nw]
    by_cases hp:pos.line=R.1.line/\pos.col=R.1.col
    .have:=jP bb (pos,d.qual) hl R F hp
     subst this;exact .inr ⟨j,F5 _ r hn,gc⟩
    .have eo:=dS (c:=.ref j) Q.toList r hp
     rcases as R F with z | ⟨K,z1,z2⟩
     .exact .inl (eo.trans z)
     .exact .inr ⟨K,eo.trans z1,g K _ (M K _ z2 λ_ z=>nomatch z) z2⟩
   .obtain⟨qs,e1,e2,e3⟩:=hT q hq'
    exact⟨qs,g _ _ hqP e1,e2,λR F=>(e3 R F).imp id λ⟨K,z1,z2⟩=>⟨K,z1,g K _ (M K _ z2 λ_ z=>nomatch z) z2⟩⟩
 .refine Ic (mg:=X.mg) a0 I.ok.glob E ah C A r hc BA λL O h' tk hk T=>?_
  have k:H h'.objs.size=none:=I.hok.fresh T;have sm:Same H (upd H h'.objs.size (.ext (ce h'.objs.size d clos j))):=Same.new k;have IU:=I.laid (h':=h'.push (Hc d.name d.qual d.params d.body d.scope clos O ((X.mg "__name__").getD .none) j L)) (a:=h'.objs.size) (o:=.ext (ce h'.objs.size d clos j)) (t':=tk) (λb u e=>c_ _ (hk b u e)) T (j7 (ie _ rfl));exact cz IU hN hi J (v:=.ref h'.objs.size) (u:=.ref h'.objs.size) rfl (λs2 I2=>⟨_,_,I2,hQ _ j _ sm.t (hT.same sm) (λb o _ e=>sm b o e) k ac (sm _ _ b6)⟩) an
end
section
variable {M:HN}{A:m_}{E:b_->e_->Prop}{s:e_}{name qual:Str}{params:Io}{body:List Stmt}{scope:D_}{env:Env}{c P:Addr}{ps:Array b_}{pos:Pos}{firstLine:Nat}{mg:Str->Option b_}
 {clos:List (Str×Addr)}{Q:b_->e_->Prop}
def uA(O:F0 scope env=pure clos)(D:env.globals=oe)(T:s.heap.Ns oe mg)(p:env.code=.ref c)(C:Jc s.heap c P)(L:s.heap.get? P=some (Fz ps))(S:w_ ps.toList)
  (H:ve pos ps.toList=none) (G:oe≠P) (W:s.heap.BuiltinsAt mg P)
  (h:∀ c' T' ctv doc h' tk,HG P s.heap h'->s.heap.objs.size<=c'->s.heap.objs.size<=T'->c'<h'.objs.size->h'.CodeRec (.ref c') qual->Jc h' c' T'->h'.get? T'=some (Fz #[])->h'.get? P=some (Fz (ps ++ #[n7 pos.line,n7 pos.col,.ref c'])) ->
   Q (.ref h'.objs.size) { s with heap:=h'.push (Hc name qual params body scope clos doc ((mg "__name__").getD .none) c' ctv),toks:=tk }) :
  ig M A (makeFunction name qual params (.stmts body) scope env [] [] [] pos firstLine) Q E s:=by
 obtain⟨Y,X,F,x,_,v,J,w,g,i⟩:=W;rw[makeFunction_eq];simp only[List.zip_nil_right,List.filterMap_nil,Ka,if_true,pure_bind];unfold makeTail;rw[O,D];refine a_ (fL ?_);cases clos with
 | nil =>
  simp only[Ka,if_true];refine a_ (fL ?_);refine a_ (KI p (C.code L S) (C.tab L) H λc' h' tk B k f _ a d ⟨T',K,I,u⟩=>?_);have j:=T.extBut B G;refine a_ (Lj j F x (B _ _ v J) w g i ?_);refine a_ (wpAny_nsGet j ?_);cases hdoc:docOf body with
  | none=>exact a_ (fL (pw (h c' T' .none .none h' tk B k K f a (.of I u) u.2 d.2) (by size_fits)))
  | some t=>exact a_ (wpAny_mkText (pw (h c' T' .none _ h' _ B k K f a (.of I u) u.2 d.2) (by size_fits)))
 | cons q r =>
  simp only[List.isEmpty_cons,pa,if_false];refine a_ (wpAny_newTextTuple ?_);refine a_ (KI p ((C.keeps λb o e=>c_ _ e).code (c_ _ L) S) ((C.keeps λb o e=>c_ _ e).tab (c_ _ L)) H λc' h' tk B k f _ a d ⟨T',K,I,u⟩=>?_);have j:=(T.push _).extBut B G;have y:HG P s.heap h':=λb o R e=>B b o R (c_ _ e)
  have N:∀{z:Nat}{o1:Obj},(s.heap.push o1).objs.size<=z->s.heap.objs.size<=z:=λz=>by rw[Fh]at z;lia
  refine a_ (Lj j F x (y _ _ v J) w g i ?_);refine a_ (wpAny_nsGet j ?_);cases hdoc:docOf body with
  | none=>exact a_ (fL (pw (h c' T' _ .none h' tk y (N k) (N K) f a (.of I u) u.2 d.2) (by size_fits)))
  | some t=>exact a_ (wpAny_mkText (pw (h c' T' _ _ h' _ y (N k) (N K) f a (.of I u) u.2 d.2) (by size_fits)))
end
def TabC(H:Hp)(P:Addr)(pos:Pos)(c:Addr):Prop:=∃ ps,H P=some (.tbl ps)/\w_ ps.toList/\ve pos ps.toList=some (.ref c)
def qT{p:Pos}{c:b_}(l d:List b_)(h:w_ l)(e:ve p l=some c):ve p (l++d)=some c:=by
 fun_induction w_ l with
 | case1=>cases e
 | case2 a t b u x rest ih =>
  simp only[G7,ve]at e ⊢
  split
  .rename_i hh;rw[if_pos hh]at e;exact e
  .rename_i hh;rw[if_neg hh]at e;exact ih h e
 | case3=>exact h.elim
def TabC.t{H H':Hp}{P:Addr}{a:Pos}{c:Addr}(s:SameT H H')(h:TabC H P a c):TabC H' P a c:=by
 obtain⟨i,g,b,f⟩:=h;obtain⟨d,e,t⟩:=s.gr P i g;exact⟨_,e,t b,by rw[nw];exact qT _ _ b f⟩
def xb(P:Addr)(pos:Pos)(d:DefD)(clos:List (Str×Addr))(i:Nat):TS:=λD σ H=>∃ ps,H P=some (.tbl ps)/\w_ ps.toList /\
 ((ve pos ps.toList=none/\∀ f c T H1,H1 P=some (.tbl (ps ++ #[n7 pos.line,n7 pos.col,.ref c]))->(∀ b o,b≠P->H b=some o->H1 b=some o)->H f=none->H c=none->H T=none->H1 f=some (.ext (ce f d clos c))->H1 c=some (.ext (bZ c d.qual T))->H1 T=some (.tbl #[])->D.nx (σ.set i (some (.ref f))) H1) \/
   ∃ c,ve pos ps.toList=some (.ref c)/\∀ f H1,Same H H1->H f=none->H1 f=some (.ext (ce f d clos c))->D.nx (σ.set i (some (.ref f))) H1)
section
variable {X:Cx}{P c:Addr}{d:DefD}{clos:List (Str×Addr)}{pos:Pos}
def sZ{i:Nat}(hN:X.N.Nodup)(hi:X.N[i]? = some d.name)(F:Loc X.env.scope d.name)(an:X.fn d.name = true\/X.env.scope.names.lookup d.name = some .local)(ah:X.env.code = .ref c)(hC:ED X.K c P = true)(hB:Bm X.mg X.base)(hq:qualnameIn X.env d.name d.name = d.qual)(as:F0 d.scope X.env = pure clos)
  (bb:d.params.defaults=[]) (bt:d.params.kw_defaults=[]) (a5:Kx d.params none X.env=[]):PS X (.FunctionDef d.name d.params d.body [] none [] d.scope none d.name pos) (xb P pos d clos i):=by
 intro a0 s σ H D I h;obtain⟨ps,y,T,h⟩:=h;refine nestDef_K bb bt a5 ?_;rw[hq];have A:s.heap.Ns oe X.mg:=I.mod.glob.keeps I.bk;have C:Jc s.heap c P:=Kp I.kIn hC;have w:s.heap.get? P=some (Fz ps):=I.hok P _ y
 have bS:oe≠P:=λq=>by
  obtain⟨o,es,ep,e,hd,_⟩:=A;rw[q,w]at e;cases e;cases hd
 obtain⟨bm,ob,b1,b2,b3,b4,W⟩:=hB;have S:=I.bk _ _ b2
 have a3:bm≠P:=λq=>by
  rw[q,w]at S;cases S;cases b3
 have bL:bm≠oe:=λq=>by
  obtain⟨o,es,ep,e,hd,_⟩:=A;rw[q,e]at S;cases S;rw[hd]at W;cases W
 have b':bm≠E8:=λq=>by
  obtain⟨mb,⟨o,es,ep,e,hd,_⟩,_⟩:=I.mod.blt;rw[q,e]at b2;cases b2;rw[hd]at W;cases W
 have BA:s.heap.BuiltinsAt X.mg P:=⟨bm,ob,b1,b',bL,a3,S,b3,b4,W⟩
 rcases h with⟨hn,hQ⟩ | ⟨g,hc,hQ⟩
 .refine uA (mg:=X.mg) as I.ok.glob A ah C w T hn bS BA λg r J N h' tk hx x E L Y ab a1 a2=>?_
  have K:H g=none:=I.hok.fresh x;have M:H r=none:=I.hok.fresh E;have k:H h'.objs.size=none:=I.hok.fresh (lB x (rA L));have Z:g≠h'.objs.size:=kw L;have G:r≠h'.objs.size:=kw (f_ a1);have b0:g≠r:=by obtain⟨_,_,_,_,_,_,_,_,_,_,_,_,_,_,_,_,_,_,z⟩:=ab;exact z
  have bn:P≠g:=ai y K;have bq:P≠r:=ai y M;have al:P≠h'.objs.size:=ai y k
  obtain⟨f,hf⟩:∃ f,f=h'.objs.size:=⟨_,rfl⟩
  obtain⟨ob',hob⟩:∃ o,o=Hc d.name d.qual d.params d.body d.scope clos N ((X.mg "__name__").getD .none) g J:=⟨_,rfl⟩
  have bg:(h'.push ob').get? f=some ob':=by rw[hf,hob];exact ie _ rfl
  have p:∀ b o,b≠P->s.heap.get? b=some o->(h'.push ob').get? b=some o:=λb o n e=>c_ _ (hx b o n e)
  have B:(h'.push ob').get? P=some (Fz (ps ++ #[n7 pos.line,n7 pos.col,.ref g])):=c_ _ a2
  have a':bZ g d.qual r (h'.push ob'):=by
   obtain⟨c2,oc,vs,t,e2,bF,br,hv⟩:=Y;cases e2;exact⟨⟨oc,vs,t,c_ _ bF,br,hv⟩,ab.keeps λb o e=>c_ _ e⟩
  have bl:(h'.push ob').get? r=some (Fz #[]):=c_ _ a1;rw[<- hf]at k Z al G ⊢;rw[<- hob]
  obtain⟨H1,hH1⟩:∃ H1,H1=upd (upd (upd (upd H P (.tbl (ps ++ #[n7 pos.line,n7 pos.col,.ref g]))) g (.ext (bZ g d.qual r))) r (.tbl #[])) f (.ext (ce f d clos g)):=⟨_,rfl⟩
  have gf:H1 f=some (.ext (ce f d clos g)):=by rw[hH1];exact ac
  have Q:H1 r=some (.tbl #[]):=by rw[hH1,ae G];exact ac
  have gc:H1 g=some (.ext (bZ g d.qual r)):=by rw[hH1,ae Z,ae b0];exact ac
  have gP:H1 P=some (.tbl (ps ++ #[n7 pos.line,n7 pos.col,.ref g])):=by rw[hH1,ae al,ae bq,ae bn];exact ac
  have go:∀ b,b≠P->b≠g->b≠r->b≠f->H1 b=H b:=λb h1 h2 h3 h4=>by rw[hH1,ae h4,ae h3,ae h2,ae h1]
  have j:∀ b o,b≠P->H b=some o->H1 b=some o:=λb o n e=>by rw[go b n (ai e K) (ai e M) (ai e k)];exact e
  have O:∀ b o,H b=some o->(∀ qs,o≠.tbl qs)->b≠P:=λb o e n z=>by rw[z,y]at e;cases e;exact n ps rfl
  have un:Un X.fs [] H H1 s.heap (h'.push ob'):=by
   refine⟨λb o e n _ _=>p b o (λz=>by rw[z,y]at n;cases n) e,λb o e n _ _=>⟨o.slots,p b o (λz=>by rw[z,y]at n;cases n) e⟩,λb o e n _=>?_,λb o e _=>?_,λb xs e=>j b _ (O b _ e λ_ z=>nomatch z) e,λb o u e=>j b _ (O b _ e λ_ z=>nomatch z) e,λb qs e=>?_⟩
   .have hb:b<s.heap.objs.size:=f_ e
    rw[go b (λz=>by rw[z,y]at n;cases n) (kw (g_ hb x)) (kw (g_ hb E)) (by rw[hf];exact kw (g_ hb (lB x (rA L))))];exact n
   .by_cases hb:b=P
    .rw[hb];exact⟨_,B⟩
    .exact⟨o,p b o hb e⟩
   .by_cases hb:b=P
    .rw[hb,y]at e
     cases e;rw[hb];exact⟨_,gP⟩
    .exact⟨#[],by rw[j b _ hb e];simp⟩
  have b6:HOk X.prog X.w H1 (h'.push ob'):=λa o e=>by
   by_cases h1:a=f
   .subst h1;rw[gf]at e;cases e;exact j7 (by rw[bg,hob])
   by_cases h2:a=g
   .subst h2;rw[gc]at e;cases e;exact vj a'
   by_cases h4:a=r
   .subst h4;rw[Q]at e;cases e;exact bl
   by_cases h3:a=P
   .subst h3;rw[gP]at e;cases e;exact B
   rw[go a h3 h2 h4 h1]at e;refine(I.hok a o e).stay (λb u hb q=>p b u ?_ q) (λb q=>j b _ (O b _ q λ_ z=>nomatch z) q) λb xs q=>j b _ (O b _ q λ_ z=>nomatch z) q
   rcases hb with rfl | hb
   .exact h3
   .exact O b _ hb λ_ z=>nomatch z
  have IU:Inv X a0 σ H1 { s with heap:=h'.push ob',toks:=tk }:=I.un (h':=h'.push ob') (t':=tk) un b6;exact cz IU hN hi F (v:=.ref f) (u:=.ref f) rfl (λs2 I2=>⟨_,H1,I2,hQ f g r H1 gP j k K M gf gc Q⟩) an
 .refine Ic (mg:=X.mg) as I.ok.glob A ah C w T hc BA λJ N h' tk hk R=>?_
  have k:H h'.objs.size=none:=I.hok.fresh R;have sm:Same H (upd H h'.objs.size (.ext (ce h'.objs.size d clos g))):=Same.new k;have IU:=I.laid (h':=h'.push (Hc d.name d.qual d.params d.body d.scope clos N ((X.mg "__name__").getD .none) g J)) (a:=h'.objs.size) (o:=.ext (ce h'.objs.size d clos g)) (t':=tk) (λb u e=>c_ _ (hk b u e)) R (j7 (ie _ rfl));exact cz IU hN hi F (v:=.ref h'.objs.size) (u:=.ref h'.objs.size) rfl (λs2 I2=>⟨_,_,I2,hQ _ _ sm k ac⟩) an
end
end L2
namespace My
open PySem L2 FrM
def top(i:Nat):Stmt:=PySem.Challenge.pw_fewspeak_k93_whole_streams_and_plans.main.body.getD i (.Pass ⟨0,0,0,0⟩)
abbrev rT:Stmt:=aT (top 3) 0
abbrev c5:Stmt:=aT (top 4) 0
abbrev dj:Stmt:=top 8
abbrev ee:Stmt:=top 9
abbrev rV:Stmt:=top 10
abbrev tJ:Stmt:=top 11
abbrev lJ:Stmt:=top 15
abbrev iC:Stmt:=top 16
abbrev m8:Stmt:=top 17
abbrev eX:Stmt:=aT (top 21) 0
abbrev fw:Stmt:=aT (top 21) 1
abbrev jx:Stmt:=aT (top 21) 2
abbrev iy:Stmt:=aT (top 21) 3
abbrev hZ:Stmt:=aT (top 21) 4
abbrev fj:Stmt:=aT (top 22) 0
abbrev gJ:Stmt:=aT (top 22) 1
abbrev lL:Stmt:=aT (top 22) 2
abbrev jc:Stmt:=aT (top 22) 3
abbrev jd:Stmt:=aT (top 22) 4
abbrev jn:Stmt:=aT (top 22) 5
abbrev gL:Stmt:=aT (top 22) 6
abbrev dw:Stmt:=top 23
abbrev eZ:Stmt:=top 24
abbrev tT:Stmt:=top 25
abbrev ly:Stmt:=top 26
abbrev mK:Stmt:=top 27
abbrev sU:Stmt:=top 28
abbrev jp:Stmt:=top 29
abbrev dP:Stmt:=top 30
abbrev fm:Stmt:=aT (top 36) 0
abbrev da:Stmt:=aT (top 36) 1
abbrev eA:Stmt:=aT (top 36) 2
abbrev kh:Stmt:=aT (top 36) 3
abbrev iB:Stmt:=aT (top 36) 4
abbrev jh:Stmt:=top 37
abbrev kH:Stmt:=top 38
abbrev gG:Stmt:=top 39
abbrev d5:Stmt:=top 40
abbrev ii:Stmt:=top 41
abbrev pQ:Stmt:=top 42
abbrev dH:Stmt:=top 43
abbrev gS:Stmt:=top 44
abbrev eN:Stmt:=top 45
abbrev mH:Stmt:=top 46
abbrev qd:Stmt:=top 47
abbrev nZ:Stmt:=top 48
abbrev vL:Stmt:=top 49
abbrev jo:Stmt:=top 52
abbrev jg:Stmt:=top 53
abbrev du:Stmt:=top 54
abbrev gI:Stmt:=top 56
abbrev fV:Stmt:=aT (top 58) 0
abbrev kY:Stmt:=aT (top 58) 1
abbrev eG:Stmt:=aT (top 58) 2
abbrev eC:Stmt:=top 59
abbrev io:Stmt:=top 60
abbrev jm:Stmt:=top 62
abbrev sB:Stmt:=top 63
abbrev jA:Stmt:=top 64
abbrev ka:Stmt:=top 65
abbrev bj:Stmt:=top 66
abbrev sx:Stmt:=top 67
abbrev mG:Stmt:=top 68
abbrev o6:Stmt:=top 69
abbrev kQ:Stmt:=top 70
abbrev lG:Stmt:=top 71
abbrev im:Stmt:=top 72
abbrev mY:Stmt:=top 73
abbrev zG:Stmt:=top 74
abbrev Scp(N:List Str)(k:Nat)(st:Stmt):Prop:=FnScope N (N.take k) (ap st)
def scz{N P:List Str}{d:D_}(a:d.kind = .function:=by rfl)(b:d.isCoroutine = false:=by rfl)(c:d.isGenerator = false:=by rfl)(e:N.take P.length = P:=by rfl)(z:N.Nodup/\(∀ x ∈ P,d.names.lookup x = some .local\/d.names.lookup x = some .cell)/\∀ y ∈ d.names,y.2≠.free:=by decide +kernel):FnScope N P d:=⟨a,b,c,z.1,e,z.2.1,z.2.2⟩
def gE:Scp ["self","place"] 2 c5:=scz
def sc_y:Scp ["one","other"] 2 dj:=scz
def sc_w:Scp ["numbers","found","number"] 1 ee:=scz
def pU:Scp ["top","bottom","divisor"] 2 rV:=scz
def oQ:Scp ["fractions","bottom"] 1 tJ:=scz
def pd:Scp ["thing","low","high"] 3 lJ:=scz
def md:Scp ["text","signs","most"] 3 iC:=scz
def qI:Scp ["thing"] 1 m8:=scz
def iO:Scp ["self","kept"] 2 eX:=scz
def jN:Scp ["self"] 1 fw:=scz
def oH:Scp ["self"] 1 jx:=scz
def lQ:Scp ["self"] 1 iy:=scz
def lW:Scp ["self"] 1 hZ:=scz
def jF:Scp ["self","parts"] 2 fj:=scz
def kT:Scp ["self"] 1 gJ:=scz
def qo:Scp ["self"] 1 lL:=scz
def nS:Scp ["self"] 1 jc:=scz
def nF:Scp ["self"] 1 jd:=scz
def sc_q:Scp ["self","throw","number","last","many","make"] 2 jn:=scz
def kd:Scp ["self","carry"] 2 gL:=scz
abbrev dG:Expr:=(jK (dl dw 0))
def aB:LamD:=eY ((("carried_make" : Str) ++ ".<locals>.") ++ "<lambda>") dG
def jJ:Scp ["make","carry"] 2 dw:=scz
def iM:Scp ["node","throw"] 2 eZ:=scz
def sc_ae:Scp ["node","throws","here","place","throw"] 2 tT:=scz
abbrev jw:Expr:=(oJ (jK (dl ly 1)) 0)
def bK:LamD:=eY ((("behind" : Str) ++ ".<locals>.") ++ "<lambda>") jw
def uv:Scp ["node","go"] 2 ly:=scz
def sc_F:Scp ["node","ways","ahead","here","top","bottom","sides"] 1 mK:=scz
def sc_P:Scp ["node","found","kept","chance"] 1 sU:=scz
def sc_v:Scp ["node","places","rows","bottom","tops","kept","chance","top","asked","one","other"] 2 jp:=scz
def hV:Scp ["one","places","tops","bottom"] 4 dP:=scz
def jG:Scp ["self","most"] 2 fm:=scz
def pO:Scp ["self","thing","throw"] 3 da:=scz
def ij:Scp ["self"] 1 eA:=scz
def pV:Scp ["self"] 1 kh:=scz
def lP:Scp ["self"] 1 iB:=scz
def nG:Scp ["held","most","thing","throw"] 4 jh:=scz
def qp:Scp ["many","most"] 2 kH:=scz
def sc_G:Scp ["held","number","many","most","parts"] 3 gG:=scz
abbrev d9:Expr:=(jK (dl d5 0))
def aF:LamD:=eY ((("stream_make" : Str) ++ ".<locals>.") ++ "<lambda>") d9
def kA:Scp ["held","number","many"] 3 d5:=scz
def lZ:Scp ["one","other"] 2 ii:=scz
def sc_R:Scp ["one","other","firsts","seconds","wanted"] 2 pQ:=scz
abbrev fN:Expr:=(yJ (yB (oJ (jK (dl dH 3)) 0) 0) 1)
def aO:LamD:=eY ((("pour_node" : Str) ++ ".<locals>.") ++ "<lambda>") fN
abbrev fK:Expr:=(yJ (yB (oJ (jK (dl dH 3)) 0) 1) 1)
def aP:LamD:=eY ((("pour_node" : Str) ++ ".<locals>.") ++ "<lambda>") fK
def ny:Scp ["wanted","one","other","taken"] 4 dH:=scz
abbrev gK:Expr:=(oJ (jK (dl gS 0)) 1)
def ld_from_one_1:LamD:=eY ((("from_one" : Str) ++ ".<locals>.") ++ "<lambda>") gK
def sc_m:Scp ["wanted","one","other","taken"] 4 gS:=scz
abbrev eV:Expr:=(oJ (jK (dl eN 0)) 1)
def ld_from_other_1:LamD:=eY ((("from_other" : Str) ++ ".<locals>.") ++ "<lambda>") eV
def sc_b:Scp ["wanted","one","other","taken"] 4 eN:=scz
def qW:Scp ["pot","place"] 2 mH:=scz
def ug:Scp ["places","go"] 2 qd:=scz
abbrev kJ:Expr:=(jK (dl nZ 0))
def ld_going_1:LamD:=eY ((("going" : Str) ++ ".<locals>.") ++ "<lambda>") kJ
def vg:Scp ["go","place"] 2 nZ:=scz
def nE:Scp ["one","other","kept","things","pot"] 3 vL:=scz
def oK:Scp ["crowd"] 1 jo:=scz
def oh:Scp ["many","tell"] 2 jg:=scz
def gC:Scp ["one","many","tell"] 3 du:=scz
def ky:Scp ["thing","low","high"] 3 gI:=scz
def jE:Scp ["self","many"] 2 fV:=scz
def qr:Scp ["self","crowd"] 2 kY:=scz
abbrev eU:Expr:=(oJ (jK (dl eG 2)) 1)
def bu:LamD:=eY ((("Few.matrix" : Str) ++ ".<locals>.") ++ "<lambda>") eU
def sc_a:Scp ["self","crowd","there","wanted"] 2 eG:=scz
abbrev gQ:Expr:=(yJ (yB (oJ (jK (dl eC 3)) 0) 0) 1)
def bE:LamD:=eY ((("few_node" : Str) ++ ".<locals>.") ++ "<lambda>") gQ
abbrev gF:Expr:=(yJ (yB (oJ (jK (dl eC 3)) 0) 1) 1)
def bD:LamD:=eY ((("few_node" : Str) ++ ".<locals>.") ++ "<lambda>") gF
def ju:Scp ["ahead","wanted","taken","rest"] 3 eC:=scz
def mh:Scp ["there","wanted","is_same"] 3 io:=scz
def n9:Scp ["_law_script","_law_k"] 2 jm:=scz
def kL:Scp ["_law_cell","_law_k","_law_number"] 2 sB:=scz
def sc_H:Scp ["_law_cell","_law_digits","_law_bases","_law_numbers_here","_law_k","_law_base"] 3 jA:=scz
def sc_J:Scp ["_law_most","_law_many","_law_pot_here","_law_k"] 2 ka:=scz
def dd_L_joined_1:DefD:=vU ((("_law_joined" : Str) ++ ".<locals>.") ++ "_law_poured") (dl bj 0)
def dd_L_joined_2:DefD:=vU ((("_law_joined" : Str) ++ ".<locals>.") ++ "_law_second") (dl bj 1)
def sc_f:Scp ["_law_most","_law_first","_law_second_here","_law_poured","_law_second"] 3 bj:=scz
def sc_ag:Scp ["_law_most","_law_many","_law_names","_law_throws","_law_pot_here","_law_used","_law_k"] 4 sx:=scz
def qR:Scp ["_law_most","_law_many"] 2 mG:=scz
def iY:Scp ["_law_node","_law_numbers_here","_law_throws"] 2 o6:=scz
def sc_V:Scp ["_law_pot_here","_law_first","_law_names","_law_others","_law_places","_law_thing"] 4 kQ:=scz
def aR:Scp ["_law_most","_law_first","_law_second_here","_law_cell","_law_digits","_law_names","_law_others","_law_ahead","_law_bases","_law_numbers_here","_law_one","_law_other","_law_node","_law_rest_here","_law_due","_law_found","_law_some"] 5 lG:=scz
def mi:Scp ["_law_places","_law_first"] 2 im:=scz
def kz:Scp ["_law_cell","_law_digits","_law_many","_law_numbers_here"] 3 mY:=scz
def sc_ai:Scp ["_law_script","_law_digits","_law_most","_law_first","_law_second_here","_law_crowd_here","_law_plan","_law_node","_law_places","_law_cell"] 1 zG:=scz
def En(K:Frag)(D C:Addr):Option Bool:=I7 K D (.ref C)
set_option genInjectivity false in
set_option genSizeOf false in
structure Ad where
 (f_y f_w f_ah f_ao f_U f_ab f_ak f_g f_M f_ae f_k f_F f_P f_v f_matrix_row_dice f_ac f_N f_G f_l f_B f_R f_c f_m f_b f_Z f_S f_K f_am f_af f_T f_matrix_row_plans f_X f_u f_ad f_Y f_ap f_H f_J f_f f_ag f_aj f_an f_V f_aa f_W f_al f_ai c_s i_s c_E c_C c_i i_i c_n i_n c_o i_o c_Q i_Q x_z x_x x_d x_e x_h x_p x_r x_t x_A x_I x_L x_j x_D x_O x_a x_q lc_b lp_b lc_K lp_K lc_m lp_m lc_c lp_c lc_l lp_l lc_k lp_k lc_f lp_f lc_a lp_a lc_g lp_g lc_u lp_u:Addr)
 (d_y d_w d_ah d_ao d_U d_ab d_ak d_g d_M d_ae d_k d_F d_P d_v d_matrix_row_dice d_ac d_N d_G d_l d_B d_R d_c d_m d_b d_Z d_S d_K d_am d_af d_T d_matrix_row_plans d_X d_u d_ad d_Y d_ap d_H d_J d_f d_ag d_aj d_an d_V d_aa d_W d_al d_ai e_s e_i e_n e_o e_Q y_z y_x y_d y_e y_h y_p y_r y_t y_A y_I y_L y_j y_D y_O y_a y_q:p_)
 (v_Pot_come:b_)
 (dt:d4)
abbrev cK:List (Pos×Str):=[(jM eV,((("from_other" : Str) ++ ".<locals>.") ++ "<lambda>"))]
def lV:(cK).Pairwise λx y=>¬(x.1.line=y.1.line/\x.1.col=y.1.col):=by decide +kernel
abbrev iI:List (Pos×Str):=[(jM kJ,((("going" : Str) ++ ".<locals>.") ++ "<lambda>"))]
def vC:(iI).Pairwise λx y=>¬(x.1.line=y.1.line/\x.1.col=y.1.col):=by decide +kernel
abbrev dN:List (Pos×Str):=[(jM gK,((("from_one" : Str) ++ ".<locals>.") ++ "<lambda>"))]
def pA:(dN).Pairwise λx y=>¬(x.1.line=y.1.line/\x.1.col=y.1.col):=by decide +kernel
abbrev cU:List (Pos×Str):=[(jM fN,((("pour_node" : Str) ++ ".<locals>.") ++ "<lambda>")),(jM fK,((("pour_node" : Str) ++ ".<locals>.") ++ "<lambda>"))]
def iJ:(cU).Pairwise λx y=>¬(x.1.line=y.1.line/\x.1.col=y.1.col):=by decide +kernel
abbrev cC:List (Pos×Str):=[(jM d9,((("stream_make" : Str) ++ ".<locals>.") ++ "<lambda>"))]
def kO:(cC).Pairwise λx y=>¬(x.1.line=y.1.line/\x.1.col=y.1.col):=by decide +kernel
abbrev gg:List (Pos×Str):=[(jM jw,((("behind" : Str) ++ ".<locals>.") ++ "<lambda>"))]
def uY:(gg).Pairwise λx y=>¬(x.1.line=y.1.line/\x.1.col=y.1.col):=by decide +kernel
abbrev pc:List (Pos×Str):=[(vy (dl bj 0),(("_law_joined" : Str) ++ ".<locals>.") ++ "_law_poured"),(vy (dl bj 1),(("_law_joined" : Str) ++ ".<locals>.") ++ "_law_second")]
abbrev cL:List (Pos×Str):=[(jM eU,((("Few.matrix" : Str) ++ ".<locals>.") ++ "<lambda>"))]
def lY:(cL).Pairwise λx y=>¬(x.1.line=y.1.line/\x.1.col=y.1.col):=by decide +kernel
abbrev b7:List (Pos×Str):=[(jM dG,((("carried_make" : Str) ++ ".<locals>.") ++ "<lambda>"))]
def jC:(b7).Pairwise λx y=>¬(x.1.line=y.1.line/\x.1.col=y.1.col):=by decide +kernel
abbrev dR:List (Pos×Str):=[(jM gQ,((("few_node" : Str) ++ ".<locals>.") ++ "<lambda>")),(jM gF,((("few_node" : Str) ++ ".<locals>.") ++ "<lambda>"))]
def jy:(dR).Pairwise λx y=>¬(x.1.line=y.1.line/\x.1.col=y.1.col):=by decide +kernel
def tabsA(a:Ad):d4:=[(a.lp_b,cK),(a.lp_K,iI),(a.lp_m,dN),(a.lp_c,cU),(a.lp_l,cC),(a.lp_k,gg),(a.lp_f,pc),(a.lp_a,cL),(a.lp_g,b7),(a.lp_u,dR)]
def tabs(a:Ad):d4:=a.dt++[(a.lp_b,cK),(a.lp_K,iI),(a.lp_m,dN),(a.lp_c,cU),(a.lp_l,cC),(a.lp_k,gg),(a.lp_a,cL),(a.lp_g,b7),(a.lp_u,dR)]
def lS(a:Ad):(a.lp_b,cK)∈tabs a:=li _ (.head _)
def vT(a:Ad):(a.lp_K,iI)∈tabs a:=li _ (.tail _ (.head _))
def qx(a:Ad):(a.lp_m,dN)∈tabs a:=li _ (.tail _ (.tail _ (.head _)))
def iz(a:Ad):(a.lp_c,cU)∈tabs a:=li _ (.tail _ (.tail _ (.tail _ (.head _))))
def kS(a:Ad):(a.lp_l,cC)∈tabs a:=li _ (.tail _ (.tail _ (.tail _ (.tail _ (.head _)))))
def uF(a:Ad):(a.lp_k,gg)∈tabs a:=li _ (.tail _ (.tail _ (.tail _ (.tail _ (.tail _ (.head _))))))
def mf(a:Ad):(a.lp_a,cL)∈tabs a:=li _ (.tail _ (.tail _ (.tail _ (.tail _ (.tail _ (.tail _ (.head _)))))))
def jH(a:Ad):(a.lp_g,b7)∈tabs a:=li _ (.tail _ (.tail _ (.tail _ (.tail _ (.tail _ (.tail _ (.tail _ (.head _))))))))
def jv(a:Ad):(a.lp_u,dR)∈tabs a:=li _ (.tail _ (.tail _ (.tail _ (.tail _ (.tail _ (.tail _ (.tail _ (.tail _ (.head _)))))))))
structure Fnd(K:Frag)(mg:Str->Option b_)(n:Str)(b:Stmt)(ps:List Str)(f:Addr)(d:p_):Prop where
 A:Fun K n n b f d
 B:Binds K d ps []
 C:mg n=some (.ref f)
structure Mnd(K:Frag)(n q:Str)(b:Stmt)(ps:List Str)(f:Addr)(d:p_):Prop where
 A:Fun K n q b f d
 B:Binds K d ps []
abbrev FnX(P:hH)(w:lA)(base:Heap)(k:Nat){K:Frag}{mg:Str->Option b_}{n:Str}{b:Stmt}{ps:List Str}{f:Addr}{d:p_}(_:Fnd K mg n b ps f d)(sp:Sp):Prop:=FnOk P w K mg base CX0 k f d ps sp
abbrev MnX(P:hH)(w:lA)(mg:Str->Option b_)(base:Heap)(k:Nat){K:Frag}{n q:Str}{b:Stmt}{ps:List Str}{f:Addr}{d:p_}(_:Mnd K n q b ps f d)(sp:Sp):Prop:=FnOk P w K mg base CX0 k f d ps sp
abbrev FnO(P:hH)(w:lA)(K:Frag)(mg:Str->Option b_)(base:Heap)(k:Nat)(sp:Sp){f:Addr}{d:p_}{ps:List Str}:Prop:=FnOk P w K mg base CX0 k f d ps sp
def _root_.L2.FnOk.mo{P:hH}{w:lA}{K:Frag}{mg:Str->Option b_}{a:Heap}{CX:CXT}{j k:Nat}{f:Addr}{b:p_}{ps:List Str}{sp:Sp}(F:FnOk P w K mg a CX j f b ps sp)(h:j<=k:=by decide):FnOk P w K mg a CX k f b ps sp:=F.mono h
section
variable {X:Cx}{x:Str}{e:Expr}{pos:Pos}
def aI{j k:Nat}{f:Addr}{d:p_}{ps:List Str}{sp:Sp}{b:Stmt}{p:Pos}{a:List Expr}{t:TA}(F:FnOk X.prog X.w X.K X.mg X.base CX0 j f d ps sp)(o:Room k X.A)(G:Fnd X.K X.mg x b ps f d)
  (q:PA X (e::a) t) (h:j<=k:=by decide) (i:Gl X x:=by rfl) (g:(x == ("__debug__" : Str))=false:=by decide) (r:lg (e::a) X.env=(false,eval e X.env)::lg a X.env:=by rfl) (c:(z_ pos (lg a X.env)).any (·.1)=false:=by rfl) :
  PE X (.Call (.Name x p) (e::a) [] pos) (wY sp [] E0 t):=dX (F.mono h) o i G.C G.A.kp G.B .nil ax q g r c
def bM(i:Nat)(N:List Str)(a:X.N = N:=by rfl)(b:N.Nodup:=by decide +kernel)(c:N[i]? = some x:=by rfl)(d:Loc X.env.scope x:=by exact uS rfl)(f:X.fn x = true\/X.env.scope.names.lookup x = some .local:=by first | exact .inl rfl | exact .inr rfl | assumption):PG X (.Name x pos) (iH i):=aN (a ▸ b) (a ▸ c) d f
def bf{b a:Expr}{d c:TE}(h:PE X b d)(f:PE X a c)(g:nX a:=by exact λ_ _=>rfl):PE X (.Subscript b a pos) (tOp (rIx X.K) d c):=zZ wx h f g
def gm{b a:Expr}{d c:TE}{r:R2}(g:IxR X r)(i:PE X b d)(f:PE X a c)(h:nX a:=by exact λ_ _=>rfl):PE X (.Subscript b a pos) (tOp r d c):=zZ g i f h
def aD{sc:D_}{N:List Str}{ix:List (Option Nat)}(a:sc.kind = .function:=by rfl)(b:(sc.names.all λy=>y.2 != .cell) = true:=by rfl)(c:(sc.names.all λy=>y.2 != .local || sc.names.lookup y.1 == some .local) = true:=by rfl)(d:(sc.names.all λy=>y.2 != .free || (X.env.scope.names.lookup y.1 == some .cell || X.env.scope.names.lookup y.1 == some .free)) = true:=by rfl)(f:FreeOkF X.N X.env sc N ix:=by repeat' constructor):CompOk X sc N ix:=⟨a,b,c,d,f⟩
def aQ{c:D_}{N:List Str}{tg b:Expr}{a:List Expr}{g:TG}{d:TT}{f:TE}(h:∀ C s H fp,PG (cxB X c C N s H fp) tg g/\PTs (cxB X c C N s H fp) a d/\PE (cxB X c C N s H fp) b f):Blk X c N tg b a g d f:=⟨λC s H fp=>(h C s H fp).1,λC s H fp=>(h C s H fp).2.1,λC s H fp=>(h C s H fp).2.2⟩
def gz{x y:Str}{p q:Pos}(N:List Str)(a:X.N = N:=by rfl)(b:N.Nodup:=by decide +kernel)(f:N[0]? = some x:=by rfl)(c:N[1]? = some y:=by rfl)(g:Loc X.env.scope x:=by exact uS rfl)(d:Loc X.env.scope y:=by exact uS rfl)(i:X.fn x = true\/X.env.scope.names.lookup x = some .local:=by first | exact .inl rfl | exact .inr rfl | assumption)(h:X.fn y = true\/X.env.scope.names.lookup y = some .local:=by first | exact .inl rfl | exact .inr rfl | assumption):PGs X [.Name x p,.Name y q] (gCons (iH 0) (gCons (iH 1) CQ)):=aW (aN (a ▸ b) (a ▸ f) g i) (aW (aN (a ▸ b) (a ▸ c) d h) dM)
def pec{k:Nat}{f:Addr}{d:p_}{ps:List Str}{sp:Sp}{b:Stmt}{p:Pos}{a:List Expr}{t:TA}(F:FnOk X.prog X.w X.K X.mg X.base CX0 k f d ps sp)(i:Room k X.A)(G:Fnd X.K X.mg x b ps f d)
  (j:PA X (e::a) t) (h:Gl X x:=by rfl) (g:(x == ("__debug__" : Str))=false:=by decide) (o:lg (e::a) X.env=(false,eval e X.env)::lg a X.env:=by rfl) (c:(z_ pos (lg a X.env)).any (·.1)=false:=by rfl) :
  PE X (.Call (.Name x p) (e::a) [] pos) (wY sp [] E0 t):=dX F i h G.C G.A.kp G.B .nil ax j g o c
def psl(i:Nat){b:TE}{a:Pos}{ps:List Str}{d:D_}(S:FnScope X.N ps d)(j:PE X e b)(c:X.N[i]? = some x:=by rfl)(f:Loc X.env.scope x:=by exact uS rfl)(h:FU e (some (.Name x a)) pos.line X.env = pure false:=by rfl)(g:X.fn x = true\/X.env.scope.names.lookup x = some .local:=by first | exact .inl rfl | exact .inr rfl | assumption) :
  PS X (.Assign [.Name x a] e pos) (vf b (iH i)):=rE S.nd c f j h g
def psr(i:Nat){b:TE}{a:Pos}{ps:List Str}{d:D_}(S:FnScope X.N ps d)(j:PE X e b)(c:X.N[i]? = some x:=by rfl)(f:Loc X.env.scope x:=by exact HK rfl)(h:FU e (some (.Name x a)) pos.line X.env = pure false:=by rfl)(g:X.fn x = true\/X.env.scope.names.lookup x = some .local:=by first | exact .inl rfl | exact .inr rfl | assumption) :
  PS X (.Assign [.Name x a] e pos) (vf b (iH i)):=rE S.nd c f j h g
def _root_.L2.Fun.okz{P:hH}{w:lA}{K:Frag}{mg:Str->Option b_}{b:Heap}{x a:Str}{st:Stmt}{f:Addr}{g:p_}{N ps:List Str}{k:Nat}{sp:Sp}(F:Fun K x a st f g)(S:FnScope N ps (ap st))
  (c:∀(cdv:b_) (A:m_) (outer:List Env) (s:e_) (H:Hp) (vs:List V) (Q:VK) (E:XK),Room k (A.deeper (PyProof.Rows.envOfC a (ap st) s.heap.objs.size f cdv))->sp vs H Q E ->
   ∃ t,PSs (cV CX0 P w K mg b N a (ap st) f cdv A outer s H E).nox (bI st) t/\t { nx:=λ_ H'=>Q .non H',rt:=Q } (start N vs) H) (d:∀ vs H Q E,sp vs H Q E->vs.length=ps.length:=by intro _ _ _ _ h;cases h;subst_vars;rfl):FnOk P w K mg b CX0 (k+1) f g ps sp:=F.ok S d c
end
structure Txt(K:Frag)(mg:Str->Option b_)(a:Ad):Prop where
 lcd_b:a.d_b.code=.ref a.lc_b
 lch_b:ED K a.lc_b a.lp_b=true
 lcd_K:a.d_K.code=.ref a.lc_K
 lch_K:ED K a.lc_K a.lp_K=true
 lcd_m:a.d_m.code=.ref a.lc_m
 lch_m:ED K a.lc_m a.lp_m=true
 lcd_c:a.d_c.code=.ref a.lc_c
 lch_c:ED K a.lc_c a.lp_c=true
 lcd_l:a.d_l.code=.ref a.lc_l
 lch_l:ED K a.lc_l a.lp_l=true
 lcd_k:a.d_k.code=.ref a.lc_k
 lch_k:ED K a.lc_k a.lp_k=true
 lcd_f:a.d_f.code=.ref a.lc_f
 lch_f:ED K a.lc_f a.lp_f=true
 lcd_a:a.y_a.code=.ref a.lc_a
 lch_a:ED K a.lc_a a.lp_a=true
 lcd_g:a.d_g.code=.ref a.lc_g
 lch_g:ED K a.lc_g a.lp_g=true
 lcd_u:a.d_u.code=.ref a.lc_u
 lch_u:ED K a.lc_u a.lp_u=true
 tnd:((tabs a).map (·.1)).Nodup
 tndA:((tabsA a).map (·.1)).Nodup
 W_y:Fnd K mg "greatest_divisor" dj ["one","other"] a.f_y a.d_y
 W_w:Fnd K mg "least_multiple" ee ["numbers"] a.f_w a.d_w
 W_ah:Fnd K mg "share" rV ["top","bottom"] a.f_ah a.d_ah
 W_ao:Fnd K mg "total" tJ ["fractions"] a.f_ao a.d_ao
 W_U:Fnd K mg "is_whole" lJ ["thing","low","high"] a.f_U a.d_U
 W_ab:Fnd K mg "is_made_of" iC ["text","signs","most"] a.f_ab a.d_ab
 W_ak:Fnd K mg "is_name" m8 ["thing"] a.f_ak a.d_ak
 W_g:Fnd K mg "carried_make" dw ["make","carry"] a.f_g a.d_g
 W_M:Fnd K mg "can_be_thrown" eZ ["node","throw"] a.f_M a.d_M
 W_ae:Fnd K mg "drawn" tT ["node","throws"] a.f_ae a.d_ae
 W_k:Fnd K mg "behind" ly ["node","go"] a.f_k a.d_k
 W_F:Fnd K mg "ways_of" mK ["node"] a.f_F a.d_F
 W_P:Fnd K mg "table" sU ["node"] a.f_P a.d_P
 W_v:Fnd K mg "matrix_of" jp ["node","places"] a.f_v a.d_v
 W_matrix_row_dice:Mnd K "matrix_row" "matrix_row" dP ["one","places","tops","bottom"] a.f_matrix_row_dice a.d_matrix_row_dice
 m_matrix_row_dice:mg "matrix_row_dice" = some (.ref a.f_matrix_row_dice)
 W_ac:Fnd K mg "held_with" jh ["held","most","thing","throw"] a.f_ac a.d_ac
 W_N:Fnd K mg "streamed" kH ["many","most"] a.f_N a.d_N
 W_G:Fnd K mg "stream_node" gG ["held","number","many"] a.f_G a.d_G
 W_l:Fnd K mg "stream_make" d5 ["held","number","many"] a.f_l a.d_l
 W_B:Fnd K mg "need_alike" ii ["one","other"] a.f_B a.d_B
 W_R:Fnd K mg "poured" pQ ["one","other"] a.f_R a.d_R
 W_c:Fnd K mg "pour_node" dH ["wanted","one","other","taken"] a.f_c a.d_c
 W_m:Fnd K mg "from_one" gS ["wanted","one","other","taken"] a.f_m a.d_m
 W_b:Fnd K mg "from_other" eN ["wanted","one","other","taken"] a.f_b a.d_b
 W_Z:Fnd K mg "without" mH ["pot","place"] a.f_Z a.d_Z
 W_S:Fnd K mg "any_of" qd ["places","go"] a.f_S a.d_S
 W_K:Fnd K mg "going" nZ ["go","place"] a.f_K a.d_K
 W_am:Fnd K mg "into" vL ["one","other","kept"] a.f_am a.d_am
 W_af:Fnd K mg "places_of" jo ["crowd"] a.f_af a.d_af
 W_T:Fnd K mg "matrix_by" jg ["many","tell"] a.f_T a.d_T
 W_matrix_row_plans:Mnd K "matrix_row" "matrix_row" du ["one","many","tell"] a.f_matrix_row_plans a.d_matrix_row_plans
 m_matrix_row_plans:mg "matrix_row_plans" = some (.ref a.f_matrix_row_plans)
 W_X:Fnd K mg "need_number" gI ["thing","low","high"] a.f_X a.d_X
 W_u:Fnd K mg "few_node" eC ["ahead","wanted","taken"] a.f_u a.d_u
 W_ad:Fnd K mg "few_chance" io ["there","wanted","is_same"] a.f_ad a.d_ad
 W_Y:Fnd K mg "_law_cell_at" jm ["_law_script","_law_k"] a.f_Y a.d_Y
 W_ap:Fnd K mg "_law_mix" sB ["_law_cell","_law_k"] a.f_ap a.d_ap
 W_H:Fnd K mg "_law_numbers" jA ["_law_cell","_law_digits","_law_bases"] a.f_H a.d_H
 W_J:Fnd K mg "_law_filled" ka ["_law_most","_law_many"] a.f_J a.d_J
 W_f:Fnd K mg "_law_joined" bj ["_law_most","_law_first","_law_second_here"] a.f_f a.d_f
 W_ag:Fnd K mg "_law_pot" sx ["_law_most","_law_many","_law_names","_law_throws"] a.f_ag a.d_ag
 W_aj:Fnd K mg "_law_sides" mG ["_law_most","_law_many"] a.f_aj a.d_aj
 W_an:Fnd K mg "_law_rest" o6 ["_law_node","_law_numbers_here"] a.f_an a.d_an
 W_V:Fnd K mg "_law_sorted" kQ ["_law_pot_here","_law_first","_law_names","_law_others"] a.f_V a.d_V
 W_aa:Fnd K mg "_law_thrown" lG ["_law_most","_law_first","_law_second_here","_law_cell","_law_digits"] a.f_aa a.d_aa
 W_W:Fnd K mg "_law_by_sides" im ["_law_places","_law_first"] a.f_W a.d_W
 W_al:Fnd K mg "_law_crowd" mY ["_law_cell","_law_digits","_law_many"] a.f_al a.d_al
 W_ai:Fnd K mg "law" zG ["_law_script"] a.f_ai a.d_ai
 g_LETTERS:∃ u,mg "LETTERS" = some u/\RelV (.str "abcdefghijklmnopqrstuvwxyz") u
 g_MOST_LETTERS:∃ u,mg "MOST_LETTERS" = some u/\RelV (.int 8) u
 g_MOST_WAYS:∃ u,mg "MOST_WAYS" = some u/\RelV (.int 4096) u
 g_MOST_KEPT:∃ u,mg "MOST_KEPT" = some u/\RelV (.int 24) u
 g_MOST_STREAMED:∃ u,mg "MOST_STREAMED" = some u/\RelV (.int 24) u
 g_MOST_COME:∃ u,mg "MOST_COME" = some u/\RelV (.int 300) u
 g_MOST_MANY:∃ u,mg "MOST_MANY" = some u/\RelV (.int 24) u
 mc_s:mg "NoThrow" = some (.ref a.c_s)
 kc_NoThrow:Fp K (.ref a.c_s)=true
 xc_s:XCls K a.c_s
 xh_s:XHd K a.c_s
 xi_NoThrow:xIn K a.c_s (some (.ref a.i_s))=true
 fn_NoThrow:isFn K (.ref a.i_s)=true
 Wi_s:Mnd K "__init__" "NoThrow.__init__" c5 ["self","place"] a.i_s a.e_s
 sx_NoThrow_place:∃ cd,XSet K a.c_s "place" cd
 mc_E:mg "TooMany" = some (.ref a.c_E)
 kc_TooMany:Fp K (.ref a.c_E)=true
 xc_E:XCls K a.c_E
 xh_E:XHd K a.c_E
 xi_TooMany:xIn K a.c_E none=true
 mc_C:mg "NoThing" = some (.ref a.c_C)
 kc_NoThing:Fp K (.ref a.c_C)=true
 xc_C:XCls K a.c_C
 xh_C:XHd K a.c_C
 xi_NoThing:xIn K a.c_C none=true
 mc_i:mg "Told" = some (.ref a.c_i)
 cl_i:Cls K a.c_i
 mk_i:Mk K a.c_i a.i_i
 Wi_i:Mnd K "__init__" "Told.__init__" eX ["self","kept"] a.i_i a.e_i
 na_Told_rising:NoAttr K a.c_i "rising"
 mt_e:Meth K a.c_i "is_told" a.x_e
 mt_p:Meth K a.c_i "kept" a.x_p
 mt_t:Meth K a.c_i "sides" a.x_t
 mt_I:Meth K a.c_i "parts" a.x_I
 mc_n:mg "Die" = some (.ref a.c_n)
 cl_n:Cls K a.c_n
 mk_n:Mk K a.c_n a.i_n
 Wi_n:Mnd K "__init__" "Die.__init__" fj ["self","parts"] a.i_n a.e_n
 na_Die_makes:NoAttr K a.c_n "makes"
 mt_h:Meth K a.c_n "is_told" a.x_h
 mt_r:Meth K a.c_n "kept" a.x_r
 mt_A:Meth K a.c_n "sides" a.x_A
 mt_L:Meth K a.c_n "parts" a.x_L
 mt_D:Meth K a.c_n "carried" a.x_D
 mt_q:Meth K a.c_n "after" a.x_q
 mc_o:mg "Pot" = some (.ref a.c_o)
 cl_o:Cls K a.c_o
 mk_o:Mk K a.c_o a.i_o
 Wi_o:Mnd K "__init__" "Pot.__init__" fm ["self","most"] a.i_o a.e_o
 na_Pot_most:NoAttr K a.c_o "most"
 na_Pot_seen:NoAttr K a.c_o "seen"
 na_Pot_held:NoAttr K a.c_o "held"
 mt_z:Meth K a.c_o "come" a.x_z
 mt_x:Meth K a.c_o "next_sides" a.x_x
 mt_d:Meth K a.c_o "things" a.x_d
 mt_j:Meth K a.c_o "came" a.x_j
 mc_Q:mg "Few" = some (.ref a.c_Q)
 cl_Q:Cls K a.c_Q
 mk_Q:Mk K a.c_Q a.i_Q
 Wi_Q:Mnd K "__init__" "Few.__init__" fV ["self","many"] a.i_Q a.e_Q
 na_Few_many:NoAttr K a.c_Q "many"
 mt_O:Meth K a.c_Q "node" a.x_O
 mt_a:Meth K a.c_Q "matrix" a.x_a
 F_z:FunD K "come" "Pot.come" da a.x_z a.y_z
 Bd_Pot_come:Binds K a.y_z ["self","thing","throw"] [a.v_Pot_come]
 Rv_Pot_come:RelV (.int 0) a.v_Pot_come
 B_z:Binds K a.y_z ["self","thing","throw"] []
 W_x:Mnd K "next_sides" "Pot.next_sides" eA ["self"] a.x_x a.y_x
 W_d:Mnd K "things" "Pot.things" iB ["self"] a.x_d a.y_d
 W_e:Mnd K "is_told" "Told.is_told" fw ["self"] a.x_e a.y_e
 W_h:Mnd K "is_told" "Die.is_told" gJ ["self"] a.x_h a.y_h
 W_p:Mnd K "kept" "Told.kept" jx ["self"] a.x_p a.y_p
 W_r:Mnd K "kept" "Die.kept" lL ["self"] a.x_r a.y_r
 W_t:Mnd K "sides" "Told.sides" iy ["self"] a.x_t a.y_t
 W_A:Mnd K "sides" "Die.sides" jc ["self"] a.x_A a.y_A
 W_I:Mnd K "parts" "Told.parts" hZ ["self"] a.x_I a.y_I
 W_L:Mnd K "parts" "Die.parts" jd ["self"] a.x_L a.y_L
 W_j:Mnd K "came" "Pot.came" kh ["self"] a.x_j a.y_j
 W_D:Mnd K "carried" "Die.carried" gL ["self","carry"] a.x_D a.y_D
 W_O:Mnd K "node" "Few.node" kY ["self","crowd"] a.x_O a.y_O
 W_a:Mnd K "matrix" "Few.matrix" eG ["self","crowd"] a.x_a a.y_a
 W_q:Mnd K "after" "Die.after" jn ["self","throw"] a.x_q a.y_q
 z_abs:mg "abs" = none
 z_all:mg "all" = none
 z_bool:mg "bool" = none
 z_enumerate:mg "enumerate" = none
 z_int:mg "int" = none
 z_isinstance:mg "isinstance" = none
 z_len:mg "len" = none
 z_list:mg "list" = none
 z_min:mg "min" = none
 z_range:mg "range" = none
 z_sorted:mg "sorted" = none
 z_str:mg "str" = none
 z_sum:mg "sum" = none
 z_tuple:mg "tuple" = none
 bl:∀(s:e_) (u:b_),JM s a.d_ai ⟨[u],[]⟩ [("_law_script",u)]
def sj(ns:List Int)(k:Int):Int:=if k<(ns.length:Int) then ns.getD k.toNat 0 else 0
inductive spCell(K:Frag)(vs:List V)(H:Hp)(Q:VK)(_E:XK):Prop
 | mk(p:Addr)(ns:List Int)(k:Int)(h0:vs=[.ref p,.int k])(h1:SqL K H p (ns.map V.int))(h2:ns.length<=63)(h3:0<=k)(h4:k<=1000)(h5:Q (.int (sj ns k)) H):spCell K vs H Q _E
inductive spMix(vs:List V)(H:Hp)(Q:VK)(_E:XK):Prop
 | mk(c k:Int)(h0:vs=[.int c,.int k])(h1:0<=k)(h2:k<=1000)(h3:∀ r:Int,0<=r->Q (.int r) H):spMix vs H Q _E
inductive spLaw(K:Frag)(ts:List Addr)(vs:List V)(H:Hp)(Q:VK)(_E:XK):Prop
 | mk(p:Addr)(ns:List Int)(h0:vs=[.ref p])(h1:SqL K H p (ns.map V.int))(h2:ns.length<=63)(h3:(∀ P∈ts,H P=some (.tbl #[])))(h4:∀ H',Q (.bl true) H'):spLaw K ts vs H Q _E
def law_start{K:Frag}{c:List Addr}{H:Hp}{a:Addr}{b:List Int}(g:b.length<=63)(d:∀ P∈c,H P=some (.tbl #[]))(f:SqL K H a (b.map V.int)):spLaw K c [.ref a] H (λv _=>v=.bl true) λ_ _ _=>False:=⟨a,b,rfl,f,g,d,λ_=>rfl⟩
abbrev Below:List Int->List Int->Prop:=PySem.Paired (λb v=>0<=v/\v<b)
def Below.snoc{b v:Int}(r:0<=v/\v<b):∀{bs ns:List Int},Below bs ns->Below (bs++[b]) (ns++[v])
 | _,_,.nil=>.cons r .nil
 | _,_,.cons q t=>.cons q (Below.snoc r t)
inductive spNumbers(K:Frag)(vs:List V)(H:Hp)(Q:VK)(_E:XK):Prop
 | mk(c:Int)(d:Bool)(p:Addr)(bs:List Int)(h0:vs=[.int c,.bl d,.ref p])(h1:H p=some (.lst (bs.map V.int)))(h2:bs.length<=100)(h3:(∀ b∈bs,1<=b/\b<=1000000))(h4:∀ H' l ns,Same H H'->H l=none->H' l=some (.lst (ns.map V.int))->Below bs ns->Q (.ref l) H'):spNumbers K vs H Q _E
def cS(x y:V):[x,y].length<=sizeLine:=by show 2<=sizeLine;decide
def pI(t:Str):Bool:=decide (1<=t.cps.size/\t.cps.size<=8) && t.cps.toList.all λc=>decide (97<=c/\c<=122)
inductive spMade(vs:List V)(H:Hp)(Q:VK)(_E:XK):Prop
 | mk(t:Str)(h0:vs=[.str t,.str "abcdefghijklmnopqrstuvwxyz",.int 8])(h1:t.length<=sizeLine)(h2:∀ H',Same H H'->Q (.bl (pI t)) H'):spMade vs H Q _E
inductive Kd | i (n:Int) | s (t:Str) | o
inductive Thg(H:Hp):V->Kd->Prop
 | int (i:Int):Thg H (.int i) (.i i)
 | str (t:Str) (h:t.length<=100) (h2:∀ c∈t.cps.toList,c<128):Thg H (.str t) (.s t)
 | bl (b:Bool):Thg H (.bl b) .o
 | non:Thg H .non .o
 | lst (p:Addr) (xs:List V) (e:H p=some (.lst xs)):Thg H (.ref p) .o
 | tup (p:Addr) (xs:List V) (e:H p=some (.tup xs)):Thg H (.ref p) .o
 | dK (p:Addr) (e:H p=some (.dK [])):Thg H (.ref p) .o
def Thg.same{H H':Hp}{x:V}{o:Kd}(s:Same H H')(h:Thg H x o):Thg H' x o:=by
 cases h with
 | int i=>exact .int i
 | str t h h2=>exact .str t h h2
 | bl b=>exact .bl b
 | non=>exact .non
 | lst p xs e=>exact .lst p xs (s _ _ e)
 | tup p xs e=>exact .tup p xs (s _ _ e)
 | dK p e=>exact .dK p (s _ _ e)
def inK(lo hi:Int):Kd->Bool
 | .i n=>decide (lo<=n/\n<=hi)
 | _=>false
def nmK:Kd->Bool
 | .s t=>pI t
 | _=>false
inductive spWhole(vs:List V)(H:Hp)(Q:VK)(_E:XK):Prop
 | mk(x:V)(lo hi:Int)(k:Kd)(h0:vs=[x,.int lo,.int hi])(h1:Thg H x k)(h2:Q (.bl (inK lo hi k)) H):spWhole vs H Q _E
inductive spName(vs:List V)(H:Hp)(Q:VK)(_E:XK):Prop
 | mk(x:V)(k:Kd)(h0:vs=[x])(h1:Thg H x k)(h2:∀ H',Same H H'->Q (.bl (nmK k)) H'):spName vs H Q _E
structure PotAt(a:Ad)(H:Hp)(x h:Addr)(m n:Int)(ts:List Str):Prop where
 at_:∃ dx,H x=some (.ins a.c_o dx [("most",.int m),("seen",.int n),("held",.ref h)])
 held:H h=some (.lst (ts.map V.str))
def PotAt.same{a:Ad}{H H':Hp}{x h:Addr}{m n:Int}{b:List Str}(s:Same H H')(p:PotAt a H x h m n b):PotAt a H' x h m n b:=⟨let ⟨dx,e⟩:=p.at_;⟨dx,s _ _ e⟩,s _ _ p.held⟩
def SB(x:Addr)(H H':Hp):Prop:=∀ b o,b≠x->H b=some o->H' b=some o
def Okp(m n:Int)(ts:List Str):Prop:=1<=m/\m<=24/\0<=n/\n<=300/\(ts.length:Int)=(if n<m then n else m)
def sides(m n:Int):Int:=if n<m then 1 else n+1
def lm{α:Type}(m:Int)(xs:List α)(t:α)(th:Int):List α:=if (xs.length:Int)<m then xs++[t] else if th<m then xs.set th.toNat t else xs
def nxt(m:Int)(ts:List Str)(t:Str)(th:Int):List Str:=lm m ts t th
def sI{a c:Type}(f:a->c)(m:Int)(xs:List a)(t:a)(b:Int):lm m (xs.map f) (f t) b=(lm m xs t b).map f:=by
 unfold lm;rw[d_]
 split
 .rw[nv];rfl
 .split
  .rw[List.map_set]
  .rfl
inductive spHeld(vs:List V)(H:Hp)(Q:VK)(_E:XK):Prop
 | mk(h:Addr)(m th:Int)(t:V)(xs:List V)(h0:vs=[.ref h,.int m,t,.int th])(h1:H h=some (.lst xs))(h2:xs.length<=24)(h3:m<=24)(h4:0<=th)(h5:((xs.length:Int)<m\/(xs.length:Int)=m))(h6:∀ H' h',Same H H'->H' h'=some (.lst (lm m xs t th))->(h'=h\/H h'=none)->Q (.ref h') H'):spHeld vs H Q _E
inductive spSides(a:Ad)(vs:List V)(H:Hp)(Q:VK)(_E:XK):Prop
 | mk(x h:Addr)(m n:Int)(ts:List Str)(h0:vs=[.ref x])(h1:PotAt a H x h m n ts)(h2:Q (.int (sides m n)) H):spSides a vs H Q _E
inductive spThings(a:Ad)(vs:List V)(H:Hp)(Q:VK)(_E:XK):Prop
 | mk(x h:Addr)(m n:Int)(ts:List Str)(h0:vs=[.ref x])(h1:PotAt a H x h m n ts)(h2:∀ H' r,Same H H'->H r=none->H' r=some (.lst (ts.map V.str))->Q (.ref r) H'):spThings a vs H Q _E
inductive spCame(a:Ad)(vs:List V)(H:Hp)(Q:VK)(_E:XK):Prop
 | mk(x h:Addr)(m n:Int)(ts:List Str)(h0:vs=[.ref x])(h1:PotAt a H x h m n ts)(h2:Q (.int n) H):spCame a vs H Q _E
inductive spI1(c:Addr)(f1:Str)(vs:List V)(H:Hp)(Q:VK)(_E:XK):Prop
 | mk(x:Addr)(m:Int)(h0:vs=[.ref x,.int m])(h1:H x=some (.ext (XD0 x c)))(h2:∀ dx,H dx=none->dx≠x->Q .non (upd (upd H dx (.ext (XDct dx [(f1,.int m)]))) x (.ext (XD1 x c dx)))):spI1 c f1 vs H Q _E
def xI{c:Addr}{a:Str}:∀ vs H Q E,spI1 c a vs H Q E->vs.length<=100:=by
 rintro _ _ _ _ ⟨_,_,rfl,_⟩;exact(by decide:2<=100)
section
variable {P:hH}{w:lA}{K:Frag}{mg:Str->Option b_}{base:Heap}{a:Ad}
def nC(T:Txt K mg a):FnX P w base 1 T.W_Y (spCell K):=by
 refine T.W_Y.A.okz n9 λo A f s H u Q E v h=>?_
 .obtain⟨p,b,k,rfl,g,y,r,x,q⟩:=h
  refine⟨_,(af (bc (bO oZ (vr 1) (aw aC rfl T.z_len bp (aa (vr 0) ad)) (aX _)) (ag (ao (bf (vr 0) (vr 1)))) aG) (ag (ao am))),jt ?_⟩;intro j;refine⟨b.map V.int,.inl g,?_⟩;rw[d_];unfold sj at q;refine Ev (λc=>?_) (λc=>?_)
  .have d:k<(b.length:Int):=of_decide_eq_true c
   rw[if_pos d]at q;refine .inl ⟨p,_,k,.int (b.getD k.toNat 0),rfl,rfl,g,?_,q⟩;have e:((k.toNat:Nat):Int)=k:=by omega
   rw[<- e];refine iG ?_;have i:k.toNat<b.length:=by omega
   rw[e];simp[gb,EQ,i]
  .have d:¬k<(b.length:Int):=λz=>c (decide_eq_true z)
   rw[if_neg d]at q;exact q
def AZ(T:Txt K mg a):FnX P w base 1 T.W_ap spMix:=by
 refine T.W_ap.A.okz kL λg A b s H j Q E o h=>?_
 .obtain⟨c,k,rfl,i,p,q⟩:=h
  refine⟨_,(af (psl 2 kL (au ik (au cO (au bY (au bY (au ik (vr 0) am) (au cO am (vr 1))) am) am) am)) (af (psl 2 kL (au ik (au cO (vr 2) (vr 2)) am)) (ag (ao (au ik (au cO (vr 2) (au bY (vr 2) am)) am))))),jf ?_⟩;intro f d;exact⟨cp,clB,crB,cp,clB (by omega) (by omega),cp,clB (by omega) (by omega),cp,q _ (by omega)⟩
def gW(T:Txt K mg a):FnX P w base 2 T.W_H (spNumbers K):=by
 refine T.W_H.A.okz sc_H λan A N s H vs Q E hr h=>?_
 .obtain⟨c,d,u,j,rfl,M,al,Y,q⟩:=h
  refine⟨_,(af (psl 3 sc_H (bC ad)) (af (c8 s_ rfl (tP rfl T.z_enumerate (aa (vr 2) ad)) (gZ rfl (aW (aN (i:=4) sc_H.nd rfl (uS rfl)) (aW (aN (i:=5) sc_H.nd rfl (uS rfl)) dM))) (ag (bc (dh (vr 1)) (af (bR (pe_m.append (vr 3) (aa (au ik (vr 0) (vr 5)) ad))) (ag (psl 0 sc_H (au gx (vr 0) (vr 5))))) (ag (bR (pe_m.append (vr 3) (aa (au ik (pec (AZ T) hr T.W_ap (aa (vr 0) (aa (au bY am (vr 4)) ad))) (vr 5)) ad))))))) (ag (ao (vr 3))))),jf ?_⟩;intro ah ab;have sl:sizeLine=16777216:=j_;refine⟨h_ _,λp G=>?_⟩;have L:u≠p:=ai M G
  let Pw1:PvS:=λi I k=>i<=j.length/\∃(o:Int) (f:List Int) (y C:Option V),Same H k/\k p=some (.lst (f.map V.int))/\Below (j.take i) f/\I=[some (.int o),some (.bl d),some (.ref u),some (.ref p),y,C]
  refine⟨u,_,rfl,by rw[ae L];exact M,oY (a:=u) (xs:=j.map V.int) Pw1 ⟨h_ _,c,[],none,none,Same.new G,ac,by rw[Lu];exact .nil,rfl⟩ (λi I k h=>by obtain⟨_,_,_,_,_,D,_⟩:=h;exact D _ _ M) ?_ ?_⟩
  .rintro i x I k X R ⟨hi,o,f,y,C,D,O,B,rfl⟩ S
   have z:i<j.length:=by have:=(fP.mp R).1;rw[d_]at this;exact this
   obtain⟨b,hbi⟩:∃ b,j[i]? = some b:=⟨_,ki z⟩
   have ex:x=.int b:=by rw[gb,hbi]at R;cases R;rfl
   subst ex;obtain⟨b0,b1⟩:=Y b (ge hbi);have et:j.take (i+1)=j.take i++[b]:=by rw[oN,hbi];rfl
   have nl:f.length=i:=by rw[<- rn B,mx];omega
   have Z:(f.map V.int).length<sizeLine:=by rw[d_];omega
   have J:Same k (upd k X (.tup [.int (i:Nat),.int b])):=Same.new S;have g:=J _ _ O;have em:∀ v:Int,(f.map V.int)++[V.int v]=(f++[v]).map V.int:=λv=>by rw[nv];rfl
   refine⟨X,_,rfl,SqT.of ac,rfl,_,_,rfl,_,_,rfl,rfl,?_⟩;generalize upd k X (.tup [.int (i:Nat),.int b])=H2 at J g
   obtain⟨ns0,hns0⟩:∃ ns0,ns0=f.map V.int:=⟨_,rfl⟩
   have F:∀(W v:Int),0<=v->v<b->i+1<=j.length/\∃(o:Int) (f:List Int) (y C:Option V),Same H (upd H2 p (.lst (ns0++[V.int v])))/\(upd H2 p (.lst (ns0++[V.int v]))) p=some (.lst (f.map V.int))/\Below (j.take (i+1)) f/\[some (V.int W),some (.bl d),some (.ref u),some (.ref p),some (.int (i:Nat)),some (.int b)]=[some (.int o),some (.bl d),some (.ref u),some (.ref p),y,C]:=λW v v0 v1 =>
    ⟨z,W,f++[v],_,_,(D.trans J).put G,by rw[<- em,<- hns0];exact ac,by rw[et];exact B.snoc ⟨v0,v1⟩,rfl⟩
   cases d with
   | true =>
    refine⟨.inl ⟨rfl,_,SqL.of g⟩,⟨cp (by omega),⟨p,_,_,rfl,rfl,g,Z,⟨cdB (by omega) (show Bt 30 b by unfold Bt;omega),?_⟩⟩⟩⟩;rw[<- hns0];exact F _ _ (FC _ (by omega)) (FQ _ (by omega))
   | false =>
    refine⟨.inl ⟨rfl,_,SqL.of g⟩,⟨o,_,rfl,by omega,by omega,λr r0=>⟨cp (by omega),⟨p,_,_,rfl,rfl,g,Z,?_⟩⟩⟩⟩;rw[<- hns0];exact F _ _ (FC _ (by omega)) (FQ _ (by omega))
  .rintro I k ⟨_,o,f,y,C,D,O,B,rfl⟩
   rw[d_,rb (fS _)]at B;exact q _ p f D G O B
def zC(T:Txt K mg a):FnX P w base 1 T.W_ab spMade:=by
 refine T.W_ab.A.okz md λv A g s H F Q E G h=>?_
 .obtain⟨t,rfl,p,q⟩:=h
  refine⟨_,(ag (ao (pE (sY xP xP am (aw aC rfl T.z_len bp (aa (vr 0) ad)) (vr 2)) (nI (aw (uy rfl) rfl T.z_all BD (aa (aV rfl (N:=["sign","signs"]) (ix:=[none,some 1]) aD (a6 (vr 0)) (aQ λC s H B=>⟨bM 0 ["sign","signs"],aU,(iu Cr (vr 0) (vr 1) (by with_unfolding_all rfl))⟩)) ad)))))),?_⟩
  have k:∀ b,Same H b->¬(1<=t.cps.size/\t.cps.size<=8)->Q (.bl false) b:=λb e c=>by
   have:=q b e;unfold pI at this;rw[decide_eq_false c]at this;exact this
  refine⟨p,?_⟩;refine ifC (λj=>?_) (λj=>(k H (Same.refl H) λz=>j (by show(1:Int)<=((t.cps.size:Nat):Int);omega)));refine ifC (λf=>?_) (λf=>k H (Same.refl H) λz=>f (by show((t.cps.size:Nat):Int)<=8;omega))
  have c:1<=t.cps.size/\t.cps.size<=8:=⟨by have:(1:Int)<=((t.cps.size:Nat):Int):=j;omega,by have:((t.cps.size:Nat):Int)<=8:=f;omega⟩
  intro D o;refine xy (λi d b=>b=upd H D (.lst d)/\d=(t.cps.toList.take i).map λc=>V.bl (decide (97<=c/\c<=122))) ⟨rfl,rfl⟩ (λi d b ⟨e,_⟩=>by rw[e];exact ac) ?_ ?_
  .rintro i c d b P y ⟨rfl,rfl⟩ u
   refine⟨⟨rfl,trivial⟩,?_⟩;have x:t.cps.toList[i]? = some c:=by simpa using y
   refine⟨ac,?_,u _ _ ⟨zt,?_⟩⟩
   .rw[d_,mx]
    have:sizeLine=16777216:=j_;have:t.cps.toList.length=t.cps.size:=by simp
    omega
   .rw[oN,x,nv]
    show _=_++[V.bl (decide (97<=c/\c<=122))]
    congr 2
    show V.bl (!(E6 _ _ 0 _ 1).isEmpty)=_;rw[PySem.StrLaws.found_one]
    congr 1
    rw[Ft,decide_eq_true_eq,decide_eq_true_eq];exact lU c
  .rintro d b ⟨rfl,rfl⟩
   refine⟨D,_,t.cps.toList.map λc=>decide (97<=c/\c<=122),rfl,SqL.of ac,?_,?_⟩
   .rw[A8,rb (by simp)]
    rfl
   .have r:(t.cps.toList.map λc=>decide (97<=c/\c<=122)).all id=pI t:=by
     unfold pI;rw[decide_eq_true c,Bool.true_and,JY];rfl
    rw[r];exact q _ (Same.new o)
def d7(T:Txt K mg a):FnX P w base 1 T.W_U spWhole:=by
 refine T.W_U.A.okz pd λf A c s H k Q E r h=>?_
 .obtain⟨x,g,j,o,rfl,d,q⟩:=h
  refine⟨_,(ag (ao (pE (aw j9 rfl T.z_isinstance dZ (aa (vr 0) (aa (oy (v:=.ty "int") rfl T.z_int BO rfl) ad))) (pE (Cj (aw j9 rfl T.z_isinstance dZ (aa (vr 0) (aa (oy (v:=.ty "bool") rfl T.z_bool zg rfl) ad)))) (nI (sY xP xP (vr 1) (vr 0) (vr 2))))))),?_⟩;cases d with
  | int i =>
   refine⟨_,_,_,true,rfl,rfl,.int i,rfl,?_⟩;refine⟨_,_,_,false,rfl,rfl,.int i,rfl,?_⟩;exact AF (Q:=λv=>Q v H) q
  | bl b=>exact⟨_,_,_,true,rfl,rfl,.bl b,rfl,⟨_,_,_,true,rfl,rfl,.bl b,rfl,q⟩⟩
  | non=>exact⟨_,_,_,false,rfl,rfl,.non,rfl,q⟩
  | str t h h2=>exact⟨_,_,_,false,rfl,rfl,.str t,rfl,q⟩
  | lst p xs e=>exact⟨_,_,_,false,rfl,rfl,.lst e,rfl,q⟩
  | tup p xs e=>exact⟨_,_,_,false,rfl,rfl,.tup e,rfl,q⟩
  | dK p e=>exact⟨_,_,_,false,rfl,rfl,.dK e,rfl,q⟩
def xV(T:Txt K mg a):FnX P w base 2 T.W_ak spName:=by
 refine T.W_ak.A.okz qI λg A c s H o Q E d h=>?_
 .obtain⟨x,k,rfl,f,q⟩:=h
  refine⟨_,(ag (ao (pE (aw j9 rfl T.z_isinstance dZ (aa (vr 0) (aa (oy (v:=.ty "str") rfl T.z_str By rfl) ad))) (nI (pec (zC T) d T.W_ab (aa (vr 0) (aa (iK rfl T.g_LETTERS) (aa (iK rfl T.g_MOST_LETTERS) ad)))))))),?_⟩;have j:sizeLine=16777216:=j_;cases f with
  | int i=>exact⟨_,_,_,false,rfl,rfl,.int i,rfl,q _ (Same.refl H)⟩
  | bl b=>exact⟨_,_,_,false,rfl,rfl,.bl b,rfl,q _ (Same.refl H)⟩
  | non=>exact⟨_,_,_,false,rfl,rfl,.non,rfl,q _ (Same.refl H)⟩
  | str t h h2=>exact⟨_,_,_,true,rfl,rfl,.str t,rfl,⟨t,rfl,by omega,q⟩⟩
  | lst p xs e=>exact⟨_,_,_,false,rfl,rfl,.lst e,rfl,q _ (Same.refl H)⟩
  | tup p xs e=>exact⟨_,_,_,false,rfl,rfl,.tup e,rfl,q _ (Same.refl H)⟩
  | dK p e=>exact⟨_,_,_,false,rfl,rfl,.dK e,rfl,q _ (Same.refl H)⟩
def xm(T:Txt K mg a):MnX P w mg base 1 T.W_x (spSides a):=by
 refine T.W_x.A.okz ij λg A f s H i Q E j h=>?_
 .obtain⟨x,h,m,n,o,rfl,⟨⟨b,d⟩,k⟩,q⟩:=h
  refine⟨_,(ag (ao (wA (bO oZ (bG (vr 0) rfl) (bG (vr 0) rfl) (aX _)) am (au bY (bG (vr 0) rfl) am)))),?_⟩;refine⟨x,_,b,_,_,rfl,d,T.cl_o,T.na_Pot_seen,rfl,?_⟩;refine⟨x,_,b,_,_,rfl,d,T.cl_o,T.na_Pot_most,rfl,?_⟩;unfold sides at q;refine ifC (λc=>?_) (λc=>?_)
  .rw[if_pos c]at q;exact q
  .rw[if_neg c]at q
   exact⟨x,_,b,_,_,rfl,d,T.cl_o,T.na_Pot_seen,rfl,q⟩
def gw(T:Txt K mg a):MnX P w mg base 1 T.W_d (spThings a):=by
 refine T.W_d.A.okz lP λi A c s H j Q E b h=>?_
 .obtain⟨x,h,m,n,k,rfl,⟨⟨d,f⟩,g⟩,q⟩:=h
  refine⟨_,(ag (ao (bv eT rfl T.z_list dJ (aa (bG (vr 0) rfl) ad)))),?_⟩;refine⟨x,_,d,_,_,rfl,f,T.cl_o,T.na_Pot_held,rfl,?_⟩;exact⟨h,_,rfl,.inl (SqL.of g),λr b=>q _ r (Same.new b) b ac⟩
def sV(T:Txt K mg a):MnX P w mg base 1 T.W_j (spCame a):=by
 refine T.W_j.A.okz pV λf A b s H g Q E i h=>?_
 .obtain⟨x,h,m,n,k,rfl,⟨⟨c,d⟩,j⟩,q⟩:=h
  refine⟨_,(ag (ao (bG (vr 0) rfl))),?_⟩;exact⟨x,_,c,_,_,rfl,d,T.cl_o,T.na_Pot_seen,rfl,q⟩
def qJ(T:Txt K mg a):MnX P w mg base 1 T.Wi_s (spI1 a.c_s "place"):=by
 refine T.Wi_s.A.okz gE λk A d s H o Q E p h=>?_
 .obtain⟨x,m,rfl,i,q⟩:=h
  obtain⟨c,j⟩:=T.sx_NoThrow_place;refine⟨_,(ag (yN (vr 0) (vr 1) rfl)),?_⟩;exact⟨x,a.c_s,c,rfl,j,.inl ⟨i,λg f b=>q g f b⟩⟩
def ss(T:Txt K mg a):FnX P w base 1 T.W_ac spHeld:=by
 refine T.W_ac.A.okz nG λZ A v s H vs Q E hr h=>?_
 .obtain⟨h,m,r,t,b,rfl,j,R,O,t0,J,q⟩:=h
  refine⟨_,(af (bc (bO oZ (aw aC rfl T.z_len bp (aa (vr 0) ad)) (vr 1) (aX _)) (ag (ao (au cE (vr 0) (bC (aa (vr 2) ad))))) aG) (af (bc (bO oZ (vr 3) (vr 1) (aX _)) (ag (ao (au cE (au cE (cv sl_list (vr 0) eS (cu (vr 3))) (bC (aa (vr 2) ad))) (cv sl_list (vr 0) (cu (au bY (vr 3) am)) eS)))) aG) (ag (ao (vr 0))))),jf ?_⟩;intro L F;have sl:sizeLine=16777216:=j_;unfold lm at q;refine⟨_,.inl (SqL.of j),?_⟩;refine ifC (λc=>?_) (λc=>?_)
  .rw[if_pos c]at q
   refine⟨(by decide:1<=sizeLine),λC g=>?_⟩;have i:=Same.new (o:=.lst [t]) g;refine⟨h,C,_,_,rfl,rfl,i _ _ j,ac,by show _+1<=_;omega,λB d=>?_⟩;refine q _ B (i.trans (Same.new d)) ?_ (.inr (i.free d));rw[ac]
  .rw[if_neg c]at q
   refine ifC (λu=>?_) (λu=>?_)
   .rw[if_pos u]at q
    have I:r.toNat<b.length:=by have z1:r<m:=u;have z2:¬((b.length:Int)<m):=c;omega
    obtain⟨k,rfl⟩:∃ k:Nat,r=(k:Int):=⟨r.toNat,by omega⟩
    have N:k<b.length:=by omega
    refine⟨_,rfl,h,_,rfl,SqL.of j,λC g=>?_⟩;have G:b8 b none (some (k:Int))=b.take k:=gq _ k (by omega);rw[G];have i:=Same.new (o:=.lst (b.take k)) g;refine⟨(by decide:1<=sizeLine),λB d=>?_⟩;have D:=Same.new (o:=.lst [t]) d;refine⟨C,B,_,_,rfl,rfl,D _ _ ac,ac,by rw[mx];show _+1<=_;omega,λW z=>?_⟩;have S:=Same.new (o:=.lst (b.take k++[t])) z;have f:=(i.trans D).trans S;refine⟨_,rfl,h,_,rfl,SqL.of (f _ _ j),λM y=>?_⟩;have e2:b8 b (some ((k:Int)+1)) none=b.drop (k+1):=ja b (k+1);rw[e2];have x:=Same.new (o:=.lst (b.drop (k+1))) y;refine⟨W,M,_,_,rfl,rfl,x _ _ ac,ac,by rw[gV,mx,Fn];show _+1+_<=_;omega,λX p=>?_⟩;refine q _ X ((f.trans x).trans (Same.new p)) ?_ (.inr ((f.trans x).free p));have Y:b.set k t=b.take k++[t]++b.drop (k+1):=by rw[List.set_eq_take_append_cons_drop,if_pos N,append_assoc];rfl
    rw[ac,show((k:Int)).toNat=k from rfl,Y]
   .rw[if_neg u]at q
    exact q _ h (Same.refl H) j (.inl rfl)
end
def zd(a:Ad)(H:Hp)(E:XK):Prop:=∀ H',Same H H'->E (.ref a.c_C) none H'
def Dz(a:Ad)(H:Hp)(E:XK):Prop:=∀ H',Same H H'->E (.ref a.c_E) none H'
def DN(a:Ad)(H:Hp)(E:XK):Prop:=∀ H' dx,Same H H'->H' dx=some (.ext (XDct dx [("place",.int 0)]))->E (.ref a.c_s) (some dx) H'
def txK:Kd->Str
 | .s t=>t
 | _ => ""
def inI:Kd->Int
 | .i n=>n
 | _=>0
def qE(a:Ad):Sp:=λvs H Q E=>∃(x h:Addr) (m n:Int) (ts:List Str) (v u:V) (k j:Kd),vs=[.ref x,v,u]/\PotAt a H x h m n ts/\Okp m n ts/\Thg H v k/\Thg H u j/\(nmK k=false->zd a H E)/\(nmK k=true->n=300->Dz a H E)/\(nmK k=true->n<300->inK 0 (sides m n - 1) j=false->DN a H E)/\(nmK k=true->n<300->inK 0 (sides m n - 1) j=true->∀ H' h',SB x H H'->PotAt a H' x h' m (n+1) (nxt m ts (txK k) (inI j))->(h'=h\/H h'=none)->Q .non H')
def sJ(a:Ad):Sp:=λvs H Q _=>∃(x dx:Addr) (m:Int),vs=[.ref x,.int m]/\H x=some (.ins a.c_o dx [])/\1<=m/\m<=24/\∀ H' h,(∀ b o,b≠x->H b=some o->H' b=some o)->H h=none->PotAt a H' x h m 0 []->Q .non H'
section
variable {P:hH}{w:lA}{K:Frag}{mg:Str->Option b_}{base:Heap}{a:Ad}
def Ae{a:Ad}{H:Hp}{E:XK}{c:Addr}{d:Hp}(s:Same d H)(q:∀ H',Same d H'->E (.ref c) none H'):∀ x,H x=none->E (.ref c) none (untr (upd H x (.ext (XD0 x c))) x):=λx g=>q _ λb o e=>by
 have f:b≠x:=λz=>by have:=s _ _ e;rw[z,g]at this;cases this
 rw[aA f,ae f];exact s _ _ e
def tm(T:Txt K mg a):FnOk P w K mg base (CXG P w) 4 a.x_z a.y_z ["self","thing","throw"] (qE a):=by
 have O:FnO P w K mg base 3 (spSides a):=(xm T).mo;have J:FnO P w K mg base 2 (spI1 a.c_s "place"):=(qJ T).mo;refine T.F_z.okG pO (λvs H Q E h=>?_) (λcdv A outer s H vs Q E hr h=>?_)
 .obtain⟨x,h,m,n,N,v,u,k,j,rfl,_⟩:=h;rfl
 .obtain⟨x,h,m,n,N,v,u,k,j,rfl,hp,ok,Y,tu,q1,q2,q3,q4⟩:=h
  refine⟨_,(af (bc (c7 (dh (aI (xV T) hr T.W_ak (aa (vr 1) ad)))) (ag (cI T.xc_C T.xh_C (gv T.xi_NoThing T.kc_NoThing rfl T.mc_C))) aG) (af (bc (bO AI (bG (vr 0) rfl) (iK rfl T.g_MOST_COME) (aX _)) (ag (cI T.xc_E T.xh_E (gv T.xi_TooMany T.kc_TooMany rfl T.mc_E))) aG) (af (bc (c7 (dh (aI (d7 T) hr T.W_U (aa (vr 2) (aa am (aa (au fH (ar (vr 0) T.cl_o T.mt_x O hr T.W_x.B .nil ax) am) ad)))))) (ag (cI T.xc_s T.xh_s (A0 T.xi_NoThrow T.kc_NoThrow T.fn_NoThrow J hr rfl T.mc_s T.Wi_s.B (aa am ad) xI))) aG) (af (eB (vr 0) (aI (ss T) hr T.W_ac (aa (bG (vr 0) rfl) (aa (bG (vr 0) rfl) (aa (vr 1) (aa (vr 2) ad))))) rfl) (ag (tZ (vr 0) am Bc)))))),wZ ?_⟩;intro al an ah ab;refine⟨v,k,rfl,Y,λH1 d=>?_⟩;have F:=hp.same d;obtain⟨⟨q,f⟩,L⟩:=id F;obtain⟨o1,o2,o3,o4,R⟩:=id ok;cases e1:nmK k with
  | false =>
   intro y r;refine⟨y,none,_,rfl,ac,λh z=>z,d.free r,q1 e1 _ λb o e=>?_⟩;have p:b≠y:=λz=>by have:=d _ _ e;rw[z,r]at this;cases this
   rw[aA p,ae p];exact d _ _ e
  | true =>
   refine⟨x,_,q,_,_,rfl,f,T.cl_o,T.na_Pot_seen,rfl,?_⟩;refine ifC (λc=>?_) (λc=>?_)
   .have G:n=300:=by have z:n >= 300:=c;lia
    intro y r;refine⟨y,none,_,rfl,ac,λh z=>z,d.free r,q2 e1 G _ λb o e=>?_⟩;have p:b≠y:=λz=>by have:=d _ _ e;rw[z,r]at this;cases this
    rw[aA p,ae p];exact d _ _ e
   .have G:n<300:=by have z:¬n >= 300:=c;lia
    refine⟨x,q,_,rfl,f,rfl,⟨x,h,m,n,N,rfl,F,?_⟩⟩;refine⟨u,0,_,j,rfl,tu.same d,?_⟩;cases e2:inK 0 (sides m n - 1) j with
    | false =>
     intro y r;refine⟨y,0,rfl,ac,λI Z B=>⟨rfl,y,some I,_,rfl,ac,λh z=>z,d.free r,?_⟩⟩;have M:H1 I=none:=by rw[ae B]at Z;exact Z
     refine q3 e1 G e2 _ I (λb o e=>?_) ?_
     .have D:=d _ _ e
      have p:b≠y:=λz=>by rw[z,r]at D;cases D
      have b2:b≠I:=λz=>by rw[z,M]at D;cases D
      rw[aA p,ae p,ae b2,ae p];exact D
     .rw[aA B,ae B]
      exact ac
    | true =>
     obtain⟨i,rfl⟩:∃ i,j=.i i:=by cases j with | i n=>exact⟨n,rfl⟩ | s t=>cases e2 | o=>cases e2
     obtain⟨t,rfl⟩:∃ t,k=.s t:=by cases k with | s t=>exact⟨t,rfl⟩ | i n=>cases e1 | o=>cases e1
     cases tu;cases Y;have hi:0<=i/\i<=sides m n - 1:=of_decide_eq_true e2;refine⟨x,_,q,_,_,rfl,f,T.cl_o,T.na_Pot_held,rfl,?_⟩;refine⟨x,_,q,_,_,rfl,f,T.cl_o,T.na_Pot_most,rfl,?_⟩;refine⟨h,m,i,.str t,N.map V.str,rfl,L,by rw[d_];split at R <;> lia,o2,hi.1,by rw[d_];split at R <;> lia,λH2 S W g hf=>?_⟩;rw[sI]at g;have C:=W _ _ f;have nx:S≠x:=λz=>by rw[z,C]at g;cases g
     refine⟨x,_,q,_,rfl,C,T.cl_o,T.na_Pot_held,by show 3<1000;decide,?_⟩;refine⟨x,_,q,_,_,rfl,ac,T.cl_o,T.na_Pot_seen,rfl,?_⟩;refine⟨_,_,rfl,rfl,⟨q,_,ac,by show 3<1000;decide,?_⟩⟩;refine q4 e1 G e2 _ S (λb o X e=>?_) ⟨⟨q,ac⟩,?_⟩ ?_
     .rw[ae X,ae X];exact W _ _ (d _ _ e)
     .rw[ae nx,ae nx];exact g
     .rcases hf with hf | hf
      .exact .inl hf
      .exact .inr (d.free hf)
def rk(T:Txt K mg a):MnX P w mg base 3 T.Wi_o (sJ a):=by
 refine T.Wi_o.A.ok jG (λu H Q E h=>?_) (λcdv A outer s H u Q E hr h=>?_)
 .obtain⟨x,c,m,rfl,_⟩:=h;rfl
 .obtain⟨x,c,m,rfl,r,y,g,q⟩:=h
  refine⟨_,(af (bc (c7 (dh (aI (d7 T) hr T.W_U (aa (vr 1) (aa am (aa (iK rfl T.g_MOST_KEPT) ad)))))) (ag fB) aG) (af (eB (vr 0) (vr 1) rfl) (af (eB (vr 0) am rfl) (ag (eB (vr 0) (bC ad) rfl))))),mn ?_⟩;intro B v p;refine⟨_,1,24,_,rfl,.int m,?_⟩;have e:inK 1 24 (.i m)=true:=decide_eq_true ⟨y,g⟩;rw[e];refine⟨x,_,c,_,rfl,r,T.cl_o,T.na_Pot_most,by decide,?_⟩;refine⟨x,_,c,_,rfl,ac,T.cl_o,T.na_Pot_seen,by show 1<1000;decide,?_⟩;refine⟨h_ _,λh f=>?_⟩;have d:x≠h:=λz=>by rw[<- z,ac]at f;cases f
  refine⟨x,_,c,_,rfl,by rw[ae d];exact ac,T.cl_o,T.na_Pot_held,by show 2<1000;decide,?_⟩;have j:H h=none:=by rw[ae (A_ d),ae (A_ d)]at f;exact f
  refine q _ h (λb o i e=>?_) j ⟨⟨c,ac⟩,by rw[ae (A_ d)];exact ac⟩;have k:b≠h:=λz=>by rw[z,j]at e;cases e
  rw[ae i,ae k,ae i,ae i];exact e
end
open Tb (Tr)
inductive spNA(a:Ad)(vs:List V)(H:Hp)(Q:VK)(E:XK):Prop
 | mk(x h y h2:Addr)(m n m2 n2:Int)(ts ts2:List Str)(h0:vs=[.ref x,.ref y])(h1:PotAt a H x h m n ts)(h2:PotAt a H y h2 m2 n2 ts2)(h3:(m=m2->Q .non H))(h4:(m≠m2->zd a H E)):spNA a vs H Q E
section
variable {P:hH}{w:lA}{K:Frag}{mg:Str->Option b_}{base:Heap}{a:Ad}
def qA(T:Txt K mg a):FnOk P w K mg base (CXG P w) 1 a.f_B a.d_B ["one","other"] (spNA a):=by
 refine T.W_B.A.okG lZ (λr H Q E h=>?_) (λcdv A outer s H r Q E hr h=>?_)
 .obtain⟨x,h,y,k,m,n,b,B,D,d,rfl,_⟩:=h;rfl
 .obtain⟨x,h,y,k,m,n,b,B,D,d,rfl,v,g,C,p⟩:=h
  refine⟨_,(ag (bc (bO DC (bG (vr 0) rfl) (bG (vr 1) rfl) (aX _)) (ag (cI T.xc_C T.xh_C (gv T.xi_NoThing T.kc_NoThing rfl T.mc_C))) aG)),?_⟩;obtain⟨⟨o,q⟩,_⟩:=id v;obtain⟨⟨u,j⟩,_⟩:=id g;refine⟨x,_,o,_,_,rfl,q,T.cl_o,T.na_Pot_most,rfl,?_⟩;refine⟨y,_,u,_,_,rfl,j,T.cl_o,T.na_Pot_most,rfl,?_⟩;refine ifB (λz=>?_) λz=>?_
  .have z:(!decide (m=b))=true:=z
   have f:m≠b:=λe=>by rw[decide_eq_true e]at z;cases z
   exact λi c=>⟨i,none,_,rfl,ac,λh z=>z,c,Ae (a:=a) (Same.refl H) (p f) i c⟩
  .have z:(!decide (m=b))=false:=z
   have f:m=b:=Hw λe=>by rw[decide_eq_false e]at z;cases z
   exact C f
end
open Tb (Tr)
inductive spInto(a:Ad)(K:Frag)(vs:List V)(H:Hp)(Q:VK)(E:XK):Prop
 | mk(x h y h2 lk:Addr)(m n m2 n2:Int)(ts ts2:List Str)(ks:List Int)(h0:vs=[.ref x,.ref y,.ref lk])(h1:PotAt a H x h m n ts)(h2:PotAt a H y h2 m2 n2 ts2)(h3:1<=m)(h4:m<=24)(h5:ts.length<=24)(h6:ts2.length<=24)(h7:SqT K H lk (ks.map V.int))(h8:ks.length<=24)(h9:(∀ k∈ks,0<=k/\k<((ts++ts2).length:Int)))(h10:(m≠m2->zd a H E))(h11:(m=m2->300<n+n2->Dz a H E))(h12:(m=m2->n+n2<=300->∀ H' z hz,Same H H'->H z=none->H hz=none->PotAt a H' z hz m (n+n2) (ks.map λk=>(ts++ts2).getD k.toNat "")->Q (.ref z) H')):spInto a K vs H Q E
def gp{H:Hp}{x dx:Addr}{C:Addr}(c:H x=none)(d:H dx=none):Same H (upd (upd H dx (.own x)) x (.ins C dx [])):=λb o e=>by
 have f:b≠x:=λz=>by rw[z,c]at e;cases e
 have a:b≠dx:=λz=>by rw[z,d]at e;cases e
 rw[ae f,ae a];exact e
section
variable {P:hH}{w:lA}{K:Frag}{mg:Str->Option b_}{base:Heap}{a:Ad}
def yc(T:Txt K mg a):FnOk P w K mg base (CXG P w) 5 a.f_am a.d_am ["one","other","kept"] (spInto a K):=by
 have a0:FnOk P w K mg base (CXG P w) 4 _ _ _ (spNA a):=(qA T).mo;have al:FnO P w K mg base 3 (sJ a):=(rk T).mo;have B:FnO P w K mg base 4 (spCame a):=(sV T).mo;have O:FnO P w K mg base 4 (spThings a):=(gw T).mo;refine T.W_am.A.okG nE (λvs H Q E h=>?_) (λcdv A outer s H vs Q E hr h=>?_)
 .obtain⟨x,h,y,W,lk,m,n,S,p,g,d,L,rfl,_⟩:=h;rfl
 .obtain⟨x,h,y,W,lk,m,n,S,p,g,d,L,rfl,Z,q,m1,an,l1,l2,hk,bn,a2,q1,q2,q3⟩:=h
  have a3:sizeLine=16777216:=j_;refine⟨_,(af (bR (dX a0 hr rfl T.W_B.C T.W_B.A.kp T.W_B.B .nil sO (aa (vr 0) (aa (vr 1) ad)))) (af (bc (bO AY (au bY (ar (vr 0) T.cl_o T.mt_j B hr T.W_j.B .nil ax) (ar (vr 1) T.cl_o T.mt_j B hr T.W_j.B .nil ax)) (iK rfl T.g_MOST_COME) (aX _)) (ag (cI T.xc_E T.xh_E (gv T.xi_TooMany T.kc_TooMany rfl T.mc_E))) aG) (af (psr 3 nE (au cE (ar (vr 0) T.cl_o T.mt_d O hr T.W_d.B .nil ax) (ar (vr 1) T.cl_o T.mt_d O hr T.W_d.B .nil ax))) (af (psl 4 nE (bT T.mk_o al hr rfl T.mc_o T.Wi_o.B .nil ax (aa (bG (vr 0) rfl) ad))) (af (eB (vr 4) (au bY (ar (vr 0) T.cl_o T.mt_j B hr T.W_j.B .nil ax) (ar (vr 1) T.cl_o T.mt_j B hr T.W_j.B .nil ax)) rfl) (af (eB (vr 4) (aV rfl (N:=["place","things"]) (ix:=[none,some 3]) aD (a6 (vr 2)) (aQ λC s H fp=>⟨bM 0 ["place","things"],aU,(gm (gB (K:=K) rfl) (vr 1) (vr 0))⟩)) rfl) (ag (ao (vr 4))))))))),Dw ?_⟩;intro bm bg bb bq a' bo;obtain⟨⟨dx,hx⟩,_⟩:=id Z;obtain⟨⟨dy,hy⟩,_⟩:=id q;refine⟨x,h,y,W,m,n,S,p,g,d,rfl,Z,q,λem=>?_,λnm=>q1 nm⟩;refine⟨x,dx,_,rfl,hx,rfl,⟨x,h,m,n,g,rfl,Z,⟨y,dy,_,rfl,hy,rfl,⟨y,W,S,p,d,rfl,q,?_⟩⟩⟩⟩;refine ifC (λc=>?_) λc=>?_
  .have c':300<n+p:=c
   exact λy3 ab=>⟨y3,none,_,rfl,ac,λh z=>z,ab,Ae (a:=a) (Same.refl H) (q2 em c') y3 ab⟩
  have c':n+p<=300:=by have z:¬300<n+p:=c;lia
  refine⟨x,dx,_,rfl,hx,rfl,⟨x,h,m,n,g,rfl,Z,λH1 r1 s1 f1 a5=>⟨y,dy,_,rfl,s1 _ _ hy,rfl,⟨y,W,S,p,d,rfl,q.same s1,λH2 r2 s2 f2 hr2=>⟨r1,r2,_,_,rfl,rfl,s2 _ _ a5,hr2,by rw[d_,d_];lia,λr3 fr3=>?_⟩⟩⟩⟩⟩;have s3:=(s1.trans s2).trans (Same.new (o:=.lst (g.map V.str++d.map V.str)) fr3);have G:(upd H2 r3 (.lst (g.map V.str++d.map V.str))) r3=some (.lst ((g++d).map V.str)):=by rw[ac,nv]
  generalize upd H2 r3 (.lst (g.map V.str++d.map V.str))=H3 at s3 G;refine⟨x,_,dx,_,_,rfl,s3 _ _ hx,T.cl_o,T.na_Pot_most,rfl,λz dz fz a1 nz=>⟨z,dz,m,rfl,ac,m1,an,λH4 h4 fr4 fh4 pot4=>⟨rfl,?_⟩⟩⟩;have s4:Same H3 H4:=λb o e=>fr4 b o (λw=>by rw[w,fz]at e;cases e) (gp (C:=a.c_o) fz a1 b o e)
  have r:=s3.trans s4;have I:H z=none:=s3.free fz;obtain⟨⟨f,as⟩,bl⟩:=id pot4;refine⟨x,dx,_,rfl,r _ _ hx,rfl,⟨x,h,m,n,g,rfl,Z.same r,⟨y,dy,_,rfl,r _ _ hy,rfl,⟨y,W,S,p,d,rfl,q.same r,?_⟩⟩⟩⟩;refine⟨z,_,f,_,rfl,as,T.cl_o,T.na_Pot_seen,by show 3<1000;decide,?_⟩;have u:Same H (upd H4 z (.ins a.c_o f (d3 "seen" (.int (n+p)) [("most",.int m),("seen",.int 0),("held",.ref h4)]))):=r.put I;have J:(upd H4 z (.ins a.c_o f (d3 "seen" (.int (n+p)) [("most",.int m),("seen",.int 0),("held",.ref h4)]))) z=some (.ins a.c_o f [("most",.int m),("seen",.int (n+p)),("held",.ref h4)]):=ac;have zr:r3≠z:=λe=>by rw[e,fz]at G;cases G
  have Y:(upd H4 z (.ins a.c_o f (d3 "seen" (.int (n+p)) [("most",.int m),("seen",.int 0),("held",.ref h4)]))) r3=some (.lst ((g++d).map V.str)):=by rw[ae zr];exact s4 _ _ G
  generalize upd H4 z (.ins a.c_o f (d3 "seen" (.int (n+p)) [("most",.int m),("seen",.int 0),("held",.ref h4)]))=H5 at u J Y;refine .inr ⟨⟨_,u.sqT hk⟩,λD M=>?_⟩;have zD:z≠D:=λe=>by rw[<- e,J]at M;cases M
  let Pw1:PvL:=λi zs H'=>(i<=L.length)/\Same H5 H'/\H' D=some (.lst zs)/\zs=((L.take i).map λk=>(g++d).getD k.toNat "").map V.str
  refine fg (K:=K) (a:=lk) (xs:=L.map V.int) Pw1 ⟨h_ _,Same.new M,ac,rfl⟩ (λi ys H' h=>(u.trans h.2.1).sqT hk) (λi ys H' h=>h.2.2.1) ?_ ?_
  .rintro i v zs H' P' R ⟨hi,X,F,rfl⟩ hP
   rw[gb]at R;cases hw:L[i]? with
   | none=>rw[hw]at R;cases R
   | some k =>
    rw[hw]at R;cases R;have ah:i<L.length:=(fP.mp hw).1;obtain⟨k0,k1⟩:=a2 k (ge hw)
    obtain⟨j,rfl⟩:∃ j:Nat,k=(j:Int):=⟨k.toNat,by lia⟩
    have jl:j<(g++d).length:=by lia
    have gj:(g++d)[j]? = some ((g++d).getD j ""):=by rw[EQ,ki jl];rfl
    refine⟨⟨rfl,trivial⟩,.inl ⟨r3,_,_,_,rfl,rfl,SqL.of (X _ _ Y),iG (by rw[gb,gj];rfl),F,by rw[d_,d_,mx];lia,hP _ _ ⟨ah,X.put M,ac,?_⟩⟩⟩;rw[oN,hw];simp
  .rintro zs H6 ⟨_,X,F,rfl⟩
   rw[d_,oD]at F;refine⟨z,_,f,_,rfl,X _ _ J,T.cl_o,T.na_Pot_held,by show 3<1000;decide,?_⟩;exact q3 em c' _ z D ((u.trans X).put I) I (u.free M) ⟨⟨f,ac⟩,by rw[ae (A_ zD)];exact F⟩
end
open Tb (Tr)
inductive spWo(vs:List V)(H:Hp)(Q:VK)(_E:XK):Prop
 | mk(p l:Addr)(c:Int)(ps:List Int)(x:Int)(h0:vs=[.ref p,.int x])(h1:H p=some (.tup [.int c,.ref l]))(h2:H l=some (.lst (ps.map V.int)))(h3:ps.length<=24)(h4:∀ H' q l',Same H H'->H q=none->H l'=none->H' q=some (.tup [.int (c - 1),.ref l'])->H' l'=some (.lst ((Tb.wo ps x).map V.int))->Q (.ref q) H'):spWo vs H Q _E
def sy{ps:List Int}{x y:Int}{i:Nat}(h:ps[i]? = some y):Tb.wo (ps.take (i+1)) x=Tb.wo (ps.take i) x++if y=x then [] else [y]:=by
 unfold Tb.wo;rw[oN,h,Gq]
 by_cases c:y=x <;> simp[c]
section
variable {P:hH}{w:lA}{K:Frag}{mg:Str->Option b_}{base:Heap}{a:Ad}
def kg(T:Txt K mg a):FnX P w base 1 T.W_Z spWo:=by
 refine T.W_Z.A.okz qW λS A F s H Z Q E hr h=>?_
 .obtain⟨p,l,c,g,x,rfl,I,J,O,q⟩:=h
  have d:sizeLine=16777216:=j_;refine⟨_,(ag (ao (bh (aa (au fH (bf (vr 0) am) am) (aa (aV rfl (N:=["left","place"]) (ix:=[none,some 1]) aD (a6 (bf (vr 0) am)) (aQ λC s H X=>⟨bM 0 ["left","place"],nk (bO DC (vr 0) (vr 1) (aX _)),(vr 0)⟩)) ad))))),?_⟩;refine .inr (.inl ⟨p,_,_,_,rfl,rfl,SqT.of I,aJ 0 rfl rfl,?_⟩);refine .inr (.inl ⟨p,_,_,_,rfl,rfl,SqT.of I,aJ 1 rfl rfl,.inl ⟨⟨_,SqL.of J⟩,λD B=>?_⟩⟩)
  let Pw1:PvL:=λi u o=>(i<=g.length)/\Same H o/\o D=some (.lst u)/\u=(Tb.wo (g.take i) x).map V.int
  refine a8 (K:=K) (a:=l) (xs:=g.map V.int) Pw1 ⟨h_ _,Same.new B,ac,rfl⟩ (λi M o h=>SqL.of (h.2.1 _ _ J)) (λi M o h=>h.2.2.1) ?_ ?_
  .rintro i y u o Y k ⟨hi,r,b,rfl⟩ L
   rw[gb]at k;cases hw:g[i]? with
   | none=>rw[hw]at k;cases k
   | some v =>
    rw[hw]at k;cases k;have j:i<g.length:=(fP.mp hw).1;have wl:(Tb.wo (g.take i) x).length<=24:=lB (GE _ _) (by rw[mx];lia);refine⟨⟨rfl,trivial⟩,ifB (λz=>?_) λz=>?_⟩
    .have z:(!decide (v=x))=true:=z
     have G:v≠x:=λe=>by rw[decide_eq_true e]at z;cases z
     refine⟨b,by rw[d_];lia,L _ _ ⟨j,r.put B,ac,?_⟩⟩;rw[sy hw,if_neg G,nv];rfl
    .have z:(!decide (v=x))=false:=z
     have G:v=x:=Hw λe=>by rw[decide_eq_false e]at z;cases z
     refine L _ _ ⟨j,r,b,?_⟩;rw[sy hw,if_pos G,Fj]
  .rintro u W ⟨_,r,b,rfl⟩
   rw[d_,oD]at b;refine⟨by rw[d];exact show(2:Nat)<=_ by decide,λR f=>?_⟩;exact q _ R D (r.trans (Same.new f)) (r.free f) B ac (Same.new f _ _ b)
end
open Tb (Tr pN fM wo Pv stm stP Hd)
def aj{f d:Type}{r c:f->d->Prop}(h:∀ a b,r a b->c a b):∀{as:List f}{bs:List d},Paired r as bs->Paired c as bs
 | _,_,.nil=>.nil
 | _,_,.cons x t=>.cons (h _ _ x) (aj h t)
def dI{d c:Type}{r:d->c->Prop}{a:d}{b:c}(h:r a b):∀{as:List d}{bs:List c},Paired r as bs->Paired r (as++[a]) (bs++[b])
 | _,_,.nil=>.cons h .nil
 | _,_,.cons x t=>.cons x (dI h t)
def aK{b a:Type}{r:b->a->Prop}:∀{as:List b}{bs:List a}{i:Nat}{y:a},Paired r as bs->bs[i]? = some y->∃ x,as[i]? = some x/\r x y
 | _,_,_,_,.nil,h=>by cases h
 | _,_,0,_,.cons r _,h=>⟨_,rfl,by cases h;exact r⟩
 | _,_,i+1,_,.cons _ t,h=>aK (i:=i) t h
def Srt(ns kept:List Int):Prop:=ns.Perm kept/\ns.Pairwise (·<=·)
def IsTold(a:Ad)(H:Hp)(v:V)(kept:List Int):Prop:=∃ x dx t ns,v=.ref x/\H x=some (.ins a.c_i dx [("rising",.ref t)])/\H t=some (.tup (ns.map V.int))/\Srt ns kept
def IsLam(H:Hp)(d:LamD)(fv:List Str)(v:V)(vals:List V):Prop:=∃ f c clos,v=.ref f/\H f=some (.ext (b9 f d clos c))/\H c=some (.ext (bU c d.qual))/\clos.map (·.1)=fv/\(clos.map (·.2)).Nodup/\CellsAt H clos vals
def ba{H H':Hp}(s:SameT H H'):∀{clos:List (Str×Addr)}{vals:List V},CellsAt H clos vals->CellsAt H' clos vals
 | _,_,.nil=>.nil
 | _,_,.cons r t=>.cons (s.at r) (ba s t)
def IsLam.t{H H':Hp}{d:LamD}{g:List Str}{v:V}{a:List V}(s:SameT H H')(h:IsLam H d g v a):IsLam H' d g v a:=by
 obtain⟨f,c,b,q,k,j,p,i,o⟩:=h;exact⟨f,c,b,q,s.at k,s.at j,p,i,ba s o⟩
def IsTold.t{a:Ad}{H H':Hp}{v:V}{b:List Int}(s:SameT H H')(h:IsTold a H v b):IsTold a H' v b:=by
 obtain⟨x,g,t,d,j,f,c,i⟩:=h;exact⟨x,g,t,d,j,s.at f,s.at c,i⟩
inductive spToldI(a:Ad)(vs:List V)(H:Hp)(Q:VK)(_E:XK):Prop
 | mk(x dx l:Addr)(ns:List Int)(h0:vs=[.ref x,.ref l])(h1:H x=some (.ins a.c_i dx []))(h2:(H l=some (.lst (ns.map V.int))\/H l=some (.tup (ns.map V.int))))(h3:ns.length<64)(h4:∀ H' t ns',(∀ b o,b≠x->H b=some o->H' b=some o)->H' x=some (.ins a.c_i dx [("rising",.ref t)])->H' t=some (.tup (ns'.map V.int))->Srt ns' ns->Q .non H'):spToldI a vs H Q _E
inductive spDieI(a:Ad)(vs:List V)(H:Hp)(Q:VK)(_E:XK):Prop
 | mk(x dx l:Addr)(xs:List V)(h0:vs=[.ref x,.ref l])(h1:H x=some (.ins a.c_n dx []))(h2:H l=some (.lst xs))(h3:∀ H' t,H t=none->(∀ b o,b≠x->H b=some o->H' b=some o)->H' x=some (.ins a.c_n dx [("makes",.ref t)])->H' t=some (.lst xs)->Q .non H'):spDieI a vs H Q _E
def a7{a b:Type}{r:a->b->Prop}{as:List a}{x:a}{i:Nat}{c:List b}{y:b}(h:Paired r (as.take i) c)(e:as[i]? = some x)(q:r x y):Paired r (as.take (i+1)) (c++[y]):=by
 rw[oN,e];exact dI q h
def Bad(H:Hp)(Bd:List Addr):Prop:=∀ b∈Bd,∃ ys,H b=some (.lst ys)
def Bad.t{H H':Hp}{Bd:List Addr}(s:SameT H H')(h:Bad H Bd):Bad H' Bd:=λb a=>let ⟨ys,e⟩:=h b a;⟨ys,s.at e⟩
def av{H H':Hp}{a:List Addr}(s:SameT H H'):SameT (untrs H a) (untrs H' a):=⟨λb o e=>by
 by_cases hb:b∈a
 .rw[bJ hb]at e;cases e
 .rw[ay hb]at e ⊢;exact s.old b o e,λb o e=>by
 by_cases hb:b∈a
 .rw[bJ hb]at e;cases e
 .rw[ay hb]at e ⊢;exact s.gr b o e⟩
def ak{H:Hp}{a:List Addr}{b:Addr}{o:HO}(e:untrs H a b=some o):b ∉ a/\H b=some o:=by
 by_cases hb:b∈a
 .rw[bJ hb]at e;cases e
 .rw[ay hb]at e;exact⟨hb,e⟩
def cuts_sub{H:Hp}{a:List Addr}:SameT (untrs H a) H:=Same.t λb o e=>(ak e).2
def aE{H:Hp}{Bd:List Addr}{b:Addr}{o:HO}(a:Bad H Bd)(e:H b=some o)(n:∀ ys,o≠.lst ys):untrs H Bd b=some o:=by
 rw[ay λz=>?_]
 .exact e
 .obtain⟨ys,c⟩:=a b z
  rw[e]at c;exact n ys (k7 c)
def bV{H:Hp}{Bd:List Addr}(a:Bad H Bd){d:LamD}{j:List Str}{f:V}{o:List V}(h:IsLam H d j f o):IsLam (untrs H Bd) d j f o:=by
 obtain⟨u,c,b,s,p,g,i,k,q⟩:=h;refine⟨u,c,b,s,aE a p (λ_ z=>nomatch z),aE a g (λ_ z=>nomatch z),i,k,?_⟩;clear p g i k
 induction q with
 | nil=>exact .nil
 | cons r _ ih=>exact .cons (aE a r (λ_ z=>nomatch z)) ih
def fZ{a:Ad}{H:Hp}{Bd:List Addr}(b:Bad H Bd){u:V}{d:List Int}(h:IsTold a H u d):IsTold a (untrs H Bd) u d:=by
 obtain⟨x,i,t,c,k,g,f,j⟩:=h;exact⟨x,i,t,c,k,aE b g (λ_ z=>nomatch z),aE b f (λ_ z=>nomatch z),j⟩
def bN{H:Hp}{Bd:List Addr}(c:Bad H Bd){a:List (Str×Addr)}{b:List V}(h:CellsAt H a b):CellsAt (untrs H Bd) a b:=by
 induction h with
 | nil=>exact .nil
 | cons r _ ih=>exact .cons (aE c r (λ_ z=>nomatch z)) ih
def bH(H:Hp)(a fs:List Addr):untrs (untrs H a) fs=untrs (untrs H fs) a:=by
 funext b
 unfold untrs
 split <;> split <;> rfl
def bP(H:Hp):untrs H []=H:=by funext b;exact ay (by simp)
def cJ{H:Hp}{Bd:List Addr}{a:List (Str×Addr)}{c:List V}(g:CellsAt H a c)(d:Bad H Bd):Bad (untrs H (a.map (·.2))) Bd:=λb f=>let ⟨ys,e⟩:=d b f;⟨ys,aq g e λv z=>nomatch z⟩
def cD{H:Hp}{a:List Addr}{b:Addr}{o:HO}(d:b∈a):SameT (untrs H a) (untrs (upd H b o) a):=Same.t λc u e=>by
 obtain⟨n,f⟩:=ak e;have:untrs (upd H b o) a c=some u:=by rw[ay n,ae (λz=>n (by rw[z];exact d))];exact f
 exact this
def iS{H H':Hp}{a:List Addr}{D:Addr}(s:SameT H H')(h:H D=none):SameT (untrs H a) (untrs H' (D::a)):=by
 have b:∀{c u},untrs H a c=some u->c ∉ D::a/\H c=some u:=λ{c u} e=>by
  obtain⟨n,d⟩:=ak e;refine⟨λz=>?_,d⟩
  rcases i_.mp z with z | z
  .rw[z,h]at d;cases d
  .exact n z
 exact⟨λc u e=>by rw[ay (b e).1];exact s.old c u (b e).2,λc u e=>by rw[ay (b e).1];exact s.gr c u (b e).2⟩
def iL{H:Hp}{a:List Addr}{D:Addr}:SameT (untrs H (D::a)) (untrs H a):=Same.t λc u e=>by
 obtain⟨n,b⟩:=ak e;have:untrs H a c=some u:=by rw[ay (λz=>n (hI _ z))];exact b
 exact this
def LamOk.mono{P:hH}{w:lA}{K:Frag}{mg:Str->Option b_}{a:Heap}{j k:Nat}{d:LamD}{o ps:List Str}{sp:List V->Sp}(L:LamOk P w K mg a j d o ps sp)(h:j<=k):LamOk P w K mg a k d o ps sp:=λA b s H f c g r p i Q E q=>L A b s H f c g r p i Q E (q.mono h)
def TabsOk.untrs{a:d4}{H:Hp}{b:List (Str×Addr)}{d:List V}(h:TabsOk a H)(f:CellsAt H b d):TabsOk a (untrs H (b.map (·.2))):=λq j=>by
 obtain⟨o,i,k,g⟩:=h q j;exact⟨o,aq f i (λv z=>nomatch z),k,λl hl=>(g l hl).imp id λ⟨c,x,y⟩=>⟨c,x,aq f y λv=>cY⟩⟩
def gD{H H' c:Hp}{a:List (Str×Addr)}(s:SameT (untrs H (a.map (·.2))) H')(f:Same H' c)(g:∀ p∈a,c p.2=H p.2):SameT H c:=⟨λb o e=>by
 by_cases hb:b∈a.map (·.2)
 .obtain⟨p,d,rfl⟩:=nh.mp hb
  rw[g p d,e];exact⟨λ_=>rfl,o,rfl⟩
 .exact(s.trans f.t).old b o (by rw[ay hb];exact e),λb o e=>by
 by_cases hb:b∈a.map (·.2)
 .obtain⟨p,d,rfl⟩:=nh.mp hb
  rw[g p d,e];exact⟨#[],by simp,λt=>by simpa using t⟩
 .exact(s.trans f.t).gr b o (by rw[ay hb];exact e)⟩
def LamOkC.mono{P:hH}{w:lA}{K:Frag}{mg:Str->Option b_}{a:Heap}{j k:Nat}{d:LamD}{o ps:List Str}{sp:List (Str×Addr)->List V->Sp}(L:LamOkC P w K mg a j d o ps sp)(h:j<=k):LamOkC P w K mg a k d o ps sp:=λA b s H f c g r p i Q E q=>L A b s H f c g r p i Q E (q.mono h)
abbrev fvP:List Str:=["wanted","taken","other","one"]
abbrev fvG:List Str:=["place","go"]
abbrev fvH:List Str:=["number","many","held"]
structure Pd where
 c1:Nat
 P1:List Int
 c2:Nat
 P2:List Int
 tk:List Int
def Pd.one(x:Pd)(p:Int):Pd:=⟨x.c1 - 1,wo x.P1 p,x.c2,x.P2,x.tk++[p]⟩
def Pd.two(x:Pd)(p:Int):Pd:=⟨x.c1,x.P1,x.c2 - 1,wo x.P2 p,x.tk++[p]⟩
def Pd.tr(x:Pd)(w:Nat):Tr:=pN w x.c1 x.P1 x.c2 x.P2 x.tk
def Pd.f1(x:Pd)(w:Nat):Tr:=fM x.P1 λp=>(x.one p).tr w
def Pd.f2(x:Pd)(w:Nat):Tr:=fM x.P2 λp=>(x.two p).tr w
structure Pd.Ok(x:Pd)(w:Nat):Prop where
 pv:Pv w x.c1 x.P1 x.c2 x.P2 x.tk
 l1:x.P1.length<=24
 l2:x.P2.length<=24
 m1:x.c1<=300
 m2:x.c2<=300
def zL(ps:List Int)(p:Int):(wo ps p).length<=ps.length:=GE _ _
def Pd.Ok.one{x:Pd}{w:Nat}(h:x.Ok (w+1))(b:0<x.c1){p:Int}(a:p∈x.P1):(x.one p).Ok w:=⟨h.pv.one b a,lB (zL _ _) h.l1,h.l2,lB (Nat.sub_le _ _) h.m1,h.m2⟩
def Pd.Ok.two{x:Pd}{w:Nat}(h:x.Ok (w+1))(b:0<x.c2){p:Int}(a:p∈x.P2):(x.two p).Ok w:=⟨h.pv.two b a,h.l1,lB (zL _ _) h.l2,h.m1,lB (Nat.sub_le _ _) h.m2⟩
def mz(w c1 c2:Nat):Nat:=if w=0 then 0 else (if c1=0 then 0 else 1)+if c2=0 then 0 else 1
def g9(w a b:Nat):mz w a b<=2:=by
 unfold mz
 split
 .lia
 .split <;> split <;> lia
def AC{w a b s j:Nat}(i:Tb.Iv (w+1) a s)(c:0<a)(h:mz (w+1) a b<=j+1)(e:s=1):mz w (a - 1) b<=j:=by
 unfold mz at *;have i:s=a\/w+1<=s:=i;rw[if_neg (by lia),if_neg (show ¬a=0 by lia)]at h
 by_cases z:w=0
 .rw[if_pos z];lia
 .rw[if_neg z,if_pos (show a - 1=0 by lia)];lia
def wt{w b a s j:Nat}(i:Tb.Iv (w+1) a s)(c:0<a)(h:mz (w+1) b a<=j+1)(e:s=1):mz w b (a - 1)<=j:=by
 unfold mz at *;have i:s=a\/w+1<=s:=i;rw[if_neg (by lia),if_neg (show ¬a=0 by lia)]at h
 by_cases z:w=0
 .rw[if_pos z];lia
 .rw[if_neg z,if_pos (show a - 1=0 by lia)];lia
def tN{w a b:Nat}(h:mz (w+1) a b<=0):a=0/\b=0:=by
 unfold mz at h;rw[if_neg (by lia)]at h
 constructor
 .by_cases z:a=0
  .exact z
  .rw[if_neg z]at h;lia
 .by_cases z:b=0
  .exact z
  .rw[if_neg z]at h;lia
def PtT(H:Hp)(v:V)(c:Nat)(ps:List Int):Prop:=∃ p l,v=.ref p/\H p=some (.tup [.int (c:Nat),.ref l])/\H l=some (.lst (ps.map V.int))
def PtT.t{H H':Hp}{v:V}{c:Nat}{ps:List Int}(s:SameT H H')(h:PtT H v c ps):PtT H' v c ps:=let ⟨p,l,e,h1,h2⟩:=h;⟨p,l,e,s.at h1,s.at h2⟩
def LsT(H:Hp)(v:V)(ps:List Int):Prop:=∃ l,v=.ref l/\H l=some (.lst (ps.map V.int))
def LsT.t{H H':Hp}{v:V}{ps:List Int}(s:SameT H H')(h:LsT H v ps):LsT H' v ps:=let ⟨l,e,h1⟩:=h;⟨l,e,s.at h1⟩
structure Pw(H:Hp)(v1 v2 vt:V)(w:Nat)(x:Pd):Prop where
 h1:PtT H v1 x.c1 x.P1
 h2:PtT H v2 x.c2 x.P2
 ht:LsT H vt x.tk
 ok:x.Ok w
def Pw.t{H H':Hp}{b a c:V}{w:Nat}{x:Pd}(s:SameT H H')(h:Pw H b a c w x):Pw H' b a c w x:=⟨h.h1.t s,h.h2.t s,h.ht.t s,h.ok⟩
def Pw.un{H:Hp}{a:List (Str×Addr)}{b:List V}(c:CellsAt H a b){d f g:V}{w:Nat}{x:Pd}(h:Pw H d f g w x):Pw (untrs H (a.map (·.2))) d f g w x:=by
 obtain⟨⟨D,B,k,s,y⟩,⟨u,p,A,r,o⟩,⟨j,q,C⟩,i⟩:=h;exact⟨⟨D,B,k,aq c s (λv z=>nomatch z),aq c y λv z=>nomatch z⟩,⟨u,p,A,aq c r (λv z=>nomatch z),aq c o λv z=>nomatch z⟩,⟨j,q,aq c C λv z=>nomatch z⟩,i⟩
def IsGo(j:Nat)(H:Hp)(go:V)(g:Int->Tr)(ps:List Int):Prop:=∃ v1 v2 vt w x,Pw H v1 v2 vt (w+1) x/\((IsLam H ld_from_one_1 fvP go [.int ((w+1:Nat):Int),vt,v2,v1]/\0<x.c1/\ps=x.P1/\g=(λp=>(x.one p).tr w)/\(ps.length=1->mz w (x.c1 - 1) x.c2<=j))\/(IsLam H ld_from_other_1 fvP go [.int ((w+1:Nat):Int),vt,v2,v1]/\0<x.c2/\ps=x.P2/\g=(λp=>(x.two p).tr w)/\(ps.length=1->mz w x.c1 (x.c2 - 1)<=j)))
def IsGo.t{j:Nat}{H H':Hp}{a:V}{g:Int->Tr}{ps:List Int}(s:SameT H H')(h:IsGo j H a g ps):IsGo j H' a g ps:=by
 obtain⟨b,f,c,w,x,d,h⟩:=h;exact⟨b,f,c,w,x,d.t s,h.imp (λh=>⟨h.1.t s,h.2⟩) λh=>⟨h.1.t s,h.2⟩⟩
def IsGo.up{j:Nat}{H:Hp}{a:V}{g:Int->Tr}{ps:List Int}(h:IsGo j H a g ps):IsGo 2 H a g ps:=by
 obtain⟨b,f,c,w,x,d,h⟩:=h;exact⟨b,f,c,w,x,d,h.imp (λh=>⟨h.1,h.2.1,h.2.2.1,h.2.2.2.1,λ_=>g9 _ _ _⟩) λh=>⟨h.1,h.2.1,h.2.2.1,h.2.2.2.1,λ_=>g9 _ _ _⟩⟩
def IsGo.few{j:Nat}{H:Hp}{c:V}{g:Int->Tr}{ps:List Int}(h:IsGo j H c g ps):1<=ps.length/\ps.length<=24:=by
 obtain⟨d,i,f,w,x,a,⟨_,b,rfl,_⟩ | ⟨_,b,rfl,_⟩⟩:=h
 .exact⟨a.ok.pv.ne1 b,a.ok.l1⟩
 .exact⟨a.ok.pv.ne2 b,a.ok.l2⟩
def IsMk(H:Hp)(f:V)(t:Tr):Prop:=(∃ v1 v2 vt w x,Pw H v1 v2 vt (w+1) x/\((IsLam H aO fvP f [.int ((w+1:Nat):Int),vt,v2,v1]/\0<x.c1/\t=x.f1 w)\/(IsLam H aP fvP f [.int ((w+1:Nat):Int),vt,v2,v1]/\0<x.c2/\t=x.f2 w))) \/
 (∃ f' c clos go p g ps,f=.ref f'/\H f'=some (.ext (b9 f' ld_going_1 clos c))/\H c=some (.ext (bU c ld_going_1.qual))/\clos.map (·.1)=fvG/\(clos.map (·.2)).Nodup/\CellsAt H clos [.int p,go]/\IsGo 2 (untrs H (clos.map (·.2))) go g ps/\p∈ps/\t=g p) \/
 ∃(l:Addr) (held:List Int) (n many s:Nat),IsLam H aF fvH f [.int (n:Nat),.int (many:Nat),.ref l]/\H l=some (.lst (held.map V.int))/\t=stm s held (n+1)/\n+1+s=many/\many<=24/\Hd held (n+1)
def IsMk.t{H H':Hp}{f:V}{t:Tr}(s:SameT H H')(h:IsMk H f t):IsMk H' f t:=by
 rcases h with⟨r,z,u,w,x,y,h⟩ | ⟨D,c,d,E,p,g,F,o,j,i,B,q,A,v,C⟩ | ⟨l,a,n,b,k,o,j,i⟩
 .exact .inl ⟨r,z,u,w,x,y.t s,h.imp (λh=>⟨h.1.t s,h.2⟩) λh=>⟨h.1.t s,h.2⟩⟩
 .exact .inr (.inl ⟨D,c,d,E,p,g,F,o,s.at j,s.at i,B,q,ba s A,v.t (av s),C⟩)
 .exact .inr (.inr ⟨l,a,n,b,k,o.t s,s.at j,i⟩)
def NdR(H:Hp)(pt:Int×Tr)(y:V):Prop:=∃ q f,y=.ref q/\H q=some (.tup [.int pt.1,f])/\1<=pt.1/\IsMk H f pt.2
def NdR.t{H H':Hp}(s:SameT H H')(a:Int×Tr)(y:V)(h:NdR H a y):NdR H' a y:=by
 obtain⟨q,f,g,c,b,d⟩:=h;exact⟨q,f,g,s.at c,b,d.t s⟩
def IsNd(a:Ad)(H:Hp)(v:V):Tr->Prop
 | .leaf ns=>IsTold a H v ns
 | .die ps=>∃ x dx l ys,v=.ref x/\H x=some (.ins a.c_n dx [("makes",.ref l)])/\H l=some (.lst ys)/\Paired (NdR H) ps ys/\1<=ps.length/\ps.length<=5000
def IsNd.t{a:Ad}{H H':Hp}{v:V}(s:SameT H H'):∀{t:Tr},IsNd a H v t->IsNd a H' v t
 | .leaf _,h=>IsTold.t s h
 | .die _,h=>by
  obtain⟨x,f,l,i,j,d,c,g,b⟩:=h;exact⟨x,f,l,i,j,s.at d,s.at c,aj (NdR.t s) g,b⟩
def Res(a:Ad)(H:Hp)(Bd:List Addr)(t:Tr)(Q:VK):Prop:=∀ H' u,SameT H H'->TabsOk (tabs a) H'->IsNd a (untrs H' Bd) u t->Q u H'
inductive spPN(j:Nat)(a:Ad)(vs:List V)(H:Hp)(Q:VK)(_E:XK):Prop
 | mk(v1 v2 vt:V)(w:Nat)(x:Pd)(Bd:List Addr)(h0:vs=[.int (w:Nat),v1,v2,vt])(h1:Bad H Bd)(h2:Pw (untrs H Bd) v1 v2 vt w x)(h3:mz w x.c1 x.c2<=j)(h4:TabsOk (tabs a) H)(h5:Res a H Bd (x.tr w) Q):spPN j a vs H Q _E
inductive spF1(j:Nat)(a:Ad)(vs:List V)(H:Hp)(Q:VK)(_E:XK):Prop
 | mk(v1 v2 vt:V)(w:Nat)(x:Pd)(Bd:List Addr)(h0:vs=[.int ((w+1:Nat):Int),v1,v2,vt])(h1:Bad H Bd)(h2:Pw (untrs H Bd) v1 v2 vt (w+1) x)(h3:0<x.c1)(h4:mz (w+1) x.c1 x.c2<=j)(h5:TabsOk (tabs a) H)(h6:Res a H Bd (x.f1 w) Q):spF1 j a vs H Q _E
inductive spF2(j:Nat)(a:Ad)(vs:List V)(H:Hp)(Q:VK)(_E:XK):Prop
 | mk(v1 v2 vt:V)(w:Nat)(x:Pd)(Bd:List Addr)(h0:vs=[.int ((w+1:Nat):Int),v1,v2,vt])(h1:Bad H Bd)(h2:Pw (untrs H Bd) v1 v2 vt (w+1) x)(h3:0<x.c2)(h4:mz (w+1) x.c1 x.c2<=j)(h5:TabsOk (tabs a) H)(h6:Res a H Bd (x.f2 w) Q):spF2 j a vs H Q _E
inductive spAny(j:Nat)(a:Ad)(vs:List V)(H:Hp)(Q:VK)(_E:XK):Prop
 | mk(l:Addr)(go:V)(g:Int->Tr)(ps:List Int)(Bd:List Addr)(h0:vs=[.ref l,go])(h1:Bad H Bd)(h2:untrs H Bd l=some (.lst (ps.map V.int)))(h3:IsGo j (untrs H Bd) go g ps)(h4:TabsOk (tabs a) H)(h5:Res a H Bd (fM ps g) Q):spAny j a vs H Q _E
def AU(j:Nat)(a:Ad):List V->Sp:=λvals vs H Q _=>∃(v1 v2 vt:V) (w:Nat) (x:Pd) (p:Int) (Bd:List Addr),vals=[.int ((w+1:Nat):Int),vt,v2,v1]/\vs=[.int p]/\Bad H Bd/\Pw (untrs H Bd) v1 v2 vt (w+1) x/\0<x.c1/\p∈x.P1/\mz w (x.c1 - 1) x.c2<=j/\TabsOk (tabs a) H/\Res a H Bd ((x.one p).tr w) Q
def AJ(j:Nat)(a:Ad):List V->Sp:=λvals vs H Q _=>∃(v1 v2 vt:V) (w:Nat) (x:Pd) (p:Int) (Bd:List Addr),vals=[.int ((w+1:Nat):Int),vt,v2,v1]/\vs=[.int p]/\Bad H Bd/\Pw (untrs H Bd) v1 v2 vt (w+1) x/\0<x.c2/\p∈x.P2/\mz w x.c1 (x.c2 - 1)<=j/\TabsOk (tabs a) H/\Res a H Bd ((x.two p).tr w) Q
inductive spGoing(a:Ad)(vs:List V)(H:Hp)(Q:VK)(_E:XK):Prop
 | mk(go:V)(p:Int)(g:Int->Tr)(ps:List Int)(Bd:List Addr)(h0:vs=[go,.int p])(h1:Bad H Bd)(h2:IsGo 2 (untrs H Bd) go g ps)(h3:p∈ps)(h4:TabsOk (tabs a) H)(h5:∀ H' f,SameT H H'->TabsOk (tabs a) H'->IsMk (untrs H' Bd) f (g p)->Q f H'):spGoing a vs H Q _E
def ud(a:Ad):List V->Sp:=λvals vs H Q _=>∃(v1 v2 vt:V) (w:Nat) (x:Pd) (Bd:List Addr),vals=[.int ((w+1:Nat):Int),vt,v2,v1]/\vs=[]/\Bad H Bd/\Pw (untrs H Bd) v1 v2 vt (w+1) x/\0<x.c1/\TabsOk (tabs a) H/\Res a H Bd (x.f1 w) Q
def uq(a:Ad):List V->Sp:=λvals vs H Q _=>∃(v1 v2 vt:V) (w:Nat) (x:Pd) (Bd:List Addr),vals=[.int ((w+1:Nat):Int),vt,v2,v1]/\vs=[]/\Bad H Bd/\Pw (untrs H Bd) v1 v2 vt (w+1) x/\0<x.c2/\TabsOk (tabs a) H/\Res a H Bd (x.f2 w) Q
def uZ(a:Ad):List (Str×Addr)->List V->Sp:=λcl vals vs H Q _=>∃(go:V) (p:Int) (g:Int->Tr) (ps:List Int) (Bd:List Addr),vals=[.int p,go]/\vs=[]/\Bad H Bd/\IsGo 2 (untrs (untrs H Bd) (cl.map (·.2))) go g ps/\p∈ps/\TabsOk (tabs a) H/\Res a H Bd (g p) Q
def lsO:LamScope ld_from_one_1 fvP ["place"]:=⟨rfl,rfl,rfl,by decide +kernel,by decide +kernel,by decide +kernel,by decide +kernel,by decide +kernel⟩
def lsT:LamScope ld_from_other_1 fvP ["place"]:=⟨rfl,rfl,rfl,by decide +kernel,by decide +kernel,by decide +kernel,by decide +kernel,by decide +kernel⟩
def lsP:LamScope aO fvP []:=⟨rfl,rfl,rfl,by decide +kernel,by decide +kernel,by decide +kernel,by decide +kernel,by decide +kernel⟩
def lsQ:LamScope aP fvP []:=⟨rfl,rfl,rfl,by decide +kernel,by decide +kernel,by decide +kernel,by decide +kernel,by decide +kernel⟩
def lsG:LamScope ld_going_1 fvG []:=⟨rfl,rfl,rfl,by decide +kernel,by decide +kernel,by decide +kernel,by decide +kernel,by decide +kernel⟩
def bB{H:Hp}{Bd:List Addr}{b:Addr}{o:HO}(a:Bad H Bd)(f:H b=none){H':Hp}(h:H' b=some o):untrs H' Bd b=some o:=by
 rw[ay λz=>?_]
 .exact h
 .obtain⟨c,e⟩:=a b z
  rw[f]at e;cases e
def nd4(n:Nat):[n+1,n+1+1+1+1,n+1+1+1,n+1+1].Nodup:=by simp[sr];lia
section
variable {P:hH}{w:lA}{K:Frag}{mg:Str->Option b_}{base:Heap}{a:Ad}
def jZ(T:Txt K mg a):MnX P w mg base 1 T.Wi_i (spToldI a):=by
 refine T.Wi_i.A.okz iO λF A g s H I Q E J h=>?_
 .obtain⟨x,v,l,k,rfl,i,u,B,q⟩:=h
  refine⟨_,(ag (eB (vr 0) (bv lX rfl T.z_tuple wy (aa (aw gO rfl T.z_sorted iU (aa (vr 1) ad)) ad)) rfl)),?_⟩;refine⟨l,k,rfl,u.imp SqL.of SqT.of,B,λp c C D y=>?_⟩;have j:=Same.new (o:=.lst (c.map V.int)) y;refine⟨p,_,rfl,.inl ⟨SqL.of ac,λt f=>?_⟩⟩;have r:=Same.new (o:=.tup (c.map V.int)) f;have d:=j.trans r;have G:t≠x:=λz=>by rw[z,j _ _ i]at f;cases f
  refine⟨x,a.c_i,v,[],rfl,d _ _ i,T.cl_i,T.na_Told_rising,(by decide),?_⟩;exact q _ t c (λb o n e=>by rw[ae n];exact d _ _ e) ac (by rw[ae G];exact ac) ⟨C,D⟩
def lH(T:Txt K mg a):MnX P w mg base 1 T.Wi_n (spDieI a):=by
 refine T.Wi_n.A.okz jF λp A d s H u Q E v h=>?_
 .obtain⟨x,k,l,i,rfl,f,j,q⟩:=h
  refine⟨_,(ag (eB (vr 0) (bv eT rfl T.z_list dJ (aa (vr 1) ad)) rfl)),?_⟩;refine⟨l,i,rfl,.inl (SqL.of j),λt c=>?_⟩;have g:=Same.new (o:=.lst i) c;have r:t≠x:=λz=>by rw[z,f]at c;cases c
  refine⟨x,a.c_n,k,[],rfl,g _ _ f,T.cl_n,T.na_Die_makes,(by decide),?_⟩;exact q _ t c (λb o n e=>by rw[ae n];exact g _ _ e) ac (by rw[ae r];exact ac)
def made{a H':Hp}{x dx:Addr}{g d:HO}(c:a x=none)(f:a dx=none)(k:∀ b o,b≠x->(upd (upd a dx g) x d) b=some o->H' b=some o):Same a H':=λb o e=>by
 refine k b o (ai e c) ?_;rw[ae (ai e c),ae (ai e f)];exact e
end
open Tb (Tr pN fM wo Pv)
section
variable {P:hH}{w:lA}{K:Frag}{mg:Str->Option b_}{base:Heap}{a:Ad}
def jU(T:Txt K mg a){j k:Nat}(hk:1<=k)(Z:FnX P w base k T.W_c (spPN j a)):LamOk P w K mg base (k+1) ld_from_one_1 fvP ["place"] (AU j a):=by
 have X:FnO P w K mg base k spWo:=(kg T).mono hk;refine dB lsO (λpm an g c us hl=>match us,hl with | [_],_=>rfl) (λvals vs H Q E h=>?_) (λA outer s H f c g vals vs Q E hr hfv ca h=>?_)
 .obtain⟨v1,v2,vt,w,x,p,Bd,rfl,rfl,_⟩:=h;rfl
 .obtain⟨v1,v2,vt,n,x,p,Bd,rfl,rfl,F,hw,hc,hp,hj,hT,q⟩:=h
  have v:sizeLine=16777216:=j_;refine⟨_,(pec Z hr T.W_c (aa (au fH (vr 1) am) (aa (pec X hr T.W_Z (aa (vr 4) (aa (vr 0) ad))) (aa (vr 3) (aa (au cE (vr 2) (bC (aa (vr 0) ad))) ad))))),?_⟩;have i:=hw.un (bN F ca);rw[bH]at i;have b:=cJ ca F;have I:=TabsOk.untrs hT ca;generalize hU:untrs H (g.map (·.2))=U at i b I;obtain⟨⟨p1,l1,rfl,a1,b1⟩,h2,⟨lt,rfl,a3⟩,M⟩:=i;have N:=M.one hc hp;have tl:x.tk.length<=24:=by have:=M.pv.few;lia
  refine⟨p1,l1,_,x.P1,p,rfl,(ak a1).2,(ak b1).2,M.l1,λU1 q1 G s1 ah ab O W=>?_⟩;have al:=b.t s1.t;refine⟨by rw[v];exact show(1:Nat)<=_ by decide,λY S=>?_⟩;have J:=Same.new (o:=.lst [.int p]) S;have z:=ac (H:=U1) (a:=Y) (o:=.lst [.int p]);generalize upd U1 Y (.lst [.int p])=U2 at J z;have r:=s1.trans J;refine⟨lt,Y,_,_,rfl,rfl,r _ _ (ak a3).2,z,by rw[d_];show _+1<=_;lia,λD B=>?_⟩;have L:=Same.new (o:=.lst (x.tk.map V.int++[.int p])) B;have C:(upd U2 D (.lst (x.tk.map V.int++[.int p]))) D=some (.lst ((x.tk++[p]).map V.int)):=by rw[ac,nv];rfl
  generalize upd U2 D (.lst (x.tk.map V.int++[.int p]))=U3 at L C;have d:=r.trans L;have y:=b.t d.t;refine⟨.ref q1,v2,.ref D,n,x.one p,Bd,by show [V.int (((n+1:Nat):Int) - 1),_,_,_]=_;rw[show(((n+1:Nat):Int) - 1)=(n:Int) by lia],y,⟨⟨q1,G,rfl,?_,?_⟩,h2.t (av d.t),⟨D,rfl,bB (b.t r.t) B C⟩,N⟩,hj,I.same d,λH' u t' R hN=>λH3 s3' hc3=>?_⟩
  .show _=some (HO.tup [.int ((x.c1 - 1:Nat):Int),.ref G])
   rw[bB b ah ((J.trans L) _ _ O),show((x.c1 - 1:Nat):Int)=(x.c1:Int) - 1 by lia]
  .exact bB b ab ((J.trans L) _ _ W)
  .rw[<- hU]at d
   exact q _ _ (gD (d.t.trans t') s3' hc3) (R.same s3') (hN.t (av s3'.t))
def jX(T:Txt K mg a){j k:Nat}(hk:1<=k)(Z:FnX P w base k T.W_c (spPN j a)):LamOk P w K mg base (k+1) ld_from_other_1 fvP ["place"] (AJ j a):=by
 have X:FnO P w K mg base k spWo:=(kg T).mono hk;refine dB lsT (λpm an g c us hl=>match us,hl with | [_],_=>rfl) (λvals vs H Q E h=>?_) (λA outer s H f c g vals vs Q E hr hfv ca h=>?_)
 .obtain⟨v1,v2,vt,w,x,p,Bd,rfl,rfl,_⟩:=h;rfl
 .obtain⟨v1,v2,vt,n,x,p,Bd,rfl,rfl,F,hw,hc,hp,hj,hT,q⟩:=h
  have v:sizeLine=16777216:=j_;refine⟨_,(pec Z hr T.W_c (aa (au fH (vr 1) am) (aa (vr 4) (aa (pec X hr T.W_Z (aa (vr 3) (aa (vr 0) ad))) (aa (au cE (vr 2) (bC (aa (vr 0) ad))) ad))))),?_⟩;have i:=hw.un (bN F ca);rw[bH]at i;have b:=cJ ca F;have I:=TabsOk.untrs hT ca;generalize hU:untrs H (g.map (·.2))=U at i b I;obtain⟨h2,⟨p1,l1,rfl,a1,b1⟩,⟨lt,rfl,a3⟩,M⟩:=i;have N:=M.two hc hp;have tl:x.tk.length<=24:=by have:=M.pv.few;lia
  refine⟨p1,l1,_,x.P2,p,rfl,(ak a1).2,(ak b1).2,M.l2,λU1 q1 G s1 ah ab O W=>?_⟩;have al:=b.t s1.t;refine⟨by rw[v];exact show(1:Nat)<=_ by decide,λY S=>?_⟩;have J:=Same.new (o:=.lst [.int p]) S;have z:=ac (H:=U1) (a:=Y) (o:=.lst [.int p]);generalize upd U1 Y (.lst [.int p])=U2 at J z;have r:=s1.trans J;refine⟨lt,Y,_,_,rfl,rfl,r _ _ (ak a3).2,z,by rw[d_];show _+1<=_;lia,λD B=>?_⟩;have L:=Same.new (o:=.lst (x.tk.map V.int++[.int p])) B;have C:(upd U2 D (.lst (x.tk.map V.int++[.int p]))) D=some (.lst ((x.tk++[p]).map V.int)):=by rw[ac,nv];rfl
  generalize upd U2 D (.lst (x.tk.map V.int++[.int p]))=U3 at L C;have d:=r.trans L;have y:=b.t d.t;refine⟨v1,.ref q1,.ref D,n,x.two p,Bd,by show [V.int (((n+1:Nat):Int) - 1),_,_,_]=_;rw[show(((n+1:Nat):Int) - 1)=(n:Int) by lia],y,⟨h2.t (av d.t),⟨q1,G,rfl,?_,?_⟩,⟨D,rfl,bB (b.t r.t) B C⟩,N⟩,hj,I.same d,λH' u t' R hN=>λH3 s3' hc3=>?_⟩
  .show _=some (HO.tup [.int ((x.c2 - 1:Nat):Int),.ref G])
   rw[bB b ah ((J.trans L) _ _ O),show((x.c2 - 1:Nat):Int)=(x.c2:Int) - 1 by lia]
  .exact bB b ab ((J.trans L) _ _ W)
  .rw[<- hU]at d
   exact q _ _ (gD (d.t.trans t') s3' hc3) (R.same s3') (hN.t (av s3'.t))
def xt(T:Txt K mg a)(O:Bm mg base):FnX P w base 1 T.W_K (spGoing a):=by
 refine T.W_K.A.okF T.lcd_K vg (by decide +kernel) (λX H Q E h=>?_) (λA outer s H X Q E hr h=>?_)
 .obtain⟨D,p,g,G,B,rfl,_⟩:=h;rfl
 .obtain⟨D,p,g,G,B,rfl,v,hg,J,N,q⟩:=h
  refine⟨_,(iV (di (d:=ld_going_1) rfl T.lch_K O rfl (by with_unfolding_all rfl) rfl (vT a) (.head _) T.tnd vC)),?_⟩;refine⟨N,λS L Y r i n1 j C=>λH3 s3 hc hf=>?_⟩;have c:=(v.t r).t s3.t;have Z:=hc 1 _ _ _ rfl rfl (by with_unfolding_all rfl);have R:=hc 0 _ _ _ rfl rfl (by with_unfolding_all rfl);have I:=hf "place" _ (by with_unfolding_all rfl);have fG:=hf "go" _ (by with_unfolding_all rfl);refine q _ _ (r.trans s3.t) (i.same s3) (.inr (.inl ⟨S,L,_,D,p,g,G,rfl,aE c (s3 _ _ j) (λ_ z=>nomatch z),aE c (s3 _ _ C) (λ_ z=>nomatch z),rfl,by simp,.cons (aE c Z λ_ z=>nomatch z) (.cons (aE c R λ_ z=>nomatch z) .nil),?_,J,rfl⟩));have k:=hg.t (av r);refine k.t (Same.t λb o e=>?_);obtain⟨M,x⟩:=ak e;have W:untrs H3 B b=some o:=by rw[ay M];exact s3 _ _ x
  have:∀{u:List Addr},(∀ y∈u,Y y=none)->untrs (untrs H3 B) u b=some o:=λ{u} f=>by
   rw[ay λz=>?_]
   .exact W
   .rw[f b z]at x;cases x
  refine this ?_ <;>
  .intro y F
   simp only[l_,GM,i_,He,or_false]at F
   rcases F with rfl | rfl
   .exact I
   .exact fG
end
open Tb (Tr pN fM wo Pv)
def zn(p:Int)(g:Int->Tr):fM [p] g=g p:=if_pos rfl
def wb{ps:List Int}(h:ps.length≠1)(g:Int->Tr):fM ps g=.die (ps.map λx=>((1:Int),g x)):=by unfold fM;rw[if_neg h]
section
variable {P:hH}{w:lA}{K:Frag}{mg:Str->Option b_}{base:Heap}{a:Ad}
def kG(T:Txt K mg a)(hB:Bm mg base){j k:Nat}(hk:1<=k)(S:LamOk P w K mg base (k+1) ld_from_one_1 fvP ["place"] (AU j a))(W:LamOk P w K mg base (k+1) ld_from_other_1 fvP ["place"] (AJ j a)):FnX P w base (k+1+1) T.W_S (spAny j a):=by
 have a1:FnO P w K mg base k (spDieI a):=(lH T).mono hk;have bg:FnO P w K mg base (k+1) (spGoing a):=(xt T hB).mono (by lia);refine T.W_S.A.okz ug λbr A as s H vs Q E hr h=>?_
 .obtain⟨l,go,g,d,J,rfl,B,hl,hg,hT,q⟩:=h
  have bm:sizeLine=16777216:=j_;have u:=(ak hl).2;obtain⟨bq,bo⟩:=hg.few;refine⟨_,(af (bc (bO og (aw aC rfl T.z_len bp (aa (vr 0) ad)) am (aX _)) (ag (ao (PE.or (dA (vr 1) S hr (aa (bf (vr 0) am) ad)) (dA (vr 1) W hr (aa (bf (vr 0) am) ad))))) aG) (ag (ao (bT T.mk_n a1 hr rfl T.mc_n T.Wi_n.B .nil ax (aa (aV rfl (N:=["place","go"]) (ix:=[none,some 1]) aD (a6 (vr 0)) (aQ λC s H fp=>⟨bM 0 ["place","go"],aU,(bh (aa am (aa (pec bg hr T.W_K (aa (vr 1) (aa (vr 0) ad))) ad)))⟩)) ad))))),jt ?_⟩;intro bt;refine⟨_,.inl (SqL.of u),?_⟩;rw[d_];refine ifC (λc=>?_) λc=>?_
  .have c:d.length=1:=by have z:((d.length:Nat):Int)=1:=c;lia
   obtain⟨p,rfl⟩:=List.length_eq_one_iff.mp c;rw[zn]at q;obtain⟨v1,v2,vt,n,x,h0,⟨⟨f,c,cl,rfl,k2,k3,k4,k5,k6⟩,v,e1,rfl,hj⟩ | ⟨⟨f,c,cl,rfl,k2,k3,k4,k5,k6⟩,v,e1,rfl,hj⟩⟩:=hg
   .exact .inl ⟨⟨f,_,cl,c,rfl,(ak k2).2⟩,.inl ⟨l,_,_,_,rfl,rfl,SqL.of u,aJ 0 rfl rfl,λ_ _ _ _ _ e=>e,f,c,cl,_,rfl,(ak k2).2,(ak k3).2,k4,k5,ba cuts_sub k6,v1,v2,vt,n,x,p,J,rfl,rfl,B,h0,v,by rw[<- e1];exact gT,hj rfl,hT,q⟩⟩
   .exact .inr ⟨⟨f,_,cl,c,rfl,(ak k2).2⟩,.inl ⟨l,_,_,_,rfl,rfl,SqL.of u,aJ 0 rfl rfl,λ_ _ _ _ _ e=>e,f,c,cl,_,rfl,(ak k2).2,(ak k3).2,k4,k5,ba cuts_sub k6,v1,v2,vt,n,x,p,J,rfl,rfl,B,h0,v,by rw[<- e1];exact gT,hj rfl,hT,q⟩⟩
  have c:d.length≠1:=λe=>c (by show((d.length:Nat):Int)=1;lia)
  rw[wb c]at q;refine .inl ⟨⟨_,SqL.of u⟩,λD hD=>?_⟩;have ext:∀{r:Hp},TabsOk (tabs a) r->∀{ys:List V}{al:List V},r D=some (.lst ys)->TabsOk (tabs a) (upd r D (.lst al)):=λbb ys al e=>bb.put (λd z=>by rw[e]at z;cases z) λφ z=>by rw[e]at z;cases z
  have I:(d.map λx=>((1:Int),g x)).length=d.length:=d_ _
  let Pw1:PvL:=λi L r=>SameT H r/\TabsOk (tabs a) r/\r D=some (.lst L)/\i<=d.length/\Paired (NdR (untrs r (D::J))) ((d.map λx=>((1:Int),g x)).take i) L
  refine a8 (K:=K) (a:=l) (xs:=d.map V.int) Pw1
   ⟨(Same.new hD).t,hT.same (Same.new hD),ac,h_ _,.nil⟩ (λi ys r h=>SqL.of (h.1.at u)) (λi ys r h=>h.2.2.1) ?_ ?_
  .rintro i y L r P' Z ⟨Y,X,G,hi,v⟩ a3
   rw[gb]at Z
   obtain⟨p,hp,rfl⟩:∃ p,d[i]? = some p/\V.int p=y:=by
    cases e:d[i]? with
    | none=>rw[e]at Z;cases Z
    | some p=>rw[e]at Z;cases Z;exact⟨p,rfl,rfl⟩
   have a0:i<d.length:=(fP.mp hp).1
   have R:Bad r (D::J):=λb hb=>by
    rcases i_.mp hb with rfl | hb
    .exact⟨_,G⟩
    .exact B.t Y b hb
   refine⟨⟨rfl,trivial⟩,?_⟩;refine⟨go,p,g,d,D::J,rfl,R,hg.up.t (iS Y hD),ge hp,X,λH2 f2 t2 a' a5=>?_⟩;have a2:=t2.at G;refine⟨cS _ _,λq2 bl=>?_⟩;have s3:=Same.new (o:=.tup [.int 1,f2]) bl;have an:=s3 _ _ a2;have zl:L.length<=i:=by rw[<- v.length,mx];lia
   have ah:Bad H2 (D::J):=R.t t2;have c3:SameT (untrs H2 (D::J)) (untrs (upd (upd H2 q2 (.tup [.int 1,f2])) D (.lst (L++[.ref q2]))) (D::J)):=(av s3.t).trans (cD gT);refine⟨an,by lia,a3 _ _ ⟨(Y.trans (t2.trans s3.t)).put hD,ext (a'.same s3) an,ac,a0,a7 (aj (NdR.t ((av t2).trans c3)) v) (x:=((1:Int),g p)) (by rw[gb,hp];rfl) ⟨q2,f2,rfl,?_,HL 1,a5.t c3⟩⟩⟩;exact(cD (o:=.lst (L++[.ref q2])) gT).at (aE (ah.t s3.t) ac (λ_ z=>nomatch z))
  rintro L H1 ⟨Y,X,G,hi,v⟩;rw[d_,<- I,oD]at v;have zl:L.length=d.length:=by rw[<- v.length,I]
  have bn:=aj (NdR.t iL) v;have O:=B.t Y;intro x2 F ab M bF;have s9:Same H1 (upd (upd H1 F (.own x2)) x2 (.ins a.c_n F [])):=λb o e=>by rw[ae (ai e ab),ae (ai e M)];exact e
  refine⟨x2,F,D,_,rfl,ac,s9 _ _ G,λH6 l6 fl k g1 g2=>⟨rfl,?_⟩⟩;have s6:=made ab M k;refine q _ _ (Y.trans s6.t) (X.same s6) ?_;exact⟨x2,F,l6,_,rfl,aE (O.t s6.t) g1 (λ_ z=>nomatch z),bB O (s9.free fl) g2,aj (NdR.t (av s6.t)) bn,by rw[I];lia,by rw[I];lia⟩
def su(T:Txt K mg a)(L:Bm mg base){j k:Nat}(r:FnX P w base k T.W_S (spAny j a)):FnX P w base (k+1) T.W_m (spF1 (j+1) a):=by
 refine T.W_m.A.okL T.lcd_m sc_m (by decide +kernel) (λR H Q E h=>?_) (λA outer s H R Q E hr h=>?_)
 .obtain⟨I,y,B,n,x,C,rfl,_⟩:=h;rfl
 .obtain⟨I,y,B,n,x,C,rfl,p,o,c,W,J,q⟩:=h
  refine⟨_,(jS sc_m.nd (by decide +kernel) r hr rfl T.W_S.C T.W_S.A.kp T.W_S.B .nil (aa (bf (vr 1) am) (aa (di (d:=ld_from_one_1) rfl T.lch_m L rfl (by with_unfolding_all rfl) rfl (qx a) (.head _) T.tnd pA) ad))),?_⟩;obtain⟨Z,Y,rfl,O,S⟩:=id o.h1;refine .inr (.inl ⟨Z,_,_,_,rfl,rfl,SqT.of (ak O).2,aJ 1 rfl rfl,?_⟩);refine⟨J,λz F H2 M g n1 i v=>λH3 s3 hc=>?_⟩;have f:=M.trans s3.t;have b:=p.t f;have N:=hc 0 _ _ _ rfl rfl (by with_unfolding_all rfl);have X:=hc 1 _ _ _ rfl rfl (by with_unfolding_all rfl);have G:=hc 2 _ _ _ rfl rfl (by with_unfolding_all rfl);have D:=hc 3 _ _ _ rfl rfl (by with_unfolding_all rfl);refine⟨Y,.ref z,_,x.P1,C,rfl,b,(av f).at S,⟨_,y,B,n,x,o.t (av f),.inl ⟨bV b ⟨z,F,_,rfl,s3 _ _ i,s3 _ _ v,rfl,nd4 _,.cons N (.cons D (.cons G (.cons X .nil)))⟩,c,rfl,rfl,λe=>AC o.ok.pv.i1 c W e⟩⟩,g.same s3,λH' u t' hT' hN=>q _ _ (f.trans t') hT' hN⟩
def tD(T:Txt K mg a)(L:Bm mg base){j k:Nat}(r:FnX P w base k T.W_S (spAny j a)):FnX P w base (k+1) T.W_b (spF2 (j+1) a):=by
 refine T.W_b.A.okL T.lcd_b sc_b (by decide +kernel) (λR H Q E h=>?_) (λA outer s H R Q E hr h=>?_)
 .obtain⟨y,I,B,n,x,C,rfl,_⟩:=h;rfl
 .obtain⟨y,I,B,n,x,C,rfl,p,o,c,W,J,q⟩:=h
  refine⟨_,(jS sc_b.nd (by decide +kernel) r hr rfl T.W_S.C T.W_S.A.kp T.W_S.B .nil (aa (bf (vr 2) am) (aa (di (d:=ld_from_other_1) rfl T.lch_b L rfl (by with_unfolding_all rfl) rfl (lS a) (.head _) T.tnd lV) ad))),?_⟩;obtain⟨Z,Y,rfl,O,S⟩:=id o.h2;refine .inr (.inl ⟨Z,_,_,_,rfl,rfl,SqT.of (ak O).2,aJ 1 rfl rfl,?_⟩);refine⟨J,λz F H2 M g n1 i v=>λH3 s3 hc=>?_⟩;have f:=M.trans s3.t;have b:=p.t f;have N:=hc 0 _ _ _ rfl rfl (by with_unfolding_all rfl);have X:=hc 1 _ _ _ rfl rfl (by with_unfolding_all rfl);have G:=hc 2 _ _ _ rfl rfl (by with_unfolding_all rfl);have D:=hc 3 _ _ _ rfl rfl (by with_unfolding_all rfl);refine⟨Y,.ref z,_,x.P2,C,rfl,b,(av f).at S,⟨y,_,B,n,x,o.t (av f),.inr ⟨bV b ⟨z,F,_,rfl,s3 _ _ i,s3 _ _ v,rfl,nd4 _,.cons N (.cons D (.cons G (.cons X .nil)))⟩,c,rfl,rfl,λe=>wt o.ok.pv.i2 c W e⟩⟩,g.same s3,λH' u t' hT' hN=>q _ _ (f.trans t') hT' hN⟩
def tH(T:Txt K mg a)(hB:Bm mg base){j k:Nat}(hk:1<=k)(b4:FnX P w base (k+1) T.W_m (spF1 j a))(bq:FnX P w base (k+1) T.W_b (spF2 j a)):FnX P w base (k+1+1) T.W_c (spPN j a):=by
 have bo:FnO P w K mg base k (spToldI a):=(jZ T).mono hk;have a5:FnO P w K mg base k (spDieI a):=(lH T).mono hk;refine T.W_c.A.okL T.lcd_c ny (by decide +kernel) (λvs H Q E h=>?_) (λA outer s H vs Q E hr h=>?_)
 .obtain⟨v1,v2,vt,n,x,G,rfl,_⟩:=h;rfl
 .obtain⟨v1,v2,vt,n,x,G,rfl,g,u,hj,hT,q⟩:=h
  have bS:sizeLine=16777216:=j_;refine⟨_,(cw (bc (bO og (vr 0) am (aX _)) (ag (ao (bT T.mk_i bo hr rfl T.mc_i T.Wi_i.B .nil ax (aa (vr 3) ad)))) aG) (cw (bc (bO og (bf (vr 2) am) am (aX _)) (ag (ao (pec b4 hr T.W_m (aa (vr 0) (aa (vr 1) (aa (vr 2) (aa (vr 3) ad))))))) aG) (cw (bc (bO og (bf (vr 1) am) am (aX _)) (ag (ao (pec bq hr T.W_b (aa (vr 0) (aa (vr 1) (aa (vr 2) (aa (vr 3) ad))))))) aG) (iV (bT T.mk_n a5 hr rfl T.mc_n T.Wi_n.B .nil ax (aa (bC (aa (bh (aa (bf (vr 1) am) (aa (di (d:=aO) rfl T.lch_c hB rfl (by with_unfolding_all rfl) rfl (iz a) (.head _) T.tnd iJ) ad))) (aa (bh (aa (bf (vr 2) am) (aa (di (d:=aP) rfl T.lch_c hB rfl (by with_unfolding_all rfl) rfl (iz a) (.tail _ (.head _)) T.tnd iJ) ad))) ad))) ad)))))),?_⟩;obtain⟨N,l1,rfl,a1,b1⟩:=id u.h1;obtain⟨M,l2,rfl,a2,b2⟩:=id u.h2;obtain⟨O,rfl,a3⟩:=id u.ht;have Z:=(ak a1).2;have Y:=(ak a2).2;have b6:=u.ok.pv.few;refine ifC (λc=>?_) λc=>?_
  .have c:n=0:=by have z:((n:Nat):Int)=0:=c;lia
   subst c;intro y r S i bF;have s9:Same H (upd (upd H r (.own y)) y (.ins a.c_i r [])):=λb o e=>by rw[ae (ai e S),ae (ai e i)];exact e
   refine⟨y,r,O,x.tk,rfl,ac,.inl (s9 _ _ (ak a3).2),by lia,λH' t bg k g1 g2 g3=>⟨rfl,?_⟩⟩;have sm:=made S i k;refine q _ _ sm.t (hT.same sm) ?_;rw[Pd.tr,Tb.pN_zero];exact fZ (g.t sm.t) ⟨y,r,t,bg,rfl,g1,g2,g3⟩
  have c:n≠0:=λe=>c (by show((n:Nat):Int)=0;lia)
  obtain⟨m,rfl⟩:∃ m,n=m+1:=⟨n - 1,by lia⟩
  rw[Pd.tr,Tb.pN_succ]at q;have b5:=u.ok.pv.all;refine .inr (.inl ⟨M,_,_,_,rfl,rfl,SqT.of Y,aJ 0 rfl rfl,ifC (λD=>?_) λD=>?_⟩)
  .have D:x.c2=0:=by have z:((x.c2:Nat):Int)=0:=D;lia
   rw[if_pos D]at q;exact⟨.ref N,.ref M,.ref O,m,x,G,rfl,g,u,by lia,hj,hT,q⟩
  have D:x.c2≠0:=λe=>D (by show((x.c2:Nat):Int)=0;lia)
  rw[if_neg D]at q;refine .inr (.inl ⟨N,_,_,_,rfl,rfl,SqT.of Z,aJ 0 rfl rfl,ifC (λC=>?_) λC=>?_⟩)
  .have C:x.c1=0:=by have z:((x.c1:Nat):Int)=0:=C;lia
   rw[if_pos C]at q;exact⟨.ref N,.ref M,.ref O,m,x,G,rfl,g,u,by lia,hj,hT,q⟩
  have C:x.c1≠0:=λe=>C (by show((x.c1:Nat):Int)=0;lia)
  rw[if_neg C]at q;refine .inr (.inl ⟨N,_,_,_,rfl,rfl,SqT.of Z,aJ 0 rfl rfl,?_⟩);refine⟨hT,λL d1 H2 t2 bb n1 bl bm=>?_⟩;refine⟨cS _ _,λI a0=>?_⟩;have X:=Same.new (o:=.tup [.int (x.c1:Nat),.ref L]) a0;have W:=ac (H:=H2) (a:=I) (o:=.tup [.int (x.c1:Nat),.ref L]);generalize upd H2 I (.tup [.int (x.c1:Nat),.ref L])=H3 at X W;have t3:=t2.trans X.t;refine .inr (.inl ⟨M,_,_,_,rfl,rfl,SqT.of (t3.at Y),aJ 0 rfl rfl,?_⟩);refine⟨bb.same X,λJ d2 H4 t4 b3 n2 bt b0=>?_⟩;refine⟨cS _ _,λF bL=>?_⟩;have s5:=Same.new (o:=.tup [.int (x.c2:Nat),.ref J]) bL;have an:=ac (H:=H4) (a:=F) (o:=.tup [.int (x.c2:Nat),.ref J]);generalize upd H4 F (.tup [.int (x.c2:Nat),.ref J])=H5 at s5 an;refine⟨cS _ _,λl0 a'=>?_⟩;have s6:=Same.new (o:=.lst [.ref I,.ref F]) a';have R:=ac (H:=H5) (a:=l0) (o:=.lst [.ref I,.ref F]);generalize upd H5 l0 (.lst [.ref I,.ref F])=H6 at s6 R;intro y r S i bF;have s0:Same H6 (upd (upd H6 r (.own y)) y (.ins a.c_n r [])):=λb o e=>by rw[ae (ai e S),ae (ai e i)];exact e
  refine⟨y,r,l0,_,rfl,ac,s0 _ _ R,λH7 l fl k g1 g2=>⟨rfl,λH8 s8 hc=>?_⟩⟩;have s7:=made S i k;have bn:=s7.trans s8;have ah:=s6.trans bn;have p:=s5.trans ah;have ab:=t4.trans p.t;have B:=X.t.trans ab;have v:=t2.trans B;have cW:=hc 0 _ _ _ rfl rfl (by with_unfolding_all rfl);have cA:=hc 1 _ _ _ rfl rfl (by with_unfolding_all rfl);have cB:=hc 2 _ _ _ rfl rfl (by with_unfolding_all rfl);have cT:=hc 3 _ _ _ rfl rfl (by with_unfolding_all rfl);have f:=g.t v;have as:Bad H6 G:=g.t (t2.trans (X.t.trans (t4.trans (s5.t.trans s6.t))));have al:=u.t (av v);have L1:IsLam (untrs H8 G) aO fvP (.ref L) [.int ((m+1:Nat):Int),.ref O,.ref M,.ref N]:=bV f ⟨L,d1,_,rfl,B.at bl,B.at bm,rfl,nd4 _,.cons cW (.cons cT (.cons cB (.cons cA .nil)))⟩;have br:IsLam (untrs H8 G) aP fvP (.ref J) [.int ((m+1:Nat):Int),.ref O,.ref M,.ref N]:=bV f ⟨J,d2,_,rfl,p _ _ bt,p _ _ b0,rfl,nd4 _,.cons cW (.cons cT (.cons cB (.cons cA .nil)))⟩;refine q _ _ v (b3.same p) ⟨y,r,l,_,rfl,aE f (s8 _ _ g1) (λ_ z=>nomatch z),bB as (s0.free fl) (s8 _ _ g2),?_,by show 1<=2;decide,by show 2<=5000;decide⟩;exact .cons ⟨I,.ref L,rfl,aE f (ab.at W) (λ_ z=>nomatch z),by show 1<=(x.c1:Int);lia,.inl ⟨_,_,_,m,x,al,.inl ⟨L1,by lia,rfl⟩⟩⟩ (.cons ⟨F,.ref J,rfl,aE f (ah _ _ an) (λ_ z=>nomatch z),by show 1<=(x.c2:Int);lia,.inl ⟨_,_,_,m,x,al,.inr ⟨br,by lia,rfl⟩⟩⟩ .nil)
def qf(T:Txt K mg a)(b:Bm mg base):∀ j,FnX P w base (4*j+4) T.W_c (spPN j a)
 | 0=>tH (k:=2) T b (by decide) ⟨λc H Q E h=>by obtain⟨v1,v2,vt,n,x,Bd,rfl,_⟩:=h;rfl,λ_ _ _ _ _ _ _ _ _ _ _ _ _ h=>by obtain⟨v1,v2,vt,n,x,Bd,rfl,_,_,hc,hj,_⟩:=h;have:=tN hj;lia⟩ ⟨λc H Q E h=>by obtain⟨v1,v2,vt,n,x,Bd,rfl,_⟩:=h;rfl,λ_ _ _ _ _ _ _ _ _ _ _ _ _ h=>by obtain⟨v1,v2,vt,n,x,Bd,rfl,_,_,hc,hj,_⟩:=h;have:=tN hj;lia⟩
 | j+1=>by
  have G:=qf T b j;have A:=kG (k:=4*j+4) T b (by lia) (jU T (by lia) G) (jX T (by lia) G);exact tH (k:=4*j+6) T b (by lia) (su T b A) (tD T b A)
end
open Tb (Tr stm stP Hd)
def Cd(a:Ad):Sp:=λvs H Q _=>∃ v,∃ n m:Int,vs=[v,.int n,.int m]/\TabsOk (tabs a) H/\∀ H' f,SameT H H'->TabsOk (tabs a) H'->IsLam H' aF fvH f [.int n,.int m,v]->Q f H'
inductive spSN(a:Ad)(vs:List V)(H:Hp)(Q:VK)(_E:XK):Prop
 | mk(l:Addr)(held:List Int)(n many s:Nat)(Bd:List Addr)(h0:vs=[.ref l,.int (n:Nat),.int (many:Nat)])(h1:Bad H Bd)(h2:untrs H Bd l=some (.lst (held.map V.int)))(h3:(n+s=many\/(s=0/\many<=n)))(h4:many<=24)(h5:held.length<=24)(h6:Hd held n)(h7:TabsOk (tabs a) H)(h8:Res a H Bd (stm s held n) Q):spSN a vs H Q _E
def lsH:LamScope aF fvH []:=⟨rfl,rfl,rfl,by decide +kernel,by decide +kernel,by decide +kernel,by decide +kernel,by decide +kernel⟩
def mF(a:Ad):List V->Sp:=λvals vs H Q _=>∃(l:Addr) (held:List Int) (n many s:Nat) (Bd:List Addr),vals=[.int (n:Nat),.int (many:Nat),.ref l]/\vs=[]/\Bad H Bd/\untrs H Bd l=some (.lst (held.map V.int))/\n+1+s=many/\many<=24/\Hd held (n+1)/\TabsOk (tabs a) H/\Res a H Bd (stm s held (n+1)) Q
section
variable {P:hH}{w:lA}{K:Frag}{mg:Str->Option b_}{base:Heap}{a:Ad}
def qm(T:Txt K mg a)(k:Bm mg base):FnX P w base 1 T.W_l (Cd a):=by
 refine T.W_l.A.okL T.lcd_l kA (by decide +kernel) (λo H Q E h=>?_) (λA outer s H o Q E hr h=>?_)
 .obtain⟨v,n,m,rfl,_⟩:=h;rfl
 .obtain⟨v,n,m,rfl,j,q⟩:=h
  refine⟨_,(iV (di (d:=aF) rfl T.lch_l k rfl (by with_unfolding_all rfl) rfl (kS a) (.head _) T.tnd kO)),?_⟩;refine⟨j,λr u z p f y c g=>?_⟩;exact λx b i=>q _ _ (p.trans b.t) (f.same b) ⟨r,u,_,rfl,b _ _ c,b _ _ g,rfl,by simp;lia,.cons (i 1 _ _ _ rfl rfl (by with_unfolding_all rfl)) (.cons (i 2 _ _ _ rfl rfl (by with_unfolding_all rfl)) (.cons (i 0 _ _ _ rfl rfl (by with_unfolding_all rfl)) .nil))⟩
def qi(T:Txt K mg a)(hB:Bm mg base):FnX P w base 3 T.W_G (spSN a):=by
 have b1:FnO P w K mg base 1 (spToldI a):=jZ T;have bl:FnO P w K mg base 1 (spDieI a):=lH T;refine T.W_G.A.okz sc_G λcm A bg s H vs Q E hr h=>?_
 .obtain⟨l,d,n,f,s,u,rfl,W,hl,hs,as,bL,hd,hT,q⟩:=h
  have ca:sizeLine=16777216:=j_;have ab:=(ak hl).2;refine⟨_,(af (bc (bO AI (vr 1) (vr 2) (aX _)) (ag (ao (bT T.mk_i b1 hr rfl T.mc_i T.Wi_i.B .nil ax (aa (vr 0) ad)))) aG) (af (psr 3 sc_G (aw aC rfl T.z_len bp (aa (vr 0) ad))) (af (n8 rfl (i:=4) sc_G.nd rfl rfl (by with_unfolding_all rfl) (N:=["place","number","many","held","most"]) (ix:=[none,some 1,some 2,some 0,some 3]) aD (cH rfl T.z_range (aa (vr 3) ad)) (aQ λC s H fp=>⟨bM 0 ["place","number","many","held","most"],aU,(bh (aa am (aa (aI (qm T hB) hr T.W_l (aa (aI (ss T) hr T.W_ac (aa (vr 3) (aa (vr 4) (aa (vr 1) (aa (vr 0) ad))))) (aa (vr 1) (aa (vr 2) ad)))) ad)))⟩)) (ag (ao (bT T.mk_n bl hr rfl T.mc_n T.Wi_n.B .nil ax (aa (au cE (vr 4) (bC (aa (bh (aa (au fH (au bY (vr 1) am) (vr 3)) (aa (aI (qm T hB) hr T.W_l (aa (vr 0) (aa (vr 1) (aa (vr 2) ad)))) ad))) ad))) ad))))))),mn ?_⟩;intro cs cj co;refine ifC (λc=>?_) (λc=>?_)
  .have c:(n:Int) >= (f:Int):=c
   obtain rfl:s=0:=by lia
   intro x dx hx a' b';have s9:Same H (upd (upd H dx (.own x)) x (.ins a.c_i dx [])):=λb o e=>by rw[ae (ai e hx),ae (ai e a')];exact e
   refine⟨x,dx,l,d,rfl,ac,.inl (s9 _ _ ab),by lia,λp t bF k g1 g2 g3=>⟨rfl,?_⟩⟩;have sm:=made hx a' k;exact q _ _ sm.t (hT.same sm) (fZ (W.t sm.t) ⟨x,dx,t,bF,rfl,g1,g2,g3⟩)
  have c:¬(n:Int) >= (f:Int):=c
  obtain⟨s',rfl⟩:∃ s',s=s'+1:=⟨s - 1,by lia⟩
  have e0:n+1+s'=f:=by lia
  refine⟨_,.inl (SqL.of ab),?_⟩;rw[d_];refine⟨_,rfl,by lia,by lia,λD hD=>?_⟩;have ext:∀{p:Hp},TabsOk (tabs a) p->∀{ys:List V}{a5:List V},p D=some (.lst ys)->TabsOk (tabs a) (upd p D (.lst a5)):=λb0 ys a5 e=>b0.put (λps z=>by rw[e]at z;cases z) λφ z=>by rw[e]at z;cases z
  let pts:List (Int×Tr):=(lj d.length).map λpl=>((1:Int),stm s' (d.set pl (n:Int)) (n+1))
  have bb:pts.length=d.length:=by show(t_ _ _).length=_;rw[d_,A6]
  let Pw1:PvL:=λi j p=>SameT H p/\TabsOk (tabs a) p/\p D=some (.lst j)/\i<=d.length/\Paired (NdR (untrs p (D::u))) (pts.take i) j
  refine d6 (lo:=0) (n:=(d.length:Int).toNat) Pw1
   ⟨(Same.new hD).t,hT.same (Same.new hD),ac,h_ _,.nil⟩ (λi ys p h=>h.2.2.1) ?_ ?_
  .rintro i j p P' hi ⟨J,Y,F,ck,hc⟩ bo
   have ah:i<d.length:=by lia
   have R:Bad p (D::u):=λb hb=>by
    rcases i_.mp hb with rfl | hb
    .exact⟨_,F⟩
    .exact W.t J b hb
   have X:=J.at ab;have bq:untrs p (D::u) l=some (.lst (d.map V.int)):=(iS J hD).at hl;refine⟨⟨rfl,rfl,rfl,rfl,trivial⟩,?_⟩;refine⟨l,d.length,_,.int (n:Nat),d.map V.int,rfl,X,by rw[d_];exact bL,by lia,by lia,.inr (by rw[d_]),λH2 h' s2 v hor=>?_⟩
   have b3:lm (d.length:Int) (d.map V.int) (.int (n:Nat)) (0+(i:Int))=(d.set i (n:Int)).map V.int:=by
    rw[sI V.int];unfold lm;rw[if_neg (by lia),if_pos (by lia),Gr];rfl
   rw[b3]at v;have bm:=s2 _ _ F
   have b4:untrs H2 (D::u) h'=some (.lst ((d.set i (n:Int)).map V.int)):=by
    rcases hor with rfl | hor
    .have:=(av s2.t).at bq
     rw[(ak this).2]at v;rw[this,v]
    .exact bB R hor v
   refine⟨.ref h',_,_,rfl,Y.same s2,λH3 f3 t3 bn cf=>?_⟩;have ch:=t3.at bm;refine⟨cS _ _,λg Z=>?_⟩;have I:=Same.new (o:=.tup [.int 1,f3]) Z;have G:=I _ _ ch;have zl:j.length<=i:=by rw[<- hc.length,mx];lia
   have b5:=(s2.t.trans t3).trans I.t;have L:Bad H3 (D::u):=(R.t s2.t).t t3;have c4:SameT (untrs H3 (D::u)) (untrs (upd (upd H3 g (.tup [.int 1,f3])) D (.lst (j++[.ref g]))) (D::u)):=(av I.t).trans (cD gT);have bS:pts[i]? = some ((1:Int),stm s' (d.set i (n:Int)) (n+1)):=by show(t_ _ _)[i]? = _;rw[gb,FB ah];rfl
   refine⟨G,by lia,bo _ _ ⟨(J.trans b5).put hD,ext (bn.same I) G,ac,ah,a7 (aj (NdR.t (((av s2.t).trans (av t3)).trans c4)) hc) bS ⟨g,f3,rfl,?_,HL 1,.inr (.inr ⟨h',d.set i (n:Int),n,f,s',(bV L cf).t c4,((av t3).trans c4).at b4,rfl,e0,as,hd.put i⟩)⟩⟩⟩;exact(cD (o:=.lst (j++[.ref g])) gT).at (aE (L.t I.t) ac (λ_ z=>nomatch z))
  rintro j H1 ⟨J,Y,F,hi,hc⟩;rw[ub,<- bb,oD]at hc;have zl:j.length=d.length:=by rw[<- hc.length,bb]
  have cg:=aj (NdR.t iL) hc;have r:=W.t J;have X:=(av J).at hl;refine⟨.ref l,_,_,rfl,Y,λH2 f2 t2 br bt=>?_⟩;refine⟨cS _ _,λg Z=>?_⟩;have s3:=Same.new (o:=.tup [.int ((n:Int)+1 - (d.length:Int)),f2]) Z;refine⟨(by decide:1<=sizeLine),λp3 cc=>?_⟩;have I:=Same.new (o:=.lst [.ref g]) cc;have a1:=I _ _ (ac (H:=H2) (a:=g) (o:=.tup [.int ((n:Int)+1 - (d.length:Int)),f2]));have a3:=ac (H:=upd H2 g (.tup [.int ((n:Int)+1 - (d.length:Int)),f2])) (a:=p3) (o:=.lst [.ref g]);have B:=s3.trans I;generalize upd (upd H2 g (.tup [.int ((n:Int)+1 - (d.length:Int)),f2])) p3 (.lst [.ref g])=H4 at a1 a3 B;have G:=B _ _ (t2.at F);refine⟨D,p3,j,_,rfl,rfl,G,a3,by show j.length+1<=_;lia,λp5 b6=>?_⟩;have s5:=Same.new (o:=.lst (j++[.ref g])) b6;have M:=ac (H:=H4) (a:=p5) (o:=.lst (j++[.ref g]));generalize upd H4 p5 (.lst (j++[.ref g]))=H5 at s5 M;have a2:=B.t.trans s5.t;intro x2 y an O b';have s9:Same H5 (upd (upd H5 y (.own x2)) x2 (.ins a.c_n y [])):=λb o e=>by rw[ae (ai e an),ae (ai e O)];exact e
  refine⟨x2,y,p5,_,rfl,ac,s9 _ _ M,λH6 l6 fl k g1 g2=>⟨rfl,?_⟩⟩;have s6:=made an O k;have al:=a2.trans s6.t;have a0:=t2.trans al;have b2:H5 l6=none:=s9.free fl;have S:=r.t a0;have c6:SameT (untrs H2 u) (untrs H6 u):=av al;have ct:=hd.len;refine q _ _ (J.trans a0) (br.same ((B.trans s5).trans s6)) ?_;show IsNd a (untrs H6 u) (.ref x2) (.die (stP s' d n));refine⟨x2,y,l6,_,rfl,aE S g1 (λ_ z=>nomatch z),bB ((r.t t2).t a2) b2 g2,dI ⟨g,f2,rfl,aE S ((s5.trans s6) _ _ a1) (λ_ z=>nomatch z),by show 1<=(n:Int)+1 - (d.length:Int);lia,.inr (.inr ⟨l,d,n,f,s',(bV (r.t t2) bt).t c6,((av t2).trans c6).at X,rfl,e0,as,hd.stay⟩)⟩ (aj (NdR.t ((av t2).trans c6)) cg),by rw[Tb.stP_len];lia,by rw[Tb.stP_len];lia⟩
def qB(T:Txt K mg a)(C:Bm mg base):LamOk P w K mg base 4 aF fvH [] (mF a):=by
 refine dB lsH (λM y j c F o=>match F,o with | [],_=>rfl) (λvals vs H Q E h=>?_) (λA outer s H f c j vals vs Q E hr hfv ca h=>?_)
 .obtain⟨l,d,n,b,s,x,rfl,rfl,_⟩:=h;rfl
 .obtain⟨l,d,n,b,k,x,rfl,rfl,g,o,J,r,u,B,q⟩:=h
  refine⟨_,(pec (qi T C) hr T.W_G (aa (vr 2) (aa (au bY (vr 0) am) (aa (vr 1) ad)))),?_⟩;have i:=aq (bN g ca) o (λv z=>nomatch z);rw[bH]at i;have I:=u.len;refine⟨l,d,n+1,b,k,x,by show [V.ref l,.int ((n:Int)+1),.int (b:Int)]=_;push_cast;rfl,cJ ca g,i,.inl J,r,by lia,u,TabsOk.untrs B ca,λL N G p D=>λH3 s3 hc=>?_⟩;exact q _ _ (gD G s3 hc) (p.same s3) (D.t (av s3.t))
end
end My
namespace Tb
open FrM Du LexM
def fT:List Int->Nat->List Int->Tr
 | [],_,t=>.leaf t
 | x::r,w,t=>if w=0 then .leaf t else if r.length+1<=w then .leaf (t++x::r) else .die [((w:Int),fT r (w - 1) (t++[x])),((r.length:Int)+1 - (w:Int),fT r w t)]
def lT:List (Int×(Int×Int))->List Int->Tr
 | [],t=>.leaf t
 | (p,c)::r,t=>.die [(c.1,lT r (t++[p])),(c.2 - c.1,lT r t)]
def CM(places:List Int)(first step:Nat):List Int:=((lj places.length).filter λk=>decide (k % step=first)).filterMap (places[·]?)
def fT_zero(l t:List Int):fT l 0 t=.leaf t:=by cases l <;> rfl
def fT_all{l t:List Int}{w:Nat}(h:l.length<=w):fT l w t=.leaf (if w=0 then t else t++l):=by
 cases l with
 | nil=>unfold fT;split <;> simp
 | cons x r =>
  unfold fT
  by_cases c:w=0
  .rw[if_pos c,if_pos c]
  .rw[if_neg c,if_neg c,if_pos (by rw[py]at h;exact h)]
def fT_die{l t:List Int}{w:Nat}(a:0<w)(h:w<l.length):fT l w t=.die [((w:Int),fT (l.drop 1) (w - 1) (t++l.take 1)),((l.length:Int) - (w:Int),fT (l.drop 1) w t)]:=by
 cases l with
 | nil=>exact absurd h (KJ w)
 | cons x r =>
  rw[py]at h
  conv=>lhs;unfold fT
  rw[if_neg (by lia),if_neg (by lia),py];rfl
end Tb
namespace Nst
open FrM Du LexM Tb
abbrev Mb:=Int×Int×List PySem.Str
def hd(m:Mb):PySem.Str:=m.2.2.headD ⟨#[]⟩
def tl(m:Mb):Mb:=(m.1,m.2.1,m.2.2.tail)
inductive Lf:Tr->List Int->Prop
 | leaf (ns:List Int):Lf (.leaf ns) ns
 | die {ps:List (Int×Tr)}{m:Int}{u:Tr}{ns:List Int}:(m,u)∈ps->Lf u ns->Lf (.die ps) ns
def cN:List (Int×Tr)->Int->Option Tr
 | [],_=>none
 | (m,t)::r,k=>if k<m then some t else cN r (k - m)
def dg:∀(ps:List (Int×Tr)) (t:Int),0<=t->t<tot ps->∃ u,cN ps t=some u
 | [],t,h0,h1=>by simp[tot]at h1;lia
 | (m,u)::r,t,h0,h1=>by
  unfold cN
  by_cases c:t<m
  .exact⟨u,if_pos c⟩
  .rw[if_neg c]
   refine dg r (t - m) (by lia) ?_;unfold tot at *;rw[l_,Ez]at h1;lia
def cZ:∀{ps:List (Int×Tr)}{t:Int}{u:Tr},cN ps t=some u->∃ m,(m,u)∈ps
 | [],_,_,h=>by cases h
 | (m,v)::r,t,u,h=>by
  unfold cN at h
  by_cases c:t<m
  .rw[if_pos c]at h
   cases h;exact⟨m,gT⟩
  .rw[if_neg c]at h
   obtain⟨a,b⟩:=cZ h;exact⟨a,hI _ b⟩
def gU(g:List Int->Tr):∀{ps:List (Int×Tr)}{t:Int}{u:Tr},cN ps t=some u->cN (ci ps g) t=some (bnd u g)
 | [],_,_,h=>by cases h
 | (m,v)::r,t,u,h=>by
  unfold cN at h;rw[ci];unfold cN
  by_cases c:t<m
  .rw[if_pos c]at h ⊢
   cases h;rfl
  .rw[if_neg c]at h ⊢
   exact gU g h
inductive Pl
 | few (m:Nat)
 | start (s:Nat)
 | loose (m:Nat)
 | each (p:Pl)
 | first (p q:Pl)
end Nst
namespace My
open PySem L2 FrM
open Nst (Lf)
open Tb (Tr fT bnd ci so pS tS)
def dd_in:DefD:=vU ((((("_law_joined" : Str) ++ ".<locals>.") ++ "_law_poured") ++ ".<locals>.") ++ "_law_told") (dl (dl bj 0) 1)
abbrev Ah:Expr:=oJ (jK (dl (dl bj 1) 0)) 1
def ld_in:LamD:=eY ((((("_law_joined" : Str) ++ ".<locals>.") ++ "_law_second") ++ ".<locals>.") ++ "<lambda>") Ah
abbrev ls_po:List (Pos×Str):=[(vy (dl (dl bj 0) 1),dd_in.qual)]
abbrev ls_se:List (Pos×Str):=[(jM Ah,ld_in.qual)]
def Bg:ls_po.Pairwise λx y=>¬(x.1.line=y.1.line/\x.1.col=y.1.col):=F7 _ _
def Bo:ls_se.Pairwise λx y=>¬(x.1.line=y.1.line/\x.1.col=y.1.col):=F7 _ _
abbrev xj:List Str:=["_law_second_here","_law_most","_law_first"]
abbrev uu:List Str:=["_law_second_here","_law_poured","_law_most"]
abbrev yj:List Str:=["_law_places"]
abbrev wm:List Str:=["_law_poured","_law_one"]
abbrev fvC:List Str:=["make","carry"]
abbrev fvB:List Str:=["go"]
abbrev fv1:List Str:=["wanted","taken","rest","ahead"]
abbrev fv2:List Str:=["wanted","taken","rest"]
def bs_L_joined_1:BScope dd_L_joined_1.l ["_law_one","_law_other","_law_second_here","_law_most","_law_first","_law_places","_law_told"] xj ["_law_one","_law_other"]:=⟨rfl,rfl,rfl,by decide +kernel,rfl,by decide +kernel,by decide +kernel,by decide +kernel,by decide +kernel⟩
def gR:BScope dd_L_joined_2.l ["_law_one","_law_second_here","_law_poured","_law_most"] uu ["_law_one"]:=⟨rfl,rfl,rfl,by decide +kernel,rfl,by decide +kernel,by decide +kernel,by decide +kernel,by decide +kernel⟩
def Es:LamScope dd_in.l yj ["_law_kept"]:=⟨rfl,rfl,rfl,by decide +kernel,by decide +kernel,by decide +kernel,by decide +kernel,by decide +kernel⟩
def DS:LamScope ld_in wm ["_law_other"]:=⟨rfl,rfl,rfl,by decide +kernel,by decide +kernel,by decide +kernel,by decide +kernel,by decide +kernel⟩
def lsC:LamScope aB fvC []:=⟨rfl,rfl,rfl,by decide +kernel,by decide +kernel,by decide +kernel,by decide +kernel,by decide +kernel⟩
def lsB:LamScope bK fvB ["after"]:=⟨rfl,rfl,rfl,by decide +kernel,by decide +kernel,by decide +kernel,by decide +kernel,by decide +kernel⟩
def ls1:LamScope bE fv1 []:=⟨rfl,rfl,rfl,by decide +kernel,by decide +kernel,by decide +kernel,by decide +kernel,by decide +kernel⟩
def ls2:LamScope bD fv2 []:=⟨rfl,rfl,rfl,by decide +kernel,by decide +kernel,by decide +kernel,by decide +kernel,by decide +kernel⟩
def dO:HO->Bool
 | .lst _=>true
 | .tup _=>true
 | .ins _ _ _=>true
 | _=>false
def NC(H H':Hp):Prop:=∀ b o,dO o=true->H b=some o->H' b=some o
def pj{H:Hp}{a:List (Str×Addr)}{c:List V}(f:CellsAt H a c):NC H (untrs H (a.map (·.2))):=λb o d e=>aq f e (by rintro v rfl;cases d)
def LsT.n{H H':Hp}{v:V}{ps:List Int}(s:NC H H')(h:LsT H v ps):LsT H' v ps:=let ⟨l,e,h1⟩:=h;⟨l,e,s _ _ rfl h1⟩
def eO{H:Hp}{b:Addr}:∀{clos:List (Str×Addr)}{vals:List V},CellsAt H clos vals->b∈clos.map (·.2)->∃ v∈vals,H b=some (.ext (aZ b v))
 | _,_,.nil,h=>by cases h
 | _,_,.cons r t,h=>by
  rcases i_.mp h with rfl | h
  .exact⟨_,gT ..,r⟩
  .obtain⟨v,a,e⟩:=eO t h
   exact⟨v,hI _ a,e⟩
def fo{H:Hp}{b:List (Str×Addr)}{a:List V}(d:CellsAt H b a)(f:∀ v∈a,∃ p,v=.ref p):∀{clos:List (Str×Addr)}{vals:List V},(∀ v∈vals,v ∉ a)->CellsAt H clos vals->CellsAt (untrs H (b.map (·.2))) clos vals
 | _,_,_,.nil=>.nil
 | _,_,hd,.cons r t=>by
  refine .cons ?_ (fo d f (λv g=>hd v (hI _ g)) t);rw[ay λz=>?_]
  .exact r
  .obtain⟨i,c,e⟩:=eO d z
   obtain⟨p,rfl⟩:=f i c;rw[r]at e;have h:=pJ (k7 e).symm;exact hd _ (gT ..) (by rw[h];exact c)
def IsDf(H:Hp)(d:DefD)(fv:List Str)(v:V)(vals:List V):Prop:=∃ f c clos,v=.ref f/\H f=some (.ext (ce f d clos c))/\H c=some (.ext (bU c d.qual))/\clos.map (·.1)=fv/\(clos.map (·.2)).Nodup/\CellsAt H clos vals
def IsDT(a:Ad)(H:Hp)(d:DefD)(ls:List (Pos×Str))(fv:List Str)(v:V)(vals:List V):Prop:=∃ f c T clos,v=.ref f/\H f=some (.ext (ce f d clos c))/\H c=some (.ext (bZ c d.qual T))/\(T,ls)∈tabs a/\clos.map (·.1)=fv/\(clos.map (·.2)).Nodup/\CellsAt H clos vals
def IsDf.t{H H':Hp}{d:DefD}{g:List Str}{v:V}{a:List V}(s:SameT H H')(h:IsDf H d g v a):IsDf H' d g v a:=by
 obtain⟨f,c,b,q,k,j,p,i,o⟩:=h;exact⟨f,c,b,q,s.at k,s.at j,p,i,ba s o⟩
def IsDT.t{a:Ad}{H H':Hp}{d:DefD}{j:List (Pos×Str)}{i:List Str}{v:V}{b:List V}(s:SameT H H')(h:IsDT a H d j i v b):IsDT a H' d j i v b:=by
 obtain⟨f,c,T,g,w,q,o,u,k,r,p⟩:=h;exact⟨f,c,T,g,w,s.at q,s.at o,u,k,r,ba s p⟩
def Cs:List (Nat×Nat×Nat):=((lj 5).flatMap λf=>(lj 5).map λs=>(1,f,s))++(lj 4).flatMap λf=>(lj 4).flatMap λs=>[(2,f,s),(3,f,s)]
abbrev C3(m f s:Nat):Prop:=(m,f,s)∈Cs
def sT(m n:Nat):Tr:=tS (min n m) (n - min n m)
def pT(m f s:Nat):Tr:=pS (min m (f+s)) f (min m f) s (min m s)
def gT0(P ks:List Int):Tr:=.leaf (ks.map λk=>P.getD k.toNat 0)
def gT1(m f s:Nat)(ks ls:List Int):Tr:=bnd (pT m f s) (gT0 (ks++ls.map λk=>(f:Int)+k))
def gT2(m f s:Nat)(ks:List Int):Tr:=bnd (sT m s) (gT1 m f s ks)
def jT(m f s:Nat):Tr:=bnd (sT m f) (gT2 m f s)
abbrev qH(a:Ad)(H:Hp)(v:V)(m f s:Nat):Prop:=IsDT a H dd_L_joined_1 ls_po xj v [.int (s:Nat),.int (m:Nat),.int (f:Nat)]
inductive IsGq(a:Ad)(H:Hp)(go:V):Nat->(List Int->Tr)->(List Int->Prop)->Prop
 | told (n:Nat) (lp:Addr) (P:List Int) (h0:IsDf H dd_in yj go [.ref lp]) (h1:H lp=some (.lst (P.map V.int))) (h2:P.length<=24):IsGq a H go n (gT0 P) λks=>ks.length<=24/\∀ k∈ks,0<=k/\k<P.length
 | other (n:Nat) (pv:V) (kt:Addr) (ks:List Int) (m f s:Nat) (h0:C3 m f s) (h1:IsLam H ld_in wm go [pv,.ref kt]) (h2:H kt=some (.tup (ks.map V.int))) (h3:ks.length=min f m) (h4:qH a H pv m f s):IsGq a H go (n+1) (gT1 m f s ks) λls=>ls.length=min s m
 | second (n:Nat) (pv:V) (m f s:Nat) (h0:C3 m f s) (h1:IsDT a H dd_L_joined_2 ls_se uu go [.int (s:Nat),pv,.int (m:Nat)]) (h2:qH a H pv m f s):IsGq a H go (n+2) (gT2 m f s) λks=>ks.length=min f m
def IsGq.t{a:Ad}{H H':Hp}{b:V}{n:Nat}{c:List Int->Tr}{d:List Int->Prop}(s:SameT H H')(h:IsGq a H b n c d):IsGq a H' b n c d:=by
 cases h with
 | told n lp P h0 h1 h2=>exact .told n lp P (h0.t s) (s.at h1) h2
 | other n pv kt ks m f s' h0 h1 h2 h3 h4=>exact .other n pv kt ks m f s' h0 (h1.t s) (s.at h2) h3 (h4.t s)
 | second n pv m f s' h0 h1 h2=>exact .second n pv m f s' h0 (h1.t s) (h2.t s)
def IsMq(a:Ad):Nat->Hp->V->Tr->Prop
 | 0,H,f,t=>IsMk H f t\/(∃ va vt vr ahead taken,∃ m:Nat,IsLam H bE fv1 f [.int (m:Nat),vt,vr,va]/\LsT H va ahead/\LsT H vt taken/\LsT H vr (ahead.drop 1)/\(0<m/\m<ahead.length/\ahead.length+taken.length<=24)/\t=fT (ahead.drop 1) (m - 1) (taken++ahead.take 1)) \/
  ∃ vt vr rest taken,∃ m:Nat,IsLam H bD fv2 f [.int (m:Nat),vt,vr]/\LsT H vt taken/\LsT H vr rest/\rest.length+taken.length<=24/\t=fT rest m taken
 | n+1,H,f,t=>IsMq a n H f t\/∃ m cr go t0 gf ok,IsLam H aB fvC f [m,cr]/\IsLam H bK fvB cr [go]/\IsGq a H go n gf ok/\IsMk H m t0/\(∀ ks,Lf t0 ks->ok (so ks))/\t=bnd t0 gf
def IsMq.t{a:Ad}:∀{n:Nat}{H H':Hp}{f:V}{t:Tr},SameT H H'->IsMq a n H f t->IsMq a n H' f t
 | 0,_,_,_,_,s,h=>by
  rcases h with h | ⟨u,i,g,p,j,m,d,c,b,k,r⟩ | ⟨i,g,o,j,m,d,c,b,r⟩
  .exact .inl (h.t s)
  .exact .inr (.inl ⟨u,i,g,p,j,m,d.t s,c.t s,b.t s,k.t s,r⟩)
  .exact .inr (.inr ⟨i,g,o,j,m,d.t s,c.t s,b.t s,r⟩)
 | n+1,_,_,_,_,s,h=>by
  rcases h with h | ⟨m,w,x,y,v,q,d,c,b,k,r⟩
  .exact .inl (IsMq.t s h)
  .exact .inr ⟨m,w,x,y,v,q,d.t s,c.t s,b.t s,k.t s,r⟩
def IsMq.up{a:Ad}{H:Hp}{f:V}{t:Tr}:∀{n m:Nat},n<=m->IsMq a n H f t->IsMq a m H f t
 | n,0,h,k=>by
  obtain rfl:n=0:=by lia
  exact k
 | n,m+1,h,k=>by
  by_cases c:n=m+1
  .subst c;exact k
  .exact .inl (IsMq.up (by lia) k)
def NqR(a:Ad)(n:Nat)(H:Hp)(pt:Int×Tr)(y:V):Prop:=∃ q f,y=.ref q/\H q=some (.tup [.int pt.1,f])/\1<=pt.1/\IsMq a n H f pt.2
def NqR.t{a:Ad}{n:Nat}{H H':Hp}(s:SameT H H')(b:Int×Tr)(y:V)(h:NqR a n H b y):NqR a n H' b y:=by
 obtain⟨q,f,i,d,c,g⟩:=h;exact⟨q,f,i,s.at d,c,g.t s⟩
def IsNq(a:Ad)(n:Nat)(H:Hp)(v:V):Tr->Prop
 | .leaf ns=>IsTold a H v ns
 | .die ps=>∃ x dx l ys,v=.ref x/\H x=some (.ins a.c_n dx [("makes",.ref l)])/\H l=some (.lst ys)/\Paired (NqR a n H) ps ys/\1<=ps.length/\ps.length<=5000
def IsNq.t{a:Ad}{n:Nat}{H H':Hp}{v:V}(s:SameT H H'):∀{t:Tr},IsNq a n H v t->IsNq a n H' v t
 | .leaf _,h=>IsTold.t s h
 | .die _,h=>by
  obtain⟨x,f,l,i,j,d,c,g,b⟩:=h;exact⟨x,f,l,i,j,s.at d,s.at c,aj (NqR.t s) g,b⟩
def IsNq.up{a:Ad}{n m:Nat}{H:Hp}{v:V}(i:n<=m):∀{t:Tr},IsNq a n H v t->IsNq a m H v t
 | .leaf _,h=>h
 | .die _,h=>by
  obtain⟨x,g,l,r,s,d,c,p,b⟩:=h;exact⟨x,g,l,r,s,d,c,aj (λw y ⟨q,f,j,k,u,o⟩=>⟨q,f,j,k,u,o.up i⟩) p,b⟩
def z5{a:Ad}{n:Nat}{H:Hp}{v:V}:∀{t:Tr},IsNd a H v t->IsNq a n H v t
 | .leaf _,h=>h
 | .die _,h=>by
  obtain⟨x,g,l,p,r,d,c,o,b⟩:=h;exact⟨x,g,l,p,r,d,c,aj (λu y ⟨q,f,i,j,s,k⟩=>⟨q,f,i,j,s,IsMq.up (h_ n) (show IsMq a 0 H f u.2 from .inl k)⟩) o,b⟩
def Rq(a:Ad)(n:Nat)(H:Hp)(Bd:List Addr)(t:Tr)(Q:VK):Prop:=∀ H' u,SameT H H'->TabsOk (tabs a) H'->IsNq a n (untrs H' Bd) u t->Q u H'
def Rq.up{a:Ad}{n m:Nat}{H:Hp}{Bd:List Addr}{t:Tr}{Q:VK}(f:n<=m)(h:Rq a m H Bd t Q):Rq a n H Bd t Q:=λc u s b d=>h c u s b (d.up f)
def Rq.res{a:Ad}{n:Nat}{H:Hp}{Bd:List Addr}{t:Tr}{Q:VK}(h:Rq a n H Bd t Q):Res a H Bd t Q:=λc u s b d=>h c u s b (z5 d)
inductive spFN(a:Ad)(vs:List V)(H:Hp)(Q:VK)(_E:XK):Prop
 | mk(va vt:V)(ahead taken:List Int)(m:Nat)(Bd:List Addr)(h0:vs=[va,.int (m:Nat),vt])(h1:Bad H Bd)(h2:LsT (untrs H Bd) va ahead)(h3:LsT (untrs H Bd) vt taken)(h4:ahead.length+taken.length<=24)(h5:TabsOk (tabs a) H)(h6:Rq a 0 H Bd (fT ahead m taken) Q):spFN a vs H Q _E
def pH{a:Ad}{H:Hp}{Bd:List Addr}(c:Bad H Bd){x dx t:Addr}{d b:List Int}(h:H x=some (.ins a.c_i dx [("rising",.ref t)]))(g:H t=some (.tup (b.map V.int)))(f:Srt b d):IsNq a 0 (untrs H Bd) (.ref x) (.leaf d):=fZ c ⟨x,dx,t,b,rfl,h,g,f⟩
def yf{a:Ad}{n:Nat}{H:Hp}{Bd:List Addr}{x dx l d g:Addr}{h c:Int}{i f:V}{j k:Tr}(b:Bad H Bd)(p:H x=some (.ins a.c_n dx [("makes",.ref l)]))(w:untrs H Bd l=some (.lst [.ref d,.ref g]))(q:H d=some (.tup [.int h,i]))(u:H g=some (.tup [.int c,f]))(r:1<=h)(o:1<=c)(s:IsMq a n (untrs H Bd) i j)(v:IsMq a n (untrs H Bd) f k):IsNq a n (untrs H Bd) (.ref x) (.die [(h,j),(c,k)]) :=
 ⟨x,dx,l,_,rfl,aE b p (λ_ z=>nomatch z),w,.cons ⟨d,i,rfl,aE b q (λ_ z=>nomatch z),r,s⟩ (.cons ⟨g,f,rfl,aE b u (λ_ z=>nomatch z),o,v⟩ .nil),by show 1<=2;decide,by show 2<=5000;decide⟩
def nd3(n:Nat):([n+1+1,n+1+1+1,n+1+1+1+1]:List Nat).Nodup:=by simp[sr]
def DU(n:Nat):([n+1+1,n+1+1+1,n+1+1+1+1,n+1]:List Nat).Nodup:=by simp[sr];lia
section
variable {P:hH}{w:lA}{K:Frag}{mg:Str->Option b_}{base:Heap}{a:Ad}
def xn(T:Txt K mg a)(hB:Bm mg base):FnX P w base 3 T.W_u (spFN a):=by
 have Y:FnO P w K mg base 1 (spToldI a):=jZ T;have a0:FnO P w K mg base 1 (spDieI a):=lH T;refine T.W_u.A.okL T.lcd_u ju (by decide +kernel) (λvs H Q E h=>?_) (λA outer s H vs Q E hr h=>?_)
 .obtain⟨va,vt,c,f,m,Bd,rfl,_⟩:=h;rfl
 .obtain⟨va,vt,c,f,m,Bd,rfl,j,hA,N,S,hT,q⟩:=h
  have bo:sizeLine=16777216:=j_;obtain⟨la,rfl,ca⟩:=id hA;obtain⟨lt,rfl,ct⟩:=id N;have ha:=(ak ca).2;have ht:=(ak ct).2;refine⟨_,(cw (bc (bO og (vr 1) am (aX _)) (ag (ao (bT T.mk_i Y hr rfl T.mc_i T.Wi_i.B .nil ax (aa (vr 2) ad)))) aG) (cw (bc (bO AI (vr 1) (aw aC rfl T.z_len bp (aa (vr 0) ad)) (aX _)) (ag (ao (bT T.mk_i Y hr rfl T.mc_i T.Wi_i.B .nil ax (aa (au cE (vr 2) (vr 0)) ad)))) aG) (cw (psr 3 ju (cv vz (vr 0) (cu am) eS)) (iV (bT T.mk_n a0 hr rfl T.mc_n T.Wi_n.B .nil ax (aa (bC (aa (bh (aa (vr 1) (aa (di (d:=bE) rfl T.lch_u hB rfl (by with_unfolding_all rfl) rfl (jv a) (.head _) T.tnd jy) ad))) (aa (bh (aa (au fH (aw aC rfl T.z_len bp (aa (vr 0) ad)) (vr 1)) (aa (di (d:=bD) rfl T.lch_u hB rfl (by with_unfolding_all rfl) rfl (jv a) (.tail _ (.head _)) T.tnd jy) ad))) ad))) ad)))))),?_⟩;refine ifC (λh0=>?_) λh0=>?_
  .have m0:m=0:=by lia
   subst m0;intro x i B g an;have I:Same H (upd (upd H i (.own x)) x (.ins a.c_i i [])):=λb o e=>by rw[ae (ai e B),ae (ai e g)];exact e
   refine⟨x,i,lt,f,rfl,ac,.inl (I _ _ ht),by lia,λH' t a' k u h2 h3=>⟨rfl,?_⟩⟩;have D:=made B g k;refine q _ _ D.t (hT.same D) ?_;rw[Tb.fT_zero];exact pH (j.t D.t) u h2 h3
  have m1:0<m:=by lia
  refine⟨_,.inl (SqL.of ha),?_⟩;refine ifC (λu=>?_) λu=>?_
  .have u:c.length<=m:=by rw[d_]at u;lia
   refine⟨lt,la,_,_,rfl,rfl,ht,ha,(by rw[d_,d_];lia),λr fr=>?_⟩;rw[<- nv];have C:=Same.new (o:=.lst ((f++c).map V.int)) fr;have as:(upd H r (.lst ((f++c).map V.int))) r=some (.lst ((f++c).map V.int)):=ac;generalize upd H r (.lst ((f++c).map V.int))=H1 at C as;intro x i B g an;have I:Same H1 (upd (upd H1 i (.own x)) x (.ins a.c_i i [])):=λb o e=>by rw[ae (ai e B),ae (ai e g)];exact e
   refine⟨x,i,r,f++c,rfl,ac,.inl (I _ _ as),(by rw[gV];lia),λH' t a' k g1 g2 g3=>⟨rfl,?_⟩⟩;have D:=C.trans (made B g k);refine q _ _ D.t (hT.same D) ?_;rw[Tb.fT_all u,if_neg (by lia)];exact pH (j.t D.t) g1 g2 g3
  have u:m<c.length:=by rw[d_]at u;lia
  refine⟨_,rfl,.inl ⟨_,SqL.of ha,λW fr=>?_⟩⟩;have er:b8 (c.map V.int) (some 1) none=(c.drop 1).map V.int:=by rw[L4];exact ja _ 1
  rw[er];have C:=Same.new (o:=.lst ((c.drop 1).map V.int)) fr;have R:(upd H W (.lst ((c.drop 1).map V.int))) W=some (.lst ((c.drop 1).map V.int)):=ac;generalize upd H W (.lst ((c.drop 1).map V.int))=H1 at C R;refine⟨hT.same C,λf1 c1 H2 t2 a5 n1 bg bl=>?_⟩;refine⟨(by decide:2<=sizeLine),λG a1=>?_⟩;have O:=Same.new (o:=.tup [.int (m:Nat),.ref f1]) a1;have M:(upd H2 G (.tup [.int (m:Nat),.ref f1])) G=some (.tup [.int (m:Nat),.ref f1]):=ac;generalize upd H2 G (.tup [.int (m:Nat),.ref f1])=H3 at O M;have t3:=(C.t.trans t2).trans O.t;refine⟨_,.inl (SqL.of (t3.at ha)),?_⟩;refine⟨a5.same O,λX c2 H4 t4 br n2 bn bq=>?_⟩;refine⟨(by decide:2<=sizeLine),λF a2=>?_⟩;rw[d_];have s5:=Same.new (o:=.tup [.int ((c.length:Int) - (m:Nat)),.ref X]) a2;have Z:(upd H4 F (.tup [.int ((c.length:Int) - (m:Nat)),.ref X])) F=some (.tup [.int ((c.length:Int) - (m:Nat)),.ref X]):=ac;generalize upd H4 F (.tup [.int ((c.length:Int) - (m:Nat)),.ref X])=H5 at s5 Z;refine⟨(by decide:2<=sizeLine),λl0 a3=>?_⟩;have s6:=Same.new (o:=.lst [.ref G,.ref F]) a3;have J:(upd H5 l0 (.lst [.ref G,.ref F])) l0=some (.lst [.ref G,.ref F]):=ac;generalize upd H5 l0 (.lst [.ref G,.ref F])=H6 at s6 J;intro x i B g an;have I:Same H6 (upd (upd H6 i (.own x)) x (.ins a.c_n i [])):=λb o e=>by rw[ae (ai e B),ae (ai e g)];exact e
  refine⟨x,i,l0,_,rfl,ac,I _ _ J,λH7 l g3 k g1 g2=>⟨rfl,λH8 s8 hc=>?_⟩⟩;have s7:=made B g k;have bm:=s7.trans s8;have ah:=s6.trans bm;have y:=s5.trans ah;have ab:=t4.trans y.t;have z:=O.t.trans ab;have v:=C.t.trans (t2.trans z);have cA:=hc 0 _ _ _ rfl rfl (by with_unfolding_all rfl);have cW:=hc 1 _ _ _ rfl rfl (by with_unfolding_all rfl);have cT:=hc 2 _ _ _ rfl rfl (by with_unfolding_all rfl);have cR:=hc 3 _ _ _ rfl rfl (by with_unfolding_all rfl);have p:=j.t v;have fl:H l=none:=(C.t.trans (t2.trans (O.t.trans (t4.trans (s5.t.trans s6.t))))).free (I.free g3);have bb:=hA.t (av v);have L:=N.t (av v)
  have al:LsT (untrs H8 Bd) (.ref W) (c.drop 1):=⟨W,rfl,bB j fr ((t2.trans z).at R)⟩
  refine q _ _ v (br.same y) ?_;rw[Tb.fT_die m1 u];exact yf p (s8 _ _ g1) (bB j fl (s8 _ _ g2)) (ab.at M) (ah _ _ Z) (by show(1:Int)<=(m:Nat);lia) (by lia) (.inr (.inl ⟨_,_,_,c,f,m,bV p ⟨f1,c1,_,rfl,z.at bg,z.at bl,rfl,DU _,.cons cW (.cons cT (.cons cR (.cons cA .nil)))⟩,bb,L,al,⟨m1,u,S⟩,rfl⟩)) (.inr (.inr ⟨_,_,c.drop 1,f,m,bV p ⟨X,c2,_,rfl,y _ _ bn,y _ _ bq,rfl,nd3 _,.cons cW (.cons cT (.cons cR .nil))⟩,L,al,(by rw[Fn];lia),rfl⟩))
end
open Tb (Tr pN fM wo Pv stm stP Hd)
def spV(u:V):Sp:=λvs H Q _=>∃ v,vs=[v]/\Q u H
def zh(a:Ad):Sp:=λvs H Q _=>∃ x dx t,vs=[.ref x]/\H x=some (.ins a.c_i dx [("rising",.ref t)])/\Q (.ref t) H
def RawR(H:Hp)(pt:Int×V)(y:V):Prop:=∃ q,y=.ref q/\H q=some (.tup [.int pt.1,pt.2])/\1<=pt.1
def RawR.t{H H':Hp}(s:SameT H H')(a:Int×V)(y:V)(h:RawR H a y):RawR H' a y:=by
 obtain⟨q,c,d,b⟩:=h;exact⟨q,c,s.at d,b⟩
def IsRaw(a:Ad)(H:Hp)(v:V)(rs:List (Int×V)):Prop:=∃ x dx l ys,v=.ref x/\H x=some (.ins a.c_n dx [("makes",.ref l)])/\H l=some (.lst ys)/\Paired (RawR H) rs ys/\1<=rs.length/\rs.length<=5000
def IsRaw.t{a:Ad}{H H':Hp}{v:V}{b:List (Int×V)}(s:SameT H H')(h:IsRaw a H v b):IsRaw a H' v b:=by
 obtain⟨x,i,l,k,o,f,d,j,c,g⟩:=h;exact⟨x,i,l,k,o,s.at f,s.at d,aj (RawR.t s) j,c,g⟩
def De:Sp:=λvs H Q _=>∃ v,vs=[v]/\∀ l,H l=none->Q (.ref l) (upd H l (.lst []))
def xz(rs:List (Int×V)):Int:=(rs.map (·.1)).sum
def y8(a:Ad):Sp:=λvs H Q _=>∃ v rs,vs=[v]/\IsRaw a H v rs/\∀ H',Same H H'->Q (.int (xz rs)) H'
def PrR(H:Hp)(p:Int×Tr)(r:Int×V):Prop:=p.1=r.1/\1<=p.1/\IsMk H r.2 p.2
def Bf{a:Ad}{H:Hp}{v:V}{ps:List (Int×Tr)}(h:IsNd a H v (.die ps)):∃ rs,IsRaw a H v rs/\Paired (PrR H) ps rs:=by
 obtain⟨x,j,l,b,rfl,k,C,A,o,p⟩:=h
 have c:∀{ps:List (Int×Tr)}{b:List V},Paired (NdR H) ps b->∃ rs:List (Int×V),Paired (RawR H) rs b/\Paired (PrR H) ps rs:=by
  intro ps b h
  induction h with
  | nil=>exact⟨[],.nil,.nil⟩
  | @cons pt y ps b r _ ih =>
   obtain⟨rs,z,u⟩:=ih;obtain⟨w,f,i,B,g,s⟩:=r;exact⟨(pt.1,f)::rs,.cons ⟨w,i,B,g⟩ z,.cons ⟨rfl,g,s⟩ u⟩
 obtain⟨rs,q,d⟩:=c A;have:rs.length=ps.length:=d.length.symm;exact⟨rs,⟨x,j,l,b,rfl,k,C,q,by lia,by lia⟩,d⟩
def rMk(a:Ad)(f:V)(H:Hp)(Q:VK):Prop:=ke aO fvP (ud a) f [] H Q\/ke aP fvP (uq a) f [] H Q\/pD ld_going_1 fvG (uZ a) f [] H Q\/ke aF fvH (mF a) f [] H Q
def sH{a:Ad}{H:Hp}{Bd:List Addr}{f:V}{t:Tr}{Q:VK}(h:IsMk (untrs H Bd) f t)(b:Bad H Bd)(y:TabsOk (tabs a) H)(q:Res a H Bd t Q):rMk a f H Q:=by
 rcases h with⟨B,C,D,n,x,E,⟨⟨d,c,k,rfl,u,i,j,r,o⟩,A,rfl⟩ | ⟨⟨d,c,k,rfl,u,i,j,r,o⟩,A,rfl⟩⟩ | ⟨d,c,k,G,p,g,J,rfl,u,i,j,r,o,L,F,rfl⟩ | ⟨l,v,n,w,s,⟨d,c,k,rfl,u,i,j,r,o⟩,I,rfl,M,z,K⟩
 .exact .inl ⟨d,c,k,_,rfl,(ak u).2,(ak i).2,j,r,ba cuts_sub o,B,C,D,n,x,Bd,rfl,rfl,b,E,A,y,q⟩
 .exact .inr (.inl ⟨d,c,k,_,rfl,(ak u).2,(ak i).2,j,r,ba cuts_sub o,B,C,D,n,x,Bd,rfl,rfl,b,E,A,y,q⟩)
 .exact .inr (.inr (.inl ⟨d,c,k,_,rfl,(ak u).2,(ak i).2,j,r,ba cuts_sub o,G,p,g,J,Bd,rfl,rfl,b,L,F,y,q⟩))
 .exact .inr (.inr (.inr ⟨d,c,k,_,rfl,(ak u).2,(ak i).2,j,r,ba cuts_sub o,l,v,n,w,s,Bd,rfl,rfl,b,I,M,z,K,y,q⟩))
section
variable {P:hH}{w:lA}{K:Frag}{mg:Str->Option b_}{base:Heap}{a:Ad}
def vZ(T:Txt K mg a)(j:Bm mg base):LamOk P w K mg base 12 aO fvP [] (ud a):=by
 have v:=qf (P:=P) (w:=w) T j 1;have o:FnO P w K mg base 11 (spF1 2 a):=su T j (kG (k:=8) T j (by decide) (jU T (by decide) v) (jX T (by decide) v));refine dB lsP (λN B g c I C=>match I,C with | [],_=>rfl) (λvals vs H Q E h=>?_) (λA outer s H f c g vals vs Q E hr hfv ca h=>?_)
 .obtain⟨p,r,y,n,x,z,rfl,rfl,_⟩:=h;rfl
 .obtain⟨p,r,y,n,x,z,rfl,rfl,d,F,L,D,q⟩:=h
  refine⟨_,(pec o hr T.W_m (aa (vr 0) (aa (vr 3) (aa (vr 2) (aa (vr 1) ad))))),?_⟩;have b:=F.un (bN d ca);rw[bH]at b;exact⟨p,r,y,n,x,z,rfl,cJ ca d,b,L,g9 _ _ _,TabsOk.untrs D ca,λM u J i G=>λH3 s3 hc3=>q _ _ (gD J s3 hc3) (i.same s3) (G.t (av s3.t))⟩
def wN(T:Txt K mg a)(j:Bm mg base):LamOk P w K mg base 12 aP fvP [] (uq a):=by
 have v:=qf (P:=P) (w:=w) T j 1;have o:FnO P w K mg base 11 (spF2 2 a):=tD T j (kG (k:=8) T j (by decide) (jU T (by decide) v) (jX T (by decide) v));refine dB lsQ (λN B g c I C=>match I,C with | [],_=>rfl) (λvals vs H Q E h=>?_) (λA outer s H f c g vals vs Q E hr hfv ca h=>?_)
 .obtain⟨p,r,y,n,x,z,rfl,rfl,_⟩:=h;rfl
 .obtain⟨p,r,y,n,x,z,rfl,rfl,d,F,L,D,q⟩:=h
  refine⟨_,(pec o hr T.W_b (aa (vr 0) (aa (vr 3) (aa (vr 2) (aa (vr 1) ad))))),?_⟩;have b:=F.un (bN d ca);rw[bH]at b;exact⟨p,r,y,n,x,z,rfl,cJ ca d,b,L,g9 _ _ _,TabsOk.untrs D ca,λM u J i G=>λH3 s3 hc3=>q _ _ (gD J s3 hc3) (i.same s3) (G.t (av s3.t))⟩
def w6(T:Txt K mg a)(hB:Bm mg base):LamOkC P w K mg base 14 ld_going_1 fvG [] (uZ a):=by
 have W:=qf (P:=P) (w:=w) T hB 2;have j:LamOk P w K mg base 13 ld_from_one_1 fvP ["place"] (AU 2 a):=jU T (by decide) W;have i:LamOk P w K mg base 13 ld_from_other_1 fvP ["place"] (AJ 2 a):=jX T (by decide) W;refine sG lsG (λpm Z b c us hl=>match us,hl with | [],_=>rfl) (λo vals vs H Q E h=>?_) (λA outer s H f c b vals vs Q E hr hfv ca h=>?_)
 .obtain⟨go,p,g,ps,B,rfl,rfl,_⟩:=h;rfl
 .obtain⟨go,p,g,ps,B,rfl,rfl,G,M,N,hT,q⟩:=h
  refine⟨_,(PE.or (dA (vr 1) j hr (aa (vr 0) ad)) (dA (vr 1) i hr (aa (vr 0) ad))),?_⟩;rw[bH]at M;have d:=cJ ca G;have k:=TabsOk.untrs hT ca;have L:Res a (untrs H (b.map (·.2))) B (g p) (λv R=>∀ H3,Same R H3->(∀ p∈b,H3 p.2=H p.2)->Q v H3):=λR u t' hT' hN=>λH3 s3 hc3=>q _ _ (gD t' s3 hc3) (hT'.same s3) (hN.t (av s3.t))
  generalize untrs H (b.map (·.2))=U at M d k L;obtain⟨O,S,X,n,x,Y,⟨⟨y,r,o,rfl,z,C,D,I,F⟩,J,rfl,rfl,_⟩ | ⟨⟨y,r,o,rfl,z,C,D,I,F⟩,J,rfl,rfl,_⟩⟩:=M
  .exact .inl ⟨⟨y,_,o,r,rfl,(ak z).2⟩,λ_ _ _ _ _ e=>e,y,r,o,_,rfl,(ak z).2,(ak C).2,D,I,ba cuts_sub F,O,S,X,n,x,p,B,rfl,rfl,d,Y,J,N,g9 _ _ _,k,L⟩
  .exact .inr ⟨⟨y,_,o,r,rfl,(ak z).2⟩,λ_ _ _ _ _ e=>e,y,r,o,_,rfl,(ak z).2,(ak C).2,D,I,ba cuts_sub F,O,S,X,n,x,p,B,rfl,rfl,d,Y,J,N,g9 _ _ _,k,L⟩
def rY(T:Txt K mg a):MnX P w mg base 1 T.W_e (spV (.bl true)):=by
 refine T.W_e.A.ok jN (λb H Q E h=>?_) (λcdv A outer s H b Q E hr h=>?_)
 .obtain⟨v,rfl,_⟩:=h;rfl
 .obtain⟨v,rfl,q⟩:=h
  exact⟨_,(ag (ao ni)),q⟩
def xg(T:Txt K mg a):MnX P w mg base 1 T.W_t (spV (.int 0)):=by
 refine T.W_t.A.ok lQ (λb H Q E h=>?_) (λcdv A outer s H b Q E hr h=>?_)
 .obtain⟨v,rfl,_⟩:=h;rfl
 .obtain⟨v,rfl,q⟩:=h
  exact⟨_,(ag (ao am)),q⟩
def vm(T:Txt K mg a):MnX P w mg base 1 T.W_p (zh a):=by
 refine T.W_p.A.ok oH (λc H Q E h=>?_) (λcdv A outer s H c Q E hr h=>?_)
 .obtain⟨x,b,t,rfl,_⟩:=h;rfl
 .obtain⟨x,b,t,rfl,d,q⟩:=h
  exact⟨_,(ag (ao (bG (vr 0) rfl))),x,_,b,_,_,rfl,d,T.cl_i,T.na_Told_rising,rfl,q⟩
def sX(T:Txt K mg a):MnX P w mg base 1 T.W_h (spV (.bl false)):=by
 refine T.W_h.A.ok kT (λb H Q E h=>?_) (λcdv A outer s H b Q E hr h=>?_)
 .obtain⟨v,rfl,_⟩:=h;rfl
 .obtain⟨v,rfl,q⟩:=h
  exact⟨_,(ag (ao ni)),q⟩
def vk(T:Txt K mg a):MnX P w mg base 1 T.W_r (spV .non):=by
 refine T.W_r.A.ok qo (λb H Q E h=>?_) (λcdv A outer s H b Q E hr h=>?_)
 .obtain⟨v,rfl,_⟩:=h;rfl
 .obtain⟨v,rfl,q⟩:=h
  exact⟨_,(ag (ao Bu)),q⟩
def Ck(T:Txt K mg a):MnX P w mg base 1 T.W_I De:=by
 refine T.W_I.A.ok lW (λb H Q E h=>?_) (λcdv A outer s H b Q E hr h=>?_)
 .obtain⟨v,rfl,_⟩:=h;rfl
 .obtain⟨v,rfl,q⟩:=h
  exact⟨_,(ag (ao (bC ad))),h_ _,λl c=>q l c⟩
def wj(T:Txt K mg a):MnX P w mg base 1 T.W_A (y8 a):=by
 refine T.W_A.A.ok nS (λR H Q E h=>?_) (λcdv A outer s H R Q E hr h=>?_)
 .obtain⟨v,f,rfl,_⟩:=h;rfl
 .obtain⟨v,f,rfl,⟨x,I,l,g,rfl,L,B,G,M,S⟩,q⟩:=h
  have u:sizeLine=16777216:=j_;refine⟨_,(ag (ao (aw (mL rfl) rfl T.z_sum xf (aa (aV rfl (N:=["many","make"]) (ix:=[none,none]) aD (a6 (bG (vr 0) rfl)) (aQ λC s H W=>⟨(gh (K:=K) (n:=2) rfl rfl (gz ["many","make"])),aU,(vr 0)⟩)) ad)))),?_⟩;refine⟨x,_,I,_,_,rfl,L,T.cl_n,T.na_Die_makes,rfl,.inl ⟨⟨_,SqL.of B⟩,λD z=>?_⟩⟩
  let Pw1:PvL:=λi k c=>Same H c/\c D=some (.lst k)/\i<=f.length/\k=((f.take i).map (·.1)).map V.int
  refine a8 (K:=K) (a:=l) (xs:=g) Pw1 ⟨Same.new z,ac,h_ _,rfl⟩ (λi g c h=>SqL.of (h.1 _ _ B)) (λi g c h=>h.2.1) ?_ ?_
  .rintro i y k c X J ⟨j,b,Y,rfl⟩ o
   obtain⟨⟨F,t⟩,d,O,rfl,p,_⟩:=aK G J;have r:i<f.length:=(fP.mp d).1;refine⟨O,_,rfl,SqT.of (j _ _ p),rfl,_,_,rfl,_,_,rfl,rfl,trivial,b,by rw[d_,d_,mx];lia,o _ _ ⟨j.put z,ac,r,?_⟩⟩;rw[oN,d];simp
  .rintro k c ⟨j,b,_,rfl⟩
   rw[show g.length=f.length from G.length.symm,oD]at b;exact⟨D,_,rfl,SqL.of b,q _ j⟩
end
open Nst (Lf)
open Tb (Tr fT bnd ci so pS tS)
def lI{H H':Hp}{D:Addr}(s:SameT H H'):SameT (untr H D) (untr H' D):=⟨λb o e=>by
 by_cases hb:b=D
 .rw[hb,bX]at e;cases e
 .rw[aA hb]at e ⊢;exact s.old b o e,λb o e=>by
 by_cases hb:b=D
 .rw[hb,bX]at e;cases e
 .rw[aA hb]at e ⊢;exact s.gr b o e⟩
def jY{H:Hp}{D:Addr}{o:HO}:SameT (untr H D) (untr (upd H D o) D):=Same.t λb a e=>by
 by_cases hb:b=D
 .rw[hb,bX]at e;cases e
 .rw[aA hb]at e
  rw[aA hb,ae hb];exact e
def cut_sub{H:Hp}{D:Addr}:SameT (untr H D) H:=Same.t λb a e=>by
 by_cases hb:b=D
 .rw[hb,bX]at e;cases e
 .rwa [aA hb]at e
def D6(a:Ad)(H H':Hp)(u:V):Prop:=∀ x dx l,u=.ref x->H' x=some (.ins a.c_n dx [("makes",.ref l)])->H l=none
def CarR(cr:V)(H:Hp)(r:Int×V)(y:V):Prop:=∃ q f,y=.ref q/\H q=some (.tup [.int r.1,f])/\1<=r.1/\IsLam H aB fvC f [r.2,cr]
def CarR.t{a:V}{H H':Hp}(s:SameT H H')(r:Int×V)(y:V)(h:CarR a H r y):CarR a H' r y:=by
 obtain⟨q,f,g,c,b,d⟩:=h;exact⟨q,f,g,s.at c,b,d.t s⟩
def BX(a:Ad)(H:Hp)(cr v:V)(rs:List (Int×V)):Prop:=∃ x dx l ys,v=.ref x/\H x=some (.ins a.c_n dx [("makes",.ref l)])/\H l=some (.lst ys)/\Paired (CarR cr H) rs ys/\1<=rs.length/\rs.length<=5000
def yZ{H:Hp}{D:Addr}{y:List V}(v:H D=some (.lst y)){d:LamD}{o:List Str}{f:V}{s:List V}(h:IsLam H d o f s):IsLam (untr H D) d o f s:=by
 have i:∀ b q,H b=some (.ext q)->b≠D:=λb q e z=>by rw[z,v]at e;cases e
 obtain⟨x,c,a,w,j,g,k,p,u⟩:=h;refine⟨x,c,a,w,by rw[aA (i _ _ j)];exact j,by rw[aA (i _ _ g)];exact g,k,p,?_⟩;clear j g k p
 induction u with
 | nil=>exact .nil
 | cons r _ ih=>exact .cons (by rw[aA (i _ _ r)];exact r) ih
def m5(a:Ad):Sp:=λvs H Q _=>∃ v cr rs,vs=[v,cr]/\IsRaw a H v rs/\TabsOk (tabs a) H/\∀ H' u,SameT H H'->TabsOk (tabs a) H'->BX a H' cr u rs->D6 a H H' u->Q u H'
def y7(a:Ad):Sp:=λvs H Q _=>∃ mk cr,vs=[mk,cr]/\TabsOk (tabs a) H/\∀ H' f,SameT H H'->TabsOk (tabs a) H'->IsLam H' aB fvC f [mk,cr]->Q f H'
def OkV(H:Hp)(v:V):Prop:=∃ p,v=.ref p/\((∃ d cl c,H p=some (.ext (ce p d cl c)))\/∃ d cl c,H p=some (.ext (b9 p d cl c))/\d.qual≠ld_from_one_1.qual/\d.qual≠ld_from_other_1.qual)
def OkV.no{H:Hp}{v:V}(h:OkV H v){p:Addr}{o:HO}(e:v=.ref p)(g:H p=some o)(n:∀ φ,o≠.ext φ):False:=by
 obtain⟨q,b,⟨d,f,c,a⟩ | ⟨d,f,c,a,_⟩⟩:=h <;> (rw[e]at b;cases b;rw[g]at a;exact n _ (k7 a))
def OkV.nint{H:Hp}{i:Int}(h:OkV H (.int i)):False:=by obtain⟨q,a,_⟩:=h;cases a
def OkV.nfrom{H:Hp}{v:V}(h:OkV H v){p c:Addr}{d:LamD}{i:List (Str×Addr)}(e:v=.ref p)(g:H p=some (.ext (b9 p d i c)))(s:d.qual=ld_from_one_1.qual\/d.qual=ld_from_other_1.qual):False:=by
 obtain⟨q,b,⟨o,f,j,a⟩ | ⟨o,f,j,a,k,r⟩⟩:=h
 .rw[e]at b;cases b;rw[g]at a;exact eM (k7 a).symm
 .rw[e]at b;cases b;rw[g]at a
  have:=nV (k7 a)
  rcases s with z | z
  .exact k (this ▸ z)
  .exact r (this ▸ z)
def OkV.rf{H:Hp}{v:V}(h:OkV H v):∃ p,v=.ref p:=let ⟨p,e,_⟩:=h;⟨p,e⟩
def OkV.un{H:Hp}{a:List (Str×Addr)}{b:List V}(i:CellsAt H a b){v:V}(h:OkV H v):OkV (untrs H (a.map (·.2))) v:=by
 obtain⟨q,j,⟨d,f,c,g⟩ | ⟨d,f,c,g,n⟩⟩:=h
 .exact⟨q,j,.inl ⟨d,f,c,aq i g λv=>fJ⟩⟩
 .exact⟨q,j,.inr ⟨d,f,c,aq i g (λv=>fW),n⟩⟩
def m7{H:Hp}{b:List (Str×Addr)}{a:List V}(c:CellsAt H b a):∀{clos:List (Str×Addr)}{vals:List V},(∀ v∈vals,(∃ p,v=.ref p)/\v ∉ a)->CellsAt H clos vals->CellsAt (untrs H (b.map (·.2))) clos vals
 | _,_,_,.nil=>.nil
 | _,_,hd,.cons r t=>by
  refine .cons ?_ (m7 c (λv f=>hd v (hI _ f)) t);rw[ay λz=>?_]
  .exact r
  .obtain⟨i,d,e⟩:=eO c z
   obtain⟨⟨p,rfl⟩,h⟩:=hd _ (gT ..);rw[r]at e;have g:=pJ (k7 e);exact h (by rw[<- g];exact d)
def fR{H:Hp}{b:List (Str×Addr)}{a:List V}(g:CellsAt H b a)(o:∀ v∈a,∃ p,v=.ref p){d:LamD}{j:List Str}{f:V}{i:List V}(q:∀ w∈i,w ∉ a)(h:IsLam H d j f i):IsLam (untrs H (b.map (·.2))) d j f i:=by
 obtain⟨A,c,k,r,s,z,u,x,y⟩:=h;exact⟨A,c,k,r,aq g s (λv=>fW),aq g z (λv=>cY),u,x,fo g o q y⟩
def z8{H:Hp}{b:List (Str×Addr)}{a:List V}(g:CellsAt H b a)(o:∀ v∈a,∃ p,v=.ref p){d:DefD}{j:List Str}{f:V}{i:List V}(q:∀ w∈i,w ∉ a)(h:IsDf H d j f i):IsDf (untrs H (b.map (·.2))) d j f i:=by
 obtain⟨A,c,k,r,s,z,u,x,y⟩:=h;exact⟨A,c,k,r,aq g s (λv=>fJ),aq g z (λv=>cY),u,x,fo g o q y⟩
def vG{c T p:Addr}{q:Str}:HO.ext (bZ c q T)≠HO.ext (aZ c (.ref p)):=λe=>by
 injection e with e
 obtain⟨h,b⟩:=dU c { cls:=.type "cell",data:=.cell (some (.ref p)) } (by intro z;cases z);have y:bZ c q T h:=by rw[e];exact⟨_,_,b,rfl,rfl⟩
 obtain⟨⟨o,f,t,a,d,_⟩,_⟩:=y;rw[b]at a;cases a;cases d
def vJ{a:Ad}{H:Hp}{g:List (Str×Addr)}{b:List V}(j:CellsAt H g b)(s:∀ v∈b,∃ p,v=.ref p){d:DefD}{q:List (Pos×Str)}{o:List Str}{f:V}{k:List V}(E:∀ w∈k,w ∉ b)(h:IsDT a H d q o f k):IsDT a (untrs H (g.map (·.2))) d q o f k:=by
 obtain⟨x,c,T,C,F,D,r,A,G,B,y⟩:=h;refine⟨x,c,T,C,F,aq j D (λv=>fJ),?_,A,G,B,fo j s E y⟩;rw[ay λz=>?_]
 .exact r
 .obtain⟨u,i,e⟩:=eO j z
  obtain⟨p,rfl⟩:=s u i;rw[r]at e;exact vG (k7 e)
def oU{a:Ad}{H:Hp}{b:List (Str×Addr)}{c:List V}(i:CellsAt H b c)(d:∀ v∈c,∃ p,v=.ref p){g:V}{m f s:Nat}(h:qH a H g m f s):qH a (untrs H (b.map (·.2))) g m f s:=vJ i d (λw hw z=>by
 obtain⟨p,e⟩:=d w z
 rcases i_.mp hw with rfl | hw;cases e
 rcases i_.mp hw with rfl | hw;cases e
 rw[ir.mp hw]at e;cases e) h
def ym{a:Ad}{H:Hp}{b:List (Str×Addr)}{c:List V}(g:CellsAt H b c){u:V}{f:List Int}(h:IsTold a H u f):IsTold a (untrs H (b.map (·.2))) u f:=by
 obtain⟨x,k,t,d,p,j,i,o⟩:=h;exact⟨x,k,t,d,p,aq g j (λ_ z=>nomatch z),aq g i (λ_ z=>nomatch z),o⟩
def LsT.no{H:Hp}{v:V}{ps:List Int}(h:LsT H v ps){a:List V}(b:∀ v∈a,OkV H v):v ∉ a:=λz=>by
 obtain⟨l,e,c⟩:=h;exact(b v z).no e c λd z=>nomatch z
def PtT.no{H:Hp}{v:V}{c:Nat}{ps:List Int}(h:PtT H v c ps){a:List V}(b:∀ v∈a,OkV H v):v ∉ a:=λz=>by
 obtain⟨p,l,e,d,_⟩:=h;exact(b v z).no e d λf z=>nomatch z
def rP{H:Hp}{c f d:V}{w:Nat}{x:Pd}(h:Pw H c f d w x){a:List V}(b:∀ v∈a,OkV H v){i:Int}:∀ u∈[V.int i,d,f,c],u ∉ a:=λu hu=>by
 rcases i_.mp hu with rfl | hu
 .exact λz=>(b _ z).nint
 rcases i_.mp hu with rfl | hu
 .exact h.ht.no b
 rcases i_.mp hu with rfl | hu
 .exact h.h2.no b
 rw[ir.mp hu];exact h.h1.no b
def Ci{j:Nat}{H:Hp}{b:List (Str×Addr)}{a:List V}(f:CellsAt H b a)(d:∀ v∈a,OkV H v){k:V}{g:Int->Tr}{ps:List Int}(h:IsGo j H k g ps):IsGo j (untrs H (b.map (·.2))) k g ps:=by
 obtain⟨o,r,q,w,x,c,h⟩:=h;have i:∀ v∈a,∃ p,v=.ref p:=λv z=>(d v z).rf
 exact⟨o,r,q,w,x,c.un f,h.imp (λh=>⟨fR f i (rP c d) h.1,h.2⟩) λh=>⟨fR f i (rP c d) h.1,h.2⟩⟩
def zI{H:Hp}{b:List (Str×Addr)}{a:List V}(j:CellsAt H b a)(d:∀ v∈a,OkV H v){f:V}{t:Tr}(h:IsMk H f t):IsMk (untrs H (b.map (·.2))) f t:=by
 have u:∀ v∈a,∃ p,v=.ref p:=λv z=>(d v z).rf
 rcases h with⟨L,M,O,w,x,A,h⟩ | ⟨P,c,N,y,p,g,S,F,B,C,X,T,E,K,R⟩ | ⟨l,q,n,s,k,F,B,C⟩
 .exact .inl ⟨L,M,O,w,x,A.un j,h.imp (λh=>⟨fR j u (rP A d) h.1,h.2⟩) λh=>⟨fR j u (rP A d) h.1,h.2⟩⟩
 .have r:y ∉ a:=λz=>by
   obtain⟨L,M,O,w,x,A,⟨⟨W,Q,I,G,D,_⟩,_⟩ | ⟨⟨W,Q,I,G,D,_⟩,_⟩⟩:=K
   .exact(d y z).nfrom G (ak D).2 (.inl rfl)
   .exact(d y z).nfrom G (ak D).2 (.inr rfl)
  have o:V.int p ∉ a:=λz=>(d _ z).nint
  refine .inr (.inl ⟨P,c,N,y,p,g,S,F,aq j B (λv=>fW),aq j C (λv=>cY),X,T,fo j u (λw hw=>?_) E,?_,R⟩)
  .rcases i_.mp hw with rfl | hw
   .exact o
   .rw[ir.mp hw];exact r
  .rw[bH]
   have J:CellsAt (untrs H (N.map (·.2))) b a:=m7 E (λv i=>⟨u v i,λz=>by
    rcases i_.mp z with rfl | z
    .exact o i
    .rw[ir.mp z]at i;exact r i⟩) j
   exact Ci J (λv z=>(d v z).un E) K
 .refine .inr (.inr ⟨l,q,n,s,k,fR j u (λw hw=>?_) F,aq j B (λv z=>nomatch z),C⟩)
  rcases i_.mp hw with rfl | hw
  .exact λz=>(d _ z).nint
  rcases i_.mp hw with rfl | hw
  .exact λz=>(d _ z).nint
  rw[ir.mp hw];exact λz=>(d _ z).no rfl B λφ z=>nomatch z
def Df{a:Ad}{H:Hp}{b:List (Str×Addr)}{c:List V}(d:CellsAt H b c)(k:∀ v∈c,OkV H v){v:V}:∀{t:Tr},IsNd a H v t->IsNd a (untrs H (b.map (·.2))) v t
 | .leaf _,h=>ym d h
 | .die _,h=>by
  obtain⟨x,o,l,r,s,j,i,p,g⟩:=h;refine⟨x,o,l,r,s,aq d j (λv z=>nomatch z),aq d i (λv z=>nomatch z),aj (λpt y ⟨q,f,g1,g2,g3,g4⟩=>⟨q,f,g1,aq d g2 (λv z=>nomatch z),g3,zI d k g4⟩) p,g⟩
def CV{a:Ad}{H:Hp}{i:List (Str×Addr)}{b:List V}(k:CellsAt H i b)(x:∀ v∈b,∃ p d cl c,v=.ref p/\H p=some (.ext (b9 p d cl c))){A:V}{n:Nat}{G:List Int->Tr}{y:List Int->Prop}(h:IsGq a H A n G y):IsGq a (untrs H (i.map (·.2))) A n G y:=by
 have j:∀ v∈b,∃ p,v=.ref p:=λv z=>let ⟨p,_,_,_,e,_⟩:=x v z;⟨p,e⟩
 have B:∀{g:V}{d:DefD}{D:List (Pos×Str)}{C:List Str}{J:List V},IsDT a H d D C g J->g ∉ b:=λ{g d D C J} h z=>by
  obtain⟨p,K,cl,c,e,r⟩:=x g z;obtain⟨f,M,T,L,E,F,_⟩:=h;rw[e]at E;cases E;rw[r]at F;exact eM (k7 F).symm
 have I:∀{p:Addr}{o:HO},H p=some o->(∀ u,o≠.ext u)->V.ref p ∉ b:=λ{p o} h n z=>by
  obtain⟨q,K,cl,c,e,r⟩:=x _ z;cases e;rw[h]at r;exact n _ (k7 r)
 cases h with
 | told n lp P h0 h1 h2=>exact .told n lp P (z8 k j (λw hw=>by rw[ir.mp hw];exact I h1 λu z=>nomatch z) h0) (aq k h1 λv z=>nomatch z) h2
 | other n g kt ks m f s h0 h1 h2 h3 h4 =>
  refine .other n g kt ks m f s h0 (fR k j (λw hw=>?_) h1) (aq k h2 λv z=>nomatch z) h3 (oU k j h4)
  rcases i_.mp hw with rfl | hw
  .exact B h4
  .rw[ir.mp hw];exact I h2 λu z=>nomatch z
 | second n g m f s h0 h1 h2 =>
  refine .second n g m f s h0 (vJ k j (λw hw=>?_) h1) (oU k j h2)
  rcases i_.mp hw with rfl | hw
  .exact λz=>by obtain⟨p,e⟩:=j _ z;cases e
  rcases i_.mp hw with rfl | hw
  .exact B h2
  .rw[ir.mp hw];exact λz=>by obtain⟨p,e⟩:=j _ z;cases e
section
variable {P:hH}{w:lA}{K:Frag}{mg:Str->Option b_}{base:Heap}{a:Ad}
def wz(T:Txt K mg a)(o:Bm mg base):FnX P w base 1 T.W_g (y7 a):=by
 refine T.W_g.A.okL T.lcd_g jJ (by decide +kernel) (λp H Q E h=>?_) (λA outer s H p Q E hr h=>?_)
 .obtain⟨j,u,rfl,_⟩:=h;rfl
 .obtain⟨j,u,rfl,k,q⟩:=h
  refine⟨_,(iV (di (d:=aB) rfl T.lch_g o rfl (by with_unfolding_all rfl) rfl (jH a) (.head _) T.tnd jC)),?_⟩;refine⟨k,λv x B r f z c g=>?_⟩;exact λy b i=>q _ _ (r.trans b.t) (f.same b) ⟨v,x,_,rfl,b _ _ c,b _ _ g,rfl,by simp,.cons (i 0 _ _ _ rfl rfl (by with_unfolding_all rfl)) (.cons (i 1 _ _ _ rfl rfl (by with_unfolding_all rfl)) .nil)⟩
def rj(T:Txt K mg a)(hB:Bm mg base):MnX P w mg base 3 T.W_D (m5 a):=by
 have an:FnO P w K mg base 1 (spDieI a):=lH T;refine T.W_D.A.ok kd (λvs H Q E h=>?_) (λcdv A outer s H vs Q E hr h=>?_)
 .obtain⟨v,cr,R,rfl,_⟩:=h;rfl
 .obtain⟨v,cr,R,rfl,⟨x,dx,l,j,rfl,hx,hl,hP,a0,a2⟩,hT,q⟩:=h
  have a1:sizeLine=16777216:=j_;refine⟨_,(ag (ao (bT T.mk_n an hr rfl T.mc_n T.Wi_n.B .nil ax (aa (aV rfl (N:=["many","make","carry"]) (ix:=[none,none,some 1]) aD (a6 (bG (vr 0) rfl)) (aQ λC s H fp=>⟨(gh (K:=K) (n:=2) rfl rfl (gz ["many","make","carry"])),aU,(bh (aa (vr 0) (aa (aI (wz T hB) hr T.W_g (aa (vr 1) (aa (vr 2) ad))) ad)))⟩)) ad)))),?_⟩;refine⟨x,_,dx,_,_,rfl,hx,T.cl_n,T.na_Die_makes,rfl,.inl ⟨⟨_,SqL.of hl⟩,λD hD=>?_⟩⟩;have ext:∀{c:Hp},TabsOk (tabs a) c->∀{j:List V}{G:List V},c D=some (.lst j)->TabsOk (tabs a) (upd c D (.lst G)):=λas j G e=>as.put (λps z=>by rw[e]at z;cases z) λφ z=>by rw[e]at z;cases z
  let Pw1:PvL:=λi F c=>SameT H c/\TabsOk (tabs a) c/\c D=some (.lst F)/\i<=R.length/\Paired (CarR cr (untr c D)) (R.take i) F
  refine a8 (K:=K) (a:=l) (xs:=j) Pw1
   ⟨(Same.new hD).t,hT.same (Same.new hD),ac,h_ _,.nil⟩ (λi j c h=>SqL.of (h.1.at hl)) (λi j c h=>h.2.2.1) ?_ ?_
  .rintro i y F c P' hy ⟨W,p,B,hi,O⟩ Z
   obtain⟨⟨L,f⟩,M,q1,rfl,ab,m0⟩:=aK hP hy;have al:i<R.length:=(fP.mp M).1;refine⟨q1,_,rfl,SqT.of (W.at ab),rfl,_,_,rfl,_,_,rfl,rfl,⟨rfl,trivial⟩,?_⟩;refine⟨f,cr,rfl,p,λH2 f2 t2 ah hf=>?_⟩;have u:=t2.at B;refine⟨by show 2<=sizeLine;decide,λq2 r=>?_⟩;have nq:q2≠D:=λz=>by rw[z,u]at r;cases r
   have J:=Same.new (o:=.tup [.int L,f2]) r;have S:=J _ _ u;have yl:F.length<=5000:=by rw[<- O.length,mx];lia
   have Y:=(W.trans t2).trans J.t;refine⟨S,by lia,Z _ _ ⟨Y.put hD,ext (ah.same J) S,ac,al,a7 (aj (CarR.t ?_) O) M ⟨q2,f2,rfl,?_,m0,?_⟩⟩⟩
   .exact(lI (t2.trans J.t)).trans jY
   .rw[aA nq,ae nq];exact ac
   .exact(yZ u hf).t ((lI J.t).trans jY)
  .rintro F c ⟨W,p,B,hi,O⟩
   rw[show j.length=R.length from hP.length.symm,oD]at O;intro X d I g a3;have s9:Same c (upd (upd c d (.own X)) X (.ins a.c_n d [])):=λb o e=>by rw[ae (ai e I),ae (ai e g)];exact e
   refine⟨X,d,D,F,rfl,ac,s9 _ _ B,λH2 l2 fl k g1 g2=>⟨rfl,?_⟩⟩;have s2:=made I g k;refine q _ _ (W.trans s2.t) (p.same s2) ⟨X,d,l2,F,rfl,g1,g2,aj (CarR.t ?_) O,a0,a2⟩ λx3 a5 l3 e3 e4=>?_
   .exact cut_sub.trans s2.t
   .cases e3
    rw[g1]at e4;cases e4;exact(W.trans s9.t).free fl
end
end My
namespace My
open PySem L2 FrM LexM
open Nst (Lf)
open Tb (Tr fT bnd ci so pS tS pN fM wo Pv stm stP Hd rng rnf)
def jR{m c:Nat}{a:List Str}(h:Okp (m:Nat) (c:Nat) a):a.length=min m c:=by
 have:=h.2.2.2.2
 split at this <;> lia
def C9{m a b:Nat}(c:m<=24):Tb.Pq (min m (a+b)) a (min m a) b (min m b):=⟨show _=_\/_<=_ by lia,show _=_\/_<=_ by lia,by lia,by lia,by lia,by lia⟩
inductive spPour(a:Ad)(vs:List V)(H:Hp)(Q:VK)(E:XK):Prop
 | mk(x h y g2:Addr)(m c1 m2 c2:Nat)(ts ts2:List Str)(Bd:List Addr)(h0:vs=[.ref x,.ref y])(h1:Bad H Bd)(h2:PotAt a H x h (m:Nat) (c1:Nat) ts)(h3:PotAt a H y g2 (m2:Nat) (c2:Nat) ts2)(h4:Okp (m:Nat) (c1:Nat) ts)(h5:Okp (m2:Nat) (c2:Nat) ts2)(h6:TabsOk (tabs a) H)(h7:(m≠m2->zd a H E))(h8:(m=m2->∀ H' u,SameT H H'->TabsOk (tabs a) H'->IsNd a (untrs H' Bd) u (pS (min m (c1+c2)) c1 (min m c1) c2 (min m c2))->Q u H')):spPour a vs H Q E
inductive spStd(a:Ad)(vs:List V)(H:Hp)(Q:VK)(E:XK):Prop
 | mk(v u:V)(k j:Kd)(Bd:List Addr)(h0:vs=[v,u])(h1:Bad H Bd)(h2:Thg H v k)(h3:Thg H u j)(h4:TabsOk (tabs a) H)(h5:(∀ many most:Nat,k=.i many->j=.i most->many<=24->1<=most->most<=24->∀ H' x,SameT H H'->TabsOk (tabs a) H'->IsNd a (untrs H' Bd) x (tS (min many most) (many - min many most))->Q x H'))(h6:(inK 0 24 k=false\/inK 1 24 j=false->∀ H',SameT H H'->TabsOk (tabs a) H'->E (.ref a.c_C) none H')):spStd a vs H Q E
def wP{a:Ad}{H d:Hp}{E:XK}{c:Addr}(t:SameT H d)(j:TabsOk (tabs a) d)(q:∀ H',SameT H H'->TabsOk (tabs a) H'->E (.ref c) none H'):∀ z,d z=none->∃ x dct φ,V.ref z=.ref x/\(upd d z (.ext (XD0 z c))) x=some (.ext φ)/\(∀ h,φ h->XU x c dct h)/\H x=none/\E (.ref c) dct (untr (upd d z (.ext (XD0 z c))) x):=λz i=>by
 have g:Same d (untr (upd d z (.ext (XD0 z c))) z):=λb o e=>by
  have f:b≠z:=λy=>by rw[y,i]at e;cases e
  rw[aA f,ae f];exact e
 exact⟨z,none,_,rfl,ac,λh y=>y,t.free i,q _ (t.trans g.t) (j.same g)⟩
inductive spFld(a:Ad)(vs:List V)(H:Hp)(Q:VK)(_E:XK):Prop
 | mk(m n:Nat)(h0:vs=[.int (m:Nat),.int (n:Nat)])(h1:1<=m)(h2:m<=24)(h3:n<=24)(h4:∀ H' x h ts,Same H H'->PotAt a H' x h (m:Nat) (n:Nat) ts->Okp (m:Nat) (n:Nat) ts->Q (.ref x) H'):spFld a vs H Q _E
def qk{m n:Int}{a:List Str}{t:Str}(h:Okp m n a)(g:n<300):Okp m (n+1) (nxt m a t 0):=by
 obtain⟨d,c,f,i,b⟩:=h;refine⟨d,c,by lia,by lia,?_⟩;unfold nxt lm
 split
 .rw[gV]
  show((a.length+1:Nat):Int)=_
  split at b <;> split <;> lia
 .rw[if_pos (by lia),HI]
  split at b <;> split <;> lia
def C2(a:Ad):List V->Sp:=λvals vs H Q _=>∃(lp kt:Addr) (P ks:List Int),vals=[.ref lp]/\vs=[.ref kt]/\H lp=some (.lst (P.map V.int))/\P.length<=24/\H kt=some (.tup (ks.map V.int))/\(ks.length<=24/\∀ k∈ks,0<=k/\k<P.length)/\∀ H' u,Same H H'->IsTold a H' u (ks.map λk=>P.getD k.toNat 0)->Q u H'
section
variable {P:hH}{w:lA}{K:Frag}{mg:Str->Option b_}{base:Heap}{a:Ad}
def iw{k:Nat}{f:Addr}{a:p_}{ps:List Str}{sp:Sp}(F:FnOk P w K mg base (CXG P w) k f a ps sp):FnOk P w K mg base CX0 k f a ps (λvs H Q _=>sp vs H Q λ_ _ _=>False) :=
 ⟨λvs H Q E h=>F.len vs H Q _ h,λA outer s H args us vs Q E hr e0 hb hv hs=>A5 (F.run A outer s H args us vs Q _ hr e0 hb hv hs) λr s' hq=>by
  cases r with
  | error e=>obtain⟨_,_,_,_,_,_,_,z⟩:=hq;exact z
  | ok fl=>cases fl <;> exact hq⟩
def mO(T:Txt K mg a)(hB:Bm mg base):FnOk P w K mg base (CXG P w) 13 a.f_R a.d_R ["one","other"] (spPour a):=by
 have a2:FnOk P w K mg base (CXG P w) 12 _ _ _ (spNA a):=(qA T).mo;have q:FnO P w K mg base 12 (spCame a):=(sV T).mo;have R:FnO P w K mg base 12 (spThings a):=(gw T).mo;have a3:FnO P w K mg base 12 (spPN 2 a):=qf T hB 2;refine T.W_R.A.okG sc_R (λvs H Q E h=>?_) (λcdv A outer s H vs Q E hr h=>?_)
 .obtain⟨x,h,y,Y,m,c,m2,g,X,p,Bd,rfl,_⟩:=h;rfl
 .obtain⟨x,h,y,Y,m,c,m2,g,X,p,Bd,rfl,O,hp,j,Z,L,hT,q1,q2⟩:=h
  have bb:sizeLine=16777216:=j_;refine⟨_,(af (bR (dX a2 hr rfl T.W_B.C T.W_B.A.kp T.W_B.B .nil sO (aa (vr 0) (aa (vr 1) ad)))) (af (psr 2 sc_R (bv (eF rfl) rfl T.z_list dJ (aa (bv iZ rfl T.z_range ku (aa (aw aC rfl T.z_len bp (aa (ar (vr 0) T.cl_o T.mt_d R hr T.W_d.B .nil ax) ad)) ad)) ad))) (af (n8 rfl (i:=3) sc_R.nd rfl rfl (by with_unfolding_all rfl) (N:=["place","firsts"]) (ix:=[none,some 2]) aD (cH rfl T.z_range (aa (aw aC rfl T.z_len bp (aa (ar (vr 1) T.cl_o T.mt_d R hr T.W_d.B .nil ax) ad)) ad)) (aQ λC s H fp=>⟨bM 0 ["place","firsts"],aU,(au bY (aw (qY (K:=K) rfl) rfl T.z_len bp (aa (vr 1) ad)) (vr 0))⟩)) (af (psl 4 sc_R (aw (eh rfl) rfl T.z_min kC (aa (bG (vr 0) rfl) (aa (au bY (ar (vr 0) T.cl_o T.mt_j q hr T.W_j.B .nil ax) (ar (vr 1) T.cl_o T.mt_j q hr T.W_j.B .nil ax)) ad)))) (ag (ao (pec a3 hr T.W_c (aa (vr 4) (aa (bh (aa (ar (vr 0) T.cl_o T.mt_j q hr T.W_j.B .nil ax) (aa (vr 2) ad))) (aa (bh (aa (ar (vr 1) T.cl_o T.mt_j q hr T.W_j.B .nil ax) (aa (vr 3) ad))) (aa (bC ad) ad))))))))))),wZ ?_⟩;intro br bF bq bt;obtain⟨⟨dx,hx⟩,_⟩:=id hp;obtain⟨⟨dy,hy⟩,_⟩:=id j;refine⟨x,h,y,Y,_,_,_,_,X,p,rfl,hp,j,λem=>?_,λnm=>q1 λe=>nm (by rw[e])⟩;obtain rfl:m=m2:=by lia
  have l1:=jR Z;have l2:=jR L;obtain⟨m1,bo,_,bm,_⟩:=id Z;obtain⟨_,_,_,bn,_⟩:=id L;refine⟨x,dx,_,rfl,hx,rfl,⟨x,h,_,_,X,rfl,hp,λH1 r1 s1 f1 bg=>?_⟩⟩;refine⟨_,.inl (SqL.of bg),?_⟩;rw[d_,l1];refine⟨_,rfl,λpr a0=>?_⟩;have s2:=s1.trans (Same.new (o:=.rng 0 ((min m c:Nat):Int)) a0);refine⟨pr,min m c,rfl,by lia,ac,λv ab=>?_⟩;have S:=s2.trans (Same.new (o:=.lst ((lj (min m c)).map λ(i:Nat)=>V.int (i:Int))) ab);have z:(upd (upd H1 pr (.rng 0 ((min m c:Nat):Int))) v (.lst ((lj (min m c)).map λ(i:Nat)=>V.int (i:Int)))) v=some (.lst ((rng (min m c)).map V.int)):=by rw[ac];unfold rng;rw[A8];rfl
  generalize upd (upd H1 pr (.rng 0 ((min m c:Nat):Int))) v (.lst ((lj (min m c)).map λ(i:Nat)=>V.int (i:Int)))=H3 at S z;refine⟨y,dy,_,rfl,S _ _ hy,rfl,⟨y,Y,_,_,p,rfl,j.same S,λH4 r4 s4 f4 a'=>?_⟩⟩;refine⟨_,.inl (SqL.of a'),?_⟩;rw[d_,l2];refine⟨_,rfl,by lia,by lia,λD hD=>?_⟩;have bl:=s4 _ _ z
  let Pw1:PvL:=λi zs H'=>Same H4 H'/\H' D=some (.lst zs)/\zs=(rnf (min m c) i).map V.int
  refine d6 (lo:=0) (n:=((min m g:Nat):Int).toNat) Pw1 ⟨Same.new hD,ac,rfl⟩ (λi ys H' h=>h.2.1) ?_ ?_
  .rintro i zs H' P' hi ⟨s5,r,rfl⟩ hP
   refine⟨⟨rfl,trivial⟩,_,.inl (SqL.of (s5 _ _ bl)),r,by rw[d_,Tb.rnf_len];lia,hP _ _ ⟨s5.put hD,ac,?_⟩⟩;unfold rnf;rw[Ky,nv,nv,d_,Tb.rng_len,Gr];rfl
  rintro zs H5 ⟨s5,r,rfl⟩;rw[ub]at r;have d:=(S.trans s4).trans s5;have B:=d _ _ hx;have a1:=d _ _ hy;refine⟨x,_,dx,_,_,rfl,B,T.cl_o,T.na_Pot_most,rfl,?_⟩;refine⟨x,dx,_,rfl,B,rfl,⟨x,h,_,_,X,rfl,hp.same d,⟨y,dy,_,rfl,a1,rfl,⟨y,Y,_,_,p,rfl,j.same d,?_⟩⟩⟩⟩;refine⟨_,_,rfl,?_⟩;rw[show(if (c:Int)+(g:Int)<(m:Int) then (c:Int)+(g:Int) else (m:Int))=((min m (c+g):Nat):Int) by split <;> lia];refine⟨x,dx,_,rfl,B,rfl,⟨x,h,_,_,X,rfl,hp.same d,?_⟩⟩;refine⟨cS _ _,λq6 as=>?_⟩;have s6:=Same.new (o:=.tup [.int (c:Nat),.ref v]) as;have M:=ac (H:=H5) (a:=q6) (o:=.tup [.int (c:Nat),.ref v]);generalize upd H5 q6 (.tup [.int (c:Nat),.ref v])=H6 at s6 M;have k:=d.trans s6;refine⟨y,dy,_,rfl,k _ _ hy,rfl,⟨y,Y,_,_,p,rfl,j.same k,?_⟩⟩;refine⟨cS _ _,λq7 al=>?_⟩;have G:=Same.new (o:=.tup [.int (g:Nat),.ref D]) al;have ah:=ac (H:=H6) (a:=q7) (o:=.tup [.int (g:Nat),.ref D]);generalize upd H6 q7 (.tup [.int (g:Nat),.ref D])=H7 at G ah;refine⟨h_ _,λl8 J=>?_⟩;have I:=Same.new (o:=.lst []) J;have an:=ac (H:=H7) (a:=l8) (o:=.lst []);generalize upd H7 l8 (.lst [])=H8 at I an;have F:=(k.trans G).trans I;refine⟨.ref q6,.ref q7,.ref l8,min m (c+g),⟨c,rng (min m c),g,rnf (min m c) (min m g),[]⟩,Bd,rfl,O.t F.t,?_,g9 _ _ _,hT.same F,λH' u t' a5 hN=>?_⟩
  .have W:∀{b:Addr}{o:HO},H b=none->H8 b=some o->untrs H8 Bd b=some o:=λf h=>bB O f h
   exact⟨⟨q6,v,rfl,W (d.free as) ((G.trans I) _ _ M),W (s2.free ab) ((s4.trans (s5.trans (s6.trans (G.trans I)))) _ _ z)⟩,⟨q7,D,rfl,W (k.free al) (I _ _ ah),W ((S.trans s4).free hD) ((s6.trans (G.trans I)) _ _ r)⟩,⟨l8,rfl,W ((k.trans G).free J) an⟩,(C9 (by lia)).pv,by rw[Tb.rng_len];lia,by rw[Tb.rnf_len];lia,by show c<=300;lia,by show g<=300;lia⟩
  .exact q2 rfl _ _ (F.t.trans t') a5 hN
def jr(T:Txt K mg a)(R:Bm mg base):FnOk P w K mg base (CXG P w) 4 a.f_N a.d_N ["many","most"] (spStd a):=by
 refine T.W_N.A.okG qp (λY H Q E h=>?_) (λcdv A outer s H Y Q E hr h=>?_)
 .obtain⟨v,u,k,j,L,rfl,_⟩:=h;rfl
 .obtain⟨v,u,k,j,L,rfl,b,I,D,F,W,X⟩:=h
  have C:sizeLine=16777216:=j_;refine⟨_,(af (bc (PW.pt (CS (c7 (dh (aI (d7 T) hr T.W_U (aa (vr 0) (aa am (aa (iK rfl T.g_MOST_STREAMED) ad)))))) (An (c7 (dh (aI (d7 T) hr T.W_U (aa (vr 1) (aa am (aa (iK rfl T.g_MOST_KEPT) ad))))))))) (ag (cI T.xc_C T.xh_C (gv T.xi_NoThing T.kc_NoThing rfl T.mc_C))) aG) (ag (ao (pec (qi T R) hr T.W_G (aa (bv (eF rfl) rfl T.z_list dJ (aa (bv iZ rfl T.z_range ku (aa (aw (eh rfl) rfl T.z_min kC (aa (vr 0) (aa (vr 1) ad))) ad)) ad)) (aa (vr 1) (aa (vr 0) ad))))))),jt ?_⟩;intro N;have g:inK 0 24 k=false\/inK 1 24 j=false->∀ y,H y=none->∃ x dct φ,V.ref y=.ref x/\(upd H y (.ext (XD0 y a.c_C))) x=some (.ext φ)/\(∀ h,φ h->XU x a.c_C dct h)/\H x=none/\E (.ref a.c_C) dct (untr (upd H y (.ext (XD0 y a.c_C))) x):=λw=>wP SameT.refl F (X w)
  refine⟨v,0,24,k,rfl,I,?_⟩;cases e1:inK 0 24 k with
  | false=>exact g (.inl e1)
  | true =>
   refine⟨u,1,24,j,rfl,D,?_⟩;cases e2:inK 1 24 j with
   | false=>exact g (.inr e2)
   | true =>
    obtain⟨i,rfl⟩:∃ i,k=.i i:=by cases k with | i n=>exact⟨n,rfl⟩ | s t=>cases e1 | o=>cases e1
    obtain⟨i2,rfl⟩:∃ i,j=.i i:=by cases j with | i n=>exact⟨n,rfl⟩ | s t=>cases e2 | o=>cases e2
    have h1:0<=i/\i<=24:=of_decide_eq_true e1;have h2:1<=i2/\i2<=24:=of_decide_eq_true e2;cases I;cases D
    obtain⟨many,rfl⟩:∃ n:Nat,i=(n:Int):=⟨i.toNat,by lia⟩
    obtain⟨most,rfl⟩:∃ n:Nat,i2=(n:Int):=⟨i2.toNat,by lia⟩
    refine⟨_,_,rfl,?_⟩;rw[show(if (most:Int)<(many:Int) then (most:Int) else (many:Int))=((min many most:Nat):Int) by split <;> lia];refine⟨_,rfl,λB z=>?_⟩;have J:=Same.new (o:=.rng 0 ((min many most:Nat):Int)) z;refine⟨B,min many most,rfl,by lia,ac,λp d=>?_⟩;have q:=J.trans (Same.new (o:=.lst ((lj (min many most)).map λ(i:Nat)=>V.int (i:Int))) d);have f:(upd (upd H B (.rng 0 ((min many most:Nat):Int))) p (.lst ((lj (min many most)).map λ(i:Nat)=>V.int (i:Int)))) p=some (.lst ((rng (min many most)).map V.int)):=by rw[ac];unfold rng;rw[A8];rfl
    generalize upd (upd H B (.rng 0 ((min many most:Nat):Int))) p (.lst ((lj (min many most)).map λ(i:Nat)=>V.int (i:Int)))=H1 at q f
    have Z:Hd (rng (min many most)) most:=by
     have h:=Tb.rng_hd (min many most);exact⟨h.nd,λx O=>by have:=h.lt x O;lia,by rw[Tb.rng_len];lia⟩
    have M:stm (many - min many most) (rng (min many most)) most=tS (min many most) (many - min many most):=by
     unfold tS
     by_cases c:many<=most
     .rw[show many - min many most=0 by lia];rfl
     .rw[show min many most=most by lia]
    refine⟨p,rng (min many most),most,many,many - min many most,L,rfl,b.t q.t,bB b (J.free d) f,by lia,by lia,by rw[Tb.rng_len];lia,Z,F.same q,λH2 x S r G=>?_⟩;rw[M]at G;exact W many most rfl rfl (by lia) (by lia) (by lia) _ _ (q.t.trans S) r G
def uC(T:Txt K mg a):FnX P w base 6 T.W_J (spFld a):=by
 have y:FnO P w K mg base 4 (sJ a):=(rk T).mo;have v:FnO P w K mg base 5 (λL H Q _=>qE a L H Q λ_ _ _=>False):=(iw (tm T)).mono (by decide);refine T.W_J.A.okz sc_J λab A u s H L Q E M h=>?_
 .obtain⟨m,n,rfl,m1,m2,n1,q⟩:=h
  have D:sizeLine=16777216:=j_;refine⟨_,(af (psl 2 sc_J (bT T.mk_o y M rfl T.mc_o T.Wi_o.B .nil ax (aa (vr 0) ad))) (af (c8 s_ rfl (cH rfl T.z_range (aa (vr 1) ad)) (aN (i:=3) sc_J.nd rfl (uS rfl)) (ag (bR (dF (vr 2) T.cl_o T.mt_z v M T.B_z .nil ax (aa q5 (aa am ad)))))) (ag (ao (vr 2))))),jf ?_⟩;intro W R;intro x S p B Y;have Z:=gp (C:=a.c_o) p B;refine⟨x,S,m,rfl,ac,by lia,by lia,λO h I fh g=>⟨rfl,?_⟩⟩;have s4:Same H O:=λb o e=>I b o (λz=>by rw[z,p]at e;cases e) (Z b o e)
  refine⟨_,rfl,by lia,by lia,?_⟩
  let Pw2:PvS:=λk J j=>k<=n/\Same H j/\∃(h:Addr) (f:List Str) (r:Option V),PotAt a j x h (m:Nat) (k:Nat) f/\Okp (m:Nat) (k:Nat) f/\J=[some (.int (m:Nat)),some (.int (n:Nat)),some (.ref x),r]
  refine mW (lo:=0) (n:=((n:Nat):Int).toNat) Pw2 ⟨h_ _,s4,h,[],none,g,⟨by lia,by lia,by lia,by lia,by rw[if_pos (by lia)];rfl⟩,rfl⟩ ?_ ?_
  .rintro k J j hk ⟨X,G,N,f,r,c,d,rfl⟩
   obtain⟨dy,F⟩:=c.at_;refine⟨x,dy,_,rfl,F,rfl,x,N,_,_,f,_,_,.s "a",.i 0,rfl,c,d,.str "a" (by decide) (by decide),.int 0,(λe=>absurd e (by decide +kernel)),(λ_ e=>by lia),λ_ _ e=>?_,λ_ _ _ H7 h7 sb7 pot7 hh7=>?_⟩
   .have:inK 0 (sides (m:Nat) (k:Nat) - 1) (.i 0)=true:=decide_eq_true ⟨HL 0,by unfold sides;split <;> lia⟩
    rw[this]at e;cases e
   .exact⟨by lia,λb o e=>sb7 b o (λz=>by rw[z,p]at e;cases e) (G b o e),h7,_,_,pot7,qk d (by lia),rfl⟩
  .rintro J j ⟨_,G,N,f,r,c,d,rfl⟩
   rw[ub]at c d;exact q _ _ _ _ G c d
def CW(T:Txt K mg a):pG P w K mg base 3 dd_in yj ["_law_kept"] (C2 a):=by
 have R:FnO P w K mg base 1 (spToldI a):=jZ T;refine Be Es (λan pm ah d c us v=>match us,v with | [_],_=>rfl) (λvals vs H Q E h=>?_) (λA outer s H f c d vals vs Q E hr hfv ca h=>?_)
 .obtain⟨lp,Y,P,r,rfl,rfl,_⟩:=h;rfl
 .obtain⟨lp,Y,P,r,rfl,rfl,v,ab,F,⟨as,B⟩,q⟩:=h
  have S:sizeLine=16777216:=j_;refine⟨_,(ag (ao (bT T.mk_i R (hr.mono (by decide)) rfl T.mc_i T.Wi_i.B .nil ax (aa (aV rfl (N:=["_law_place","_law_places"]) (ix:=[none,some 1]) aD (a6 (vr 0)) (aQ λC s H fp=>⟨bM 0 ["_law_place","_law_places"],aU,(gm (gB (K:=K) rfl) (vr 1) (vr 0))⟩)) ad)))),?_⟩;have Z:=pj ca;have v:=Z _ _ rfl v;have F:=Z _ _ rfl F;generalize hU:untrs H (d.map (·.2))=U at *;refine .inr ⟨⟨_,SqT.of F⟩,λD W=>?_⟩
  let Pw3:PvL:=λi I u=>Same U u/\u D=some (.lst I)/\i<=r.length/\I=((r.take i).map λk=>P.getD k.toNat 0).map V.int
  refine fg (K:=K) (a:=Y) (xs:=r.map V.int) Pw3
   ⟨Same.new W,ac,h_ _,rfl⟩ (λi ys u h=>SqT.of (h.1 _ _ F)) (λi ys u h=>h.2.1) ?_ ?_
  .rintro i y I u P' X ⟨G,g,hi,rfl⟩ J
   obtain⟨k,hk2,rfl⟩:∃ k,r[i]? = some k/\y=V.int k:=by
    rw[gb]at X;obtain⟨k,e1,e2⟩:=EG.mp X;exact⟨k,e1,e2.symm⟩
   have L:i<r.length:=(fP.mp hk2).1;obtain⟨b1,b2⟩:=B k (ge hk2)
   have O:(P.map V.int)[k.toNat]? = some (.int (P.getD k.toNat 0)):=by
    rw[gb,ki (by lia),E4,ki (by lia)];rfl
   refine⟨⟨rfl,trivial⟩,.inl ⟨lp,_,k,_,rfl,rfl,SqL.of (G _ _ v),aJ k.toNat (by lia) O,?_⟩⟩;refine⟨g,by rw[d_,d_,mx];lia,J _ _ ⟨G.put W,ac,L,?_⟩⟩;rw[oN,hk2,nv,nv];rfl
  .rintro I u ⟨G,g,hi,rfl⟩
   rw[d_,oD]at g;intro x2 z x j al;have s9:=gp (C:=a.c_i) x j;refine⟨x2,z,D,_,rfl,ac,.inl (s9 _ _ g),by rw[d_];lia,λH2 t M k g1 g2 g3=>⟨rfl,λH3 s3 hc=>?_⟩⟩;have s2:=made x j k;subst hU
   exact q _ _ (λb o e=>by
    by_cases B:b∈d.map (·.2)
    .obtain⟨p,hp,rfl⟩:=nh.mp B
     rw[hc p hp];exact e
    .exact s3 _ _ (s2 _ _ (G _ _ (by rw[ay B];exact e)))) ⟨x2,z,t,M,rfl,s3 _ _ g1,s3 _ _ g2,g3⟩
end
open Nst (Lf)
open Tb (Tr fT bnd ci so pS tS)
mutual
def kM(p:List Int->Bool):Tr->Bool
 | .leaf ns=>p ns
 | .die ps=>rR p ps
def rR(p:List Int->Bool):List (Int×Tr)->Bool
 | []=>true
 | (_,u)::r=>kM p u && rR p r
end
def pi{p:List Int->Bool}:∀{ps:List (Int×Tr)}{m:Int}{u:Tr},rR p ps=true->(m,u)∈ps->kM p u=true
 | [],_,_,_,h=>by cases h
 | (k,v)::r,m,u,h,g=>by
  rw[rR,il]at h
  rcases i_.mp g with e | g
  .cases e;exact h.1
  .exact pi h.2 g
def gu{p:List Int->Bool}{t:Tr}{a:List Int}(h:Lf t a):kM p t=true->p a=true:=by
 induction h with
 | leaf a=>intro g;rwa [kM]at g
 | die hm _ ih=>intro g;rw[kM]at g;exact ih (pi g hm)
def c3b:∀ c∈Cs,1<=c.1/\c.1<=3/\c.2.1<=4/\c.2.2<=4:=by decide +kernel
def c3l:∀ c∈Cs,kM (λks=>ks.length == min c.2.1 c.1) (sT c.1 c.2.1)=true/\kM (λks=>ks.length == min c.2.2 c.1) (sT c.1 c.2.2)=true/\kM (λks=>decide (ks.length<=24) && ks.all λk=>decide (0<=k) && decide (k<((min c.2.1 c.1+min c.2.2 c.1:Nat):Int))) (pT c.1 c.2.1 c.2.2)=true:=by decide +kernel
def u4(ks:List Int):(so ks).length=ks.length:=(Tb.so_perm ks).length_eq
def CA{m f s:Nat}(h:C3 m f s){ks:List Int}(a:Lf (sT m f) ks):(so ks).length=min f m:=by
 rw[u4];exact eq_of_beq (gu a (c3l _ h).1)
def Dc{m f s:Nat}(h:C3 m f s){ks:List Int}(a:Lf (sT m s) ks):(so ks).length=min s m:=by
 rw[u4];exact eq_of_beq (gu a (c3l _ h).2.1)
def BL{m f s:Nat}(h:C3 m f s){ks:List Int}(b:Lf (pT m f s) ks):(so ks).length<=24/\∀ k∈so ks,0<=k/\k<((min f m+min s m:Nat):Int):=by
 have:=gu b (c3l _ h).2.2;rw[il,oo]at this;refine⟨by rw[u4];exact of_decide_eq_true this.1,λk a=>?_⟩;have:=this.2 k ((Tb.so_perm ks).mem_iff.mp a);rw[il]at this;exact⟨of_decide_eq_true this.1,of_decide_eq_true this.2⟩
def Bn(a:Ad)(N:Nat):List V->Sp:=λvals vs H Q _=>∃(pv:V) (kt1 kt2:Addr) (ks ls:List Int) (m f s:Nat) (Bd:List Addr),1<=N/\vals=[pv,.ref kt1]/\vs=[.ref kt2]/\C3 m f s/\Bad H Bd/\H kt1=some (.tup (ks.map V.int))/\H kt2=some (.tup (ls.map V.int))/\ks.length=min f m/\ls.length=min s m/\qH a H pv m f s/\TabsOk (tabs a) H/\Rq a 1 H Bd (gT1 m f s ks ls) Q
def Ar(a:Ad):Addr->List (Str×Addr)->List V->Sp:=λTb _ vals vs H Q _=>∃(kt1 kt2:Addr) (ks ls:List Int) (m f s:Nat) (Bd:List Addr),vals=[.int (s:Nat),.int (m:Nat),.int (f:Nat)]/\vs=[.ref kt1,.ref kt2]/\(Tb,ls_po)∈tabs a/\C3 m f s/\Bad H Bd/\H kt1=some (.tup (ks.map V.int))/\H kt2=some (.tup (ls.map V.int))/\ks.length=min f m/\ls.length=min s m/\TabsOk (tabs a) H/\Rq a 1 H Bd (gT1 m f s ks ls) Q
def yk(a:Ad)(N:Nat):Addr->List (Str×Addr)->List V->Sp:=λTb _ vals vs H Q _=>∃(pv:V) (kt:Addr) (ks:List Int) (m f s:Nat) (Bd:List Addr),2<=N/\vals=[.int (s:Nat),pv,.int (m:Nat)]/\vs=[.ref kt]/\(Tb,ls_se)∈tabs a/\C3 m f s/\Bad H Bd/\H kt=some (.tup (ks.map V.int))/\ks.length=min f m/\qH a H pv m f s/\TabsOk (tabs a) H/\Rq a 2 H Bd (gT2 m f s ks) Q
inductive spBe(a:Ad)(N:Nat)(vs:List V)(H:Hp)(Q:VK)(_E:XK):Prop
 | mk(n:Nat)(v go:V)(t:Tr)(gf:List Int->Tr)(ok:List Int->Prop)(Bd:List Addr)(h0:n<=N)(h1:vs=[v,go])(h2:Bad H Bd)(h3:IsNd a (untrs H Bd) v t)(h4:IsGq a (untrs H Bd) go n gf ok)(h5:(∀ ks,Lf t ks->ok (so ks)))(h6:TabsOk (tabs a) H)(h7:Rq a (n+1) H Bd (bnd t gf) Q):spBe a N vs H Q _E
def Aw(a:Ad)(N:Nat):List V->Sp:=λvals vs H Q _=>∃(n:Nat) (u go:V) (t:Tr) (gf:List Int->Tr) (ok:List Int->Prop) (Bd:List Addr),n<=N/\vals=[go]/\vs=[u]/\Bad H Bd/\IsNd a (untrs H Bd) u t/\IsGq a (untrs H Bd) go n gf ok/\(∀ ks,Lf t ks->ok (so ks))/\TabsOk (tabs a) H/\Rq a (n+1) H Bd (bnd t gf) Q
def qw(a:Ad)(N:Nat):List V->Sp:=λvals vs H Q _=>∃(n:Nat) (m cr go:V) (t:Tr) (gf:List Int->Tr) (ok:List Int->Prop) (Bd:List Addr),n<=N/\vals=[m,cr]/\vs=[]/\Bad H Bd/\IsLam (untrs H Bd) bK fvB cr [go]/\IsGq a (untrs H Bd) go n gf ok/\IsMk (untrs H Bd) m t/\(∀ ks,Lf t ks->ok (so ks))/\TabsOk (tabs a) H/\Rq a (n+1) H Bd (bnd t gf) Q
def ze{f:Addr}{d d':DefD}{g a:List (Str×Addr)}{c i:Addr}(e:HO.ext (ce f d g c)=HO.ext (ce f d' a i)):d.qual=d'.qual:=by
 injection e with e
 obtain⟨h,j⟩:=dU f (Hc d.name d.qual d.params d.body d.scope g .none .none c .none) (by intro z;cases z);have y:ce f d' a i h:=by rw[<- e];exact⟨_,_,_,j⟩
 obtain⟨o,u,w,b⟩:=y;rw[j]at b;injection b with b
 injection b with _ _ b
 injection b with b
 injection b
def qF{a:Ad}{H:Hp}{b:V}{n:Nat}{g:List Int->Tr}{i:List Int->Prop}(h:IsGq a H b n g i):∃ p,b=.ref p/\((∃ d cl c,H p=some (.ext (ce p d cl c)))\/∃ cl c,H p=some (.ext (b9 p ld_in cl c))):=by
 cases h with
 | told n lp P h0 h1 h2=>obtain⟨f,c,cl,e,k,_⟩:=h0;exact⟨f,e,.inl ⟨_,cl,c,k⟩⟩
 | other n pv kt ks m f s h0 h1 h2 h3 h4=>obtain⟨f,c,cl,e,k,_⟩:=h1;exact⟨f,e,.inr ⟨cl,c,k⟩⟩
 | second n pv m f s h0 h1 h2=>obtain⟨f,c,T,cl,e,k,_⟩:=h1;exact⟨f,e,.inl ⟨_,cl,c,k⟩⟩
def AX{a:Ad}{H:Hp}{f:V}{n:Nat}{g:List Int->Tr}{i:List Int->Prop}(h:IsGq a H f n g i):OkV H f:=by
 obtain⟨p,e,⟨d,b,c,k⟩ | ⟨b,c,k⟩⟩:=qF h
 .exact⟨p,e,.inl ⟨d,b,c,k⟩⟩
 .exact⟨p,e,.inr ⟨_,b,c,k,by decide +kernel,by decide +kernel⟩⟩
def Bv{H:Hp}{f:V}{t:Tr}(h:IsMk H f t):∃ p d cl c,f=.ref p/\H p=some (.ext (b9 p d cl c))/\d.qual≠ld_from_one_1.qual/\d.qual≠ld_from_other_1.qual/\d.qual≠ld_in.qual:=by
 rcases h with⟨o,s,q,w,x,r,⟨⟨a,c,cl,e,k,_⟩,_⟩ | ⟨⟨a,c,cl,e,k,_⟩,_⟩⟩ | ⟨a,c,cl,u,p,g,v,e,k,_⟩ | ⟨l,b,n,i,j,⟨a,c,cl,e,k,_⟩,_⟩
 .exact⟨a,_,cl,c,e,k,by decide +kernel,by decide +kernel,by decide +kernel⟩
 .exact⟨a,_,cl,c,e,k,by decide +kernel,by decide +kernel,by decide +kernel⟩
 .exact⟨a,_,cl,c,e,k,by decide +kernel,by decide +kernel,by decide +kernel⟩
 .exact⟨a,_,cl,c,e,k,by decide +kernel,by decide +kernel,by decide +kernel⟩
def ya{a:Ad}{H:Hp}{b:List (Str×Addr)}{o:V}(d:CellsAt H b [o]){n:Nat}{y:List Int->Tr}{x:List Int->Prop}(h:IsGq a H o n y x):IsGq a (untrs H (b.map (·.2))) o n y x:=by
 have i:∀ v∈[o],∃ p,v=.ref p:=λv A=>by rw[ir.mp A];obtain⟨p,e,_⟩:=qF h;exact⟨p,e⟩
 cases h with
 | told n lp P h0 h1 h2 =>
  refine .told n lp P (z8 d i (λw hw=>?_) h0) (aq d h1 λv z=>nomatch z) h2;obtain⟨f,c,u,e,k,_⟩:=h0;rw[ir.mp hw,ir,e];intro z;cases z;rw[k]at h1;cases h1
 | other n pv kt ks m f s h0 h1 h2 h3 h4 =>
  refine .other n pv kt ks m f s h0 (fR d i (λw hw=>?_) h1) (aq d h2 λv z=>nomatch z) h3 (oU d i h4);obtain⟨g,c,u,e,k,_⟩:=h1;obtain⟨B,C,D,q,r,j,_⟩:=h4;rw[ir,e]
  rcases i_.mp hw with rfl | hw
  .rw[r];intro z;cases z;rw[k]at j;exact eM (k7 j).symm
  .rw[ir.mp hw];intro z;cases z;rw[k]at h2;cases h2
 | second n pv m f s h0 h1 h2 =>
  refine .second n pv m f s h0 (vJ d i (λw hw=>?_) h1) (oU d i h2);obtain⟨g,c,T,u,e,k,_⟩:=h1;obtain⟨B,C,D,q,r,j,_⟩:=h2;rw[ir,e]
  rcases i_.mp hw with rfl | hw
  .intro z;cases z
  rcases i_.mp hw with rfl | hw
  .rw[r];intro z;cases z;rw[k]at j
   exact absurd (ze (k7 j)) (by decide +kernel)
  .rw[ir.mp hw];intro z;cases z
section
variable {P:hH}{w:lA}{K:Frag}{mg:Str->Option b_}{base:Heap}{a:Ad}
def lK(T:Txt K mg a)(hB:Bm mg base)(N:Nat){k:Nat}(hk:5<=k)(ab:eL P w K mg base k dd_L_joined_2 uu ["_law_one"] (yk a N))(a0:LamOk P w K mg base k ld_in wm ["_law_other"] (Bn a N)):FnX P w base (k+1) T.W_k (spBe a N):=by
 have as:pG P w K mg base k dd_in yj ["_law_kept"] (C2 a):=λA o s H f c ah us vs a1 Q E b=>CW T A o s H f c ah us vs a1 Q E (b.mono (by lia))
 have bS:FnO P w K mg base k (spV (.bl true)):=(rY T).mono (by lia);have bL:FnO P w K mg base k (spV (.bl false)):=(sX T).mono (by lia);have R:FnO P w K mg base k (zh a):=(vm T).mono (by lia);have W:FnO P w K mg base k (spV .non):=(vk T).mono (by lia);have bq:FnO P w K mg base k (m5 a):=(rj T hB).mono (by lia);refine T.W_k.A.okL T.lcd_k uv (by decide +kernel) (λvs H Q E h=>?_) (λA o s H vs Q E b h=>?_)
 .obtain⟨n,v,go,t,gf,ok,Y,hn,rfl,_⟩:=h;rfl
 .obtain⟨n,v,go,t,gf,ok,Y,hn,rfl,B,a2,an,a3,hT,q⟩:=h
  refine⟨_,(cw (bc (dh (PE.or (ar (vr 0) T.cl_i T.mt_e bS b T.W_e.B .nil ax) (ar (vr 0) T.cl_n T.mt_h bL b T.W_h.B .nil ax))) (ag (ao (PE.or (kZ (vr 1) (Cl as b) (aa (PE.or (ar (vr 0) T.cl_i T.mt_p R b T.W_p.B .nil ax) (ar (vr 0) T.cl_n T.mt_r W b T.W_r.B .nil ax)) ad)) (PE.or (kZ (vr 1) (vQ ab b) (aa (PE.or (ar (vr 0) T.cl_i T.mt_p R b T.W_p.B .nil ax) (ar (vr 0) T.cl_n T.mt_r W b T.W_r.B .nil ax)) ad)) (dA (vr 1) a0 b (aa (PE.or (ar (vr 0) T.cl_i T.mt_p R b T.W_p.B .nil ax) (ar (vr 0) T.cl_n T.mt_r W b T.W_r.B .nil ax)) ad)))))) aG) (iV (dF (vr 0) T.cl_n T.mt_D bq b T.W_D.B .nil ax (aa (di (d:=bK) rfl T.lch_k hB rfl (by with_unfolding_all rfl) rfl (uF a) (.head _) T.tnd uY) ad)))),?_⟩;cases t with
  | leaf ns =>
   obtain⟨x,D,kt,bl,rfl,j,y,hs⟩:=a2;have j:=(ak j).2;have y:=(ak y).2;have en:bl=Tb.so ns:=Tb.so_uniq hs.1 hs.2;subst en;have S:=a3 _ (.leaf ns);rw[Tb.bnd]at q;refine .inl ⟨x,D,_,rfl,j,rfl,_,rfl,?_⟩;cases an with
   | told n lp P h0 M G =>
    obtain⟨f,c,cl,rfl,F,Z,X,k5,k6⟩:=h0;refine .inl ⟨⟨f,_,_,c,rfl,(ak F).2⟩,.inl ⟨x,D,_,rfl,j,rfl,x,D,kt,rfl,j,f,c,cl,_,rfl,(ak F).2,(ak Z).2,X,k5,ba cuts_sub k6,lp,kt,P,so ns,rfl,rfl,(ak M).2,G,y,S,λH' u s1 hu=>?_⟩⟩;exact q _ _ s1.t (hT.same s1) (fZ (B.t s1.t) hu)
   | other n pv kt1 ks m f s h0 M G h3 h4 =>
    obtain⟨g,c,cl,rfl,F,Z,X,k5,k6⟩:=M;exact .inr (.inr ⟨⟨g,_,_,c,rfl,(ak F).2⟩,.inl ⟨x,D,_,rfl,j,rfl,x,D,kt,rfl,j,λ_ _ _ _ _ e=>e,g,c,cl,_,rfl,(ak F).2,(ak Z).2,X,k5,ba cuts_sub k6,pv,kt1,kt,ks,so ns,m,f,s,Y,by lia,rfl,rfl,h0,B,(ak G).2,y,h3,S,h4.t cuts_sub,hT,q.up (by lia)⟩⟩)
   | second n pv m f s h0 M G =>
    obtain⟨g,c,T2,cl,rfl,F,Z,a5,X,k5,k6⟩:=M;exact .inr (.inl ⟨⟨g,_,_,c,rfl,(ak F).2⟩,.inl ⟨x,D,_,rfl,j,rfl,x,D,kt,rfl,j,g,c,T2,cl,_,rfl,(ak F).2,(ak Z).2,X,k5,ba cuts_sub k6,pv,kt,so ns,m,f,s,Y,by lia,rfl,rfl,a5,h0,B,y,S,G.t cuts_sub,hT,q.up (by lia)⟩⟩)
  | die ps =>
   obtain⟨O,bt,L⟩:=Bf a2;have I:IsRaw a H v O:=bt.t cuts_sub;obtain⟨x,D,l,ys,rfl,j,hl,hP,b0,b1⟩:=id I;rw[Tb.bnd,Tb.bnds_map]at q;refine .inr ⟨x,D,_,rfl,j,rfl,_,rfl,?_⟩;refine⟨x,D,_,rfl,j,rfl,hT,λf1 c1 H2 t2 bg n1 bm bo=>?_⟩;refine⟨_,_,O,rfl,I.t t2,bg,λH3 u t3 a' hu nl=>λH4 s4 hc=>?_⟩;have t4:=t2.trans (t3.trans s4.t);have i:=B.t t4
   have bn:IsLam H4 bK fvB (.ref f1) [go]:=⟨f1,c1,_,rfl,s4 _ _ (t3.at bm),s4 _ _ (t3.at bo),rfl,by simp,.cons (hc 1 _ _ _ rfl rfl (by with_unfolding_all rfl)) .nil⟩
   obtain⟨x2,al,l2,bF,rfl,g1,g2,g3,g4,g5⟩:=hu;have fl:H l2=none:=t2.free (nl x2 al l2 rfl g1);refine q _ _ t4 (a'.same s4) ⟨x2,al,l2,bF,rfl,aE i (s4 _ _ g1) (λ_ z=>nomatch z),bB B fl (s4 _ _ g2),?_,by rw[d_,L.length];exact g4,by rw[d_,L.length];exact g5⟩
   have br:∀{C:List (Int×Tr)}{O:List (Int×V)}{ys:List V},(∀ p∈C,p∈ps)->Paired (PrR (untrs H Y)) C O->Paired (CarR (.ref f1) H3) O ys->Paired (NqR a (n+1) (untrs H4 Y)) (C.map λp=>(p.1,bnd p.2 gf)) ys:=by
    intro C O ys J M
    induction M generalizing ys with
    | nil=>intro G;cases G;exact .nil
    | @cons p r C O x1 _ ih =>
     intro G;cases G with
     | cons y1 t1 =>
      obtain⟨e1,m1,hm⟩:=x1;obtain⟨q9,f9,k1,F,Z,X⟩:=y1;refine .cons ⟨q9,f9,k1,?_,m1,.inr ⟨r.2,.ref f1,go,p.2,gf,ok,bV i (X.t s4.t),bV i bn,an.t (av t4),hm.t (av t4),λks bb=>a3 ks (.die (J p gT) bb),rfl⟩⟩ (ih (λz hz=>J z (hI _ hz)) t1);show untrs H4 Y q9=some (.tup [.int p.1,f9]);rw[e1];exact aE i (s4 _ _ F) (λ_ z=>nomatch z)
   exact br (λp hp=>hp) L g3
def xS(T:Txt K mg a)(X:Bm mg base)(N:Nat){k:Nat}(x:FnX P w base k T.W_k (spBe a N)):LamOk P w K mg base (k+1) bK fvB ["after"] (Aw a N):=by
 refine dB lsB (λY I j c O J=>match O,J with | [_],_=>rfl) (λvals vs H Q E h=>?_) (λA outer s H f c j vals vs Q E hr hfv ca h=>?_)
 .obtain⟨n,u,C,t,D,B,G,F,rfl,rfl,_⟩:=h;rfl
 .obtain⟨n,u,C,t,D,B,G,F,rfl,rfl,i,z,g,y,L,q⟩:=h
  refine⟨_,(pec x hr T.W_k (aa (vr 0) (aa (vr 1) ad))),?_⟩;have p:=bN i ca;have o:=AX g;have d:=Df p (λv S=>by rw[ir.mp S];exact o) z;have b:=ya p g;rw[bH]at d b;exact⟨n,u,C,t,D,B,G,F,rfl,cJ ca i,d,b,y,TabsOk.untrs L ca,λW w R r M=>λH3 s3 hc=>q _ _ (gD R s3 hc) (r.same s3) (M.t (av s3.t))⟩
def vK(T:Txt K mg a)(Z:Bm mg base)(N:Nat){k:Nat}(hk:15<=k)(o:LamOk P w K mg base k bK fvB ["after"] (Aw a N)):LamOk P w K mg base (k+1) aB fvC [] (qw a N):=by
 have G:LamOk P w K mg base k aO fvP [] (ud a):=LamOk.mono (vZ T Z) (by lia);have D:LamOk P w K mg base k aP fvP [] (uq a):=LamOk.mono (wN T Z) (by lia);have M:LamOkC P w K mg base k ld_going_1 fvG [] (uZ a):=LamOkC.mono (w6 T Z) (by lia);have r:LamOk P w K mg base k aF fvH [] (mF a):=LamOk.mono (qB T Z) (by lia);refine dB lsC (λpm a1 W c us hl=>match us,hl with | [],_=>rfl) (λvals vs H Q E h=>?_) (λA outer s H f c W vals vs Q E hr hfv ca h=>?_)
 .obtain⟨n,m,cr,Y,t,gf,ok,Bd,hn,rfl,rfl,_⟩:=h;rfl
 .obtain⟨n,m,cr,Y,t,gf,ok,Bd,hn,rfl,rfl,O,L,F,hm,al,hT,q⟩:=h
  refine⟨_,(dA (vr 1) o hr (aa (PE.or (aY (vr 0) G hr) (PE.or (aY (vr 0) D hr) (PE.or (eJ (vr 0) M hr) (aY (vr 0) r hr)))) ad)),?_⟩;have y:=bN O ca;obtain⟨pm,dm,R,cm,em,km,n1,n2,n3⟩:=Bv hm;obtain⟨J,X,b,er,B,r3,r4,r5,r6⟩:=id L
  have hv:∀ v∈[m,cr],OkV (untrs H Bd) v:=λv hv=>by
   rcases i_.mp hv with rfl | hv
   .exact⟨pm,em,.inr ⟨dm,R,cm,km,n1,n2⟩⟩
   .rw[ir.mp hv];exact⟨J,er,.inr ⟨_,b,X,B,by decide +kernel,by decide +kernel⟩⟩
  have I:∀ v∈[m,cr],∃ p d cl c,v=.ref p/\untrs H Bd p=some (.ext (b9 p d cl c)):=λv hv=>by
   rcases i_.mp hv with rfl | hv
   .exact⟨pm,dm,R,cm,em,km⟩
   .rw[ir.mp hv];exact⟨J,_,b,X,er,B⟩
  have ah:Y ∉ [m,cr]:=λz=>by
   obtain⟨p,e,⟨d,cl,c9,C⟩ | ⟨cl,c9,C⟩⟩:=qF F
   .obtain⟨p',d',an,c',e',k'⟩:=I Y z
    rw[e]at e';cases e';rw[C]at k';exact eM (k7 k')
   .rcases i_.mp z with z | z
    .rw[z,em]at e;cases e;rw[km]at C
     exact n3 (nV (k7 C))
    .rw[ir.mp z,er]at e;cases e;rw[B]at C
     exact absurd (nV (k7 C)) (by decide +kernel)
  have S:=zI y hv hm;have g:=CV y I F;have j:=fR y (λv z=>(hv v z).rf) (λw hw=>by rw[ir.mp hw];exact ah) L;rw[bH]at S g j;have i:=cJ ca O;have as:=TabsOk.untrs hT ca;obtain⟨J,X,b,rfl,B,r3,r4,r5,r6⟩:=j;refine⟨⟨J,_,_,X,rfl,(ak B).2⟩,sH S i as λH2 u x ab a0=>⟨λf' d' an c' _ z=>x.at z,J,X,b,_,rfl,x.at (ak B).2,x.at (ak r3).2,r4,r5,ba (cuts_sub.trans x) r6,n,u,Y,t,gf,ok,Bd,hn,rfl,rfl,i.t x,a0,g.t (av x),al,ab,λH3 w t3 hT3 hN=>λH4 s4 hc=>q _ _ (gD (x.trans t3) s4 hc) (hT3.same s4) (hN.t (av s4.t))⟩⟩
end
open Nst (Lf)
open Tb (Tr fT bnd ci so pS tS)
def Cb{a:List (Str×Addr)}{x y z:Str}(h:a.map (·.1)=[x,y,z]):∃ p q r,a=[(x,p),(y,q),(z,r)]:=by
 match a,h with
 | [(x1,p),(y1,q),(z1,r)],h =>
  simp only[l_,GM,Jm,and_true]at h;obtain⟨rfl,rfl,rfl⟩:=h;exact⟨p,q,r,rfl⟩
def sf{P:hH}{w:lA}{K:Frag}{mg:Str->Option b_}{d:Heap}{A:m_}{b:List Env}{s:e_}{H:Hp}{a:List (Str×Addr)}{f:List V}{c T:Addr}{q:Str}(g:Env0 P w K mg d A b s H)(r:CellsAt H a f)(h:H c=some (.ext (bZ c q T))):untrs H (a.map (·.2)) c=some (.ext (bZ c q T)):=by
 rw[ay λz=>?_]
 .exact h
 .obtain⟨v,e⟩:=r.at z
  obtain⟨⟨o,u,p,k,_⟩,_⟩:=g.hok _ _ e;obtain⟨⟨⟨x,y,t,i,j,_⟩,_⟩,_⟩:=g.hok _ _ h;rw[p]at i;cases i;rw[k]at j;cases j
def yh{a:Ad}{H:Hp}{Bd:List Addr}(b:Bad H Bd){d:DefD}{j:List (Pos×Str)}{g:List Str}{f:V}{i:List V}(h:IsDT a H d j g f i):IsDT a (untrs H Bd) d j g f i:=by
 obtain⟨o,c,T,k,q,p,w,r,s,u,v⟩:=h;exact⟨o,c,T,k,q,aE b p (λ_ z=>nomatch z),aE b w (λ_ z=>nomatch z),r,s,u,bN b v⟩
section
variable {P:hH}{w:lA}{K:Frag}{mg:Str->Option b_}{base:Heap}{a:Ad}
def se0{k:Nat}{N:Nat}(h:N<2):eL P w K mg base k dd_L_joined_2 uu ["_law_one"] (yk a N):=λA d s H f c T g z q i Q E v x y B j o u r b=>by
 obtain⟨_,_,_,_,_,_,_,p,_⟩:=b;lia
def ot0{k:Nat}:LamOk P w K mg base k ld_in wm ["_law_other"] (Bn a 0):=λA d s H f c g y p h Q E u v x z i j q r b=>by
 obtain⟨_,_,_,_,_,_,_,_,_,o,_⟩:=b;lia
def yI(T:Txt K mg a)(hB:Bm mg base){k:Nat}(hk:14<=k)(bF:FnX P w base k T.W_k (spBe a 0)):eL P w K mg base (k+1) dd_L_joined_1 xj ["_law_one","_law_other"] (Ar a):=by
 have a5:FnO P w K mg base k (λvs H Q _=>spPour a vs H Q λ_ _ _=>False):=(iw (mO T hB)).mono (by lia);have S:FnO P w K mg base k (spFld a):=(uC T).mono (by lia);refine tj bs_L_joined_1 (λb' pm b5 b c us hl=>match us,hl with | [_,_],_=>rfl) (λTb b vals vs H Q E h=>?_) (λA outer s H f c Tb b vals vs Q E hr e0 hfv hnd ca hcT h=>?_)
 .obtain⟨R,L,Z,F,m,f,s,Bd,rfl,rfl,_⟩:=h;rfl
 .obtain⟨R,L,Z,F,m,I,s',Bd,rfl,rfl,bb,hC,O,h1,h2,n1,n2,hT,q⟩:=h
  obtain⟨b1,b2,b3,b4⟩:=c3b _ hC;have bt:sizeLine=16777216:=j_;refine⟨_,(ph (rE (i:=5) bs_L_joined_1.nd rfl (HK rfl) (au cE (bv eT rfl T.z_list dJ (aa (vr 0) ad)) (aV rfl (N:=["_law_place","_law_first"]) (ix:=[none,some 4]) aD (a6 (vr 1)) (aQ λC s H fp=>⟨bM 0 ["_law_place","_law_first"],aU,(au bY (vr 1) (vr 0))⟩)))) (ph (zm (d:=dd_in) (i:=6) bs_L_joined_1.nd rfl (uS rfl) (.inr rfl) rfl hB rfl (by with_unfolding_all rfl) rfl rfl rfl bb (.head _) T.tnd Bg) (pZ bs_L_joined_1 e0 ca bF hr rfl T.W_k.C T.W_k.A.kp T.W_k.B .nil (aa (pec a5 hr T.W_R (aa (pec S hr T.W_J (aa (vr 3) (aa (vr 4) ad))) (aa (pec S hr T.W_J (aa (vr 3) (aa (vr 2) ad))) ad))) (aa (vr 6) ad))))),?_⟩;have nc:=pj ca;have h1:=nc _ _ rfl h1;have h2:=nc _ _ rfl h2;have as:untrs H (b.map (·.2)) c=some (.ext (bZ c dd_L_joined_1.qual Tb)):=sf e0 ca hcT;have v:=cJ ca O;have bL:=TabsOk.untrs hT ca;have bk:∀{H8 H9:Hp},SameT (untrs H (b.map (·.2))) H8->Same H8 H9->(∀ p∈b,H9 p.2=H p.2)->SameT H H9:=λt s h=>gD t s h
  generalize untrs H (b.map (·.2))=U at *;refine⟨R,_,rfl,.inr (SqT.of h1),λl1 bm=>?_⟩;have s1:=Same.new (o:=.lst (Z.map V.int)) bm;have e1:=ac (H:=U) (a:=l1) (o:=.lst (Z.map V.int));generalize upd U l1 (.lst (Z.map V.int))=H1 at s1 e1;refine .inr ⟨⟨_,SqT.of (s1 _ _ h2)⟩,λD hD=>?_⟩
  let Pw1:PvL:=λi zs H'=>Same H1 H'/\H' D=some (.lst zs)/\i<=F.length/\zs=((F.take i).map λk=>(I:Int)+k).map V.int
  refine fg (K:=K) (a:=L) (xs:=F.map V.int) Pw1
   ⟨Same.new hD,ac,h_ _,rfl⟩ (λi ys H' h=>SqT.of (h.1 _ _ (s1 _ _ h2))) (λi ys H' h=>h.2.1) ?_ ?_
  .rintro i y zs H' P' hy ⟨X,bg,hi,rfl⟩ a3
   obtain⟨k,hk2,rfl⟩:∃ k,F[i]? = some k/\y=V.int k:=by
    rw[gb]at hy;obtain⟨k,e1,e2⟩:=EG.mp hy;exact⟨k,e1,e2.symm⟩
   have ah:i<F.length:=(fP.mp hk2).1;refine⟨⟨rfl,trivial⟩,bg,by rw[d_,d_,mx];lia,a3 _ _ ⟨X.put hD,ac,ah,?_⟩⟩;rw[oN,hk2,nv,nv];rfl
  rintro zs H2 ⟨X,M,hi,rfl⟩;rw[d_,oD]at M;refine⟨l1,D,_,_,rfl,rfl,X _ _ e1,M,(by rw[d_,d_,d_];lia),λlp W=>?_⟩;rw[<- nv]
  obtain⟨Pl,hPl⟩:∃ Pl,Pl=Z++F.map λk=>(I:Int)+k:=⟨_,rfl⟩
  rw[<- hPl];have s3:=Same.new (o:=.lst (Pl.map V.int)) W;have e3:=ac (H:=H2) (a:=lp) (o:=.lst (Pl.map V.int));generalize upd H2 lp (.lst (Pl.map V.int))=H3 at s3 e3;have B:=s1.trans (X.trans s3);have a':U lp=none:=(s1.trans X).free W;refine⟨⟨_,B _ _ as⟩,bL.same B,λfd cd H5 t5 a2 bS b0 bo a0=>?_⟩;have bl:=B.t.trans t5;refine⟨m,I,rfl,by lia,by lia,by lia,λH6 x h ts s6 al a1=>?_⟩;refine⟨m,s',rfl,by lia,by lia,by lia,λH7 y g br s7 Y ab=>?_⟩;have r:=s6.trans s7;have J:=bl.trans r.t;refine⟨x,h,y,g,m,I,m,s',ts,br,Bd,rfl,v.t J,al.same s7,Y,a1,ab,a2.same r,(λne=>absurd rfl ne),λ_ H8 u t8 hT8 hN=>?_⟩;intro H9 G bn bq b6;have an:=J.trans t8;have tA:=bk an G bn;have j:=O.t tA;refine⟨0,u,.ref fd,pT m I s',gT0 Pl,_,Bd,fS _,rfl,j,hN.t (av G.t),.told 0 lp Pl ⟨fd,cd,_,rfl,aE j (G _ _ (t8.at (r _ _ bo))) (λ_ z=>nomatch z),aE j (G _ _ (t8.at (r _ _ a0))) (λ_ z=>nomatch z),rfl,by simp,.cons (aE j (bq 5 _ _ _ rfl rfl (by with_unfolding_all rfl)) (λ_ z=>nomatch z)) .nil⟩ ?_ ?_,λkk hk=>?_,hT8.same G,λH10 w t10 hT10 hn=>?_⟩
  .exact bB v a' (G _ _ (t8.at (r _ _ (t5.at e3))))
  .rw[hPl,gV,d_];lia
  .have:=BL hC hk
   refine⟨this.1,λk hk=>?_⟩;have:=this.2 k hk;rw[hPl,gV,d_,n1,n2];exact this
  .rw[hPl]at hn
   exact q _ _ (tA.trans t10) hT10 hn
def sL(T:Txt K mg a)(hB:Bm mg base)(N:Nat){k:Nat}(o:eL P w K mg base k dd_L_joined_1 xj ["_law_one","_law_other"] (Ar a)):LamOk P w K mg base (k+1) ld_in wm ["_law_other"] (Bn a N):=by
 refine dB DS (λpm J j c us M=>match us,M with | [_],_=>rfl) (λvals vs H Q E h=>?_) (λA outer s H f c j vals vs Q E hr hfv ca h=>?_)
 .obtain⟨B,b,i,z,C,m,f,s,I,_,rfl,rfl,_⟩:=h;rfl
 .obtain⟨B,b,i,z,C,m,L,Y,I,_,rfl,rfl,O,u,Z,h2,n1,n2,d,S,q⟩:=h
  refine⟨_,(kZ (vr 1) (vQ o hr) (aa (vr 2) (aa (vr 0) ad))),?_⟩;have G:=pj ca
  have x:∀ v∈[B,V.ref b],∃ p,v=.ref p:=λv hv=>by
   rcases i_.mp hv with rfl | hv
   .obtain⟨g,_,_,_,e,_⟩:=d;exact⟨g,e⟩
   .rw[ir.mp hv];exact⟨_,rfl⟩
  obtain⟨g,F,Tb,y,rfl,D,W,X,k5,k6,R⟩:=oU ca x d;exact⟨⟨g,_,_,F,rfl,D⟩,g,F,Tb,y,_,rfl,D,W,k5,k6,R,b,i,z,C,m,L,Y,I,rfl,rfl,X,O,cJ ca u,G _ _ rfl Z,G _ _ rfl h2,n1,n2,TabsOk.untrs S ca,λH' w t' r hN=>λH3 s3 hc=>q _ _ (gD t' s3 hc) (r.same s3) (hN.t (av s3.t))⟩
def zy(T:Txt K mg a)(hB:Bm mg base)(N:Nat){k:Nat}(hk:5<=k)(ab:FnX P w base k T.W_k (spBe a 1)):eL P w K mg base (k+1) dd_L_joined_2 uu ["_law_one"] (yk a N):=by
 have S:FnO P w K mg base k (λvs H Q _=>spStd a vs H Q λ_ _ _=>False):=(iw (jr T hB)).mono (by lia);refine tj gR (λa1 pm a0 g c us hl=>match us,hl with | [_],_=>rfl) (λTb g vals vs H Q E h=>?_) (λA outer s H f c Tb g vals vs Q E hr e0 hfv hnd ca hcT h=>?_)
 .obtain⟨I,kt,M,m,f,s,Bd,_,rfl,rfl,_⟩:=h;rfl
 .obtain⟨I,kt,M,m,f',i,Bd,_,rfl,rfl,X,O,D,Z,n1,R,hT,q⟩:=h
  obtain⟨b1,b2,b3,b4⟩:=c3b _ O;obtain⟨c1,p,c3,rfl⟩:=Cb hfv;have F:H p=some (.ext (aZ p I)):=by cases ca with | cons _ t=>cases t with | cons r _=>exact r
  have a3:p<s.heap.objs.size:=by
   obtain⟨⟨o,u,g1,_⟩,_⟩:=e0.hok _ _ F;exact f_ g1
  refine⟨_,(pZ gR e0 ca ab hr rfl T.W_k.C T.W_k.A.kp T.W_k.B .nil (aa (pec S hr T.W_N (aa (vr 1) (aa (vr 3) ad))) (aa (xW (d:=ld_in) rfl hB rfl (by with_unfolding_all rfl) rfl X (.head _) T.tnd Bo) ad))),?_⟩;have nc:=pj ca;have Z:=nc _ _ rfl Z;have Y:=sf e0 ca hcT;have x:=cJ ca D;have al:=TabsOk.untrs hT ca;refine⟨.int (i:Nat),.int (m:Nat),.i i,.i m,Bd,rfl,x,.int _,.int _,al,λC G e1 e2 _ _ _ H1 u t1 W hN=>?_,λz=>?_⟩
  .injection e1 with e1
   injection e2 with e2
   obtain rfl:i=C:=by lia
   obtain rfl:m=G:=by lia
   refine⟨⟨_,t1.at Y⟩,W,λfl cl H2 t2 L a2 an ah=>?_⟩;intro H3 j v J as;have B:=t1.trans t2;have tA:SameT H H3:=gD B j v;have b:=D.t tA;have y:H3 p=some (.ext (aZ p I)):=by rw[<- F];exact v ("_law_poured",p) (by simp)
   refine⟨1,u,.ref fl,sT m i,gT1 m f' i M,_,Bd,fS _,rfl,b,hN.t (av (t2.trans j.t)),.other 0 I kt M m f' i O (bV b ⟨fl,cl,_,rfl,j _ _ an,j _ _ ah,rfl,?_,.cons y (.cons (J 0 _ _ _ rfl rfl (by with_unfolding_all rfl)) .nil)⟩) (aE b (j _ _ (B.at Z)) (λ_ z=>nomatch z)) n1 (yh b (R.t tA)),λkk hk=>Dc O hk,L.same j,λH10 w t10 hT10 hn=>q _ _ (tA.trans t10) hT10 hn⟩;simp only[l_,GM,sr,ir,He,not_false_eq_true,Ir,and_true];lia
  .rcases z with z | z
   .exact absurd (show inK 0 24 (.i (i:Int))=true from decide_eq_true ⟨by lia,by lia⟩) (by rw[z];decide)
   .exact absurd (show inK 1 24 (.i (m:Int))=true from decide_eq_true ⟨by lia,by lia⟩) (by rw[z];decide)
def Dl(T:Txt K mg a)(b:Bm mg base):FnX P w base 20 T.W_k (spBe a 2):=by
 have d:FnX P w base 15 T.W_k (spBe a 0):=lK T b 0 (by lia) (se0 (by lia)) ot0;have c:eL P w K mg base 16 dd_L_joined_1 xj ["_law_one","_law_other"] (Ar a):=yI T b (by lia) d;have g:FnX P w base 18 T.W_k (spBe a 1):=lK T b 1 (by lia) (se0 (by lia)) (sL T b 1 c);have f:eL P w K mg base 19 dd_L_joined_2 uu ["_law_one"] (yk a 2):=zy T b 2 (by lia) g;exact lK T b 2 (by lia) f (LamOk.mono (sL T b 2 c) (by lia))
def Ds(T:Txt K mg a)(b:Bm mg base):LamOk P w K mg base 21 bK fvB ["after"] (Aw a 2):=xS T b 2 (Dl T b)
def vc(T:Txt K mg a)(b:Bm mg base):LamOk P w K mg base 22 aB fvC [] (qw a 2):=vK T b 2 (by lia) (Ds T b)
end
open Nst (Lf)
open Tb (Tr fT bnd ci so pS tS)
def yn(a:Ad):List V->Sp:=λvals vs H Q _=>∃(va vt vr:V) (ahead taken:List Int) (m:Nat) (Bd:List Addr),vals=[.int (m:Nat),vt,vr,va]/\vs=[]/\Bad H Bd/\LsT (untrs H Bd) va ahead/\LsT (untrs H Bd) vt taken/\LsT (untrs H Bd) vr (ahead.drop 1)/\(0<m/\m<ahead.length/\ahead.length+taken.length<=24)/\TabsOk (tabs a) H/\Rq a 0 H Bd (fT (ahead.drop 1) (m - 1) (taken++ahead.take 1)) Q
def yg(a:Ad):List V->Sp:=λvals vs H Q _=>∃(vt vr:V) (rest taken:List Int) (m:Nat) (Bd:List Addr),vals=[.int (m:Nat),vt,vr]/\vs=[]/\Bad H Bd/\LsT (untrs H Bd) vt taken/\LsT (untrs H Bd) vr rest/\rest.length+taken.length<=24/\TabsOk (tabs a) H/\Rq a 0 H Bd (fT rest m taken) Q
def ip{H:Hp}{Bd:List Addr}{a:List (Str×Addr)}{c:List V}(f:Bad H Bd)(g:CellsAt H a c):NC (untrs H Bd) (untrs (untrs H (a.map (·.2))) Bd):=λb o d e=>by
 rw[bH];exact pj (bN f g) b o d e
def rMq(a:Ad)(f:V)(H:Hp)(Q:VK):Prop:=ke aO fvP (ud a) f [] H Q\/ke aP fvP (uq a) f [] H Q\/pD ld_going_1 fvG (uZ a) f [] H Q\/ke aF fvH (mF a) f [] H Q\/ke bE fv1 (yn a) f [] H Q\/ke bD fv2 (yg a) f [] H Q\/ke aB fvC (qw a 2) f [] H Q
def lN{a:Ad}{H:Hp}{Bd:List Addr}{f:V}{t:Tr}{Q:VK}:∀{n:Nat},n<=3->IsMq a n (untrs H Bd) f t->Bad H Bd->TabsOk (tabs a) H->Rq a 3 H Bd t Q->rMq a f H Q
 | 0,hn,h,bad,hT,q=>by
  rcases h with h | ⟨C,v,u,B,x,m,⟨d,c,j,rfl,p,g,i,o,k⟩,r,b,s,w,rfl⟩ | ⟨v,u,F,x,m,⟨d,c,j,rfl,p,g,i,o,k⟩,r,b,s,rfl⟩
  .rcases sH h bad hT q.res with z | z | z | z
   .exact .inl z
   .exact .inr (.inl z)
   .exact .inr (.inr (.inl z))
   .exact .inr (.inr (.inr (.inl z)))
  .exact .inr (.inr (.inr (.inr (.inl ⟨d,c,j,_,rfl,(ak p).2,(ak g).2,i,o,ba cuts_sub k,C,v,u,B,x,m,Bd,rfl,rfl,bad,r,b,s,w,hT,q.up (by lia)⟩))))
  .exact .inr (.inr (.inr (.inr (.inr (.inl ⟨d,c,j,_,rfl,(ak p).2,(ak g).2,i,o,ba cuts_sub k,v,u,F,x,m,Bd,rfl,rfl,bad,r,b,s,hT,q.up (by lia)⟩)))))
 | n+1,hn,h,bad,hT,q=>by
  rcases h with h | ⟨m,E,A,G,D,y,⟨d,c,j,rfl,p,g,i,o,k⟩,r,b,s,w,rfl⟩
  .exact lN (by lia) h bad hT q
  .exact .inr (.inr (.inr (.inr (.inr (.inr ⟨d,c,j,_,rfl,(ak p).2,(ak g).2,i,o,ba cuts_sub k,n,m,E,A,G,D,y,Bd,by lia,rfl,rfl,bad,r,b,s,w,hT,q.up (by lia)⟩)))))
def PrQ(a:Ad)(n:Nat)(H:Hp)(p:Int×Tr)(r:Int×V):Prop:=p.1=r.1/\1<=p.1/\IsMq a n H r.2 p.2
def n4{a:Ad}{n:Nat}{H:Hp}{v:V}{b:List Int}(h:IsNq a n H v (.leaf b)):IsTold a H v b:=h
def i6{a:Ad}{n:Nat}{H:Hp}{v:V}{ps:List (Int×Tr)}(h:IsNq a n H v (.die ps)):∃ rs,IsRaw a H v rs/\Paired (PrQ a n H) ps rs:=by
 obtain⟨x,j,l,b,rfl,k,C,A,o,p⟩:=h
 have c:∀{ps:List (Int×Tr)}{b:List V},Paired (NqR a n H) ps b->∃ rs:List (Int×V),Paired (RawR H) rs b/\Paired (PrQ a n H) ps rs:=by
  intro ps b h
  induction h with
  | nil=>exact⟨[],.nil,.nil⟩
  | @cons pt y ps b r _ ih =>
   obtain⟨rs,z,u⟩:=ih;obtain⟨w,f,i,B,g,s⟩:=r;exact⟨(pt.1,f)::rs,.cons ⟨w,i,B,g⟩ z,.cons ⟨rfl,g,s⟩ u⟩
 obtain⟨rs,q,d⟩:=c A;have:rs.length=ps.length:=d.length.symm;exact⟨rs,⟨x,j,l,b,rfl,k,C,q,by lia,by lia⟩,d⟩
def j5{a:Ad}{n:Nat}{H:Hp}{ps:List (Int×Tr)}{b:List (Int×V)}(h:Paired (PrQ a n H) ps b):xz b=Tb.tot ps:=by
 induction h with
 | nil=>rfl
 | cons r _ ih =>
  unfold xz Tb.tot at *;rw[l_,l_,Ez,Ez,ih,r.1]
def PartN(a:Ad)(H:Hp)(pt:Int×Tr)(z:V):Prop:=∃ q u,z=.ref q/\H q=some (.tup [.int pt.1,u])/\IsNq a 3 H u pt.2
def PartN.t{a:Ad}{H H':Hp}(s:SameT H H')(b:Int×Tr)(z:V)(h:PartN a H b z):PartN a H' b z:=by
 obtain⟨q,u,d,f,c⟩:=h;exact⟨q,u,d,s.at f,c.t s⟩
def Cq(a:Ad):Sp:=λvs H Q _=>∃ v ps Bd,vs=[v]/\Bad H Bd/\IsNq a 3 (untrs H Bd) v (.die ps)/\TabsOk (tabs a) H/\∀ H' D zs,SameT H H'->TabsOk (tabs a) H'->H D=none->H' D=some (.lst zs)->Paired (PartN a (untrs H' Bd)) ps zs->Q (.ref D) H'
section
variable {P:hH}{w:lA}{K:Frag}{mg:Str->Option b_}{base:Heap}{a:Ad}
def zR(T:Txt K mg a)(hB:Bm mg base):LamOk P w K mg base 4 bE fv1 [] (yn a):=by
 refine dB ls1 (λpm X g c us hl=>match us,hl with | [],_=>rfl) (λvals vs H Q E h=>?_) (λA outer s H f c g vals vs Q E hr hfv ca h=>?_)
 .obtain⟨va,vt,x,b,d,m,W,rfl,rfl,_⟩:=h;rfl
 .obtain⟨va,vt,x,b,d,m,W,rfl,rfl,j,hA,C,hR,⟨m0,m1,R⟩,hT,q⟩:=h
  have B:sizeLine=16777216:=j_;refine⟨_,(pec (xn T hB) hr T.W_u (aa (vr 2) (aa (au fH (vr 0) am) (aa (au cE (vr 1) (cv vz (vr 3) eS (cu am))) ad)))),?_⟩;have L:=hA.n (ip j ca);have z:=C.n (ip j ca);have J:=hR.n (ip j ca);have k:=cJ ca j;have I:=TabsOk.untrs hT ca;obtain⟨la,rfl,p⟩:=L;have p:=(ak p).2;obtain⟨Z,rfl,r⟩:=id z;have r:=(ak r).2;refine⟨_,rfl,.inl ⟨_,SqL.of p,λF f1=>?_⟩⟩;have Y:b8 (b.map V.int) none (some 1)=(b.take 1).map V.int:=by rw[Kz];exact gq _ 1 (by rw[d_];lia)
  rw[Y];have y:=Same.new (o:=.lst ((b.take 1).map V.int)) f1;have O:=ac (H:=untrs H (g.map (·.2))) (a:=F) (o:=.lst ((b.take 1).map V.int));generalize upd (untrs H (g.map (·.2))) F (.lst ((b.take 1).map V.int))=H1 at y O;refine⟨Z,F,_,_,rfl,rfl,y _ _ r,O,(by rw[d_,d_,mx];lia),λv N=>?_⟩;rw[<- nv];have M:=Same.new (o:=.lst ((d++b.take 1).map V.int)) N;have S:=ac (H:=H1) (a:=v) (o:=.lst ((d++b.take 1).map V.int));generalize upd H1 v (.lst ((d++b.take 1).map V.int))=H2 at M S;have i:=y.trans M;refine⟨x,.ref v,b.drop 1,d++b.take 1,m - 1,W,?_,k.t i.t,J.t (av i.t),⟨v,rfl,bB k (y.free N) S⟩,?_,I.same i,λH' u t' D G=>λH3 s3 hc=>?_⟩
  .show [x,V.int ((m:Int) - 1),V.ref v]=[x,V.int ((m - 1:Nat):Int),V.ref v]
   rw[show((m:Int) - 1)=((m - 1:Nat):Int) by lia]
  .rw[gV,Fn,mx];lia
  .exact q _ _ (gD (i.t.trans t') s3 hc) (D.same s3) (G.t (av s3.t))
def zP(T:Txt K mg a)(F:Bm mg base):LamOk P w K mg base 4 bD fv2 [] (yg a):=by
 refine dB ls2 (λM B j c G C=>match G,C with | [],_=>rfl) (λvals vs H Q E h=>?_) (λA outer s H f c j vals vs Q E hr hfv ca h=>?_)
 .obtain⟨y,x,d,b,m,z,rfl,rfl,_⟩:=h;rfl
 .obtain⟨y,x,d,b,m,z,rfl,rfl,g,o,I,i,D,q⟩:=h
  refine⟨_,(pec (xn T F) hr T.W_u (aa (vr 2) (aa (vr 0) (aa (vr 1) ad)))),?_⟩;have k:=o.n (ip g ca);have v:=I.n (ip g ca);exact⟨x,y,d,b,m,z,rfl,cJ ca g,v,k,i,TabsOk.untrs D ca,λL u J p r=>λH3 s3 hc=>q _ _ (gD J s3 hc) (p.same s3) (r.t (av s3.t))⟩
def Cz(T:Txt K mg a)(J:Bm mg base):MnX P w mg base 24 T.W_L (Cq a):=by
 have W:LamOk P w K mg base 23 aO fvP [] (ud a):=LamOk.mono (vZ T J) (by decide);have O:LamOk P w K mg base 23 aP fvP [] (uq a):=LamOk.mono (wN T J) (by decide);have al:LamOkC P w K mg base 23 ld_going_1 fvG [] (uZ a):=LamOkC.mono (w6 T J) (by decide);have r:LamOk P w K mg base 23 aF fvH [] (mF a):=LamOk.mono (qB T J) (by decide);have an:LamOk P w K mg base 23 bE fv1 [] (yn a):=LamOk.mono (zR T J) (by decide);have S:LamOk P w K mg base 23 bD fv2 [] (yg a):=LamOk.mono (zP T J) (by decide);have B:LamOk P w K mg base 23 aB fvC [] (qw a 2):=LamOk.mono (vc T J) (by decide);refine T.W_L.A.ok nF (λvs H Q E h=>?_) (λcdv A outer s H vs Q E hr h=>?_)
 .obtain⟨v,L,Bd,rfl,_⟩:=h;rfl
 .obtain⟨v,L,Bd,rfl,bn,bo,hT,q⟩:=h
  have bg:sizeLine=16777216:=j_;obtain⟨rs,⟨x,dx,l,G,rfl,hx,hl,j,br,bt⟩,Y⟩:=i6 bo;have rl:rs.length=L.length:=Y.length.symm;have bm:G.length=rs.length:=j.length.symm;have hx:=(ak hx).2;have hl:=(ak hl).2;refine⟨_,(ag (ao (aV rfl (N:=["many","make"]) (ix:=[none,none]) aD (a6 (bG (vr 0) rfl)) (aQ λC s H fp=>⟨(gh (K:=K) (n:=2) rfl rfl (gz ["many","make"])),aU,(bh (aa (vr 0) (aa (PE.or (aY (vr 1) W hr) (PE.or (aY (vr 1) O hr) (PE.or (eJ (vr 1) al hr) (PE.or (aY (vr 1) r hr) (PE.or (aY (vr 1) an hr) (PE.or (aY (vr 1) S hr) (aY (vr 1) B hr))))))) ad)))⟩)))),?_⟩;refine⟨x,_,dx,_,_,rfl,hx,T.cl_n,T.na_Die_makes,rfl,.inl ⟨⟨_,SqL.of hl⟩,λD X=>?_⟩⟩;have ext:∀{d:Hp},TabsOk (tabs a) d->∀{G:List V}{R:List V},d D=some (.lst G)->TabsOk (tabs a) (upd d D (.lst R)):=λa' G R e=>a'.put (λL z=>by rw[e]at z;cases z) λφ z=>by rw[e]at z;cases z
  let Pw1:PvL:=λi p d=>SameT H d/\TabsOk (tabs a) d/\d D=some (.lst p)/\i<=L.length/\Paired (PartN a (untrs d (D::Bd))) (L.take i) p
  refine a8 (K:=K) (a:=l) (xs:=G) Pw1
   ⟨(Same.new X).t,hT.same (Same.new X),ac,h_ _,.nil⟩ (λi G d h=>SqL.of (h.1.at hl)) (λi G d h=>h.2.2.1) ?_ ?_
  .rintro i y p d P' hy ⟨M,I,g,hi,hc⟩ a1
   obtain⟨⟨ab,f⟩,bq,q1,rfl,F,m0⟩:=aK j hy;obtain⟨⟨c,t⟩,ah,e9,_,a2⟩:=aK Y bq;have e9:c=ab:=e9;subst e9;have F:=(ak F).2;have a5:i<L.length:=(fP.mp ah).1
   have k:Bad d (D::Bd):=λb hb=>by
    rcases i_.mp hb with rfl | hb
    .exact⟨_,g⟩
    .exact bn.t M b hb
   refine⟨q1,_,rfl,SqT.of (M.at F),rfl,_,_,rfl,_,_,rfl,rfl,trivial,?_⟩;refine lN (fS 3) (a2.t (iS M X)) k I λH2 u t2 a3 hu=>?_
   have bl:=t2.at g;refine⟨by show 2<=sizeLine;decide,λq2 bb=>?_⟩;have s3:=Same.new (o:=.tup [.int c,u]) bb;have as:=s3 _ _ bl;have yl:p.length<=5000:=by rw[<- hc.length,mx];lia
   have a0:=(M.trans t2).trans s3.t;have Z:=(k.t t2).t s3.t;have c3:SameT (untrs H2 (D::Bd)) (untrs (upd (upd H2 q2 (.tup [.int c,u])) D (.lst (p++[.ref q2]))) (D::Bd)):=(av s3.t).trans (cD gT);refine⟨as,by lia,a1 _ _ ⟨a0.put X,ext (a3.same s3) as,ac,a5,a7 (aj (PartN.t ((av t2).trans c3)) hc) ah ⟨q2,u,rfl,?_,hu.t c3⟩⟩⟩;exact(cD (o:=.lst (p++[.ref q2])) gT).at (aE Z ac (λ_ z=>nomatch z))
  .rintro p d ⟨M,I,g,hi,hc⟩
   rw[bm,rl,oD]at hc;exact q d D p M I X g (aj (PartN.t iL) hc)
end
end My
namespace My
open PySem L2 FrM
open Tb (Tr Ent Way bnd ci Dk Dks)
def Cg{H H':Hp}{D:Addr}(s:SameT H H')(h:H D=none):SameT H (untr H' D):=⟨λb o e=>by
 rw[aA (ai e h)]
 exact s.old b o e,λb o e=>by
 rw[aA (ai e h)]
 exact s.gr b o e⟩
def bd(d:Nat):Nat:=43*(24 - d)+2
def EntR(a:Ad)(H:Hp)(e:Ent)(y:V):Prop:=∃ q v d,y=.ref q/\H q=some (.tup [v,.int e.2.1,.int e.2.2])/\IsNq a 3 H v e.1/\Dk d e.1/\d<=24/\Bt (bd d) e.2.1/\Bt (bd d) e.2.2/\0<e.2.2
def EntR.t{a:Ad}{H H':Hp}(s:SameT H H')(e:Ent)(y:V)(h:EntR a H e y):EntR a H' e y:=by
 obtain⟨q,v,d,f,g,b,c⟩:=h;exact⟨q,v,d,f,s.at g,b.t s,c⟩
def WayR(H:Hp)(w:Way)(y:V):Prop:=∃ q kt ct ns,y=.ref q/\H q=some (.tup [.ref kt,.ref ct])/\H kt=some (.tup (ns.map V.int))/\Srt ns w.1/\H ct=some (.tup [.int w.2.1,.int w.2.2])/\Bt 1100 w.2.1/\Bt 1100 w.2.2/\0<w.2.2
def WayR.t{H H':Hp}(s:SameT H H')(w:Way)(y:V)(h:WayR H w y):WayR H' w y:=by
 obtain⟨q,a,j,c,k,f,b,i,d,g⟩:=h;exact⟨q,a,j,c,k,s.at f,s.at b,i,s.at d,g⟩
def RefMT(a:Ad)(H:Hp)(E:XK):Prop:=∀ H',SameT H H'->TabsOk (tabs a) H'->E (.ref a.c_E) none H'
def wQ(a:Ad):Sp:=λvs H Q E=>∃ v d t,vs=[v]/\IsNq a 3 H v t/\Dk d t/\d<=24/\Tb.Ok t/\TabsOk (tabs a) H/\(Tb.lv t<=4096->∀ H' l zs,SameT H H'->TabsOk (tabs a) H'->H l=none->H' l=some (.lst zs)->Paired (WayR H') (Tb.wl t 1 1) zs->Q (.ref l) H')/\(4096<Tb.lv t->RefMT a H E)
def cut2(H:Hp)(l m:Addr):Hp:=untrs H [l,m]
def ia{H:Hp}{l m b:Addr}{o:HO}(h:cut2 H l m b=some o):b≠l/\b≠m/\H b=some o:=by
 obtain⟨n,e⟩:=ak h;exact⟨λz=>n (by rw[z];simp),λz=>n (by rw[z];simp),e⟩
def iF{H:Hp}{l m b:Addr}{o:HO}(a:b≠l)(c:b≠m)(h:H b=some o):cut2 H l m b=some o:=by
 unfold cut2;rw[ay (by simp[a,c])];exact h
def SameT.cut2{H H':Hp}{l m:Addr}(s:SameT H H'):SameT (cut2 H l m) (My.cut2 H' l m):=av s
def qG{H:Hp}{l m:Addr}{o:HO}:SameT (cut2 H l m) (cut2 (upd H l o) l m):=cD (by simp)
def AW{H:Hp}{l m:Addr}{o:HO}:SameT (cut2 H l m) (cut2 (upd H m o) l m):=cD (by simp)
def p6{H:Hp}{l m:Addr}:SameT (cut2 H l m) H:=cuts_sub
def Am{H H':Hp}{l m:Addr}(s:SameT H H')(c:H l=none)(d:H m=none):SameT H (cut2 H' l m):=by
 have a:∀{b o},H b=some o->b ∉ [l,m]:=λ{b o} e z=>by
  rcases i_.mp z with z | z
  .rw[z,c]at e;cases e
  .rw[ir.mp z,d]at e;cases e
 exact⟨λb o e=>by unfold cut2;rw[ay (a e)];exact s.old b o e,λb o e=>by unfold cut2;rw[ay (a e)];exact s.gr b o e⟩
def jk{d c:Type}{r:d->c->Prop}:∀{as:List d}{bs:List c},Paired r as bs->bs≠[]->∃ as' a bs' b,as=as'++[a]/\bs=bs'++[b]/\Paired r as' bs'/\r a b
 | _,_,.nil,h=>absurd rfl h
 | _,_,.cons (a:=a) (b:=b) x (.nil),_=>⟨[],_,[],_,rfl,rfl,.nil,x⟩
 | _,_,.cons x (.cons y t),_=>by
  obtain⟨as',a,bs',b,g,j,i,f⟩:=jk (.cons y t) (by simp);exact⟨_::as',a,_::bs',b,by rw[g];rfl,by rw[j];rfl,.cons x i,f⟩
def uM{H:Hp}{l m b:Addr}(h:H b=none):cut2 H l m b=none:=by
 cases e:cut2 H l m b with
 | none=>rfl
 | some o=>rw[(ia e).2.2]at h;cases h
def wU{H:Hp}{l m D:Addr}{o:HO}:SameT (untr (cut2 H l m) D) (untr (cut2 (upd H D o) l m) D):=Same.t λb a e=>by
 by_cases hb:b=D
 .rw[hb,bX]at e;cases e
 .rw[aA hb]at e
  obtain⟨c,d,h⟩:=ia e;have:untr (cut2 (upd H D o) l m) D b=some a:=by rw[aA hb];exact iF c d (by rw[ae hb];exact h)
  exact this
def mr{b a:Type}{r:b->a->Prop}{c:List b}{ds:List a}(d:Paired r c ds):∀{as:List b}{bs:List a},Paired r as bs->Paired r (as++c) (bs++ds)
 | _,_,.nil=>d
 | _,_,.cons x t=>.cons x (mr d t)
def qS:∀{d:Nat}{ps:List (Int×Tr)},Dks d ps->(ps.length:Int)<=Tb.tot ps/\Tb.tot ps<=(ps.length:Int)*1000000000
 | _,[],_=>by simp[Tb.tot]
 | d,(m,u)::r,h=>by
  rw[Tb.Dks]at h;have b:=qS h.2.2.2;have c:=h.1;have f:=h.2.1;have a:Tb.tot ((m,u)::r)=m+Tb.tot r:=by unfold Tb.tot;rw[l_,Ez]
  rw[a,py];have e:((r.length+1:Nat):Int)*1000000000=(r.length:Int)*1000000000+1000000000:=by rw[KL,Int.add_mul];simp
  rw[e];show((r.length+1:Nat):Int)<=m+_/\m+_<=_;lia
section
variable {P:hH}{w:lA}{K:Frag}{mg:Str->Option b_}{base:Heap}{a:Ad}
def yr(T:Txt K mg a)(hB:Bm mg base):FnOk P w K mg base (CXG P w) 26 a.f_F a.d_F ["node"] (wQ a):=by
 have ep:FnO P w K mg base 25 (spV (.bl true)):=(rY T).mo;have en:FnO P w K mg base 25 (spV (.bl false)):=(sX T).mo;have ea:FnO P w K mg base 25 (zh a):=(vm T).mo;have ef:FnO P w K mg base 25 (spV .non):=(vk T).mo;have dy:FnO P w K mg base 25 (spV (.int 0)):=(xg T).mo;have dz:FnO P w K mg base 25 (y8 a):=(wj T).mo;have dL:FnO P w K mg base 25 De:=(Ck T).mo;have ec:FnO P w K mg base 25 (Cq a):=(Cz T hB).mo;refine T.W_F.A.okG sc_F (λvs H Q E h=>?_) (λcdv A outer s H vs Q E hr h=>?_)
 .obtain⟨v,d,t,rfl,_⟩:=h;rfl
 .obtain⟨v,d,t,rfl,hn,ei,hd,em,hT,q1,q2⟩:=h
  have ej:sizeLine=16777216:=j_;refine⟨_,(af (psl 1 sc_F (bC ad)) (af (psl 2 sc_F (bC (aa (bh (aa (vr 0) (aa am (aa am ad)))) ad))) (af (iE vB (qg (vr 2) (λ_=>rfl)) (af (qU (pe_m.pop (vr 2)) (gZ rfl (aW (aN (i:=3) sc_F.nd rfl (uS rfl)) (aW (aN (i:=4) sc_F.nd rfl (HK rfl)) (aW (aN (i:=5) sc_F.nd rfl (HK rfl)) dM))))) (af (bc (dh (PE.or (ar (vr 3) T.cl_i T.mt_e ep hr T.W_e.B .nil ax) (ar (vr 3) T.cl_n T.mt_h en hr T.W_h.B .nil ax))) (ag (bR (pe_m.append (vr 1) (aa (bh (aa (PE.or (ar (vr 3) T.cl_i T.mt_p ea hr T.W_p.B .nil ax) (ar (vr 3) T.cl_n T.mt_r ef hr T.W_r.B .nil ax)) (aa (bh (aa (vr 4) (aa (vr 5) ad))) ad))) ad)))) (af (psr 6 sc_F (PE.or (ar (vr 3) T.cl_i T.mt_t dy hr T.W_t.B .nil ax) (ar (vr 3) T.cl_n T.mt_A dz hr T.W_A.B .nil ax))) (ag (bR (pe_m.extend (vr 2) (aa (aV rfl (N:=["many","after","top","bottom","sides"]) (ix:=[none,none,some 4,some 5,some 6]) aD (a6 (PE.or (ar (vr 3) T.cl_i T.mt_I dL hr T.W_I.B .nil ax) (ar (vr 3) T.cl_n T.mt_L ec hr T.W_L.B .nil ax))) (aQ λC s H fp=>⟨(gh (K:=K) (n:=2) rfl rfl (gz ["many","after","top","bottom","sides"])),aU,(bh (aa (vr 1) (aa (au cO (vr 2) (vr 0)) (aa (au cO (vr 3) (vr 4)) ad))))⟩)) ad)))))) (ag (bc (bO AY (au bY (aw aC rfl T.z_len bp (aa (vr 1) ad)) (aw aC rfl T.z_len bp (aa (vr 2) ad))) (iK rfl T.g_MOST_WAYS) (aX _)) (ag (cI T.xc_E T.xh_E (gv T.xi_TooMany T.kc_TooMany rfl T.mc_E))) aG))))) (ag (ao (vr 1)))))),mn ?_⟩;intro e2 ey e1;refine⟨h_ _,λj bn=>?_⟩;have u1:=Same.new (o:=.lst []) bn;refine⟨by show 3<=sizeLine;decide,λq0 b'=>?_⟩;have u2:=Same.new (o:=.tup [v,.int 1,.int 1]) b';refine⟨by show 1<=sizeLine;decide,λg ah=>?_⟩;have u3:=Same.new (o:=.lst [.ref q0]) ah;have ck:=(u1.trans u2).trans u3;have X:=(u2.trans u3) _ _ (ac (H:=H) (a:=j) (o:=.lst []));have co:=u3 _ _ (ac (H:=upd H j (.lst [])) (a:=q0) (o:=.tup [v,.int 1,.int 1]));have L:=ac (H:=upd (upd H j (.lst [])) q0 (.tup [v,.int 1,.int 1])) (a:=g) (o:=.lst [.ref q0]);have as:H g=none:=(u1.trans u2).free ah
  have dv:q0≠g:=λz=>by rw[<- z,ac]at ah;cases ah
  have dV:q0≠j:=λz=>by rw[z,ac]at b';cases b'
  have cj:j≠g:=λz=>by rw[<- z,u2 _ _ (ac (H:=H) (a:=j) (o:=.lst []))]at ah;cases ah
  have c9:Bt (bd d) 1:=(show Bt 2 1 by unfold Bt;decide).mono (by unfold bd;lia)
  let Pw2:PvS:=λc σ W=>∃(s:List Ent) (k:List Way) (ys B:List V) (x3 x4 x5 x6:Option V),c=Tb.stS s/\SameT H W/\TabsOk (tabs a) W/\W g=some (.lst ys)/\W j=some (.lst B)/\Paired (EntR a (cut2 W g j)) s ys/\Paired (WayR (cut2 W g j)) k B/\Tb.Wk t k s/\k.length+s.length<=4096/\σ=[some v,some (.ref j),some (.ref g),x3,x4,x5,x6]
  refine⟨Pw2,
   ⟨_,[(t,(1,1))],[],[.ref q0],[],none,none,none,none,rfl,ck.t,hT.same ck,L,X,.cons ⟨q0,v,d,rfl,iF dv dV co,hn.t (Am ck.t as bn),ei,hd,c9,c9,Int.zero_lt_one⟩ .nil,.nil,Tb.Wk.start em,(show 0+1<=4096 by decide),rfl⟩,?_⟩
  clear X co L;rintro c σ W ⟨s,k,ys,B,x3,x4,x5,x6,rfl,t1,cR,a1,c',hE,bg,hW,R,rfl⟩;refine⟨_,.inl ⟨_,SqL.of a1,rfl⟩,?_⟩;refine ifB (λhc=>?_) (λhc=>?_)
  .refine⟨_,λ_ _ h=>h,?_⟩
   have ne:ys≠[]:=λz=>by rw[z]at hc;cases hc
   obtain⟨s',e,f,y,rfl,rfl,b5,q,v1,d1,rfl,hq,er,F,ev,b1,b2,b0⟩:=jk hE ne;obtain⟨u,tp,Z⟩:=e;obtain⟨dT,ex,ek⟩:=ia hq;refine⟨.inl ⟨rfl,_,SqL.of a1⟩,⟨g,_,_,rfl,rfl,a1,by simp;rfl,?_⟩⟩;have ed:(f++[V.ref q]).dropLast=f:=List.dropLast_concat;have t2:SameT H (upd W g (.lst (f++[V.ref q]).dropLast)):=t1.put as;have cf:TabsOk (tabs a) (upd W g (.lst (f++[V.ref q]).dropLast)):=cR.put (λr z=>by rw[a1]at z;cases z) λφ z=>by rw[a1]at z;cases z
   have S:(upd W g (.lst (f++[V.ref q]).dropLast)) g=some (.lst f):=by rw[ac,ed]
   have M:(upd W g (.lst (f++[V.ref q]).dropLast)) j=some (.lst B):=by rw[ae cj];exact c'
   have de:(upd W g (.lst (f++[V.ref q]).dropLast)) q=some (.tup [v1,.int tp,.int Z]):=by rw[ae dT];exact ek
   have c2:SameT (cut2 W g j) (cut2 (upd W g (.lst (f++[V.ref q]).dropLast)) g j):=qG;refine⟨q,_,rfl,SqT.of de,rfl,_,_,rfl,_,_,rfl,_,_,rfl,rfl,?_⟩;generalize upd W g (.lst (f++[V.ref q]).dropLast)=H2 at t2 cf S M de c2;have cy:=aj (EntR.t c2) b5;have bL:=aj (WayR.t c2) bg;have ca:=er.t c2;cases u with
   | leaf ns =>
    obtain⟨x,dx,kt,d0,rfl,hx,cx,hs⟩:=n4 ca;have ab:=(ia hx).2.2;have et:=(ia cx).2.2;refine .inl ⟨x,dx,_,rfl,ab,rfl,_,rfl,?_⟩;refine⟨.inl ⟨rfl,_,SqL.of M⟩,.inl ⟨x,dx,_,rfl,ab,rfl,x,dx,kt,rfl,ab,?_⟩⟩;have bF:bd d1<=1100:=by unfold bd;lia
    have zl:B.length=k.length:=bg.length.symm;have yl:f.length=s'.length:=b5.length.symm;have c3:k.length+(s'.length+1)<=4096:=by rw[gV]at R;exact R
    refine⟨by show 2<=sizeLine;decide,λct a5=>?_⟩;have n1:=Same.new (o:=.tup [.int tp,.int Z]) a5;refine⟨by show 2<=sizeLine;decide,λp fp=>?_⟩;have n2:=Same.new (o:=.tup [.ref kt,.ref ct]) fp;have an:=n1.trans n2;have br:=n2 _ _ (ac (H:=H2) (a:=ct) (o:=.tup [.int tp,.int Z]));have cW:=ac (H:=upd H2 ct (.tup [.int tp,.int Z])) (a:=p) (o:=.tup [.ref kt,.ref ct]);have ds:ct≠g:=λz=>by rw[z,S]at a5;cases a5
    have cT:ct≠j:=λz=>by rw[z,M]at a5;cases a5
    have eq:p≠g:=λz=>by rw[z,n1 _ _ S]at fp;cases fp
    have cP:p≠j:=λz=>by rw[z,n1 _ _ M]at fp;cases fp
    generalize upd (upd H2 ct (.tup [.int tp,.int Z])) p (.tup [.ref kt,.ref ct])=H4 at an br cW;have I:=an _ _ M;have G:(upd H4 j (.lst (B++[.ref p]))) g=some (.lst f):=by rw[ae (A_ cj)];exact an _ _ S
    have c4:SameT (cut2 H2 g j) (cut2 (upd H4 j (.lst (B++[.ref p]))) g j):=(SameT.cut2 an.t).trans AW;have cA:TabsOk (tabs a) (upd H4 j (.lst (B++[.ref p]))):=(cf.same an).put (λr z=>by rw[I]at z;cases z) λφ z=>by rw[I]at z;cases z
    have t5:SameT H (upd H4 j (.lst (B++[.ref p]))):=(t2.trans an.t).put bn;have bq:=c4.at cx;have b4:cut2 (upd H4 j (.lst (B++[.ref p]))) g j ct=some (.tup [.int tp,.int Z]):=iF ds cT (by rw[ae cT];exact br);have c1:cut2 (upd H4 j (.lst (B++[.ref p]))) g j p=some (.tup [.ref kt,.ref ct]):=iF eq cP (by rw[ae cP];exact cW);refine⟨j,B,_,rfl,rfl,I,by lia,?_⟩;have Y:=ac (H:=H4) (a:=j) (o:=.lst (B++[.ref p]));generalize upd H4 j (.lst (B++[.ref p]))=O at G c4 cA t5 bq b4 c1 Y;refine⟨_,.inl (SqL.of Y),⟨_,.inl (SqL.of G),?_⟩⟩;have ll:((B++[V.ref p]).length:Int)+(f.length:Int)<=4096:=by rw[gV,Gv];lia
    refine ifC (λz=>absurd (show(4096:Int)<((B++[V.ref p]).length:Int)+(f.length:Int) from z) (by lia)) λ_=>?_
    refine⟨Tb.stS s',?_,s',k++[(ns,(tp,Z))],f,B++[.ref p],_,_,_,_,rfl,t5,cA,G,Y,aj (EntR.t c4) cy,dI ⟨p,kt,ct,d0,rfl,c1,bq,hs,b4,b1.mono bF,b2.mono bF,b0⟩ (aj (WayR.t c4) bL),hW.leaf,?_,rfl⟩
    .rw[Tb.stS_app,Tb.stS,Tb.stS,Tb.sz];lia
    .rw[gV,Gv];lia
   | die r =>
    obtain⟨rs,cg,dp⟩:=i6 ca;have a3:=cg.t p6;obtain⟨x,dx,l,mk,rfl,ab,eR,_⟩:=id a3
    obtain⟨d',rfl⟩:∃ d',d1=d'+1:=by
     cases d1 with
     | zero=>rw[Tb.Dk]at F;exact F.elim
     | succ d'=>exact⟨d',rfl⟩
    rw[Tb.Dk]at F;refine .inr ⟨x,dx,_,rfl,ab,rfl,_,rfl,?_⟩;have cs:Tb.Ok (.die r):=hW.ok _ (li _ gT);rw[Tb.Ok]at cs;refine .inr ⟨x,dx,_,rfl,ab,rfl,.ref x,rs,rfl,a3,λH3 n3=>?_⟩;rw[j5 dp];have L:=n3 _ _ S;have X:=n3 _ _ M;refine⟨.inl ⟨rfl,_,SqL.of L⟩,?_⟩;have eb:=n3 _ _ ab;have es:r.length<=1000:=F.2.1;have dt:∀ p∈r,1<=p.1/\p.1<=1000000000:=λp hp=>let z:=Tb.dk_part F.2.2 hp;⟨z.1,z.2.1⟩
    obtain⟨eu,e3⟩:=qS F.2.2;have t3:=t2.trans n3.t
    have cG:Bad H3 [g,j]:=λb hb=>by
     rcases i_.mp hb with z | z
     .rw[z];exact⟨_,L⟩
     .rw[ir.mp z];exact⟨_,X⟩
    refine .inr ⟨x,dx,_,rfl,eb,rfl,.ref x,r,[g,j],rfl,cG,ca.t (SameT.cut2 n3.t),cf.same n3,λH4 D zz t4 eo fD hD hP=>?_⟩;have b3:=t4.at L;have I:=t4.at X;have b6:zz.length=r.length:=hP.length.symm;have bS:Bt 43 (Tb.tot r):=by unfold Bt;lia
    have dd:bd (d'+1)+43<=bd d':=by unfold bd;lia
    refine .inl ⟨⟨_,SqL.of hD⟩,λD2 a'=>?_⟩
    let Pw1:PvL:=λi J O=>i<=r.length/\Same H4 O/\O D2=some (.lst J)/\Paired (EntR a (untr (cut2 O g j) D2)) ((Tb.kids r tp Z (Tb.tot r)).take i) J
    refine a8 (K:=K) (a:=D) (xs:=zz) Pw1 ⟨h_ _,Same.new a',ac,.nil⟩ (λi ys W h=>SqL.of (h.2.1 _ _ hD)) (λi ys W h=>h.2.2.1) ?_ ?_
    .rintro i y J O P' hy ⟨hi,n5,bo,al⟩ dK
     obtain⟨⟨m,u⟩,bb,qq,un,rfl,ch,d2⟩:=aK hP hy;have ch:=(ak ch).2;have c0:=(Tb.dk_part F.2.2 (ge bb)).2.2;have dr:i<r.length:=(fP.mp bb).1;have mp:=dt _ (ge bb);have bm:Bt 43 m:=by have h1:1<=m:=mp.1;have h2:m<=1000000000:=mp.2;unfold Bt;lia
     have dc:J.length<=5000:=by rw[<- al.length,mx];unfold Tb.kids;rw[d_];lia
     refine⟨qq,_,rfl,SqT.of (n5 _ _ ch),rfl,_,_,rfl,_,_,rfl,rfl,⟨rfl,rfl,rfl,trivial⟩,?_⟩;have bl:bd (d'+1)<=1100:=by unfold bd;lia
     refine⟨cmB (b1.mono bl) bm,cmB (b2.mono bl) bS,by show 3<=sizeLine;decide,λq3 f3=>?_⟩;have n6:=Same.new (o:=.tup [un,.int (tp*m),.int (Z*Tb.tot r)]) f3;have eg:=n6 _ _ bo;have dk:q3≠D2:=λz=>by rw[z,bo]at f3;cases f3
     have df:q3≠g:=λz=>by rw[z,n5 _ _ b3]at f3;cases f3
     have cB:q3≠j:=λz=>by rw[z,n5 _ _ I]at f3;cases f3
     refine⟨eg,by lia,dK _ _ ⟨dr,(n5.trans n6).put a',ac,?_⟩⟩;have cc:SameT (untr (cut2 O g j) D2) (untr (cut2 (upd (upd O q3 (.tup [un,.int (tp*m),.int (Z*Tb.tot r)])) D2 (.lst (J++[.ref q3]))) g j) D2):=(lI (SameT.cut2 n6.t)).trans wU;have cn:SameT (cut2 H4 g j) (untr (cut2 (upd (upd O q3 (.tup [un,.int (tp*m),.int (Z*Tb.tot r)])) D2 (.lst (J++[.ref q3]))) g j) D2):=Cg (SameT.cut2 ((n5.trans n6).put a').t) (uM a');have hk:(Tb.kids r tp Z (Tb.tot r))[i]? = some (u,(tp*m,Z*Tb.tot r)):=by unfold Tb.kids;rw[gb,bb];rfl
     refine a7 (aj (EntR.t cc) al) hk ⟨q3,un,d',rfl,?_,d2.t cn,c0,by lia,(b1.mul bm).mono dd,(b2.mul bS).mono dd,GR b0 (by lia)⟩;rw[aA dk];exact iF df cB (by rw[ae dk];exact ac)
    .rintro J O ⟨_,n5,bo,al⟩
     have kl:(Tb.kids r tp Z (Tb.tot r)).length=zz.length:=by unfold Tb.kids;rw[d_,b6]
     rw[<- kl,oD]at al;have dc:J.length=r.length:=by rw[<- al.length,kl,b6]
     have yl:f.length=s'.length:=b5.length.symm;have zl:B.length=k.length:=bg.length.symm;have c3:k.length+(s'.length+1)<=4096:=by rw[gV]at R;exact R
     have G:=n5 _ _ b3;have Y:=n5 _ _ I;refine⟨g,D2,f,J,rfl,rfl,G,bo,by lia,?_⟩;have t6:SameT H (upd O g (.lst (f++J))):=((t3.trans t4).trans n5.t).put as;have cm:TabsOk (tabs a) (upd O g (.lst (f++J))):=(eo.same n5).put (λr z=>by rw[G]at z;cases z) λφ z=>by rw[G]at z;cases z
     have a0:=ac (H:=O) (a:=g) (o:=.lst (f++J));have a2:(upd O g (.lst (f++J))) j=some (.lst B):=by rw[ae cj];exact Y
     have c6:SameT (cut2 H2 g j) (cut2 (upd O g (.lst (f++J))) g j):=(SameT.cut2 ((n3.t.trans t4).trans n5.t)).trans qG;have k6:SameT (untr (cut2 O g j) D2) (cut2 (upd O g (.lst (f++J))) g j):=cut_sub.trans qG;generalize upd O g (.lst (f++J))=H6 at t6 cm a0 a2 c6 k6;have dm:=hW.die;refine⟨_,.inl (SqL.of a2),⟨_,.inl (SqL.of a0),?_⟩⟩;have eH:(Tb.kids r tp Z (Tb.tot r)).length=J.length:=by rw[kl,b6,dc]
     refine ifC (λz=>?_) λz=>?_
     .have z:(4096:Int)<(B.length:Int)+((f++J).length:Int):=z
      have:=dm.few;rw[gV]at this z;exact wP t6 cm (q2 (by lia))
     .have z:¬(4096:Int)<(B.length:Int)+((f++J).length:Int):=z
      rw[gV]at z;refine⟨_,?_,s'++Tb.kids r tp Z (Tb.tot r),k,f++J,B,_,_,_,_,rfl,t6,cm,a0,a2,mr (aj (EntR.t k6) al) (aj (EntR.t c6) cy),aj (WayR.t c6) bL,dm,?_,rfl⟩
      .rw[Tb.stS_app,Tb.stS_app,Tb.stS_kids,Tb.stS,Tb.stS,Tb.sz];lia
      .rw[gV];lia
  .have e0:ys=[]:=List.isEmpty_iff.mp (by simpa using hc)
   subst e0;cases hE;have ew:=hW.done;have el:Tb.lv t<=4096:=by rw[<- Tb.wl_len t 1 1,<- ew];simpa using R
   refine q1 el _ j B t1 cR bn c' ?_;rw[<- ew];exact aj (WayR.t p6) bg
end
end My
namespace My
open PySem L2 FrM Du
open Tb (Tr Ent Way Rws Ch Lm2)
def BT:Sp:=λ_ _ _ _=>False
inductive spGcd(vs:List V)(H:Hp)(Q:VK)(_E:XK):Prop
 | mk(x y:Int)(h0:vs=[.int x,.int y])(h1:0<=x)(h2:0<=y)(h3:Q (.int (o0 x y)) H):spGcd vs H Q _E
def DX(H:Hp)(Q:VK)(T B:Int):Prop:=∀ H' p,Same H H'->H' p=some (.tup [.int (kr T B).1,.int (kr T B).2])->Q (.ref p) H'
inductive spLow(vs:List V)(H:Hp)(Q:VK)(_E:XK):Prop
 | mk(T B:Int)(h0:vs=[.int T,.int B])(h1:0<B)(h2:Bt 6000 T)(h3:Bt 6000 B)(h4:DX H Q T B):spLow vs H Q _E
def PT(K:Frag)(H:Hp)(p:Addr)(f:Int×Int):Prop:=H p=some (.tup [.int f.1,.int f.2])\/wG K p [.int f.1,.int f.2]=true
def PT.sq{K:Frag}{H:Hp}{p:Addr}{f:Int×Int}(h:PT K H p f):SqT K H p [.int f.1,.int f.2]:=h.elim SqT.of Ao
def IsF(K:Frag)(H:Hp)(f:Int×Int)(x:V):Prop:=∃ p,x=.ref p/\PT K H p f
def IsF.tk{K:Frag}{H H':Hp}{f:Int×Int}{x:V}(k:TK H H')(h:IsF K H f x):IsF K H' f x:=let ⟨p,e,q⟩:=h;⟨p,e,q.imp (λz=>k _ _ z) id⟩
abbrev AllF(K:Frag)(H:Hp):List (Int×Int)->List V->Prop:=PySem.Paired (IsF K H)
def IsF.same{K:Frag}{H H':Hp}{f:Int×Int}{x:V}(s:Same H H')(h:IsF K H f x):IsF K H' f x:=h.tk s.tk
def AllF.tk{K:Frag}{H H':Hp}(k:TK H H'):∀{fs:List (Int×Int)}{xs:List V},AllF K H fs xs->AllF K H' fs xs
 | _,_,.nil=>.nil
 | _,_,.cons r t=>.cons (r.tk k) (AllF.tk k t)
def AllF.get{K:Frag}{H:Hp}:∀{fs:List (Int×Int)}{xs:List V}{i:Nat}{x:V},AllF K H fs xs->xs[i]? = some x->∃ f,fs[i]? = some f/\IsF K H f x
 | _,_,_,_,.nil,h=>by cases h
 | _,_,0,_,.cons r _,h=>⟨_,rfl,by cases h;exact r⟩
 | _,_,i+1,_,.cons _ t,h=>AllF.get (i:=i) t h
def AllF.snoc{K:Frag}{H:Hp}{f:Int×Int}{x:V}(r:IsF K H f x):∀{fs:List (Int×Int)}{xs:List V},AllF K H fs xs->AllF K H (fs++[f]) (xs++[x])
 | _,_,.nil=>.cons r .nil
 | _,_,.cons q t=>.cons q (AllF.snoc r t)
def AllF.len{K:Frag}{H:Hp}{fs:List (Int×Int)}{xs:List V}(h:AllF K H fs xs):fs.length=xs.length:=rn h
def xU(T B:Int):o0 (if T<0 then -T else T) B=o0 T B:=by
 split
 .exact Int.neg_gcd
 .rfl
def px0{K:Frag}{H:Hp}{p:Addr}{x y:V}{Q:VK}(h:SqT K H p [x,y])(q:Q x H):rIx K (.ref p) (.int 0) H Q:=.inr (.inl ⟨p,_,_,x,rfl,rfl,h,iG (j:=0) rfl,q⟩)
def px1{K:Frag}{H:Hp}{p:Addr}{x y:V}{Q:VK}(h:SqT K H p [x,y])(q:Q y H):rIx K (.ref p) (.int 1) H Q:=.inr (.inl ⟨p,_,_,y,rfl,rfl,h,iG (j:=1) rfl,q⟩)
abbrev IsQ(K:Frag)(H:Hp)(q:Rat)(x:V):Prop:=IsF K H (fr q) x
inductive spLcm(K:Frag)(vs:List V)(H:Hp)(Q:VK)(_E:XK):Prop
 | mk(l:Addr)(ns:List Int)(D:Nat)(h0:vs=[.ref l])(h1:SqL K H l (ns.map V.int))(h2:0<D)(h3:D<=Lm2)(h4:(∀ n∈ns,0<n/\n ∣ (D:Int)))(h5:∀ r,0<r->r ∣ (D:Int)->(∀ n∈ns,n ∣ r)->Q (.int r) H):spLcm K vs H Q _E
inductive spTotal(K:Frag)(vs:List V)(H:Hp)(Q:VK)(_E:XK):Prop
 | mk(l:Addr)(fs:List (Int×Int))(xs:List V)(D:Nat)(h0:vs=[.ref l])(h1:H l=some (.lst xs))(h2:AllF K H fs xs)(h3:xs.length<=5000)(h4:0<D)(h5:D<=Lm2)(h6:(∀ f∈fs,Ch (D:Int) f))(h7:∀ H' z,Same H H'->IsQ K H' (Tb.sumQ fs) z->Q z H'):spTotal K vs H Q _E
def vo{L:Int}:∀{xs:List Int},(∀ x∈xs,0<=x/\x<=L)->0<=xs.sum/\xs.sum<=(xs.length:Int)*L
 | [],_=>by simp
 | x::xs,h=>by
  have b:=vo λy a=>h y (hI _ a)
  have c:=h x gT;rw[Ez,py];have e:((xs.length+1:Nat):Int)*L=(xs.length:Int)*L+L:=by rw[KL,Int.add_mul];simp
  rw[e];lia
def At{L t b:Int}(i:0<L)(f:0<=t)(h:t<=b)(g:0<b)(d:b ∣ L):0<=t*(L/b)/\t*(L/b)<=L:=by
 obtain⟨c,rfl⟩:=d;rw[F8 c (by lia)]
 have a:0<=c:=by
  rcases Jg c 0 with z | z
  .have:=IH g z;lia
  .exact z
 exact⟨K4 f a,Int.mul_le_mul_of_nonneg_right h a⟩
def DI{D n:Nat}{i:Int}(j:D<=Lm2)(f:n<=5000)(d:0<=i)(h:i<=(n:Int)*(D:Int)):Bt 2800 i:=by
 unfold Bt;have g:(n:Int)*(D:Int)<=5000*(Lm2:Nat):=Int.mul_le_mul (by lia) (by lia) (by lia) (by lia);have b:i.natAbs<=5000*Lm2:=by lia
 have a:5000*Lm2<2 ^ 13*Lm2:=Nat.mul_lt_mul_of_pos_right (by decide) (by unfold Lm2;exact Nat.pow_pos (by decide));have c:2 ^ 13*Lm2<=2 ^ 2800:=by unfold Lm2;rw[<- Nat.pow_add];exact Jt (by decide) (by decide)
 exact FO b (g_ a c)
section
variable {P:hH}{w:lA}{K:Frag}{mg:Str->Option b_}{base:Heap}{a:Ad}
def CU{k:Nat}{f:Addr}{a:p_}{ps:List Str}:FnOk P w K mg base CX0 k f a ps BT:=⟨λ_ _ _ _ h=>h.elim,λ_ _ _ _ _ _ _ _ _ _ _ _ _ h=>h.elim⟩
def vR(T:Txt K mg a):FnX P w base 1 T.W_y spGcd:=by
 refine T.W_y.A.okz sc_y λD A p s H G Q E I h=>?_
 .obtain⟨g,o,rfl,B,C,q⟩:=h
  refine⟨_,(af (iE s_ (qg (vr 1) (λ_=>rfl)) (ag (BI rfl sc_y.nd (i:=0) (j:=1) rfl rfl (by decide) rfl rfl (aa (vr 1) (aa (au ik (vr 0) (vr 1)) ad)) rfl))) (ag (ao (vr 0)))),jt ?_⟩;intro z;refine⟨λm u k=>k=H/\∃ x y:Int,0<=x/\0<=y/\m=y.toNat/\o0 x y=o0 g o/\u=[some (.int x),some (.int y)],⟨_,rfl,g,o,B,C,rfl,rfl,rfl⟩,?_⟩;rintro m u k ⟨rfl,x,y,F,v,rfl,r,rfl⟩;refine⟨_,rfl,?_⟩;refine ifB (λc=>?_) (λc=>?_)
  .have f:y≠0:=by simpa using c
   let Pw4:St->Hp->Prop:=λd b=>b=k/\d=[some (.int y),some (.int (x % y))]
   refine⟨Pw4,?_,?_⟩
   .rintro d b ⟨rfl,rfl⟩
    exact⟨(x % y).toNat,by have:=FQ x (show 0<y by lia);have:=FC x f;lia,rfl,y,x % y,v,FC x f,rfl,by rw[xp,r],rfl⟩
   .exact⟨cp (by lia),_,_,rfl,rfl,rfl⟩
  .have f:y=0:=by simpa using c
   subst f;rw[Int.gcd_zero_right]at r;have:x=(o0 g o:Int):=by lia
   rw[<- this]at q;exact q
def iD(T:Txt K mg a):FnX P w base 2 T.W_ah spLow:=by
 have d:FnX P w base 1 T.W_ah BT:=CU;refine T.W_ah.A.okz pU λx A f s H D Q E j h=>?_
 .obtain⟨t,b,rfl,r,F,k,q⟩:=h
  refine⟨_,(af (bc (bO oZ (vr 1) am (aX _)) (ag (ao (pec d j T.W_ah (aa (wF vN (vr 0)) (aa (wF vN (vr 1)) ad))))) aG) (af (psl 2 pU (pec (vR T) j T.W_y (aa (aw wE rfl T.z_abs AV (aa (vr 0) ad)) (aa (vr 1) ad)))) (ag (ao (bh (aa (au gx (vr 0) (vr 2)) (aa (au gx (vr 1) (vr 2)) ad))))))),jf ?_⟩;intro u o;obtain⟨g,C,B,y,z⟩:=low t b r;refine ifC (λc=>absurd c (by lia)) (λ_=>?_);refine⟨t,rfl,⟨_,_,rfl,by split <;> lia,by lia,?_⟩⟩;rw[xU];have i:Bt 6000 (o0 t b:Int):=k.le (by lia);refine⟨cdB g i,cdB g i,cS _ _,λp v=>?_⟩;exact q _ p (Same.new v) ac
def xJ(T:Txt K mg a):FnX P w base 2 T.W_w (spLcm K):=by
 refine T.W_w.A.okz sc_w λab A v s H vs Q E Z h=>?_
 .obtain⟨l,j,D,rfl,B,u,d,z,q⟩:=h
  refine⟨_,(af (psl 1 sc_w am) (af (c8 s_ rfl (a6 (vr 0)) (aN (i:=2) sc_w.nd rfl (uS rfl)) (ag (psl 1 sc_w (au cO (au gx (vr 1) (pec (vR T) Z T.W_y (aa (vr 1) (aa (vr 2) ad)))) (vr 2))))) (ag (ao (vr 1))))),jf ?_⟩;intro M I
  let Pw1:PvS:=λi k g=>g=H/\∃(r:Int) (x:Option V),k=[some (.ref l),some (.int r),x]/\0<r/\r ∣ (D:Int)/\∀ n∈j.take i,n ∣ r
  refine .inl ⟨⟨_,B⟩,dq (K:=K) (a:=l) (xs:=j.map V.int) Pw1 ⟨rfl,1,none,rfl,by lia,Int.one_dvd _,(λn p=>by cases p)⟩ (λi k g _ h=>by rw[h.1];exact B) ?_ ?_⟩
  .rintro i x k g f ⟨rfl,r,x2,rfl,y,c,o⟩
   rw[gb]at f
   obtain⟨n,p,rfl⟩:∃ n,j[i]? = some n/\V.int n=x:=by
    cases e:j[i]? with
    | none=>rw[e]at f;cases f
    | some n=>rw[e]at f;cases f;exact⟨n,rfl,rfl⟩
   obtain⟨C,F⟩:=z n (ge p);obtain⟨Y,G,R,W⟩:=Tb.lcm_step y C c F;have g0:0<o0 r n:=Ib _ (by lia);have S:(o0 r n:Int)<=n:=ER C (FV (a:=r) (b:=n));have J:=ER (by lia) F;have N:=ER (by lia) c;have X:=Tb.bt_of (i:=(o0 r n:Int)) u d (by lia) (by lia);have O:=Tb.bt_of (i:=n) u d (by lia) J;have L:=Tb.bt_of (i:=r/(o0 r n:Int)) u d (Ie (by lia) (by lia)) (Gs (HJ _ (by lia)) N);refine⟨r,n,rfl,by lia,by lia,?_⟩;refine⟨cdB (by lia) X,?_⟩;refine⟨cmB L O,rfl,_,_,rfl,Y,W,λm hm=>?_⟩;rw[oN,p]at hm
   rcases wh.mp hm with hm | hm
   .exact Int.dvd_trans (o m hm) G
   .have:m=n:=by simpa using hm
    rw[this];exact R
  .rintro k g ⟨rfl,r,x2,rfl,y,c,o⟩
   refine q r y c ?_;rw[d_,oD]at o;exact o
def vD(T:Txt K mg a):FnX P w base 3 T.W_ao (spTotal K):=by
 refine T.W_ao.A.okz oQ λas A W s H vs Q E hr h=>?_
 .obtain⟨l,g,xs,D,rfl,O,hF,al,M,k,d,q⟩:=h
  have ab:sizeLine=16777216:=j_;have fl:g.length=xs.length:=hF.len;refine⟨_,(af (psr 1 oQ (pec (xJ T) hr T.W_w (aa (aV rfl (N:=["fraction"]) (ix:=[none]) aD (a6 (vr 0)) (aQ λC s H fp=>⟨bM 0 ["fraction"],aU,(gm (gB (K:=K) rfl) (vr 0) am)⟩)) ad))) (ag (ao (pec (iD T) hr T.W_ah (aa (aw (mL rfl) rfl T.z_sum xf (aa (aV rfl (N:=["top","own","bottom"]) (ix:=[none,none,some 1]) aD (a6 (vr 0)) (aQ λC s H fp=>⟨(gh (K:=K) (n:=2) rfl rfl (gz ["top","own","bottom"])),aU,(au cO (vr 0) (au gx (vr 2) (vr 1)))⟩)) ad)) (aa (vr 1) ad)))))),jt ?_⟩;intro an;refine .inl ⟨⟨_,SqL.of O⟩,λD1 I=>?_⟩
  let Pw2:PvL:=λi v j=>Same H j/\j D1=some (.lst v)/\i<=g.length/\v=((g.take i).map (·.2)).map V.int
  refine a8 (K:=K) (a:=l) (xs:=xs) Pw2 ⟨Same.new I,ac,h_ _,rfl⟩ (λi R j h=>SqL.of (h.1 _ _ O)) (λi R j h=>h.2.1) ?_ ?_
  .rintro i y v j P' Y ⟨G,u,hi,rfl⟩ B
   obtain⟨⟨t,b⟩,c,p,rfl,S⟩:=hF.get Y;have F:i<g.length:=(fP.mp c).1;refine⟨trivial,px1 (IsF.same G ⟨p,rfl,S⟩ |> λ⟨_,e,z⟩=>by cases e;exact z.sq) ⟨u,by rw[d_,d_,mx];lia,B _ _ ⟨G.put I,ac,F,?_⟩⟩⟩;rw[oN,c];simp
  rintro v H1 ⟨G,u,_,rfl⟩;rw[<- fl,oD]at u;refine⟨D1,g.map (·.2),D,rfl,SqL.of u,M,k,λn hn=>?_,λr r1 hr9 hrn=>?_⟩
  .obtain⟨f,c,rfl⟩:=nh.mp hn
   exact⟨(d f c).b0,(d f c).dv⟩
  have Z:=ER (show(0:Int)<(D:Int) by lia) hr9;have dr:∀ f∈g,f.2 ∣ r:=λf c=>hrn _ (nh.mpr ⟨f,c,rfl⟩)
  refine .inl ⟨⟨_,SqL.of (G _ _ O)⟩,λD3 J=>?_⟩
  let Pw3:PvL:=λi v j=>Same H1 j/\j D3=some (.lst v)/\i<=g.length/\v=((g.take i).map λf=>f.1*(r/f.2)).map V.int
  refine a8 (K:=K) (a:=l) (xs:=xs) Pw3 ⟨Same.new J,ac,h_ _,rfl⟩ (λi R j h=>SqL.of (h.1 _ _ (G _ _ O))) (λi R j h=>h.2.1) ?_ ?_
  .rintro i y v j P' Y ⟨L,o,hi,rfl⟩ B
   obtain⟨⟨t,b⟩,c,p,rfl,S⟩:=hF.get Y;have F:i<g.length:=(fP.mp c).1;have hc:=d _ (ge c);obtain⟨b1,b2⟩:=Tb.ch_bt M k hc;have b0:0<b:=hc.b0
   have X:SqT K j p [.int t,.int b]:=by
    obtain⟨_,e,z⟩:=IsF.same (G.trans L) (x:=.ref p) ⟨p,rfl,S⟩;cases e;exact z.sq
   have br:=Tb.bt_of (i:=r/b) M k (Ie (by lia) (by lia)) (Gs (HJ _ (by lia)) Z);refine⟨p,_,rfl,X,rfl,_,_,rfl,_,_,rfl,rfl,⟨rfl,trivial⟩,cdB b0 b2,cmB b1 br,o,by rw[d_,d_,mx];lia,B _ _ ⟨L.put J,ac,F,?_⟩⟩;rw[oN,c];simp
  rintro v H2 ⟨L,o,_,rfl⟩;rw[<- fl,oD]at o;refine⟨D3,_,rfl,SqL.of o,?_⟩
  have sb:0<=(g.map λf=>f.1*(r/f.2)).sum/\(g.map λf=>f.1*(r/f.2)).sum<=((g.map λf=>f.1*(r/f.2)).length:Int)*r:=vo λx hx=>by
   obtain⟨f,c,rfl⟩:=nh.mp hx;exact At r1 (d f c).t0 (d f c).le (d f c).b0 (dr f c)
  rw[d_]at sb;have sD:(g.map λf=>f.1*(r/f.2)).sum<=(g.length:Int)*(D:Int):=Gs sb.2 (Int.mul_le_mul_of_nonneg_left Z (by lia));refine⟨_,_,rfl,r1,(DI k (by lia) sb.1 sD).mono (by decide),(Tb.bt_of M k (by lia) Z).mono (by decide),λH3 p s3 ah=>q _ _ ((G.trans L).trans s3) ⟨p,rfl,.inl ?_⟩⟩;rw[ah,Tb.low_tops r1 (Tb.top_sum r1 λf c=>⟨(d f c).b0,dr f c⟩)]
end
end My
namespace My
open PySem L2 FrM Du LexM
open Tb (Tr Ent Way Rws Ch Lm2 Grp bnd ci Dk Dks)
def nR{x y:List Int}(h:x.map (r_:Int->Key)=y.map r_):x=y:=by
 have:=congrArg (t_ λk:Key=>match k with | .inl i=>i | .inr _=>0) h;rw[A8,A8]at this
 have e:∀ l:List Int,l.map ((λk:Key=>match k with | .inl i=>i | .inr _=>0) ∘ r_)=l:=λl=>by
  induction l with
  | nil=>rfl
  | cons a l ih=>rw[l_,ih];rfl
 rw[e,e]at this;exact this
def GrR(K:Frag)(H1 H:Hp)(x:List Int×List (Int×Int))(kv:List Key×V):Prop:=kv.1=x.1.map r_/\∃ l ys,kv.2=.ref l/\H1 l=none/\H l=some (.lst ys)/\AllF K H1 x.2 ys
def GrR.m{K:Frag}{a H H':Hp}(h:∀ l ys,H l=some (.lst ys)->H' l=some (.lst ys))(x:List Int×List (Int×Int))(b:List Key×V)(g:GrR K a H x b):GrR K a H' x b:=by
 obtain⟨e,l,ys,i,d,c,f⟩:=g;exact⟨e,l,ys,i,d,h _ _ c,f⟩
def C8{K:Frag}{c H:Hp}{l:Addr}{o:List V}{g:Grp}{a:List (List Key×V)}(h:Paired (GrR K c H) g a)(n:V.ref l ∉ a.map (·.2)):Paired (GrR K c (upd H l (.lst o))) g a:=by
 induction h with
 | nil=>exact .nil
 | @cons x kv g a r t ih =>
  rw[l_,i_,not_or]at n;obtain⟨e,f,b,d,j,i,k⟩:=r;refine .cons ⟨e,f,b,d,j,?_,k⟩ (ih n.2);rw[ae (λz=>n.1 (by rw[d,z]))];exact i
def BB{K:Frag}{j H:Hp}{k:List Int}{c:Int×Int}{v:V}{g:Grp}{a:List (List Key×V)}(h:Paired (GrR K j H) g a)(f:(a.map (·.2)).Nodup)(b:cb a (k.map r_)=some v) :
  ∃ x l ys,x∈g/\v=.ref l/\j l=none/\H l=some (.lst ys)/\ys.length=x.2.length/\∀ ct,IsF K j c ct->Paired (GrR K j (upd H l (.lst (ys++[ct])))) (Tb.pushG k c g) a:=by
 induction h with
 | nil=>cases b
 | @cons x o g a r t ih =>
  obtain⟨e,l,ys,i,q,u,s⟩:=r;rw[l_,sr]at f
  by_cases z:x.1=k
  .rw[bx (by rw[e,z])]at b
   have b:o.2=v:=k7 b;refine⟨x,l,ys,gT,by rw[<- b,i],q,u,s.len.symm,λct d=>?_⟩;rw[Tb.pushG,if_pos z];rw[i]at f;exact .cons ⟨by show o.1=k.map r_;rw[e,z],l,ys++[ct],i,q,ac,s.snoc d⟩ (C8 t f.1)
  .rw[bw (λy=>z (nR (e.symm.trans y)))]at b
   obtain⟨D,A,p,G,w,F,B,I,C⟩:=ih f.2 b;refine⟨D,A,p,hI _ G,w,F,B,I,λct d=>?_⟩;rw[Tb.pushG,if_neg z];refine .cons ⟨e,l,ys,i,q,?_,s⟩ (C ct d)
   have E:v∈a.map (·.2):=by
    unfold cb at b;cases hf:a.find? (λo=>decide (o.1=k.map r_)) with
    | none=>rw[hf]at b;cases b
    | some y =>
     rw[hf]at b;have:y.2=v:=k7 b;exact nh.mpr ⟨y,List.mem_of_find?_eq_some hf,this⟩
   rw[ae (λy=>f.1 (by rw[i,y,<- w];exact E))];exact u
def Au{K:Frag}{b H:Hp}{k:List Int}{c:Int×Int}{D:Addr}{f:V}{g:Grp}{a:List (List Key×V)}(h:Paired (GrR K b H) g a)(d:cb a (k.map r_)=none)(o:b D=none)(j:H D=some (.lst [f]))(i:IsF K b c f):Paired (GrR K b H) (Tb.pushG k c g) (a++[(k.map r_,.ref D)]):=by
 induction h with
 | nil=>exact .cons ⟨rfl,D,[f],rfl,o,j,.cons i .nil⟩ .nil
 | @cons x kv g a r t ih =>
  have z:¬x.1=k:=λz=>by rw[bx (by rw[r.1,z])]at d;cases d
  rw[bw (λy=>z (nR (r.1.symm.trans y)))]at d;rw[Tb.pushG,if_neg z];exact .cons r (ih d)
def yu{K:Frag}{b H:Hp}{g:Grp}{a:List (List Key×V)}(h:Paired (GrR K b H) g a):a.map (·.1)=(g.map (·.1)).map λx=>x.map r_:=by
 induction h with
 | nil=>rfl
 | cons r _ ih=>rw[l_,l_,l_,ih,r.1]
def Cn{K:Frag}{f H:Hp}{g:Grp}{a:List (List Key×V)}(h:Paired (GrR K f H) g a)(d:(g.map (·.1)).Nodup){i:Nat}{x:List Int×List (Int×Int)}(b:g[i]? = some x):∃ l ys,cb a (x.1.map r_)=some (.ref l)/\H l=some (.lst ys)/\AllF K f x.2 ys:=by
 induction h generalizing i with
 | nil=>cases b
 | @cons x' kv g a r t ih =>
  rw[l_,sr]at d;obtain⟨e,l,ys,s,v,j,q⟩:=r;cases i with
  | zero =>
   cases b;exact⟨l,ys,by rw[bx e,s],j,q⟩
  | succ i =>
   obtain⟨k,c,o,p,u⟩:=ih d.2 (i:=i) b;refine⟨k,c,?_,p,u⟩;rw[bw,o];intro y;have:=nR (e.symm.trans y);exact d.1 (by rw[this];exact nh.mpr ⟨x,ge b,rfl⟩)
def RowR(K:Frag)(H:Hp)(x:List Int×Rat)(y:V):Prop:=∃ p kt z,y=.ref p/\H p=some (.tup [.ref kt,z])/\H kt=some (.tup (x.1.map V.int))/\IsQ K H x.2 z
def RowR.tk{K:Frag}{H H':Hp}(s:TK H H')(x:List Int×Rat)(y:V)(h:RowR K H x y):RowR K H' x y:=by
 obtain⟨p,a,z,f,c,b,d⟩:=h;exact⟨p,a,z,f,s _ _ c,s _ _ b,d.tk s⟩
def SameT.tk'{H H':Hp}(s:SameT H H'):TK H H':=λb a e=>s.at e
def oM(a:Ad)(K:Frag):Sp:=λvs H Q E=>∃ v d t,∃ D:Nat,vs=[v]/\IsNq a 3 H v t/\Dk d t/\d<=24/\Tb.Ok t/\(∀ L:List (List Int),L.Nodup->(∀ k∈L,k∈(Tb.toR (Tb.kW (Tb.wl t 1 1))).map (·.1))->L.length<64)/\0<D/\D<=Lm2/\(∀ w∈Tb.wl t 1 1,Ch (D:Int) w.2)/\TabsOk (tabs a) H/\(Tb.lv t<=4096->∀ H' l R ys,SameT H H'->TabsOk (tabs a) H'->H l=none->H' l=some (.lst ys)->Paired (RowR K H') R ys->Tb.IsTab (Tb.toR (Tb.kW (Tb.wl t 1 1))) R->ys.length<=4096->Q (.ref l) H')/\(4096<Tb.lv t->RefMT a H E)
def RefMT.t{a:Ad}{H H':Hp}{E:XK}(s:SameT H H')(h:RefMT a H E):RefMT a H' E:=λb t=>h b (s.trans t)
section
variable {P:hH}{w:lA}{K:Frag}{mg:Str->Option b_}{base:Heap}{a:Ad}
def pX(T:Txt K mg a)(hB:Bm mg base):FnOk P w K mg base (CXG P w) 27 a.f_P a.d_P ["node"] (oM a K):=by
 have c2:FnOk P w K mg base (CXG P w) 26 _ _ _ (wQ a):=yr T hB;refine T.W_P.A.okG sc_P (λvs H Q E h=>?_) (λcdv A outer s H vs Q E hr h=>?_)
 .obtain⟨v,d,t,D9,rfl,_⟩:=h;rfl
 .obtain⟨v,d,t,D9,rfl,hn,cA,hd,cW,bq,Dp,co,al,hT,q1,q2⟩:=h
  have cP:sizeLine=16777216:=j_;refine⟨_,(af (psr 1 sc_P pM) (af (c8 vB rfl (a6 (dX c2 hr rfl T.W_F.C T.W_F.A.kp T.W_F.B .nil sO (aa (vr 0) ad))) (gZ rfl (aW (aN (i:=2) sc_P.nd rfl (uS rfl)) (aW (aN (i:=3) sc_P.nd rfl (uS rfl)) dM))) (ag (bR (pe_m.append (BP (pB hr) (vr 1) (vr 2) (bC ad) ⟨rfl,rfl,rfl,rfl⟩) (aa (vr 3) ad))))) (ag (ao (aV rfl (N:=["kept","found"]) (ix:=[none,some 1]) aD (a6 (aw (ma rfl hr.units) rfl T.z_sorted iU (aa (vr 1) ad))) (aQ λC s H fp=>⟨bM 0 ["kept","found"],aU,(bh (aa (vr 0) (aa (aI (vD T) hr T.W_ao (aa (zx (pB hr) (vr 1) (vr 0) (λ_ _=>rfl)) ad)) ad)))⟩)))))),jf ?_⟩;intro dd dp;intro J a';have u1:=Same.new (o:=.dT []) a';have an:=ac (H:=H) (a:=J) (o:=.dT []);generalize upd H J (.dT [])=Ha at u1 an;refine⟨v,d,t,rfl,hn.t u1.t,cA,hd,cW,hT.same u1,λcB H1 lw zs t1 cm dr bb hW=>?_,λh=>(q2 h).t u1.t⟩;have I:=t1.at an;have zl:zs.length=Tb.lv t:=by rw[<- hW.length,Tb.wl_len]
  have bL:∀ w∈Tb.kW (Tb.wl t 1 1),Ch (D9:Int) w.2:=λw hw=>by
   obtain⟨y,hy,rfl⟩:=nh.mp hw;exact al y hy
  clear al;have bo:=Tb.kW_len t;have bS:SameT H H1:=u1.t.trans t1;generalize hWW:Tb.wl t 1 1=W at hW bL bo q1 bq;have de:W.length=zs.length:=hW.length;have c3:∀ b,H1 b=none->b≠J:=λb hb z=>by rw[z,I]at hb;cases hb
  let Pw1:PvS:=λi σ G=>∃(B:List (List Key×V)) (x2 x3:Option V),(∀ b o,b≠J->H1 b=some o->G b=some o)/\TabsOk (tabs a) G/\G J=some (.dT B)/\Paired (GrR K H1 G) (Tb.grp ((Tb.kW W).take i)) B/\(B.map (·.2)).Nodup/\i<=zs.length/\σ=[some v,some (.ref J),x2,x3]
  refine .inl ⟨⟨_,SqL.of bb⟩,dq (K:=K) (a:=lw) (xs:=zs) Pw1 ⟨[],none,none,(λb o _ e=>e),cm,I,.nil,Ir,h_ _,rfl⟩ (λi σ G _ h=>by
   obtain⟨B,x2,x3,k,_⟩:=h
   exact SqL.of (k _ _ (cF bb I (λz=>nomatch z)) bb)) ?_ ?_⟩
  .rintro i y σ G hy ⟨B,x2,x3,kp,a5,O,hG,nd,hi,rfl⟩
   obtain⟨⟨F,tp,bt⟩,hw,q,kt,ct,ns,rfl,hq,a2,as,c1,dk,dc,b0⟩:=aK hW hy;have ab:i<zs.length:=(fP.mp hy).1;have ek:ns=Tb.so F:=Tb.so_uniq as.1 as.2;have b':=Tb.kW_get hw;have gk:=Tb.grp_gk (Tb.kW W) i (by lia);have gl:B.length<=i:=by rw[<- hG.length];exact gk.1
   have nq:q≠J:=cF hq I (λz=>nomatch z);have ch:kt≠J:=cF a2 I (λz=>nomatch z);have eg:=Tb.grp_snoc b'
   have hF:IsF K H1 (tp,bt) (.ref ct):=⟨ct,rfl,.inl c1⟩
   rw[ek]at a2;refine⟨q,_,rfl,SqT.of (kp _ _ nq hq),rfl,_,_,rfl,_,_,rfl,rfl,?_⟩;refine⟨J,rfl,.inr ⟨B,.inl O⟩,h_ _,λD fD=>?_⟩;have n2:=Same.new (o:=.lst []) fD;have nD:D≠J:=λz=>by rw[z,O]at fD;cases fD
   have bm:H1 D=none:=by
    cases hh:H1 D with
    | none=>rfl
    | some o=>rw[kp _ _ nD hh]at fD;cases fD
   have b1:(upd G D (.lst [])) kt=some (.tup (((Tb.so F).map r_).map kV)):=by rw[oE];exact n2 _ _ (kp _ _ ch a2)
   have Y:TabsOk (tabs a) (upd G D (.lst [])):=a5.same n2;have L:=n2 _ _ O;have cc:=ac (H:=G) (a:=D) (o:=.lst []);have bF:∀ b o,b≠J->H1 b=some o->(upd G D (.lst [])) b=some o:=λb o n e=>n2 _ _ (kp _ _ n e)
   have cR:=aj (GrR.m λl X e=>n2 _ _ e) hG;have b3:∀ l X,G l=some (.lst X)->l≠D:=λl X e z=>by rw[z,fD]at e;cases e
   refine⟨B,_,kt,rfl,b1,L,by lia,λv' ck=>?_,λhn'=>?_⟩
   .obtain⟨x,l,X,a3,rfl,fl,hl,c6,bn⟩:=BB (c:=(tp,bt)) cR nd ck
    generalize upd G D (.lst [])=H2 at *;have yl:=(gk.2 x a3).1;refine⟨.inl ⟨rfl,_,SqL.of hl⟩,⟨l,X,_,rfl,rfl,hl,by lia,?_⟩⟩;have nl:l≠J:=cF hl L (λz=>nomatch z);refine⟨B,_,_,λb o n e=>?_,Y.put (λps z=>by rw[hl]at z;cases z) (λφ z=>by rw[hl]at z;cases z),by rw[ae (A_ nl)];exact L,by rw[eg];exact bn _ hF,nd,ab,rfl⟩;rw[ae (λz=>by rw[z,fl]at e;cases e)];exact bF _ _ n e
   .generalize eH2:upd G D (.lst [])=H2 at *
    have M:(upd H2 J (.dT (B++[((Tb.so F).map r_,.ref D)]))) D=some (.lst []):=by rw[ae nD];exact cc
    refine⟨.inl ⟨rfl,_,SqL.of M⟩,⟨D,[],_,rfl,rfl,M,by show 0<_;lia,?_⟩⟩;have c0:TabsOk (tabs a) (upd H2 J (.dT (B++[((Tb.so F).map r_,.ref D)]))):=Y.put (λps z=>by rw[L]at z;cases z) λφ z=>by rw[L]at z;cases z
    have GN:Paired (GrR K H1 (upd (upd H2 J (.dT (B++[((Tb.so F).map r_,.ref D)]))) D (.lst ([]++[.ref ct])))) (Tb.pushG (Tb.so F) (tp,bt) (Tb.grp ((Tb.kW W).take i))) (B++[((Tb.so F).map r_,.ref D)]):=Au (aj (GrR.m λl X e=>by rw[ae (b3 _ _ e),ae (cF e O (λz=>nomatch z))];exact n2 _ _ e) hG) hn' bm ac hF;refine⟨B++[((Tb.so F).map r_,.ref D)],_,_,λb o n e=>?_,c0.put (λps z=>by rw[M]at z;cases z) (λφ z=>by rw[M]at z;cases z),by rw[ae (A_ nD)];exact ac,by rw[eg];exact GN,?_,ab,rfl⟩
    .rw[ae (λz=>by rw[z,bm]at e;cases e),ae n]
     exact bF _ _ n e
    .rw[nv]
     refine rD.mpr ⟨nd,by simp,λu hu u' cy e=>?_⟩;have e':u'=V.ref D:=by simpa using cy
     rw[e,e']at hu;obtain⟨kv,cs,e9⟩:=nh.mp hu;obtain⟨j,hj⟩:=v_ cs;obtain⟨x,_,r⟩:=aK hG hj;obtain⟨_,l,X,h1,_,h3,_⟩:=r;rw[e9]at h1;cases h1;exact b3 _ _ h3 rfl
  rintro σ H2 ⟨B,x2,x3,kp,a5,O,hG,nd,hi,rfl⟩;have gk:=Tb.grp_gk (Tb.kW W) zs.length (by lia);have et:(Tb.kW W).take zs.length=Tb.kW W:=rb (by rw[bo];lia);rw[et]at hG gk;have a0:=Tb.grp_nd (Tb.kW W);have Z:=Tb.rat_grp (Tb.kW W);generalize hg:Tb.grp (Tb.kW W)=g at hG gk a0 Z;have bg:(g.map (·.1)).Nodup:=by have:=a0;unfold Tb.NdR at this;rwa [Tb.rat_keys]at this
  have c9:g.length<64:=by
   have:=bq (g.map (·.1)) bg λk hk=>by rw[<- Tb.rat_keys,Z,Tb.adds_keys]at hk;exact hk
   rwa [d_]at this
  have t2:SameT H H2:=⟨λb o e=>by
   have nb:b≠J:=λz=>by rw[z,a']at e;cases e
   obtain⟨e1,o1,e2⟩:=bS b o e;have:=kp _ _ nb e2
   exact⟨λnp=>kp _ _ nb (e1 np),o1,this⟩,λb o e=>by
   have nb:b≠J:=λz=>by rw[z,a']at e;cases e
   obtain⟨m,e1,t⟩:=bS.gr b o e
   exact⟨m,kp _ _ nb e1,t⟩⟩
  have kl:B.length=g.length:=hG.length.symm;have gl:g.length<=4096:=by have:=gk.1;lia
  refine⟨J,B,g.map (·.1),rfl,O,by lia,yu hG,bg,λq o f fq op cj b2=>?_⟩;rw[d_]at op b2;have u3:=Same.new (o:=.lst (o.map f)) fq;have a1:=ac (H:=H2) (a:=q) (o:=.lst (o.map f));have Y:=a5.same u3;generalize upd H2 q (.lst (o.map f))=H3 at u3 a1 Y;have t3:=t2.trans u3.t;have c':H q=none:=t2.free fq;have cT:(Tb.rat g).length=g.length:=by unfold Tb.rat;rw[d_]
  obtain⟨rp,rs⟩:=Tb.tab_of a0 (o:=o) (by rw[cT];exact op) (by rw[Tb.rat_keys];exact cj);have ol:o.length=g.length:=by rw[op.length_eq,A6]
  generalize hR:(o.map λi=>(Tb.rat g).getD i ([],0))=R at rp rs;have Rl:R.length=o.length:=by rw[<- hR,d_]
  refine .inl ⟨⟨_,SqL.of a1⟩,λD3 M=>?_⟩
  let Pw2:PvL:=λi ws G=>i<=o.length/\Same H3 G/\G D3=some (.lst ws)/\Paired (RowR K G) (R.take i) ws
  refine a8 (K:=K) (a:=q) (xs:=o.map f) Pw2 ⟨h_ _,Same.new M,ac,.nil⟩ (λi X G h=>SqL.of (h.2.1 _ _ a1)) (λi X G h=>h.2.2.1) ?_ ?_
  .rintro i y ws G P' hy ⟨ds,n5,bl,S⟩ cf
   rw[gb]at hy
   obtain⟨j,hj,rfl⟩:∃ j,o[i]? = some j/\f j=y:=by
    cases e:o[i]? with
    | none=>rw[e]at hy;cases hy
    | some j=>rw[e]at hy;cases hy;exact⟨j,rfl,rfl⟩
   have ab:i<o.length:=(fP.mp hj).1;have b6:j<g.length:=A9.mp (op.mem_iff.mp (ge hj));obtain⟨b,eb,hb⟩:=b2 j b6
   obtain⟨x,hx⟩:∃ x,g[j]? = some x:=⟨_,ki b6⟩
   have b5:(g.map (·.1)).getD j []=x.1:=by rw[EQ,gb,hx];rfl
   rw[b5]at hb;have hb:H2 b=some (.tup (x.1.map V.int)):=hb;have b4:=(u3.trans n5) _ _ hb;obtain⟨l,X,hv,hl,hF⟩:=Cn hG bg hx;have a3:=ge hx;obtain⟨xl,xc⟩:=gk.2 x a3;have cg:TK H1 G:=λb us e=>(u3.trans n5) _ _ (kp _ _ (cF e I (λz=>nomatch z)) e)
   have dm:ws.length<=4096:=by rw[<- S.length,mx];lia
   rw[eb];refine⟨⟨rfl,trivial⟩,?_⟩;refine⟨J,_,rfl,.inr ⟨B,x.1.map r_,b,.inl ((u3.trans n5) _ _ O),rfl,by rw[oE];exact b4,hv.symm⟩,?_⟩;refine⟨l,x.2,X,D9,rfl,(u3.trans n5) _ _ hl,hF.tk cg,by rw[<- hF.len];lia,Dp,co,λc hc=>?_,λH6 z s6 hz=>?_⟩
   .obtain⟨w9,ca,e9⟩:=xc c hc
    rw[<- e9];exact bL w9 ca
   refine⟨by show 2<=sizeLine;decide,λp fp=>?_⟩;have s7:=Same.new (o:=.tup [.ref b,z]) fp;have br:=(s6.trans s7) _ _ bl;have cx:=(n5.trans s6).trans s7;refine⟨br,by lia,cf _ _ ⟨ab,cx.put M,ac,?_⟩⟩
   have eR:R[i]? = some (x.1,Tb.sumQ x.2):=by
    rw[<- hR,gb,hj];show some ((Tb.rat g).getD j ([],0))=_;unfold Tb.rat;rw[EQ,gb,hx];rfl
   have ah:TK (upd H6 p (.tup [.ref b,z])) (upd (upd H6 p (.tup [.ref b,z])) D3 (.lst (ws++[.ref p]))):=λb us e=>by rw[ae (cF e br (λz=>nomatch z))];exact e
   refine a7 (aj (RowR.tk ((s6.trans s7).tk.trans ah)) S) eR ⟨p,b,z,rfl,ah _ _ ac,ah _ _ ((s6.trans s7) _ _ b4),(hz.same s7).tk ah⟩
  .rintro ws H5 ⟨_,n5,bl,S⟩
   have cG:H D3=none:=t3.free M;rw[d_,<- Rl,oD]at S;refine q1 cB _ D3 R ws (t3.trans n5.t) (Y.same n5) cG bl S ⟨?_,rs⟩ (by rw[<- S.length];lia);rw[<- Z];exact rp
end
end My
namespace Nst
open FrM Du LexM Tb PySem
def rZ:∀(ps:List (Int×Tr)) (k:Nat) (t m:Int) (u:Tr),(∀ p∈ps,0<=p.1)->ps[k]? = some (m,u)->tot (ps.take k)<=t->t<tot (ps.take (k+1))->cN ps t=some u
 | [],k,t,m,u,_,h,_,_=>by simp at h
 | (m0,u0)::r,0,t,m,u,c,h,h0,h1=>by
  simp at h;obtain⟨rfl,rfl⟩:=h;unfold cN;rw[if_pos (by simpa[tot] using h1)]
 | (m0,u0)::r,k+1,t,m,u,c,h,h0,h1=>by
  have f:tot (((m0,u0)::r).take (k+1))=m0+tot (r.take k):=by simp[tot]
  have i:tot (((m0,u0)::r).take (k+1+1))=m0+tot (r.take (k+1)):=by simp[tot]
  have d:∀(l:List (Int×Tr)),(∀ p∈l,0<=p.1)->0<=tot l:=λl=>by
   induction l with
   | nil=>intro _;simp[tot]
   | cons x l ih =>
    intro h;have a:=h x (gT ..);have b:=ih λp c=>h p (hI _ c)
    have:tot (x::l)=x.1+tot l:=by simp[tot]
    omega
  have g:=d (r.take k) λp h=>c p (hI _ (Fi h))
  unfold cN;rw[if_neg (by omega)];exact rZ r k (t - m0) m u (λp h=>c p (hI _ h)) (by simpa using h) (by omega) (by omega)
def pP{ps:List (Int×Tr)}{k:Nat}{m:Int}{u:Tr}(h:ps[k]? = some (m,u)):tot (ps.take (k+1))=tot (ps.take k)+m:=by
 rw[oN,h];simp[tot]
inductive Rw:Tr->List Int->List Int->Prop
 | leaf (ns:List Int):Rw (.leaf ns) [] ns
 | die {ps:List (Int×Tr)}{t:Int}{u:Tr}{ts ns:List Int}:0<=t->t<tot ps->cN ps t=some u->Rw u ts ns->Rw (.die ps) (t::ts) ns
def Rw.lf{t:Tr}{b a:List Int}(h:Rw t b a):Lf t a:=by
 induction h with
 | leaf a=>exact .leaf a
 | die _ _ hp _ ih =>
  obtain⟨m,c⟩:=cZ hp;exact .die c ih
def Rw.cons{t:Tr}{x:Int}{a b:List Int}(h:Rw t (x::a) b):∃ ps u,t=.die ps/\0<=x/\x<tot ps/\cN ps x=some u/\Rw u a b:=by
 cases h with
 | die h0 h1 h2 h3=>exact⟨_,_,rfl,h0,h1,h2,h3⟩
def Rw.nil{t:Tr}{a:List Int}(h:Rw t [] a):t=.leaf a:=by
 cases h;rfl
end Nst
namespace My
open PySem L2 FrM Nst
open Tb (Tr fT bnd ci tot so)
inductive spCan(a:Ad)(vs:List V)(H:Hp)(Q:VK)(_E:XK):Prop
 | mk(v:V)(rs:List (Int×V))(t:Int)(h0:vs=[v,.int t])(h1:IsRaw a H v rs)(h2:0<=t)(h3:t<xz rs)(h4:∀ H',Same H H'->Q (.bl true) H'):spCan a vs H Q _E
inductive spDA(a:Ad)(vs:List V)(H:Hp)(Q:VK)(_E:XK):Prop
 | mk(v:V)(ps:List (Int×Tr))(u:Tr)(t:Int)(Bd:List Addr)(h0:vs=[v,.int t])(h1:Bad H Bd)(h2:IsNq a 3 (untrs H Bd) v (.die ps))(h3:0<=t)(h4:t<tot ps)(h5:cN ps t=some u)(h6:TabsOk (tabs a) H)(h7:Rq a 3 H Bd u Q):spDA a vs H Q _E
inductive spDrawn(a:Ad)(vs:List V)(H:Hp)(Q:VK)(_E:XK):Prop
 | mk(v:V)(l:Addr)(t:Tr)(ths ns:List Int)(h0:vs=[v,.ref l])(h1:IsNq a 3 H v t)(h2:Rw t ths ns)(h3:H l=some (.lst (ths.map V.int)))(h4:TabsOk (tabs a) H)(h5:∀ H' k,SameT H H'->TabsOk (tabs a) H'->H' k=some (.tup ((so ns).map V.int))->Q (.ref k) H'):spDrawn a vs H Q _E
section
variable {P:hH}{w:lA}{K:Frag}{mg:Str->Option b_}{base:Heap}{a:Ad}
def xx(T:Txt K mg a):FnX P w base 2 T.W_M (spCan a):=by
 have f:FnO P w K mg base 1 (spV (.int 0)):=xg T;have c:FnO P w K mg base 1 (y8 a):=wj T;refine T.W_M.A.okz iM λp A d s H y Q E b h=>?_
 .obtain⟨v,g,t,rfl,i,r,B,q⟩:=h
  obtain⟨x,j,l,z,rfl,k,_⟩:=id i;refine⟨_,(ag (ao (pec (d7 T) b T.W_U (aa (vr 1) (aa am (aa (au fH (PE.or (ar (vr 0) T.cl_i T.mt_t f b T.W_t.B .nil ax) (ar (vr 0) T.cl_n T.mt_A c b T.W_A.B .nil ax)) am) ad)))))),?_⟩;refine .inr ⟨x,j,_,rfl,k,rfl,_,g,rfl,i,λu o=>?_⟩;refine⟨_,0,_,_,rfl,.int t,?_⟩;rw[show inK 0 (xz g - 1) (.i t)=true from decide_eq_true ⟨r,by lia⟩];exact q _ o
def zH(T:Txt K mg a)(B:Bm mg base):MnX P w mg base 24 T.W_q (spDA a):=by
 have Y:LamOk P w K mg base 23 aO fvP [] (ud a):=LamOk.mono (vZ T B) (by decide);have S:LamOk P w K mg base 23 aP fvP [] (uq a):=LamOk.mono (wN T B) (by decide);have ah:LamOkC P w K mg base 23 ld_going_1 fvG [] (uZ a):=LamOkC.mono (w6 T B) (by decide);have z:LamOk P w K mg base 23 aF fvH [] (mF a):=LamOk.mono (qB T B) (by decide);have R:LamOk P w K mg base 23 bE fv1 [] (yn a):=LamOk.mono (zR T B) (by decide);have J:LamOk P w K mg base 23 bD fv2 [] (yg a):=LamOk.mono (zP T B) (by decide);have F:LamOk P w K mg base 23 aB fvC [] (qw a 2):=LamOk.mono (vc T B) (by decide);refine T.W_q.A.okz sc_q λbq A a0 s H vs Q E y h=>?_
 .obtain⟨v,j,u,t,Bd,rfl,a3,hd,t0,t1,bg,hT,q⟩:=h
  refine⟨_,(af (bc (c7 (dh (aI (xx T) y T.W_M (aa (vr 0) (aa (vr 1) ad))))) (ag fB) aG) (af (psl 2 sc_q am) (af (psl 3 sc_q (au fH (bf (bf (bG (vr 0) rfl) am) am) am)) (af (iE s_ (bO oZ (vr 3) (vr 1) (aX _)) (af (xG (i:=2) sc_q.nd rfl (uS rfl) am wM) (ag (xG (i:=3) sc_q.nd rfl (uS rfl) (bf (bf (bG (vr 0) rfl) (vr 2)) am) wM)))) (af (qU (bf (bG (vr 0) rfl) (vr 2)) (gZ rfl (aW (aN (i:=4) sc_q.nd rfl (uS rfl)) (aW (aN (i:=5) sc_q.nd rfl (uS rfl)) dM)))) (ag (ao (PE.or (aY (vr 5) Y y) (PE.or (aY (vr 5) S y) (PE.or (eJ (vr 5) ah y) (PE.or (aY (vr 5) z y) (PE.or (aY (vr 5) R y) (PE.or (aY (vr 5) J y) (aY (vr 5) F y)))))))))))))),Dx ?_⟩;intro br bn bL bm bF;obtain⟨a5,D,Z⟩:=i6 hd;refine⟨v,a5,t,rfl,D.t cuts_sub,t0,by rw[j5 Z];exact t1,λH1 s1=>?_⟩;have a1:IsNq a 3 (untrs H1 Bd) v (.die j):=hd.t (av s1.t);have ab:=a3.t s1.t;have bl:=hT.same s1;obtain⟨x,dx,l,I,rfl,O,M,hP,bo,bt⟩:=id a1;have O:=(ak O).2;have M:=(ak M).2
  have al:∀ p∈j,0<=p.1:=λp hp=>by
   obtain⟨i,hi⟩:=v_ hp;have a':i<I.length:=by rw[<- hP.length];exact(fP.mp hi).1
   obtain⟨p',L,_,_,_,_,h3,_⟩:=aK hP (ki a');rw[hi]at L;cases L;lia
  have yl:I.length=j.length:=hP.length.symm
  have C:∀ k:Nat,k<j.length->∃ r f d u,I[k]? = some (.ref r)/\j[k]? = some (d,u)/\H1 r=some (.tup [.int d,f])/\IsMq a 3 (untrs H1 Bd) f u:=λk hk=>by
   have a2:k<I.length:=by lia
   have e:I[k]? = some I[k]:=ki a2;obtain⟨⟨d,u⟩,o,r,f,e2,as,_,h3⟩:=aK hP e;exact⟨r,f,d,u,by rw[e,e2],o,(ak as).2,h3⟩
  obtain⟨qz,fz,mz,uz,yz,pz,hz,_⟩:=C 0 (by lia);refine⟨x,_,dx,_,_,rfl,O,T.cl_n,T.na_Die_makes,rfl,.inl ⟨l,_,_,_,rfl,rfl,SqL.of M,aJ 0 rfl yz,.inr (.inl ⟨qz,_,_,_,rfl,rfl,SqT.of hz,aJ 0 rfl rfl,?_⟩)⟩⟩;have tz:tot (j.take 1)=mz:=by rw[pP pz];simp[tot]
  refine⟨λk σ H'=>H'=H1/\∃(b:Nat) (g:Int) (x4 x5:Option V),σ=[some (.ref x),some (.int t),some (.int (b:Nat)),some (.int g),x4,x5]/\b<j.length/\g=tot (j.take (b+1)) - 1/\tot (j.take b)<=t/\k=j.length - b,⟨_,rfl,0,_,_,_,rfl,by lia,by rw[tz],by simpa[tot] using t0,rfl⟩,?_⟩;rintro k σ H' ⟨rfl,b,g,x4,x5,rfl,hn,G,N,rfl⟩;refine ifC (λc=>?_) λc=>?_
  .have c:g<t:=c
   have an:b+1<j.length:=by
    rcases Nat.lt_or_ge (b+1) j.length with h | h
    .exact h
    .rw[rb h]at G;lia
   obtain⟨r,f,d,u,hy,o,hq,_⟩:=C (b+1) an
   let Pw2:St->Hp->Prop:=λW X=>X=H'/\W=[some (.ref x),some (.int t),some (.int ((b+1:Nat):Int)),some (.int (g+d)),x4,x5]
   refine⟨Pw2,?_,?_⟩
   .rintro W X ⟨rfl,rfl⟩
    exact⟨_,by lia,rfl,b+1,_,_,_,rfl,an,by rw[pP o];lia,by lia,rfl⟩
   .refine⟨_,rfl,_,_,rfl,rfl,_,rfl,?_⟩
    exact⟨x,_,dx,_,_,rfl,O,T.cl_n,T.na_Die_makes,rfl,.inl ⟨l,_,_,_,rfl,rfl,SqL.of M,aJ (b+1) (by show(b:Int)+1=((b+1:Nat):Int);lia) hy,.inr (.inl ⟨r,_,_,_,rfl,rfl,SqT.of hq,aJ 0 rfl rfl,_,_,rfl,rfl,rfl,by rw[show((b+1:Nat):Int)=(b:Int)+1 by lia];rfl⟩)⟩⟩
  .have c:¬g<t:=c
   obtain⟨r,f,d,u,hy,o,hq,hf⟩:=C b hn;have eu:=rZ j b t d u al o N (by lia);rw[bg]at eu;cases eu;refine⟨x,_,dx,_,_,rfl,O,T.cl_n,T.na_Die_makes,rfl,.inl ⟨l,_,_,_,rfl,rfl,SqL.of M,aJ b (by lia) hy,r,_,rfl,SqT.of hq,rfl,_,_,rfl,_,_,rfl,rfl,?_⟩⟩;exact lN (Bd:=Bd) (n:=3) (fS 3) hf ab bl λH2 v2 t2 bb nd=>q _ _ (s1.t.trans t2) bb nd
def kc(T:Txt K mg a)(hB:Bm mg base):FnX P w base 25 T.W_ae (spDrawn a):=by
 have Z:FnO P w K mg base 24 (spDA a):=zH T hB;have an:FnO P w K mg base 24 (spV (.bl true)):=(rY T).mo;have ah:FnO P w K mg base 24 (spV (.bl false)):=(sX T).mo;have W:FnO P w K mg base 24 (zh a):=(vm T).mo;have S:FnO P w K mg base 24 (spV .non):=(vk T).mo;refine T.W_ae.A.okz sc_ae λa5 A J s H vs Q E r h=>?_
 .obtain⟨v,l,t,f,ns,rfl,as,ab,hl,hT,q⟩:=h
  refine⟨_,(af (psl 2 sc_ae (vr 0)) (af (c8 s_ rfl (tP rfl T.z_enumerate (aa (vr 1) ad)) (gZ rfl (aW (aN (i:=3) sc_ae.nd rfl (uS rfl)) (aW (aN (i:=4) sc_ae.nd rfl (uS rfl)) dM))) (af (bc (c7 (dh (aI (xx T) r T.W_M (aa (vr 2) (aa (vr 4) ad))))) (ag fB) aG) (ag (psl 2 sc_ae (dF (vr 2) T.cl_n T.mt_q Z r T.W_q.B .nil ax (aa (vr 4) ad)))))) (af (bc (c7 (dh (PE.or (ar (vr 2) T.cl_i T.mt_e an r T.W_e.B .nil ax) (ar (vr 2) T.cl_n T.mt_h ah r T.W_h.B .nil ax)))) (ag fB) aG) (ag (ao (PE.or (ar (vr 2) T.cl_i T.mt_p W r T.W_p.B .nil ax) (ar (vr 2) T.cl_n T.mt_r S r T.W_r.B .nil ax))))))),mn ?_⟩;intro a3 a2 a1
  let Pw1:PvS:=λi D j=>SameT H j/\TabsOk (tabs a) j/\∃(c:V) (G I:Option V) (C:Tr),D=[some v,some (.ref l),some c,G,I]/\IsNq a 3 j c C/\Rw C (f.drop i) ns
  refine⟨l,_,rfl,hl,oY (a:=l) (xs:=f.map V.int) Pw1 ⟨SameT.refl,hT,v,none,none,t,rfl,as,ab⟩ (λi D j h=>h.1.at hl) ?_ ?_⟩
  .rintro i x D j p g ⟨t1,k,c,G,I,C,rfl,o,d⟩ hp
   rw[gb]at g;cases hri:f[i]? with
   | none=>rw[hri]at g;cases g
   | some tw =>
    rw[hri]at g;cases g
    have O:f.drop i=tw::f.drop (i+1):=by
     obtain⟨hi,e⟩:=fP.mp hri;rw[Ix hi,e]
    rw[O]at d;obtain⟨ps,u,rfl,t0,tt,al,Y⟩:=d.cons;have F:Same j (upd j p (.tup [.int (i:Nat),.int tw])):=Same.new hp;have hd:=o.t F.t;refine⟨p,_,rfl,SqT.of ac,rfl,_,_,rfl,_,_,rfl,rfl,?_⟩;obtain⟨rs,z,L⟩:=i6 hd;refine⟨c,rs,tw,rfl,z,t0,by rw[j5 L];exact tt,λH2 X=>?_⟩;have B:=hd.t X.t;obtain⟨x,y,l',a0,rfl,R,_⟩:=id B;refine⟨x,y,_,rfl,R,rfl,_,ps,u,tw,[],rfl,(λb hb=>by cases hb),(by rw[bP];exact B),t0,tt,al,(k.same F).same X,λH3 v' t4 hT4 few=>?_⟩;rw[bP]at few;exact⟨t1.trans (F.t.trans (X.t.trans t4)),hT4,v',_,_,u,rfl,few,Y⟩
  .rintro D j ⟨t1,k,c,G,I,C,rfl,o,d⟩
   rw[d_,List.drop_length]at d;have e:=d.nil;subst e;obtain⟨x,y,kt,N,rfl,g,M,hs⟩:=n4 o;have en:N=Tb.so ns:=Tb.so_uniq hs.1 hs.2;subst en;refine .inl ⟨x,y,_,rfl,g,rfl,_,rfl,?_⟩;exact .inl ⟨x,y,_,rfl,g,rfl,x,y,kt,rfl,g,q _ kt t1 k M⟩
end
end My
namespace My
open PySem L2 FrM Du LexM
open Tb (Tr Ent Way Rws Ch Lm2 Grp bnd ci Dk Dks)
def v3(i:Int)(a:List Int):inV (.int i) (a.map V.int)=decide (i∈a):=by
 unfold inV;rw[any_map]
 induction a with
 | nil=>rfl
 | cons x r ih =>
  rw[G5,ih];simp only[i_,Function.comp]
  by_cases e:i=x
  .subst e;simp[eqV]
  .have b:¬x=i:=λz=>e z.symm
   simp[eqV,e,b]
def uV(a:List Int):(a.map V.int).all gN=true:=by
 rw[JY];exact oo.mpr λx _=>rfl
def TF(kvs:List (List Key×V))(F:Tb.F2t):Prop:=∀ x y:Int,(cb kvs [.inl x,.inl y]).getD (.int 0)=.int (F x y)
def TF.nil:TF [] (λ_ _=>0):=λ_ _=>rfl
def TF.put{a:List (List Key×V)}{F:Tb.F2t}(h:TF a F)(x y n:Int):TF (gY a [.inl x,.inl y] (.int n)) (λx' y'=>if x'=x/\y'=y then n else F x' y'):=λx' y'=>by
 show _=V.int (if x'=x/\y'=y then n else F x' y');rw[wO]
 by_cases c:x'=x/\y'=y
 .rw[if_pos (by rw[c.1,c.2]),if_pos c];rfl
 .rw[if_neg,if_neg c]
  .exact h x' y'
  .intro z
   injection z with z1 z2
   injection z1 with z1
   injection z2 with z2
   injection z2 with z2
   exact c ⟨z1,z2⟩
def kK{f d:Type}{r c:f->d->Prop}:∀{as:List f}{bs:List d},(∀ a∈as,∀ b,r a b->c a b)->Paired r as bs->Paired c as bs
 | _,_,_,.nil=>.nil
 | _,_,h,.cons x t=>.cons (h _ gT _ x) (kK (λa i b g=>h a (hI _ i) b g) t)
inductive spMR(K:Frag)(vs:List V)(H:Hp)(Q:VK)(_E:XK):Prop
 | mk(i L:Int)(lp dt:Addr)(ps:List Int)(kvs:List (List Key×V))(F:Tb.F2t)(h0:vs=[.int i,.ref lp,.ref dt,.int L])(h1:H lp=some (.lst (ps.map V.int)))(h2:ps.length<=100)(h3:H dt=some (.dT kvs))(h4:TF kvs F)(h5:0<L)(h6:Bt 6000 L)(h7:(∀ j∈ps,Bt 6000 (F i j)))(h8:∀ H' D zs,Same H H'->H D=none->H' D=some (.lst zs)->Paired (λj z=>IsF K H' (kr (F i j) L) z) ps zs->Q (.ref D) H'):spMR K vs H Q _E
def MRow(K:Frag)(H H':Hp)(M:Int->Int->Rat)(ps:List Int)(i:Int)(y:V):Prop:=∃ D zs,y=.ref D/\H D=none/\H' D=some (.lst zs)/\Paired (λj z=>IsQ K H' (M i j) z) ps zs
def zK(a:Ad)(K:Frag):Sp:=λvs H Q E=>∃ v d t lp ps,∃ D:Nat,vs=[v,.ref lp]/\IsNq a 3 H v t/\Dk d t/\d<=24/\Tb.Ok t/\(∀ L:List (List Int),L.Nodup->(∀ k∈L,k∈(Tb.toR (Tb.kW (Tb.wl t 1 1))).map (·.1))->L.length<64)/\0<D/\D<=Lm2/\(∀ w∈Tb.wl t 1 1,Ch (D:Int) w.2)/\TabsOk (tabs a) H/\H lp=some (.lst (ps.map V.int))/\ps.length<=100/\(Tb.lv t<=4096->∀ H' l R ys,SameT H H'->TabsOk (tabs a) H'->H l=none->H' l=some (.lst ys)->V.ref l ∉ ys->Tb.IsTab (Tb.toR (Tb.kW (Tb.wl t 1 1))) R->Paired (MRow K H H' (Tb.mm R) ps) ps ys->ys.Nodup->Q (.ref l) H')/\(4096<Tb.lv t->RefMT a H E)
def db{a:List Int}{i:Nat}{x:V}(h:(a.map V.int)[i]? = some x):∃ n,a[i]? = some n/\V.int n=x:=by
 rw[gb]at h;cases e:a[i]? with
 | none=>rw[e]at h;cases h
 | some n=>rw[e]at h;cases h;exact⟨n,rfl,rfl⟩
section
variable {P:hH}{w:lA}{K:Frag}{mg:Str->Option b_}{base:Heap}{a:Ad}
def yY(T:Txt K mg a):MnX P w mg base 3 T.W_matrix_row_dice (spMR K):=by
 refine T.W_matrix_row_dice.A.okz hV λah A O s H vs Q E hr h=>?_
 .obtain⟨i,L,lp,dt,I,u,F,rfl,k,ab,g,hF,hL,bL,bF,q⟩:=h
  have S:sizeLine=16777216:=j_;refine⟨_,(ag (ao (aV rfl (N:=["other","bottom","tops","one"]) (ix:=[none,some 3,some 2,some 0]) aD (a6 (vr 1)) (aQ λC s H fp=>⟨bM 0 ["other","bottom","tops","one"],aU,(pec (iD T) hr T.W_ah (aa (qc (pB hr) (vr 2) (bh (aa (vr 3) (aa (vr 0) ad))) am ⟨rfl,rfl,rfl,rfl⟩) (aa (vr 1) ad)))⟩)))),?_⟩;refine .inl ⟨⟨_,SqL.of k⟩,λD M=>?_⟩
  let Pw1:PvL:=λn f c=>n<=I.length/\Same H c/\c D=some (.lst f)/\Paired (λj z=>IsF K c (kr (F i j) L) z) (I.take n) f
  refine a8 (K:=K) (a:=lp) (xs:=I.map V.int) Pw1 ⟨h_ _,Same.new M,ac,.nil⟩ (λn ys c h=>SqL.of (h.2.1 _ _ k)) (λn ys c h=>h.2.2.1) ?_ ?_
  .rintro n y f c P' hy ⟨hn,r,d,v⟩ J
   obtain⟨j,Y,rfl⟩:=db hy;have X:n<I.length:=(fP.mp Y).1;refine⟨⟨rfl,rfl,rfl,trivial⟩,?_⟩;refine⟨dt,rfl,.inr ⟨u,.inl (r _ _ g)⟩,cS _ _,λt ft=>?_⟩;have G:=Same.new (o:=.tup [.int i,.int j]) ft;refine⟨_,.inr ⟨u,[.inl i,.inl j],t,.inl ((r.trans G) _ _ g),rfl,ac,rfl⟩,?_⟩;refine⟨F i j,L,by rw[hF i j];rfl,hL,bF j (ge Y),bL,λZ p R W=>?_⟩;have x:=(G.trans R) _ _ d;have B:TK Z (upd Z D (.lst (f++[.ref p]))):=λb us e=>by rw[ae (cF e x (λz=>nomatch z))];exact e
   refine⟨x,by rw[<- v.length,mx];lia,J _ _ ⟨X,((r.trans G).trans R).put M,ac,?_⟩⟩;refine a7 (aj (λj z (h:IsF K c (kr (F i j) L) z)=>(h.same (G.trans R)).tk B) v) Y ⟨p,rfl,.inl (B _ _ W)⟩
  .rintro f c ⟨_,r,d,v⟩
   rw[d_,oD]at v;exact q _ D f r M d v
def uH(T:Txt K mg a)(hB:Bm mg base):FnOk P w K mg base (CXG P w) 28 a.f_v a.d_v ["node","places"] (zK a K):=by
 have dy:FnOk P w K mg base (CXG P w) 27 _ _ _ (oM a K):=pX T hB;have f:FnO P w K mg base 27 (spMR K):=(yY T).mo;refine T.W_v.A.okG sc_v (λvs H Q E h=>?_) (λcdv A outer s H vs Q E hr h=>?_)
 .obtain⟨v,d,t,lp,ps,D,rfl,_⟩:=h;rfl
 .obtain⟨v,d,t,lp,ps,D9,rfl,hn,d2,hd,cx,dm,Dp,bg,a3,hT,df,ef,q1,q2⟩:=h
  have eb:sizeLine=16777216:=j_;refine⟨_,(af (psl 2 sc_v (dX dy hr rfl T.W_P.C T.W_P.A.kp T.W_P.B .nil sO (aa (vr 0) ad))) (af (psr 3 sc_v (aI (xJ T) hr T.W_w (aa (aV rfl (N:=["kept","chance"]) (ix:=[none,none]) aD (a6 (vr 2)) (aQ λC s H fp=>⟨(gh (K:=K) (n:=2) rfl rfl (gz ["kept","chance"])),aU,(gm (gB (K:=K) rfl) (vr 1) am)⟩)) ad))) (af (psr 4 sc_v pM) (af (c8 vB rfl (a6 (vr 2)) (gZ rfl (aW (aN (i:=5) sc_v.nd rfl (uS rfl)) (aW (aN (i:=6) sc_v.nd rfl (uS rfl)) dM))) (af (psl 7 sc_v (au cO (bf (vr 6) am) (au gx (vr 3) (bf (vr 6) am)))) (af (n8 rfl (i:=8) sc_v.nd rfl rfl (by with_unfolding_all rfl) (N:=["place","places"]) (ix:=[none,some 1]) aD (a6 (vr 5)) (aQ λC s H fp=>⟨bM 0 ["place","places"],nk (bO (q8 (K:=K) rfl) (vr 0) (vr 1) (by with_unfolding_all rfl)),(vr 0)⟩)) (ag (c8 vB rfl (a6 (vr 8)) (aN (i:=9) sc_v.nd rfl (uS rfl)) (ag (c8 vB rfl (a6 (vr 8)) (aN (i:=10) sc_v.nd rfl (uS rfl)) (ag (yL (pB hr) (vr 4) (bh (aa (vr 9) (aa (vr 10) ad))) (au bY (qc (pB hr) (vr 4) (bh (aa (vr 9) (aa (vr 10) ad))) am ⟨rfl,rfl,rfl,rfl⟩) (vr 7)) rfl))))))))) (ag (ao (aV rfl (N:=["one","places","tops","bottom"]) (ix:=[none,some 1,some 4,some 3]) aD (a6 (vr 1)) (aQ λC s H fp=>⟨bM 0 ["one","places","tops","bottom"],aU,(dX f hr rfl T.m_matrix_row_dice T.W_matrix_row_dice.A.kp T.W_matrix_row_dice.B .nil ax (aa (vr 0) (aa (vr 1) (aa (vr 2) (aa (vr 3) ad)))))⟩)))))))),wZ ?_⟩;intro ei em eg el;refine⟨v,d,t,D9,rfl,hn,d2,hd,cx,dm,Dp,bg,a3,hT,λd' H1 lr R ys t1 dT ej cj hR a5 ek=>?_,q2⟩;have gd:=Tb.gd_ch cx Dp a3 a5;clear a3;have c0:=Tb.tab_key cx a5;have Rl:R.length=ys.length:=hR.length;have cP:=t1.at df;have dr:∀ r∈R,Bt 2721 r.2.num/\Bt 2721 (r.2.den:Int):=λr hr=>Tb.bq_bb Dp bg (gd.one hr)
  have cB:∀ r∈R,(0:Int)<(r.2.den:Int)/\(r.2.den:Int) ∣ (D9:Int):=λr hr=>let z:=Tb.bq_bt Dp (gd.one hr);⟨z.2.2.1,z.2.2.2⟩
  refine .inl ⟨⟨_,SqL.of cj⟩,λD1 cW=>?_⟩
  let Pw2:PvL:=λi zs H'=>Same H1 H'/\H' D1=some (.lst zs)/\i<=R.length/\zs=((R.take i).map λr=>(r.2.den:Int)).map V.int
  refine a8 (K:=K) (a:=lr) (xs:=ys) Pw2 ⟨Same.new cW,ac,h_ _,rfl⟩ (λi ys H' h=>SqL.of (h.1 _ _ cj)) (λi ys H' h=>h.2.1) ?_ ?_
  .rintro i y zs H' P' hy ⟨s1,bo,hi,rfl⟩ ah
   obtain⟨r,S,bb⟩:=aK hR hy;obtain⟨p,kt,z,rfl,hp,b',z9,rfl,hz⟩:=RowR.tk s1.tk r _ bb;have ca:i<R.length:=(fP.mp S).1;refine⟨p,_,rfl,SqT.of hp,rfl,_,_,rfl,_,_,rfl,rfl,trivial,px1 hz.sq ⟨bo,by rw[d_,d_,mx];lia,ah _ _ ⟨s1.put cW,ac,ca,?_⟩⟩⟩;rw[oN,S];simp;rfl
  rintro zs Ha ⟨s1,bo,_,rfl⟩;rw[<- Rl,oD]at bo;refine⟨D1,_,D9,rfl,SqL.of bo,Dp,bg,λn ec=>?_,λL hL0 hLD hLn=>?_⟩
  .obtain⟨r,S,rfl⟩:=nh.mp ec
   exact cB r S
  have dL:∀ r∈R,(r.2.den:Int) ∣ L:=λr hr=>hLn _ (nh.mpr ⟨r,hr,rfl⟩)
  have LD:=ER (show(0:Int)<(D9:Int) by lia) hLD;have bL:=Tb.bt_of (i:=L) Dp bg (by lia) LD;intro I c3;have u2:=Same.new (o:=.dT []) c3;have M:=ac (H:=Ha) (a:=I) (o:=.dT []);have cR:=dT.same (s1.trans u2);have t2:=t1.trans (s1.trans u2).t;have bF:=s1.trans u2;have cG:=aj (RowR.tk bF.tk) hR;generalize upd Ha I (.dT [])=H2 at u2 M cR t2 bF cG;have bn:=bF _ _ cj;have a1:=bF _ _ cP;have ed:lr≠I:=cF bn M (λz=>nomatch z);have cT:lp≠I:=cF a1 M (λz=>nomatch z);have b6:H I=none:=(t1.trans s1.t).free c3
  let Pw3:PvS:=λi Y H'=>∃(O:List (List Key×V)) (x5 x6 x7 x8 x9 g:Option V),(∀ b o,b≠I->H2 b=some o->H' b=some o)/\TabsOk (tabs a) H'/\H' I=some (.dT O)/\TF O (Tb.tF ps L (R.take i))/\O.length<=576*i/\i<=R.length/\Y=[some v,some (.ref lp),some (.ref lr),some (.int L),some (.ref I),x5,x6,x7,x8,x9,g]
  refine .inl ⟨⟨_,SqL.of bn⟩,dq (K:=K) (a:=lr) (xs:=ys) Pw3 ⟨[],none,none,none,none,none,none,(λb o _ e=>e),cR,M,TF.nil,h_ _,h_ _,rfl⟩ (λi Y H' _ h=>by
   obtain⟨O,x5,x6,x7,x8,x9,g,k,_⟩:=h
   exact SqL.of (k _ _ ed bn)) ?_ ?_⟩
  .rintro i y Y H' hy ⟨O,x5,x6,x7,x8,x9,g,kp,cc,co,hF,dz,hi,rfl⟩
   obtain⟨r,S,bb⟩:=aK cG hy;have ca:i<R.length:=(fP.mp S).1;have rm:=ge S;obtain⟨p,kt,z,rfl,hp,b',z9,rfl,hz⟩:=RowR.tk (H':=H') (λb us e=>kp _ _ (cF e M (λz=>nomatch z)) e) r _ bb;obtain⟨b1,b2⟩:=dr r rm;obtain⟨d0,dd⟩:=cB r rm;obtain⟨a',as⟩:=c0 r rm;have bq:=Tb.bt_of (i:=L/(r.2.den:Int)) Dp bg (Ie (by lia) (by lia)) (Gs (HJ _ (by lia)) LD);refine⟨p,_,rfl,SqT.of hp,rfl,_,_,rfl,_,_,rfl,rfl,?_⟩;refine px0 hz.sq (px1 hz.sq ⟨cdB d0 b2,cmB b1 bq,?_⟩);refine .inr ⟨⟨_,SqT.of b'⟩,λD3 dc=>?_⟩;have c6:=kp _ _ cT a1
   let Pw4:PvL:=λn zs H5=>Same H' H5/\H5 D3=some (.lst zs)/\n<=r.1.length/\zs=(Tb.askd ps (r.1.take n)).map V.int
   refine fg (K:=K) (a:=kt) (xs:=r.1.map V.int) Pw4 ⟨Same.new dc,ac,h_ _,rfl⟩ (λn ys H5 h=>SqT.of (h.1 _ _ b')) (λn ys H5 h=>h.2.1) ?_ ?_
   .rintro n y zs H5 P' hy ⟨X,q,d1,rfl⟩ ah
    obtain⟨x,hx,rfl⟩:=db hy;have an:n<r.1.length:=(fP.mp hx).1;refine⟨⟨rfl,trivial⟩,lp,_,rfl,.inl (SqL.of (X _ _ c6)),rfl,uV _,?_⟩;have ea:=Tb.askd_snoc (ps:=ps) hx;rw[v3];refine ifC (λc=>?_) (λc=>?_)
    .rw[if_pos c]at ea
     have:=Tb.askd_len ps (r.1.take n);rw[mx]at this;exact⟨q,by rw[d_];lia,ah _ _ ⟨X.put dc,ac,an,by rw[ea,nv];rfl⟩⟩
    .rw[if_neg c,Fj]at ea
     exact ah _ _ ⟨X,q,an,by rw[ea]⟩
   rintro zs H5 ⟨X,q,_,rfl⟩;rw[d_,oD]at q;have a':=Tb.askd_nd (ps:=ps) a';have as:=lB (Tb.askd_len ps r.1) as;have ck:=Tb.tF_snoc (ps:=ps) (L:=L) S;generalize hal:Tb.askd ps r.1=al at q a' as ck;have b5:=X _ _ co;have cm:D3≠I:=cF q b5 (λz=>nomatch z);have dp:∀ b o,b≠I->H2 b=some o->H5 b=some o:=λb o n e=>X _ _ (kp _ _ n e)
   have dk:=cc.same X;have eo:r.2.num*(L/(r.2.den:Int))=Tb.tp L r:=rfl;generalize hG:Tb.tF ps L (R.take i)=G at hF ck
   let Pw5:PvS:=λn Y H6=>∃(J:List (List Key×V)) (x9 g:Option V),(∀ b o,b≠I->H5 b=some o->H6 b=some o)/\TabsOk (tabs a) H6/\H6 I=some (.dT J)/\TF J (Tb.F1 G al n (Tb.tp L r))/\J.length<=576*i+24*n/\n<=al.length/\Y=[some v,some (.ref lp),some (.ref lr),some (.int L),some (.ref I),some (.ref kt),some (.ref z9),some (.int (Tb.tp L r)),some (.ref D3),x9,g]
   refine .inl ⟨⟨_,SqL.of q⟩,dq (K:=K) (a:=D3) (xs:=al.map V.int) Pw5 ⟨O,_,_,(λb o _ e=>e),dk,b5,by rw[Tb.F1_zero];exact hF,by lia,h_ _,rfl⟩ (λn Y H6 _ h=>by
    obtain⟨J,x9,g,k,_⟩:=h
    exact SqL.of (k _ _ cm q)) ?_ ?_⟩
   .rintro n y Y H6 hy ⟨J,x9,g,br,cA,bm,bS,b0,ds,rfl⟩
    obtain⟨x0,cg,rfl⟩:=db hy;have an:n<al.length:=(fP.mp cg).1
    let Pw6:PvS:=λm Y H7=>∃(B:List (List Key×V)) (g:Option V),(∀ b o,b≠I->H5 b=some o->H7 b=some o)/\TabsOk (tabs a) H7/\H7 I=some (.dT B)/\TF B (Tb.F2 G al n m (Tb.tp L r))/\B.length<=576*i+24*n+m/\m<=al.length/\Y=[some v,some (.ref lp),some (.ref lr),some (.int L),some (.ref I),some (.ref kt),some (.ref z9),some (.int (Tb.tp L r)),some (.ref D3),some (.int x0),g]
    refine .inl ⟨⟨_,SqL.of (br _ _ cm q)⟩,dq (K:=K) (a:=D3) (xs:=al.map V.int) Pw6 ⟨J,_,br,cA,bm,by rw[Tb.F2_zero];exact bS,by lia,h_ _,rfl⟩ (λm Y H7 _ h=>by
     obtain⟨B,g,k,_⟩:=h
     exact SqL.of (k _ _ cm q)) ?_ ?_⟩
    .rintro m y Y H7 hy ⟨B,g,cf,ct,Z,a2,b3,de,rfl⟩
     obtain⟨y0,c',rfl⟩:=db hy;have dv:m<al.length:=(fP.mp c').1;have dK:=Tb.F2_step (F:=G) (t:=Tb.tp L r) a' cg c';refine⟨I,rfl,.inr ⟨B,.inl Z⟩,cS _ _,λtt ft=>?_⟩;have s8:=Same.new (o:=.tup [.int x0,.int y0]) ft;have b4:=s8 _ _ Z;refine⟨_,.inr ⟨B,[.inl x0,.inl y0],tt,.inl b4,rfl,ac,rfl⟩,?_⟩;rw[a2 x0 y0];refine⟨cS _ _,λt2 dx=>?_⟩;have s9:=Same.new (o:=.tup [.int x0,.int y0]) dx;have ab:=s9 _ _ b4;refine⟨I,_,rfl,.inr ⟨B,[.inl x0,.inl y0],t2,ab,rfl,ac,by lia,rfl⟩,?_⟩;have ch:=s8.trans s9;generalize upd (upd H7 tt (.tup [.int x0,.int y0])) t2 (.tup [.int x0,.int y0])=H9 at ab ch;have en:=fX B [.inl x0,.inl y0] (.int (Tb.F2 G al n m (Tb.tp L r) x0 y0+Tb.tp L r));refine⟨_,_,λb o nb e=>by rw[ae nb];exact ch _ _ (cf _ _ nb e),(ct.same ch).put (λps z=>by rw[ab]at z;cases z) (λφ z=>by rw[ab]at z;cases z),ac,by rw[dK];exact a2.put x0 y0 _,by lia,dv,rfl⟩
    .rintro Y H7 ⟨B,g,cf,ct,Z,a2,b3,de,rfl⟩
     rw[d_]at a2 b3;exact⟨B,_,_,cf,ct,Z,by rw[<- Tb.F2_end a' cg];exact a2,by lia,an,rfl⟩
   .rintro Y H6 ⟨J,x9,g,br,cA,bm,bS,b0,ds,rfl⟩
    rw[d_]at bS b0;refine⟨J,_,_,_,_,_,_,λb o nb e=>br _ _ nb (dp _ _ nb e),cA,bm,λx y=>?_,by lia,ca,rfl⟩;rw[bS x y,Tb.F1_end,ck x y]
  rintro Y H3 ⟨O,x5,x6,x7,x8,x9,g,kp,cc,co,hF,dz,hi,rfl⟩;rw[<- Rl,oD]at hF;have a0:=kp _ _ cT a1
  have t3:SameT H H3:=⟨λb o e=>by
   have nb:b≠I:=λz=>by rw[z,b6]at e;cases e
   obtain⟨e1,o1,e2⟩:=t2 b o e
   exact⟨λnp=>kp _ _ nb (e1 np),o1,kp _ _ nb e2⟩,λb o e=>by
   have nb:b≠I:=λz=>by rw[z,b6]at e;cases e
   obtain⟨m,e1,t⟩:=t2.gr b o e
   exact⟨m,kp _ _ nb e1,t⟩⟩
  refine .inl ⟨⟨_,SqL.of a0⟩,λD5 q=>?_⟩
  let Pw7:PvL:=λn ws H'=>n<=ps.length/\Same H3 H'/\H' D5=some (.lst ws)/\ws.Nodup/\Paired (MRow K H3 (untr H' D5) (Tb.mm R) ps) (ps.take n) ws
  refine a8 (K:=K) (a:=lp) (xs:=ps.map V.int) Pw7 ⟨h_ _,Same.new q,ac,Ir,.nil⟩ (λn ys H' h=>SqL.of (h.2.1 _ _ a0)) (λn ys H' h=>h.2.2.1) ?_ ?_
  .rintro n y ws H' P' hy ⟨d1,X,bt,cs,W⟩ ah
   obtain⟨x,hx,rfl⟩:=db hy;have an:n<ps.length:=(fP.mp hx).1;have wl:ws.length<=100:=by rw[<- W.length,mx];lia
   refine⟨⟨rfl,rfl,rfl,trivial⟩,?_⟩;refine⟨x,L,lp,I,ps,O,Tb.tF ps L R,rfl,X _ _ a0,ef,X _ _ co,hF,hL0,bL.mono (by decide),λj hj=>?_,λH7 D7 zs s7 fD7 hD7 hz7=>?_⟩
   .obtain⟨g1,g2⟩:=Tb.tF_le hL0 gd (ge hx) hj dL
    exact(bL.mono (show 2721<=6000 by decide)).le (by lia)
   have c9:=s7 _ _ bt;have cy:D7≠D5:=λz=>by rw[z,bt]at fD7;cases fD7
   have c1:∀{b:Addr}{us:List V},H7 b=some (.tup us)->(untr (upd H7 D5 (.lst (ws++[.ref D7]))) D5) b=some (.tup us):=λ{b us} e=>by
    have nb:b≠D5:=cF e c9 (λz=>nomatch z);rw[aA nb,ae nb];exact e
   have c2:SameT (untr H' D5) (untr (upd H7 D5 (.lst (ws++[.ref D7]))) D5):=(lI s7.t).trans jY;refine⟨c9,by lia,ah _ _ ⟨an,(X.trans s7).put q,ac,?_,?_⟩⟩
   .refine rD.mpr ⟨cs,by simp,λu hu u' dV e=>?_⟩
    have e':u'=V.ref D7:=by simpa using dV
    rw[e,e']at hu;obtain⟨j,hj⟩:=v_ hu;obtain⟨i9,_,D9,bl,e9,_,h9,_⟩:=aK W hj;cases e9;rw[aA cy,fD7]at h9;cases h9
   .refine a7 (aj (λi y ⟨D9,bl,e9,f9,h9,p9⟩=>⟨D9,bl,e9,f9,c2.at h9,aj (λj z h=>h.tk (λb us e=>c2.at e)) p9⟩) W) hx ⟨D7,zs,rfl,X.free fD7,?_,?_⟩
    .rw[aA cy,ae cy];exact hD7
    .refine kK (λj hj z h=>?_) hz7
     rw[Tb.low_tops hL0 (Tb.tF_rat hL0 (ge hx) hj dL)]at h;exact h.tk λb us e=>c1 e
  .rintro ws H' ⟨_,X,bt,cs,W⟩
   rw[d_,oD]at W;refine q1 d' _ D5 R ws (t3.trans X.t) (cc.same X) (t3.free q) bt (λhm=>?_) a5 (aj (λi y ⟨D9,bl,e9,f9,h9,p9⟩=>⟨D9,bl,e9,t3.free f9,cut_sub.at h9,aj (λj z h=>h.tk (λb us e=>cut_sub.at e)) p9⟩) W) cs;obtain⟨j,hj⟩:=v_ hm;obtain⟨i9,_,D9,bl,e9,_,h9,_⟩:=aK W hj;cases e9;rw[bX]at h9;cases h9
end
end My
namespace Nd
open PySem Nst FrM
def eFn(n w:Nat)(i j:Nat):Rat:=if i=j then (w:Rat)/(n:Rat) else (w:Rat)*((w:Rat) - 1)/((n:Rat)*((n:Rat) - 1))
end Nd
namespace Nd
open FrM
def oC{n w i j:Nat}(h:0<(if i=j then (n:Int) else (n:Int)*((n:Int) - 1))):kr (if i=j then (w:Int) else (w:Int)*((w:Int) - 1)) (if i=j then (n:Int) else (n:Int)*((n:Int) - 1))=Du.fr (eFn n w i j):=by
 rw[Du.low_div _ h];unfold eFn
 by_cases e:i=j
 .rw[if_pos e,if_pos e,if_pos e];rfl
 .rw[if_neg e,if_neg e,if_neg e]
  congr 1
  push_cast
  rfl
end Nd
namespace My
open PySem L2 FrM Du LexM
open Nd (eFn oC)
open Tb (Tr fT rng)
abbrev fvW:List Str:=["wanted","there"]
def lsW:LamScope bu fvW ["one","other"]:=⟨rfl,rfl,rfl,by decide +kernel,by decide +kernel,by decide +kernel,by decide +kernel,by decide +kernel⟩
def CrP(H:Hp)(p:Int)(y:V):Prop:=∃ q r,y=.ref q/\H q=some (.tup (.int p::r))
def CrP.same{H H':Hp}(s:Same H H')(p:Int)(y:V)(h:CrP H p y):CrP H' p y:=let ⟨q,r,e,h1⟩:=h;⟨q,r,e,s _ _ h1⟩
inductive spPlaces(vs:List V)(H:Hp)(Q:VK)(_E:XK):Prop
 | mk(l:Addr)(xs:List V)(ps:List Int)(h0:vs=[.ref l])(h1:H l=some (.lst xs))(h2:Paired (CrP H) ps xs)(h3:ps.length<=24)(h4:∀ H' r,Same H H'->H r=none->H' r=some (.lst (ps.map V.int))->Q (.ref r) H'):spPlaces vs H Q _E
inductive spNeedN(vs:List V)(H:Hp)(Q:VK)(_E:XK):Prop
 | mk(i lo hi:Int)(h0:vs=[.int i,.int lo,.int hi])(h1:lo<=i)(h2:i<=hi)(h3:Q .non H):spNeedN vs H Q _E
def IsFew(a:Ad)(H:Hp)(v:V)(m:Nat):Prop:=∃ x dx,v=.ref x/\H x=some (.ins a.c_Q dx [("many",.int (m:Nat))])
def IsFew.t{a:Ad}{H H':Hp}{v:V}{m:Nat}(s:SameT H H')(h:IsFew a H v m):IsFew a H' v m:=let ⟨x,dx,e,h1⟩:=h;⟨x,dx,e,s.at h1⟩
inductive spFewI(a:Ad)(vs:List V)(H:Hp)(Q:VK)(_E:XK):Prop
 | mk(x dx:Addr)(m:Nat)(h0:vs=[.ref x,.int (m:Nat)])(h1:H x=some (.ins a.c_Q dx []))(h2:m<=24)(h3:Q .non (upd H x (.ins a.c_Q dx [("many",.int (m:Nat))]))):spFewI a vs H Q _E
inductive spFewN(a:Ad)(vs:List V)(H:Hp)(Q:VK)(_E:XK):Prop
 | mk(v:V)(m:Nat)(l:Addr)(xs:List V)(ps:List Int)(h0:vs=[v,.ref l])(h1:IsFew a H v m)(h2:H l=some (.lst xs))(h3:Paired (CrP H) ps xs)(h4:ps.length<=24)(h5:TabsOk (tabs a) H)(h6:∀ H' u,SameT H H'->TabsOk (tabs a) H'->IsNq a 3 H' u (fT ps m [])->Q u H'):spFewN a vs H Q _E
def eI(n k:Nat)(i j:Int):Rat:=eFn n k i.toNat j.toNat
def vV(K:Frag)(H:Hp)(q:Rat)(Q:VK):Prop:=∀ H' z,Same H H'->IsQ K H' q z->Q z H'
inductive spChance(K:Frag)(vs:List V)(H:Hp)(Q:VK)(_E:XK):Prop
 | mk(n k i j:Nat)(h0:vs=[.int (n:Nat),.int (k:Nat),.bl (decide (i=j))])(h1:k<=n)(h2:n<=24)(h3:i<n)(h4:j<n)(h5:vV K H (eFn n k i j) Q):spChance K vs H Q _E
def Ce(K:Frag):List V->Sp:=λvals vs H Q _=>∃ n k i j:Nat,vals=[.int (k:Nat),.int (n:Nat)]/\vs=[.int (i:Nat),.int (j:Nat)]/\k<=n/\n<=24/\i<n/\j<n/\vV K H (eFn n k i j) Q
inductive spMRow(K:Frag)(vs:List V)(H:Hp)(Q:VK)(_E:XK):Prop
 | mk(n k i:Nat)(v:V)(h0:vs=[.int (i:Nat),.int (n:Nat),v])(h1:i<n)(h2:n<=24)(h3:k<=n)(h4:IsLam H bu fvW v [.int (k:Nat),.int (n:Nat)])(h5:∀ H' p zs,Same H H'->H p=none->H' p=some (.lst zs)->Paired (λj z=>IsQ K H' (eI n k i j) z) (rng n) zs->Q (.ref p) H'):spMRow K vs H Q _E
inductive spMBy(K:Frag)(vs:List V)(H:Hp)(Q:VK)(_E:XK):Prop
 | mk(n k:Nat)(v:V)(h0:vs=[.int (n:Nat),v])(h1:n<=24)(h2:k<=n)(h3:IsLam H bu fvW v [.int (k:Nat),.int (n:Nat)])(h4:∀ H' p ys,Same H H'->H' p=some (.lst ys)->Paired (MRow K H H' (eI n k) (rng n)) (rng n) ys->Q (.ref p) H'):spMBy K vs H Q _E
inductive spFewM(K:Frag)(a:Ad)(vs:List V)(H:Hp)(Q:VK)(_E:XK):Prop
 | mk(v:V)(m:Nat)(l:Addr)(zs:List V)(h0:vs=[v,.ref l])(h1:IsFew a H v m)(h2:H l=some (.lst zs))(h3:zs.length<=24)(h4:TabsOk (tabs a) H)(h5:∀ H' p ys,SameT H H'->TabsOk (tabs a) H'->H' p=some (.lst ys)->Paired (MRow K H H' (eI zs.length (min m zs.length)) (rng zs.length)) (rng zs.length) ys->Q (.ref p) H'):spFewM K a vs H Q _E
def qK{n j:Nat}(h:j<n):(rng n)[j]? = some (j:Int):=by
 unfold rng;rw[gb,FB h];rfl
def CG{H d a:Hp}{c:List Addr}(f:Same (untrs H c) d)(g:Same d a)(h:∀ b∈c,a b=H b):Same H a:=λb o e=>by
 by_cases hb:b∈c
 .rw[h b hb];exact e
 .exact g _ _ (f _ _ (by rw[ay hb];exact e))
section
variable {P:hH}{w:lA}{K:Frag}{mg:Str->Option b_}{base:Heap}{a:Ad}
def uL(T:Txt K mg a):FnX P w base 1 T.W_af spPlaces:=by
 refine T.W_af.A.okz oK λJ A o s H S Q E W h=>?_
 .obtain⟨l,xs,L,rfl,v,B,z,q⟩:=h
  have u:sizeLine=16777216:=j_;have g:=B.length;refine⟨_,(ag (ao (aV rfl (N:=["member"]) (ix:=[none]) aD (a6 (vr 0)) (aQ λC s H O=>⟨bM 0 ["member"],aU,(gm (gB (K:=K) rfl) (vr 0) am)⟩)))),?_⟩;refine .inl ⟨⟨_,SqL.of v⟩,λD j=>?_⟩
  let Pw1:PvL:=λi c d=>i<=xs.length/\Same H d/\d D=some (.lst c)/\c=(L.take i).map V.int
  refine a8 (K:=K) (a:=l) (xs:=xs) Pw1 ⟨h_ _,Same.new j,ac,rfl⟩ (λi c d h=>SqL.of (h.2.1 _ _ v)) (λi c d h=>h.2.2.1) ?_ ?_
  .rintro i x c d R y ⟨X,f,b,rfl⟩ I
   obtain⟨p,F,G,r,rfl,M⟩:=aK (aj (CrP.same f) B) y;have k:i<xs.length:=(fP.mp y).1;refine⟨trivial,.inr (.inl ⟨G,_,_,_,rfl,rfl,SqT.of M,aJ 0 rfl rfl,b,?_,I _ _ ⟨k,f.put j,ac,?_⟩⟩)⟩
   .rw[d_,mx];lia
   .rw[oN,F,nv];rfl
  .rintro c d ⟨_,f,b,rfl⟩
   rw[<- g,rb (fS _)]at b;exact q _ D f j b
def xh(T:Txt K mg a):FnX P w base 2 T.W_X spNeedN:=by
 refine T.W_X.A.okz ky λk A b s H o Q E g h=>?_
 .obtain⟨i,c,d,rfl,j,f,q⟩:=h
  refine⟨_,(ag (bc (c7 (dh (pec (d7 T) g T.W_U (aa (vr 0) (aa (vr 1) (aa (vr 2) ad)))))) (ag fB) aG)),?_⟩;refine⟨_,c,d,_,rfl,.int i,?_⟩;rw[show inK c d (.i i)=true from decide_eq_true (And.intro j f)];exact q
def BG(T:Txt K mg a):MnX P w mg base 3 T.Wi_Q (spFewI a):=by
 refine T.Wi_Q.A.okz jE λi A b s H k Q E g h=>?_
 .obtain⟨x,d,m,rfl,f,j,q⟩:=h
  refine⟨_,(af (bR (pec (xh T) g T.W_X (aa (vr 1) (aa am (aa (iK rfl T.g_MOST_MANY) ad))))) (ag (eB (vr 0) (vr 1) rfl))),jt ?_⟩;intro c;refine⟨_,0,24,rfl,by lia,by lia,?_⟩;exact⟨x,a.c_Q,d,[],rfl,f,T.cl_Q,T.na_Few_many,(by decide),q⟩
def vX(T:Txt K mg a)(J:Bm mg base):MnX P w mg base 4 T.W_O (spFewN a):=by
 refine T.W_O.A.okz qr λN A i s H R Q E u h=>?_
 .obtain⟨v,m,l,D,y,rfl,⟨x,B,rfl,I⟩,F,O,d,G,q⟩:=h
  refine⟨_,(ag (ao (pec (xn T J) u T.W_u (aa (aI (uL T) u T.W_af (aa (vr 1) ad)) (aa (bG (vr 0) rfl) (aa (bC ad) ad)))))),?_⟩;refine⟨l,D,y,rfl,F,O,d,λk r p L j=>?_⟩;refine⟨x,_,B,_,_,rfl,p _ _ I,T.cl_Q,T.na_Few_many,rfl,?_⟩;refine⟨h_ _,λf M=>?_⟩;have g:=Same.new (o:=.lst []) M;have z:=ac (H:=k) (a:=f) (o:=.lst []);generalize upd k f (.lst [])=H2 at g z;have c:=p.trans g;refine⟨.ref r,.ref f,y,[],m,[],rfl,(λb C=>by cases C),by rw[bP];exact⟨r,rfl,g _ _ j⟩,by rw[bP];exact⟨f,rfl,z⟩,?_,G.same c,λH' v' t' hT' few=>q _ _ (c.t.trans t') hT' ?_⟩
  .rw[KZ];lia
  .rw[bP]at few
   exact few.up (by decide)
def u9(T:Txt K mg a):FnX P w base 3 T.W_ad (spChance K):=by
 refine T.W_ad.A.okz mh λB A g s H D Q E r h=>?_
 .obtain⟨n,f,i,j,rfl,C,I,G,F,q⟩:=h
  have u:Bt 11 (n:Int):=by unfold Bt;lia
  have o:Bt 11 (f:Int):=by unfold Bt;lia
  refine⟨_,(af (bc (dh (vr 2)) (ag (ao (pec (iD T) r T.W_ah (aa (vr 1) (aa (vr 0) ad))))) aG) (ag (ao (pec (iD T) r T.W_ah (aa (au cO (vr 1) (au fH (vr 1) am)) (aa (au cO (vr 0) (au fH (vr 0) am)) ad)))))),jt ?_⟩;intro v
  by_cases e:i=j
  .rw[decide_eq_true e]
   have d:=oC (n:=n) (w:=f) (i:=i) (j:=j) (by rw[if_pos e];lia);rw[if_pos e,if_pos e]at d;exact⟨_,_,rfl,by lia,o.mono (by decide),u.mono (by decide),λy p k c=>q _ _ k ⟨p,rfl,.inl (by rw[d]at c;exact c)⟩⟩
  .rw[decide_eq_false e]
   have b:(0:Int)<(n:Int)*((n:Int) - 1):=GR (by lia) (by lia);have d:=oC (n:=n) (w:=f) (i:=i) (j:=j) (by rw[if_neg e];exact b);rw[if_neg e,if_neg e]at d;have x:Bt 11 ((f:Int) - 1):=by unfold Bt;lia
   have z:Bt 11 ((n:Int) - 1):=by unfold Bt;lia
   exact⟨clB (by lia) (by lia),clB (by lia) (by lia),_,_,rfl,b,(o.mul x).mono (by decide),(u.mul z).mono (by decide),λy p k c=>q _ _ k ⟨p,rfl,.inl (by rw[d]at c;exact c)⟩⟩
def CK(T:Txt K mg a):LamOk P w K mg base 4 bu fvW ["one","other"] (Ce K):=by
 refine dB lsW (λF r d c B C=>match B,C with | [_,_],_=>rfl) (λvals vs H Q E h=>?_) (λA outer s H f c d vals vs Q E hr hfv ca h=>?_)
 .obtain⟨n,g,i,j,rfl,rfl,_⟩:=h;rfl
 .obtain⟨n,g,i,j,rfl,rfl,z,v,o,k,q⟩:=h
  refine⟨_,(pec (u9 T) hr T.W_ad (aa (vr 3) (aa (vr 2) (aa (iu og (vr 0) (vr 1) (aX _)) ad)))),?_⟩
  have e:(decide ((i:Int)=(j:Int)))=decide (i=j):=by
   by_cases h:i=j
   .subst h;simp
   .rw[decide_eq_false h,decide_eq_false (by lia)]
  refine⟨n,g,i,j,?_,z,v,o,k,λD x y u=>λH3 s3 hc=>q _ x (CG y s3 λb hb=>by obtain⟨p,hp,rfl⟩:=nh.mp hb;exact hc p hp) (u.same s3)⟩;show [V.int (n:Int),V.int (g:Int),V.bl (decide ((i:Int)=(j:Int)))]=_;rw[e]
def wp(T:Txt K mg a):MnX P w mg base 6 T.W_matrix_row_plans (spMRow K):=by
 have p:LamOk P w K mg base 5 bu fvW ["one","other"] (Ce K):=LamOk.mono (CK T) (by decide);refine T.W_matrix_row_plans.A.okz gC λab A I s H vs Q E hr h=>?_
 .obtain⟨n,k,i,v,rfl,hi,hn,S,R,q⟩:=h
  have J:sizeLine=16777216:=j_;refine⟨_,(ag (ao (aV rfl (N:=["other","tell","one"]) (ix:=[none,some 2,some 0]) aD (cH rfl T.z_range (aa (vr 1) ad)) (aQ λC s H fp=>⟨bM 0 ["other","tell","one"],aU,(dA (vr 1) p hr (aa (vr 2) (aa (vr 0) ad)))⟩)))),?_⟩;refine⟨(n:Int),rfl,by lia,by lia,λD G=>?_⟩
  let Pw2:PvL:=λj d g=>j<=n/\Same H g/\g D=some (.lst d)/\Paired (λj z=>IsQ K g (eI n k i j) z) ((rng n).take j) d
  refine d6 (lo:=0) (n:=n) Pw2 ⟨h_ _,Same.new G,ac,.nil⟩ (λj d g h=>h.2.2.1) ?_ ?_
  .rintro j d g W L ⟨_,F,o,B⟩ X
   have e0:[V.int (i:Int),V.int (0+(j:Int))]=[V.int (i:Int),V.int (j:Int)]:=by rw[Gr]
   have yl:d.length<=24:=by rw[<- B.length,mx];lia
   obtain⟨f,c,y,rfl,M,e2,Y,Z,e5⟩:=R.t F.t
   have next:vV K g (eFn n k i j) (λv u=>u D=some (.lst d)/\d.length<sizeLine/\W (d++[v]) (upd u D (.lst (d++[v])))):=λu x s2 hx=>by
    have r:=s2 _ _ o;have O:TK u (upd u D (.lst (d++[x]))):=λb us e=>by rw[ae (cF e r (λz=>nomatch z))];exact e
    refine⟨r,by lia,X _ _ ⟨L,(F.trans s2).put G,ac,?_⟩⟩;exact a7 (aj (λj z (h:IsQ K g (eI n k i j) z)=>(h.same s2).tk O) B) (qK L) (hx.tk O)
   exact⟨⟨rfl,rfl,trivial⟩,⟨f,_,_,_,rfl,M⟩,λf' d' ah c' _ z=>z,f,c,y,_,rfl,M,e2,Y,Z,e5,n,k,i,j,rfl,e0,S,hn,hi,L,next⟩
  .rintro d g ⟨_,F,o,B⟩
   rw[rb (by rw[Tb.rng_len];exact fS _)]at B;exact q _ D _ F G o B
def AT(T:Txt K mg a):FnX P w base 7 T.W_T (spMBy K):=by
 have c:FnO P w K mg base 6 (spMRow K):=wp T;refine T.W_T.A.okz oh λab A I s H vs Q E hr h=>?_
 .obtain⟨n,k,v,rfl,hn,hk,hL,q⟩:=h
  have L:sizeLine=16777216:=j_;refine⟨_,(ag (ao (aV rfl (N:=["one","many","tell"]) (ix:=[none,some 0,some 1]) aD (cH rfl T.z_range (aa (vr 0) ad)) (aQ λC s H fp=>⟨bM 0 ["one","many","tell"],aU,(dX c hr rfl T.m_matrix_row_plans T.W_matrix_row_plans.A.kp T.W_matrix_row_plans.B .nil ax (aa (vr 0) (aa (vr 1) (aa (vr 2) ad))))⟩)))),?_⟩;refine⟨(n:Int),rfl,by lia,by lia,λD Z=>?_⟩
  let Pw3:PvL:=λj f g=>j<=n/\Same H g/\g D=some (.lst f)/\Paired (MRow K H (untr g D) (eI n k) (rng n)) ((rng n).take j) f
  refine d6 (lo:=0) (n:=n) Pw3 ⟨h_ _,Same.new Z,ac,.nil⟩ (λj f g h=>h.2.2.1) ?_ ?_
  .rintro j f g P' S ⟨_,F,d,x⟩ hP
   have yl:f.length<=24:=by rw[<- x.length,mx];lia
   refine⟨⟨rfl,rfl,trivial⟩,n,k,j,v,?_,S,hn,hk,hL.t F.t,λR r zs G o M hz=>?_⟩
   .show [V.int (0+(j:Int)),V.int (n:Int),v]=_
    rw[Gr]
   have B:=G _ _ d;have nr:r≠D:=λz=>by rw[z,d]at o;cases o
   have c1:∀{b:Addr}{u:List V},R b=some (.tup u)->(untr (upd R D (.lst (f++[.ref r]))) D) b=some (.tup u):=λ{b u} e=>by
    have nb:b≠D:=cF e B (λz=>nomatch z);rw[aA nb,ae nb];exact e
   have c2:SameT (untr g D) (untr (upd R D (.lst (f++[.ref r]))) D):=(lI G.t).trans jY;refine⟨B,by lia,hP _ _ ⟨S,(F.trans G).put Z,ac,?_⟩⟩;refine a7 (aj (λi y ⟨Y,p,O,X,J,W⟩=>⟨Y,p,O,X,c2.at J,aj (λj z h=>h.tk (λb u e=>c2.at e)) W⟩) x) (qK S) ⟨r,zs,rfl,F.free o,?_,?_⟩
   .rw[aA nr,ae nr];exact M
   .exact aj (λj z h=>h.tk λb u e=>c1 e) hz
  .rintro f g ⟨_,F,d,x⟩
   rw[rb (by rw[Tb.rng_len];exact fS _)]at x;exact q _ D _ F d (aj (λi y ⟨Y,p,O,X,J,W⟩=>⟨Y,p,O,X,cut_sub.at J,aj (λj z h=>h.tk (λb u e=>cut_sub.at e)) W⟩) x)
def zw(T:Txt K mg a)(N:Bm mg base):MnX P w mg base 8 T.W_a (spFewM K a):=by
 have o:FnO P w K mg base 7 (spMBy K):=AT T;refine T.W_a.A.okL T.lcd_a sc_a (by decide +kernel) (λW H Q E h=>?_) (λA outer s H W Q E hr h=>?_)
 .obtain⟨v,m,l,b,rfl,_⟩:=h;rfl
 .obtain⟨v,m,l,b,rfl,⟨x,C,rfl,L⟩,I,z6,J,q⟩:=h
  refine⟨_,(cw (psr 2 sc_a (aw aC rfl T.z_len bp (aa (vr 1) ad))) (cw (psr 3 sc_a (aw (eh rfl) rfl T.z_min kC (aa (bG (vr 0) rfl) (aa (vr 2) ad)))) (jS sc_a.nd (by decide +kernel) o hr rfl T.W_T.C T.W_T.A.kp T.W_T.B .nil (aa (vr 2) (aa (di (d:=bu) rfl T.lch_a N rfl (by with_unfolding_all rfl) rfl (mf a) (.head _) T.tnd lY) ad))))),?_⟩;refine⟨_,.inl (SqL.of I),?_⟩;refine⟨x,_,C,_,_,rfl,L,T.cl_Q,T.na_Few_many,rfl,?_⟩;refine⟨_,_,rfl,?_⟩
  have e:(if ((b.length:Int)<(m:Int)) then (b.length:Int) else (m:Int))=((min m b.length:Nat):Int):=by split <;> lia
  rw[e];refine⟨J,λf c H1 t1 p X G R=>?_⟩;intro H3 k g;have F:=g 2 _ _ _ rfl rfl (by with_unfolding_all rfl);have O:=g 3 _ _ _ rfl rfl (by with_unfolding_all rfl);have j:=t1.trans k.t;refine⟨b.length,min m b.length,.ref f,rfl,by lia,HC _ _,⟨f,c,_,rfl,k _ _ G,k _ _ R,rfl,by simp,.cons O (.cons F .nil)⟩,λH' r ys B u D=>?_⟩;exact q _ r _ (j.trans B.t) ((p.same k).same B) u (aj (λi y ⟨D9,z,S,Z,M,Y⟩=>⟨D9,z,S,j.free Z,M,Y⟩) D)
end
end My
namespace My
open PySem L2 FrM LexM
open Nst (Lf)
open Tb (Tr fT bnd ci so pS tS)
def Ad.wd(a:Ad)(dt:d4):Ad:={ a with dt:=dt }
def pos1:Pos:=vy (dl bj 0)
def pos2:Pos:=vy (dl bj 1)
def ND(a:Ad)(dt:d4):Prop:=((tabs (a.wd dt)).map (·.1)).Nodup
def JS(a:Ad)(H:Hp):Prop:=∃ c1 T1 c2 T2,TabC H a.lp_f pos1 c1/\H c1=some (.ext (bZ c1 dd_L_joined_1.qual T1))/\(T1,ls_po)∈tabs a/\TabC H a.lp_f pos2 c2/\H c2=some (.ext (bZ c2 dd_L_joined_2.qual T2))/\(T2,ls_se)∈tabs a
def J0(a:Ad)(H:Hp):Prop:=∃ ps,H a.lp_f=some (.tbl ps)/\w_ ps.toList/\ve pos1 ps.toList=none/\ve pos2 ps.toList=none
def BZ(a:Ad):Sp:=λvs H Q E=>∃ dt,ND a dt/\spBe (a.wd dt) 2 vs H Q E
def Di(a:Ad):Sp:=λvs H Q E=>∃ dt,ND a dt/\spStd (a.wd dt) vs H Q λ_ _ _=>False
inductive spJn(a:Ad)(vs:List V)(H:Hp)(Q:VK)(_E:XK):Prop
 | mk(m f s:Nat)(h0:vs=[.int (m:Nat),.int (f:Nat),.int (s:Nat)])(h1:C3 m f s)(h2:TabsOk (tabs a) H)(h3:((a.dt=[]/\J0 a H/\∀ dt H' u,ND a dt->SameT H H'->TabsOk (tabs (a.wd dt)) H'->JS (a.wd dt) H'->IsNq (a.wd dt) 3 H' u (jT m f s)->Q u H')\/(JS a H/\∀ H' u,SameT H H'->TabsOk (tabs a) H'->IsNq a 3 H' u (jT m f s)->Q u H'))):spJn a vs H Q _E
def JS.t{a:Ad}{H H':Hp}(s:SameT H H')(h:JS a H):JS a H':=by
 obtain⟨p,c,i,j,o,f,d,k,b,g⟩:=h;exact⟨p,c,i,j,o.t s,s.at f,d,k.t s,s.at b,g⟩
def Aa{H d:Hp}{P:Addr}{ps:Array b_}{a:Pos}{c:Addr}(f:H P=some (.tbl ps))(e:d P=some (.tbl (ps ++ #[n7 a.line,n7 a.col,.ref c])))(k:∀ b o,b≠P->H b=some o->d b=some o):SameT H d:=⟨λb o h=>by
 by_cases hb:b=P
 .subst hb
  rw[f]at h;cases h;exact⟨λz=>(by cases z),_,e⟩
 .exact⟨λ_=>k b o hb h,o,k b o hb h⟩,λb qs h=>by
 by_cases hb:b=P
 .subst hb
  rw[f]at h;cases h;exact⟨_,e,λt=>by rw[nw];exact be _ t⟩
 .exact⟨#[],by rw[k b _ hb h];simp,λt=>by simpa using t⟩⟩
def wc{a:d4}{H d:Hp}{P:Addr}(h:TabsOk a H)(n:∀ q∈a,q.1≠P)(j:∃ ps,H P=some (.tbl ps))(k:∀ b o,b≠P->H b=some o->d b=some o):TabsOk a d:=λq f=>by
 obtain⟨ps,i,r,g⟩:=h q f;refine⟨ps,k _ _ (n q f) i,r,λl s=>(g l s).imp id λ⟨c,x,y⟩=>⟨c,x,k _ _ (λz=>?_) y⟩⟩;obtain⟨p,e⟩:=j;rw[z,e]at y;cases y
def sF{H:Hp}{T:Addr}(a:List (Pos×Str))(h:H T=some (.tbl #[])):Ai H T a:=⟨#[],h,trivial,λl _=>.inl rfl⟩
structure TwoD(a:Ad)(dt:d4)(H:Hp)(f1 f2:Addr)(cl1 cl2:List (Str×Addr)):Prop where
 nd:ND a dt
 tb:TabsOk (tabs (a.wd dt)) H
 js:JS (a.wd dt) H
 d1:∃ c T,H f1=some (.ext (ce f1 dd_L_joined_1 cl1 c))/\H c=some (.ext (bZ c dd_L_joined_1.qual T))/\(T,ls_po)∈tabs (a.wd dt)
 d2:∃ c T,H f2=some (.ext (ce f2 dd_L_joined_2 cl2 c))/\H c=some (.ext (bZ c dd_L_joined_2.qual T))/\(T,ls_se)∈tabs (a.wd dt)
def D8(n:Nat):([n+1+1+1,n+1,n+1+1]:List Nat).Nodup:=by simp[sr];lia
def DH(n:Nat):([n+1+1+1,n+1+1+1+1,n+1]:List Nat).Nodup:=by simp[sr];lia
def b3c(c:Nat×Nat×Nat):Bool:=decide (1<=c.1/\c.1<=3/\c.2.1<=4/\c.2.2<=4)
def wu{m f s:Nat}(h:C3 m f s):1<=m/\m<=3/\f<=4/\s<=4:=of_decide_eq_true (oo.mp (show Cs.all b3c=true by decide +kernel) _ h)
section
variable {P:hH}{w:lA}{K:Frag}{mg:Str->Option b_}{base:Heap}{a:Ad}
def tdt(T:Txt K mg a){b:d4}(h:ND a b):Txt K mg (a.wd b):={ T with tnd:=h }
def hX{C:CXT}{k:Nat}{f:Addr}{a:p_}{ps:List Str}{I:Type}{b:I->Prop}{sp:I->Sp}(h:∀ i,b i->FnOk P w K mg base C k f a ps (sp i)):FnOk P w K mg base C k f a ps (λvs H Q E=>∃ i,b i/\sp i vs H Q E) :=
 ⟨λvs H Q E ⟨i,o,x⟩=>(h i o).len vs H Q E x,λA outer s H args us vs Q E hr e0 hb hv ⟨i,o,x⟩=>(h i o).run A outer s H args us vs Q E hr e0 hb hv x⟩
def AM:¬(pos1.line=pos2.line/\pos1.col=pos2.col):=by decide +kernel
def xr{a:Ad}(b:a.dt=[]):((tabsA a).map (·.1)).Perm (a.lp_f::(tabs a).map (·.1)):=by
 unfold tabsA tabs;rw[b];exact List.perm_middle (l₁:=[_,_,_,_,_,_])
def CP(T:Txt K mg a)(c:a.dt=[]):∀ q∈tabs a,q.1≠a.lp_f:=λq b e =>
 (sr.mp ((xr c).nodup_iff.mp T.tndA)).1 (nh.mpr ⟨q,b,e⟩)
def wB(T:Txt K mg a){H:Hp}{m f s:Nat}{Q:VK}(hT:TabsOk (tabs a) H)(q:(a.dt=[]/\J0 a H/\∀ dt H' u,ND a dt->SameT H H'->TabsOk (tabs (a.wd dt)) H'->JS (a.wd dt) H'->IsNq (a.wd dt) 3 H' u (jT m f s)->Q u H')\/(JS a H/\∀ H' u,SameT H H'->TabsOk (tabs a) H'->IsNq a 3 H' u (jT m f s)->Q u H'))
  {I M:List (Str×Addr)}{i1 i2:Nat}{Y:St}{N:St->Hp->Prop}{D1 D2:Ends}(e1:D1.nx=λY H=>xb a.lp_f pos2 dd_L_joined_2 M i2 D2 Y H) (e2:D2.nx=N)
  (h:∀ dt f1 f2 H',TwoD a dt H' f1 f2 I M->SameT H H'->(∀ H2 u,SameT H' H2->TabsOk (tabs (a.wd dt)) H2->IsNq (a.wd dt) 3 H2 u (jT m f s)->Q u H2)->N ((Y.set i1 (some (.ref f1))).set i2 (some (.ref f2))) H') :
  xb a.lp_f pos1 dd_L_joined_1 I i1 D1 Y H:=by
 rcases q with⟨h0,⟨v,D,i,n1,n2⟩,q⟩ | ⟨G,q⟩
 .refine⟨v,D,i,.inl ⟨n1,λf1 k c H1 E k1 ab bn J x p B=>?_⟩⟩
  have t1:=Aa D E k1;have O:=CP T h0;have L:=wc hT O ⟨v,D⟩ k1;have j:w_ (v ++ #[n7 pos1.line,n7 pos1.col,.ref k]).toList:=by rw[nw];exact be _ i
  have a1:ve pos1 (v ++ #[n7 pos1.line,n7 pos1.col,.ref k]).toList=some (.ref k):=by rw[nw];exact F5 _ i n1
  have a2:ve pos2 (v ++ #[n7 pos1.line,n7 pos1.col,.ref k]).toList=none:=by rw[nw];exact(dS _ i AM).trans n2
  rw[e1];generalize v ++ #[n7 pos1.line,n7 pos1.col,.ref k]=ps1 at E j a1 a2;refine⟨ps1,E,j,.inl ⟨a2,λf2 r d H2 g2 k2 al bm P w o bb=>?_⟩⟩;have C:=Aa E g2 k2;rw[e2];have nP:∀{b:Addr},H b=none->b≠a.lp_f:=λhb z=>by rw[z,D]at hb;cases hb
  have bl:c≠d:=λz=>by rw[z,P]at B;cases B
  have as:H2 c=some (.tbl #[]):=k2 _ _ (nP J) B;have a5:∀ q∈tabs a,H q.1≠none:=λq hq z=>by obtain⟨_,y,_⟩:=hT q hq;rw[z]at y;cases y
  have R:∀ q∈tabs a,H1 q.1≠none:=λq hq z=>by obtain⟨_,y,_⟩:=L q hq;rw[z]at y;cases y
  have ah:=wc L O ⟨_,E⟩ k2
  have S:tabs (a.wd [(c,ls_po),(d,ls_se)])=(c,ls_po)::(d,ls_se)::tabs a:=by
   unfold tabs;rw[h0];rfl
  have nd:ND a [(c,ls_po),(d,ls_se)]:=by
   have tn:=T.tnd;show((tabs (a.wd [(c,ls_po),(d,ls_se)])).map (·.1)).Nodup;rw[S,l_,l_,sr,sr];refine⟨λz=>?_,λz=>?_,tn⟩
   .rcases i_.mp z with z | z
    .exact bl z
    .obtain⟨q,hq,e⟩:=nh.mp z
     exact a5 q hq (by rw[e];exact J)
   .obtain⟨q,hq,e⟩:=nh.mp z
    exact R q hq (by rw[e];exact P)
  have tb:TabsOk (tabs (a.wd [(c,ls_po),(d,ls_se)])) H2:=by
   rw[S];intro q hq
   rcases i_.mp hq with rfl | hq
   .exact sF _ as
   rcases i_.mp hq with rfl | hq
   .exact sF _ bb
   .exact ah q hq
  have X:(c,ls_po)∈tabs (a.wd [(c,ls_po),(d,ls_se)]):=by rw[S];exact gT ..
  have Z:(d,ls_se)∈tabs (a.wd [(c,ls_po),(d,ls_se)]):=by rw[S];exact hI _ (gT ..)
  have a0:w_ (ps1 ++ #[n7 pos2.line,n7 pos2.col,.ref r]).toList:=by rw[nw];exact be _ j
  have b2:ve pos2 (ps1 ++ #[n7 pos2.line,n7 pos2.col,.ref r]).toList=some (.ref r):=by rw[nw];exact F5 _ j a2
  have js:JS (a.wd [(c,ls_po),(d,ls_se)]) H2:=⟨k,c,r,d,TabC.t C ⟨ps1,E,j,a1⟩,C.at p,X,⟨_,g2,a0,b2⟩,o,Z⟩
  exact h _ f1 f2 H2 ⟨nd,tb,js,⟨k,c,C.at x,C.at p,X⟩,⟨r,d,w,o,Z⟩⟩ (t1.trans C) λH3 u W A hn=>q _ _ _ nd ((t1.trans C).trans W) A (js.t W) hn
 .obtain⟨k,c,r,d,⟨v,D,i,ha⟩,p,X,a',o,Z⟩:=id G
  refine⟨v,D,i,.inr ⟨k,ha,λf1 H1 s1 ab x=>?_⟩⟩;rw[e1];obtain⟨an,bg,F,a3⟩:=a'.t s1.t;refine⟨an,bg,F,.inr ⟨r,a3,λf2 H2 s2 al w=>?_⟩⟩;rw[e2];have g:=s1.trans s2;exact h a.dt f1 f2 H2 ⟨T.tnd,hT.same g,G.t g.t,⟨k,c,s2 _ _ x,g _ _ p,X⟩,⟨r,d,w,g _ _ o,Z⟩⟩ g.t λH3 u W A hn=>q _ _ (g.t.trans W) A hn
def mU(T:Txt K mg a)(p:Bm mg base):FnX P w base 21 T.W_f (spJn a):=by
 have C:FnX P w base 20 T.W_N (Di a):=hX λj h=>iw ((jr (tdt T h) p).mono (show 4<=20 by decide))
 have M:FnX P w base 20 T.W_k (BZ a):=hX λj h=>Dl (tdt T h) p
 refine T.W_f.A.okL T.lcd_f sc_f (by decide +kernel) (λvs H Q E h=>?_) (λA outer s H vs Q E hr h=>?_)
 .obtain⟨m,f,s,rfl,_⟩:=h;rfl
 .obtain⟨m,f,s,rfl,r,hT,q⟩:=h
  refine⟨_,(cw (sZ (d:=dd_L_joined_1) (i:=3) sc_f.nd rfl (HK rfl) (.inl rfl) rfl T.lch_f p rfl (by with_unfolding_all rfl) rfl rfl rfl) (cw (sZ (d:=dd_L_joined_2) (i:=4) sc_f.nd rfl (uS rfl) (.inl rfl) rfl T.lch_f p rfl (by with_unfolding_all rfl) rfl rfl rfl) (jS sc_f.nd (by decide +kernel) M hr rfl T.W_k.C T.W_k.A.kp T.W_k.B .nil (aa (pec C hr T.W_N (aa (vr 1) (aa (vr 0) ad))) (aa (vr 4) ad))))),?_⟩;refine wB T hT q rfl rfl λj L S H1 D t1 q'=>?_
  obtain⟨c1,T1,G,O,Z⟩:=D.d1;obtain⟨c2,T2,F,N,m2⟩:=D.d2;have b3:=wu r;refine⟨j,D.nd,.int (f:Nat),.int (m:Nat),.i f,.i m,[],rfl,(λb v=>by cases v),.int _,.int _,D.tb,λmany most e1 e2 g1 g2 g3=>?_,λz=>?_⟩
  .cases e1
   cases e2;intro H2 x t2 y o;rw[bP]at o;intro X J g;have W:=g 0 _ _ _ rfl rfl (by with_unfolding_all rfl);have I:=g 1 _ _ _ rfl rfl (by with_unfolding_all rfl);have k:=g 2 _ _ _ rfl rfl (by with_unfolding_all rfl);have B:=g 3 _ _ _ rfl rfl (by with_unfolding_all rfl);have c:=t2.trans J.t
   have Y:qH (a.wd j) X (.ref L) m f s:=⟨L,c1,T1,_,rfl,c.at G,c.at O,Z,rfl,D8 _,.cons k (.cons W (.cons I .nil))⟩
   refine⟨j,D.nd,2,x,.ref S,sT m f,gT2 m f s,λR=>R.length=min f m,[],fS 2,rfl,(λb v=>by cases v),by rw[bP];exact o.t J.t,?_,λR hl=>CA r hl,y.same J,λH4 u t4 hT4 hn=>?_⟩
   .rw[bP]
    exact .second 0 (.ref L) m f s r ⟨S,c2,T2,_,rfl,c.at F,c.at N,m2,rfl,DH _,.cons k (.cons B (.cons W .nil))⟩ Y
   .rw[bP]at hn
    exact q' _ _ (c.trans t4) hT4 hn
  .exfalso
   have k1:inK 0 24 (.i f)=true:=decide_eq_true ⟨by lia,by lia⟩;have k2:inK 1 24 (.i m)=true:=decide_eq_true ⟨by lia,by lia⟩
   rcases z with z | z
   .rw[k1]at z;cases z
   .rw[k2]at z;cases z
end
open Nst (Lf)
open Tb (Tr fT bnd ci so pS tS rng Dk Dks Rws Ch Lm2 Way cQ wl toR kW IsTab mm lv)
def ins(x:Int):List Int->List Int
 | []=>[x]
 | y::r=>if x<=y then x::y::r else y::ins x r
def si:List Int->List Int
 | []=>[]
 | x::r=>ins x (si r)
def lD(x:Int):∀ l:List Int,(ins x l).Perm (x::l)
 | []=>.refl _
 | y::r=>by
  unfold ins
  split
  .exact .refl _
  .exact((lD x r).cons y).trans (.swap x y r)
def sK{x:Int}:∀{l:List Int},l.Pairwise (·<=·)->(ins x l).Pairwise (·<=·)
 | [],_=>F7 _ _
 | y::r,h=>by
  have a:=FH.mp h;unfold ins
  split
  .rename_i c
   refine FH.mpr ⟨λz hz=>?_,h⟩
   rcases i_.mp hz with rfl | hz
   .exact c
   .exact Gs c (a.1 z hz)
  .rename_i c
   refine FH.mpr ⟨λz hz=>?_,sK a.2⟩
   rcases i_.mp ((lD x r).mem_iff.mp hz) with rfl | hz
   .lia
   .exact a.1 z hz
def tI:∀ l:List Int,(si l).Perm l
 | []=>.refl _
 | x::r=>(lD x (si r)).trans ((tI r).cons x)
def v5:∀ l:List Int,(si l).Pairwise (·<=·)
 | []=>.nil
 | x::r=>sK (v5 r)
def Af(l:List Int):so l=si l:=Tb.le_uniq ((Tb.so_perm l).trans (tI l).symm) (Tb.so_srt l) (v5 l)
mutual
def bi:Tr->(List Int->Tr)->Tr
 | .leaf ns,g=>g (si ns)
 | .die ps,g=>.die (bis ps g)
def bis:List (Int×Tr)->(List Int->Tr)->List (Int×Tr)
 | [],_=>[]
 | (m,u)::r,g=>(m,bi u g)::bis r g
end
mutual
def oF:∀(t:Tr) (g:List Int->Tr),bnd t g=bi t g
 | .leaf ns,g=>by rw[bnd,bi,Af]
 | .die ps,g=>by rw[bnd,bi,oV]
def oV:∀(ps:List (Int×Tr)) (g:List Int->Tr),ci ps g=bis ps g
 | [],g=>by rw[ci,bis]
 | (m,u)::r,g=>by rw[ci,bis,oF,oV]
end
def jI(m f s:Nat):Tr:=bi (sT m f) λks=>bi (sT m s) λls=>bi (pT m f s) (gT0 (ks++ls.map λk=>(f:Int)+k))
def Dn(m f s:Nat):jT m f s=jI m f s:=by
 unfold jT jI gT2 gT1;rw[oF]
 congr 1
 funext ks
 rw[oF]
 congr 1
 funext ls
 exact oF _ _
def kI(W:List Way):List Way:=W.map λw=>(si w.1,w.2)
def Cf(W:List Way):kW W=kI W:=by
 unfold kW kI
 congr 1
 funext w
 rw[Af]
mutual
def okT:Nat->Tr->Bool
 | _,.leaf ns=>decide (ns.Nodup/\ns.length<=24)
 | 0,.die _=>false
 | d+1,.die ps=>decide (1<=ps.length/\ps.length<=1000) && zE d ps
def zE:Nat->List (Int×Tr)->Bool
 | _,[]=>true
 | d,(m,u)::r=>decide (1<=m/\m<=1000000000) && (okT d u && zE d r)
end
mutual
def rL:∀(d:Nat) (t:Tr),okT d t=true->Dk d t/\Tb.Ok t
 | _,.leaf ns,h=>by
  rw[okT]at h;have h:=of_decide_eq_true h;rw[Dk,Tb.Ok];exact⟨h,h⟩
 | 0,.die _,h=>by rw[okT]at h;cases h
 | d+1,.die ps,h=>by
  rw[okT,il]at h;have a:=of_decide_eq_true h.1;obtain⟨c,b⟩:=sR d ps h.2;rw[Dk,Tb.Ok];exact⟨⟨a.1,a.2,c⟩,λe=>by rw[e]at a;exact absurd a.1 (by decide),b⟩
def sR:∀(d:Nat) (ps:List (Int×Tr)),zE d ps=true->Dks d ps/\Tb.Oks ps
 | _,[],_=>by rw[Dks,Tb.Oks];exact⟨trivial,trivial⟩
 | d,(m,u)::r,h=>by
  rw[zE,il,il]at h;have a:=of_decide_eq_true h.1;obtain⟨f,g⟩:=rL d u h.2.1;obtain⟨b,c⟩:=sR d r h.2.2;rw[Dks,Tb.Oks];exact⟨⟨a.1,a.2,f,b⟩,a.1,g,c⟩
end
def nu:List Int->Nat->List (List Int)
 | _,0=>[[]]
 | [],_+1=>[]
 | x::r,k+1=>(nu r k).map (x :: ·)++nu r (k+1)
def rcT(m n:Nat):Rws:=(nu (rng n) (min m n)).map λk=>(k,1/((nu (rng n) (min m n)).length:Rat))
def DD:Nat:=138240*362880*362880
def BY(R:Rws)(W:Rws):Bool:=R.all (λx=>decide (x.2=cQ W x.1)) && (W.all (λx=>decide (x.1∈R.map (·.1))) && R.all λx=>decide (x.1∈W.map (·.1)))
def yy(R:Rws)(t:Tr):Bool:=okT 24 t && (decide (lv t<=4096) && ((wl t 1 1).all (λw=>decide (0<=w.2.1/\w.2.1<=w.2.2/\0<w.2.2/\w.2.2 ∣ (DD:Int))) && BY R (toR (kI (wl t 1 1)))))
def uQ(m n:Nat)(R:Rws):Bool:=decide ((R.map (·.1)).Pairwise λa b=>aH a b=true) && (decide (R.length<64) && (rng n).all λi=>(rng n).all λj=>decide (mm R i j=eI n (min m n) i j))
def chk(c:Nat×Nat×Nat):Bool:=uQ c.1 (c.2.1+c.2.2) (rcT c.1 (c.2.1+c.2.2)) && (yy (rcT c.1 (c.2.1+c.2.2)) (jI c.1 c.2.1 c.2.2) && yy (rcT c.1 (c.2.1+c.2.2)) (fT (rng (c.2.1+c.2.2)) c.1 []))
def zo:Cs.all chk=true:=by decide +kernel
structure TF0(t:Tr)(R0:Rws):Prop where
 dk:Dk 24 t
 ok:Tb.Ok t
 few:∀ L:List (List Int),L.Nodup->(∀ k∈L,k∈(toR (kW (wl t 1 1))).map (·.1))->L.length<64
 lv:lv t<=4096
 ch:∀ w∈wl t 1 1,Ch (DD:Int) w.2
 un:∀ R,IsTab (toR (kW (wl t 1 1))) R->R=R0
def rg:0<DD:=by decide +kernel
def wL:DD<=Lm2:=by decide +kernel
def Ag{m n:Nat}{b:Rws}{t:Tr}(r:uQ m n b=true)(h:yy b t=true):TF0 t b:=by
 unfold uQ at r;unfold yy at h;rw[il,il]at r;rw[il,il,il]at h;obtain⟨d,j,_⟩:=r;obtain⟨y,i,p,c⟩:=h;have d:=of_decide_eq_true d;have j:=of_decide_eq_true j;have i:=of_decide_eq_true i;rw[<- Cf]at c;unfold BY at c;rw[il,il,oo,oo,oo]at c;obtain⟨E,u,q⟩:=c
 have o:∀ k,k∈b.map (·.1)↔k∈(toR (kW (wl t 1 1))).map (·.1):=λk=>⟨λz=>by
  obtain⟨x,a,rfl⟩:=nh.mp z
  exact of_decide_eq_true (q x a),λz=>by
  obtain⟨x,a,rfl⟩:=nh.mp z
  exact of_decide_eq_true (u x a)⟩
 obtain⟨B,C⟩:=rL 24 t y;refine⟨B,C,λL s f=>?_,i,λw hw=>?_,λR hR=>?_⟩
 .have:=List.Nodup.length_le_of_subset s λk g=>(o k).mpr (f k g)
  rw[d_]at this;lia
 .obtain⟨F,A,D,v⟩:=of_decide_eq_true (oo.mp p w hw)
  exact⟨F,A,D,v⟩
 .exact(Tb.tab_eq hR d o λx a=>of_decide_eq_true (E x a)).symm
def CD{m n:Nat}{a:Rws}(r:uQ m n a=true){i j:Int}(c:i∈rng n)(b:j∈rng n):mm a i j=eI n (min m n) i j:=by
 unfold uQ at r;rw[il,il]at r;exact of_decide_eq_true (oo.mp (oo.mp r.2.2 i c) j b)
def Ay{m f s:Nat}(h:C3 m f s):uQ m (f+s) (rcT m (f+s))=true/\TF0 (jT m f s) (rcT m (f+s))/\TF0 (fT (rng (f+s)) m []) (rcT m (f+s)):=by
 have z:=oo.mp zo _ h;unfold chk at z;rw[il,il]at z;rw[Dn];exact⟨z.1,Ag z.1 z.2.1,Ag z.1 z.2.2⟩
open Nst (Lf Rw cN dg cZ gU)
open Tb (Tr fT bnd ci so pS tS rng Dk Dks stm stP tot o7)
def sdL(m n:Nat):List Int:=(lj (n - m)).map λ(i:Nat)=>(m:Int)+(i:Int)+1
inductive spLSd(vs:List V)(H:Hp)(Q:VK)(_E:XK):Prop
 | mk(m n:Nat)(h0:vs=[.int (m:Nat),.int (n:Nat)])(h1:m<=24)(h2:n<=24)(h3:∀ H' r,Same H H'->H r=none->H' r=some (.lst ((sdL m n).map V.int))->Q (.ref r) H'):spLSd vs H Q _E
inductive spRest(a:Ad)(vs:List V)(H:Hp)(Q:VK)(_E:XK):Prop
 | mk(v:V)(l:Addr)(t:Tr)(d:Nat)(ns:List Int)(h0:vs=[v,.ref l])(h1:IsNq a 3 H v t)(h2:Dk d t)(h3:d<=ns.length)(h4:ns.length<=24)(h5:H l=some (.lst (ns.map V.int)))(h6:TabsOk (tabs a) H)(h7:∀ H' r ths ks,SameT H H'->TabsOk (tabs a) H'->H r=none->H' r=some (.lst (ths.map V.int))->Rw t ths ks->ths.length<=24->Q (.ref r) H'):spRest a vs H Q _E
def rO{g:List Int->Tr}{t:Tr}{b us a c:List Int}(h:Rw t b a)(k:Rw (g (so a)) us c):Rw (Tb.bnd t g) (b++us) c:=by
 induction h with
 | leaf a=>rw[Tb.bnd];exact k
 | die h0 h1 hp _ ih=>rw[Tb.bnd];exact .die h0 (by rw[o7];exact h1) (gU g hp) (ih k)
section
variable {P:hH}{w:lA}{K:Frag}{mg:Str->Option b_}{base:Heap}{a:Ad}
def mt(T:Txt K mg a):FnX P w base 1 T.W_aj spLSd:=by
 refine T.W_aj.A.okz qR λu A k s H z Q E B h=>?_
 .obtain⟨m,n,rfl,p,o,q⟩:=h
  have j:sizeLine=16777216:=j_;refine⟨_,(ag (ao (aV rfl (N:=["_law_k"]) (ix:=[none]) aD (um rfl T.z_range (aa (vr 0) (aa (vr 1) ad))) (aQ λC s H y=>⟨bM 0 ["_law_k"],aU,(au bY (vr 0) am)⟩)))),?_⟩;refine⟨(m:Int),(n:Int),rfl,⟨by lia,by lia,by lia,by lia⟩,λD g=>?_⟩
  let Pw1:PvL:=λi d c=>i<=n - m/\Same H c/\c D=some (.lst d)/\d=((lj i).map λ(i:Nat)=>(m:Int)+(i:Int)+1).map V.int
  refine d6 (lo:=(m:Int)) (n:=((n:Int) - (m:Int)).toNat) Pw1 ⟨h_ _,Same.new g,ac,rfl⟩ (λi F c h=>h.2.2.1) ?_ ?_
  .rintro i d c v x ⟨_,f,b,rfl⟩ r
   refine⟨trivial,b,by rw[d_,d_,A6];lia,r _ _ ⟨by lia,f.put g,ac,?_⟩⟩;rw[Ky,nv,nv];rfl
  .rintro d c ⟨_,f,b,rfl⟩
   refine q _ D f g ?_;rw[b,show((n:Int) - (m:Int)).toNat=n - m by lia];rfl
def y4(T:Txt K mg a)(hB:Bm mg base):FnX P w base 25 T.W_an (spRest a):=by
 have a3:FnO P w K mg base 24 (spDA a):=zH T hB;have bn:FnO P w K mg base 24 (spV (.bl true)):=(rY T).mo;have bl:FnO P w K mg base 24 (spV (.bl false)):=(sX T).mo;have as:FnO P w K mg base 24 (spV (.int 0)):=(xg T).mo;have a1:FnO P w K mg base 24 (y8 a):=(wj T).mo;refine T.W_an.A.okz iY λbt A ah s H vs Q E Z h=>?_
 .obtain⟨v,l,t,d,ns,rfl,hn,hd,b0,bq,hl,hT,q⟩:=h
  have bg:sizeLine=16777216:=j_;refine⟨_,(af (psl 2 iY (bC ad)) (af (iE s_ (c7 (dh (PE.or (ar (vr 0) T.cl_i T.mt_e bn Z T.W_e.B .nil ax) (ar (vr 0) T.cl_n T.mt_h bl Z T.W_h.B .nil ax)))) (af (bR (pe_m.append (vr 2) (aa (au ik (bf (vr 1) (aw aC rfl T.z_len bp (aa (vr 2) ad))) (PE.or (ar (vr 0) T.cl_i T.mt_t as Z T.W_t.B .nil ax) (ar (vr 0) T.cl_n T.mt_A a1 Z T.W_A.B .nil ax))) ad))) (ag (psl 0 iY (dF (vr 0) T.cl_n T.mt_q a3 Z T.W_q.B .nil ax (aa (bf (vr 2) (wF vN am)) ad)))))) (ag (ao (vr 2))))),?_⟩;refine⟨h_ _,λr f=>?_⟩;have b2:l≠r:=ai hl f;refine⟨λk σ O=>∃(u:V) (j:Tr) (c:List Int) (e:Nat),σ=[some u,some (.ref l),some (.ref r)]/\SameT H O/\TabsOk (tabs a) O/\O r=some (.lst (c.map V.int))/\IsNq a 3 (untrs O [r]) u j/\Dk e j/\e+c.length=d/\(∀ F y,Rw j F y->Rw t (c++F) y)/\k=e,⟨d,v,t,[],d,rfl,(Same.new f).t,hT.same (Same.new f),ac,?_,hd,rfl,(λF y h=>h),rfl⟩,?_⟩
  .exact hn.t ⟨λb o e=>by
    rw[ay (by simp;exact λz=>by rw[z,f]at e;cases e)]
    exact(Same.new f).t.old b o e,λb o e=>by
    rw[ay (by simp;exact λz=>by rw[z,f]at e;cases e)]
    exact(Same.new f).t.gr b o e⟩
  rintro k σ O ⟨u,j,c,e,rfl,t1,Y,B,M,g,br,ab,rfl⟩
  have bo:Bad O [r]:=λb hb=>by
   obtain rfl:=ir.mp hb;exact⟨_,B⟩
  have a2:=t1.at hl;cases j with
  | leaf y =>
   obtain⟨x,dx,tt,ms,rfl,N,bF,hs⟩:=n4 M;have N:=(ak N).2;refine .inl ⟨x,dx,_,rfl,N,rfl,_,rfl,?_⟩;refine q _ r c y t1 Y f B ?_ (by lia);have:=ab [] y (.leaf y);rwa [Fj]at this
  | die D =>
   obtain⟨e',rfl⟩:∃ e',k=e'+1:=by
    cases k with
    | zero=>rw[Dk]at g;exact g.elim
    | succ e'=>exact⟨e',rfl⟩
   rw[Dk]at g;obtain⟨rs,R,al⟩:=i6 M;have i:=R.t cuts_sub;obtain⟨x,dx,l',ys,rfl,N,_⟩:=id i
   obtain⟨n0,hn0⟩:∃ n0,ns[c.length]? = some n0:=⟨_,ki (by lia)⟩
   have X:=j5 al;have tp:0<tot D:=by have:=qS g.2.2;lia
   refine .inr ⟨x,dx,_,rfl,N,rfl,_,rfl,?_⟩;refine⟨λσ p=>∃(u:V) (j:Tr) (c:List Int) (e:Nat),σ=[some u,some (.ref l),some (.ref r)]/\SameT H p/\TabsOk (tabs a) p/\p r=some (.lst (c.map V.int))/\IsNq a 3 (untrs p [r]) u j/\Dk e j/\e+c.length=d/\(∀ F y,Rw j F y->Rw t (c++F) y)/\e=e',?_,?_⟩
   .rintro b1 p ⟨u,j,c,e,g1,g2,g3,g4,g5,g6,g7,g8,rfl⟩
    exact⟨_,Hz _,u,j,c,e,g1,g2,g3,g4,g5,g6,g7,g8,rfl⟩
   have an:(ns.map V.int)[c.length]? = some (.int n0):=by rw[gb,hn0];rfl
   refine⟨.inl ⟨rfl,_,SqL.of B⟩,?_⟩;refine⟨_,.inl (SqL.of B),?_⟩;refine .inl ⟨l,_,_,_,rfl,rfl,SqL.of a2,aJ c.length (by rw[d_]) an,?_⟩;refine .inr ⟨x,dx,_,rfl,N,rfl,_,rs,rfl,i,λH2 s2=>?_⟩;rw[X];refine⟨cp tp,?_⟩;have v0:=FC n0 (show tot D≠0 by lia);have v1:=FQ n0 tp;have G:=s2 _ _ B;refine⟨r,c.map V.int,V.int (n0 % tot D),rfl,rfl,G,by rw[d_];lia,?_⟩;generalize n0 % tot D=tw at v0 v1 ⊢;have em:(c.map V.int)++[V.int tw]=(c++[tw]).map V.int:=by rw[nv];rfl
   rw[em];have C:(upd H2 r (.lst ((c++[tw]).map V.int))) r=some (.lst ((c++[tw]).map V.int)):=ac;have L:IsNq a 3 (untrs (upd H2 r (.lst ((c++[tw]).map V.int))) [r]) (.ref x) (.die D):=M.t ((av s2.t).trans (cD (ir.mpr rfl)));have S:TabsOk (tabs a) (upd H2 r (.lst ((c++[tw]).map V.int))):=(Y.same s2).put (λD z=>by rw[G]at z;cases z) λφ z=>by rw[G]at z;cases z
   have t3:SameT H (upd H2 r (.lst ((c++[tw]).map V.int))):=(t1.trans s2.t).put f;generalize upd H2 r (.lst ((c++[tw]).map V.int))=H3 at C L S t3
   have W:Bad H3 [r]:=λb hb=>by
    obtain rfl:=ir.mp hb;exact⟨_,C⟩
   obtain⟨bS,J,_⟩:=i6 L;obtain⟨x3,a0,l3,bL,e3,a5,_⟩:=J.t cuts_sub;cases e3;refine⟨x,a0,_,rfl,a5,rfl,?_⟩;refine .inl ⟨r,_,_,_,rfl,rfl,SqL.of C,by rw[<- em];exact vS _ _,?_⟩;obtain⟨u,I⟩:=dg D tw v0 v1;refine⟨_,D,u,tw,[r],rfl,W,L,v0,v1,I,S,λH4 v4 t4 bm a'=>?_⟩;obtain⟨mu,bb⟩:=cZ I;refine⟨v4,u,c++[tw],e',rfl,t3.trans t4,bm,t4.at C,a',(Tb.dk_part g.2.2 bb).2.2,by rw[gV];show e'+(c.length+1)=d;lia,λF y h=>?_,rfl⟩;rw[append_assoc];exact ab _ _ (.die v0 v1 I h)
end
open Nst (Lf Rw)
open Tb (Tr fT bnd ci so pS tS rng Dk Dks)
inductive spBy(vs:List V)(H:Hp)(Q:VK)(_E:XK):Prop
 | mk(p:Addr)(ks:List Int)(f:Nat)(h0:vs=[.ref p,.int (f:Nat)])(h1:(H p=some (.lst (ks.map V.int))\/H p=some (.tup (ks.map V.int))))(h2:ks.length<=100)(h3:∀ H',Same H H'->Q (.int ((ks.filter λk=>decide (k<(f:Int))).length:Nat)) H'):spBy vs H Q _E
inductive spCrowd(K:Frag)(vs:List V)(H:Hp)(Q:VK)(_E:XK):Prop
 | mk(c:Int)(d:Bool)(n:Nat)(h0:vs=[.int c,.bl d,.int (n:Nat)])(h1:n<=24)(h2:∀ H' l xs,Same H H'->H' l=some (.lst xs)->Paired (CrP H') (rng n) xs->Q (.ref l) H'):spCrowd K vs H Q _E
inductive spLPot(a:Ad)(vs:List V)(H:Hp)(Q:VK)(_E:XK):Prop
 | mk(m n:Nat)(ln lt:Addr)(nms:List Str)(ths:List Int)(h0:vs=[.int (m:Nat),.int (n:Nat),.ref ln,.ref lt])(h1:1<=m)(h2:m<=24)(h3:n<=nms.length)(h4:nms.length<=24)(h5:(∀ t∈nms,nmK (.s t)=true/\∀ H,Thg H (.str t) (.s t)))(h6:H ln=some (.lst (nms.map V.str)))(h7:H lt=some (.lst (ths.map V.int)))(h8:ths.length=n - m)(h9:(∀(i:Nat) t,ths[i]? = some t->0<=t/\t<(m:Int)+i+1))(h10:∀ H' x h ts,Same H H'->H x=none->PotAt a H' x h (m:Nat) (n:Nat) ts->Okp (m:Nat) (n:Nat) ts->(∀ t∈ts,t∈nms.take n)->Q (.ref x) H'):spLPot a vs H Q _E
def Bz{m n f:Int}{b:List Str}{t:Str}(h:Okp m n b)(i:n<300):Okp m (n+1) (nxt m b t f):=by
 obtain⟨d,c,g,j,a⟩:=h;refine⟨d,c,by lia,by lia,?_⟩;unfold nxt lm
 split
 .rw[gV]
  show((b.length+1:Nat):Int)=_
  split at a <;> split <;> lia
 .split
  .rw[HI]
   split at a <;> split <;> lia
  .split at a <;> split <;> lia
section
variable {P:hH}{w:lA}{K:Frag}{mg:Str->Option b_}{base:Heap}{a:Ad}
def Ac(T:Txt K mg a):FnX P w base 1 T.W_W spBy:=by
 refine T.W_W.A.okz mi λR A G s H X Q E Y h=>?_
 .obtain⟨p,g,f,rfl,hp,M,q⟩:=h
  have J:sizeLine=16777216:=j_;refine⟨_,(ag (ao (aw aC rfl T.z_len bp (aa (aV rfl (N:=["_law_place","_law_first"]) (ix:=[none,some 1]) aD (a6 (vr 0)) (aQ λC s H W=>⟨bM 0 ["_law_place","_law_first"],nk (bO oZ (vr 0) (vr 1) (aX _)),(vr 0)⟩)) ad)))),?_⟩;have B:∀ d D,Same H d->d D=some (.lst ((g.filter λk=>decide (k<(f:Int))).map V.int))->Q (.int (((g.filter λk=>decide (k<(f:Int))).map V.int).length:Nat)) d:=λd D s z=>by rw[d_];exact q _ s
  have L:∀ n:Nat,((g.take n).filter λk=>decide (k<(f:Int))).length<=100:=λn=>lB (GE _ _) (by rw[mx];lia)
  have u:∀{n:Nat}{x:Int},g[n]? = some x->(g.take (n+1)).filter (λk=>decide (k<(f:Int)))=(g.take n).filter (λk=>decide (k<(f:Int)))++if x<(f:Int) then [x] else []:=λ{n x} v=>by
   rw[oN,v,Gq]
   congr 1
   show List.filter _ [x]=_
   by_cases c:x<(f:Int)
   .rw[if_pos c];simp[c]
   .rw[if_neg c];simp[c]
  rcases hp with hp | hp
  .refine .inl ⟨⟨_,SqL.of hp⟩,λD z=>?_⟩
   let Pw1:PvL:=λn r d=>Same H d/\d D=some (.lst r)/\n<=g.length/\r=((g.take n).filter λk=>decide (k<(f:Int))).map V.int
   refine a8 (K:=K) (a:=p) (xs:=g.map V.int) Pw1 ⟨Same.new z,ac,h_ _,rfl⟩ (λn F d h=>SqL.of (h.1 _ _ hp)) (λn F d h=>h.2.1) ?_ ?_
   .rintro n y r d O I ⟨o,b,S,rfl⟩ i
    obtain⟨x,v,rfl⟩:=db I;have j:n<g.length:=(fP.mp v).1;have e:=u v;refine⟨⟨rfl,trivial⟩,ifC (λc=>?_) (λc=>?_)⟩
    .rw[if_pos c]at e
     exact⟨b,by rw[d_];have:=L n;lia,i _ _ ⟨o.put z,ac,j,by rw[e,nv];rfl⟩⟩
    .rw[if_neg c,Fj]at e
     exact i _ _ ⟨o,b,j,by rw[e]⟩
   .rintro r d ⟨o,b,_,rfl⟩
    rw[d_,oD]at b;refine⟨_,.inl (SqL.of b),?_⟩;exact B _ D o b
  .refine .inr ⟨⟨_,SqT.of hp⟩,λD z=>?_⟩
   let Pw2:PvL:=λn r d=>Same H d/\d D=some (.lst r)/\n<=g.length/\r=((g.take n).filter λk=>decide (k<(f:Int))).map V.int
   refine fg (K:=K) (a:=p) (xs:=g.map V.int) Pw2 ⟨Same.new z,ac,h_ _,rfl⟩ (λn F d h=>SqT.of (h.1 _ _ hp)) (λn F d h=>h.2.1) ?_ ?_
   .rintro n y r d O I ⟨o,b,S,rfl⟩ i
    obtain⟨x,v,rfl⟩:=db I;have j:n<g.length:=(fP.mp v).1;have e:=u v;refine⟨⟨rfl,trivial⟩,ifC (λc=>?_) (λc=>?_)⟩
    .rw[if_pos c]at e
     exact⟨b,by rw[d_];have:=L n;lia,i _ _ ⟨o.put z,ac,j,by rw[e,nv];rfl⟩⟩
    .rw[if_neg c,Fj]at e
     exact i _ _ ⟨o,b,j,by rw[e]⟩
   .rintro r d ⟨o,b,_,rfl⟩
    rw[d_,oD]at b;refine⟨_,.inl (SqL.of b),?_⟩;exact B _ D o b
def xi(T:Txt K mg a):FnX P w base 3 T.W_al (spCrowd K):=by
 refine T.W_al.A.okz kz λal A I s H vs Q E hr h=>?_
 .obtain⟨c,d,n,rfl,ah,q⟩:=h
  have O:sizeLine=16777216:=j_;refine⟨_,(af (psr 3 kz (pec (gW T) hr T.W_H (aa (vr 0) (aa (vr 1) (aa (au vq (bC (aa am ad)) (vr 2)) ad))))) (ag (ao (aV rfl (N:=["_law_place","_law_numbers_here"]) (ix:=[none,some 3]) aD (cH rfl T.z_range (aa (vr 2) ad)) (aQ λC s H fp=>⟨bM 0 ["_law_place","_law_numbers_here"],aU,(bh (aa (vr 0) (aa (au bY am (gm (gB (K:=K) rfl) (vr 1) (vr 0))) (aa (bh ad) ad))))⟩))))),jt ?_⟩;intro ab;refine⟨by show 1<=sizeLine;lia,λX M=>?_⟩;refine⟨X,(n:Int),[.int 1000],rfl,rfl,ac,by lia,by lia,by show 1*_<=_;lia,λY W=>?_⟩
  have eb:(l4 ((n:Int)).toNat [V.int 1000]).flatten=(l4 n (1000:Int)).map V.int:=by
   rw[ub,JG,Hj]
  rw[eb];have s1:=(Same.new (o:=.lst [.int 1000]) M).trans (Same.new (o:=.lst ((l4 n (1000:Int)).map V.int)) W);have h2:=ac (H:=upd H X (.lst [.int 1000])) (a:=Y) (o:=.lst ((l4 n (1000:Int)).map V.int));generalize upd (upd H X (.lst [.int 1000])) Y (.lst ((l4 n (1000:Int)).map V.int))=H1 at s1 h2;refine⟨c,d,Y,_,rfl,h2,by rw[EK];lia,λb hb=>by rw[IJ hb];decide,λH2 l ns s2 hl0 hl3 hB=>?_⟩;have nl:ns.length=n:=by rw[<- rn hB,EK]
  refine⟨(n:Int),rfl,by lia,by lia,λD Z=>?_⟩
  let Pw3:PvL:=λj f g=>j<=n/\Same H2 g/\g D=some (.lst f)/\Paired (CrP g) ((rng n).take j) f
  refine d6 (lo:=0) (n:=((n:Nat):Int).toNat) Pw3 ⟨h_ _,Same.new Z,ac,.nil⟩ (λj f g h=>h.2.2.1) ?_ ?_
  .rintro j f g P' hj ⟨_,F,u,B⟩ S
   have yl:f.length<=24:=by rw[<- B.length,mx,Tb.rng_len];lia
   obtain⟨n0,hn0⟩:∃ n0,ns[j]? = some n0:=⟨_,ki (by lia)⟩
   have L:(ns.map V.int)[j]? = some (.int n0):=by rw[gb,hn0];rfl
   refine⟨⟨rfl,trivial⟩,.inl ⟨l,_,_,_,rfl,rfl,SqL.of (F _ _ hl3),aJ j (by lia) L,?_⟩⟩;refine⟨h_ _,λx J=>⟨by show 3<=sizeLine;lia,λp hp=>?_⟩⟩;have G:=(Same.new (o:=.tup []) J).trans (Same.new (o:=.tup [.int (0+(j:Int)),.int (1+n0),.ref x]) hp);have v:=ac (H:=upd g x (.tup [])) (a:=p) (o:=.tup [.int (0+(j:Int)),.int (1+n0),.ref x]);have k:=G _ _ u;have S:=S (f++[.ref p]);refine⟨k,by lia,S _ ⟨hj,(F.trans G).put Z,ac,?_⟩⟩;generalize upd (upd g x (.tup [])) p (.tup [.int (0+(j:Int)),.int (1+n0),.ref x])=H4 at G v k;have tk:∀ b R,H4 b=some (.tup R)->(upd H4 D (.lst (f++[.ref p]))) b=some (.tup R):=λb R e=>by rw[ae (cF e k (λz=>nomatch z))];exact e
   refine a7 (aj (λi y ⟨q,r,e,h⟩=>⟨q,r,e,tk _ _ (G _ _ h)⟩) B) (qK (by lia)) ⟨p,_,rfl,tk _ _ (by rw[v,Gr])⟩
  .rintro f g ⟨_,F,u,B⟩
   rw[ub,rb (by rw[Tb.rng_len];exact fS _)]at B;exact q _ D _ ((s1.trans s2).trans F) u B
def sM(T:Txt K mg a):FnX P w base 6 T.W_ag (spLPot a):=by
 have Z:FnO P w K mg base 4 (sJ a):=(rk T).mo;have L:FnO P w K mg base 5 (λvs H Q _=>qE a vs H Q λ_ _ _=>False):=(iw (tm T)).mono (by decide);refine T.W_ag.A.okz sc_ag λbm A Y s H vs Q E hr h=>?_
 .obtain⟨m,n,ln,lt,d,W,rfl,m1,a5,hn,a1,an,R,X,a0,ab,q⟩:=h
  have al:sizeLine=16777216:=j_;refine⟨_,(af (psl 4 sc_ag (bT T.mk_o Z hr rfl T.mc_o T.Wi_o.B .nil ax (aa (vr 0) ad))) (af (psl 5 sc_ag am) (af (c8 s_ rfl (cH rfl T.z_range (aa (vr 1) ad)) (aN (i:=6) sc_ag.nd rfl (uS rfl)) (ag (bc (bO oZ (vr 6) (vr 0) (aX _)) (ag (bR (dF (vr 4) T.cl_o T.mt_z L hr T.Bd_Pot_come (.cons T.Rv_Pot_come .nil) ax (aa (bf (vr 2) (vr 6)) ad)))) (af (bR (dF (vr 4) T.cl_o T.mt_z L hr T.B_z .nil ax (aa (bf (vr 2) (vr 6)) (aa (bf (vr 3) (vr 5)) ad)))) (ag (psl 5 sc_ag (au bY (vr 5) am))))))) (ag (ao (vr 4)))))),mn ?_⟩;intro bl a3 a2;intro x dx I ah bb;have s3:=gp (C:=a.c_o) I ah;refine⟨x,dx,m,rfl,ac,by lia,by lia,λH3 h as fh S=>⟨rfl,?_⟩⟩;have s4:Same H H3:=λb o e=>as b o (λz=>by rw[z,I]at e;cases e) (s3 b o e)
  refine⟨_,rfl,by lia,by lia,?_⟩
  let Pw4:PvS:=λk σ G=>k<=n/\Same H G/\∃(h:Addr) (B:List Str) (x7:Option V),PotAt a G x h (m:Nat) (k:Nat) B/\Okp (m:Nat) (k:Nat) B/\(∀ t∈B,t∈d.take k)/\σ=[some (.int (m:Nat)),some (.int (n:Nat)),some (.ref ln),some (.ref lt),some (.ref x),some (.int ((k - m:Nat):Int)),x7]
  refine mW (lo:=0) (n:=((n:Nat):Int).toNat) Pw4 ⟨h_ _,s4,h,[],none,S,⟨by lia,by lia,by lia,by lia,by rw[if_pos (by lia)];rfl⟩,(λt J=>by cases J),by rw[Nat.zero_sub];rfl⟩ ?_ ?_
  .rintro k σ G hk ⟨a',D,h5,B,x7,j,f,p,rfl⟩
   have bg:k<n:=by lia
   obtain⟨dy,O⟩:=j.at_
   obtain⟨t,J⟩:∃ t,d[k]? = some t:=⟨_,ki (by lia)⟩
   have N:(d.map V.str)[k]? = some (.str t):=by rw[gb,J];rfl
   obtain⟨nt,r⟩:=an t (ge J)
   have g:∀ y:Int,∀ u∈nxt (m:Nat) B t y,u∈d.take (k+1):=λy u F=>by
    have up:∀{v},v∈d.take k->v∈d.take (k+1):=λhv=>by rw[oN];exact z4 _ hv
    have tk:t∈d.take (k+1):=by rw[oN,J];exact li _ (ir.mpr rfl)
    unfold nxt lm at F
    split at F
    .rcases wh.mp F with z | z
     .exact up (p u z)
     .rw[ir.mp z];exact tk
    .split at F
     .rcases Iy F with z | z
      .exact up (p u z)
      .rw[z];exact tk
     .exact up (p u F)
   refine ifC (λc=>?_) λc=>?_
   .have c:(0:Int)+(k:Int)<(m:Int):=c
    refine⟨x,dy,_,rfl,O,rfl,.inl ⟨ln,_,_,_,rfl,rfl,SqL.of (D _ _ R),aJ k (by lia) N,?_⟩⟩;refine⟨x,h5,_,_,B,_,_,.s t,.i 0,rfl,j,f,r G,.int 0,(λe=>by rw[nt]at e;cases e),(λ_ e=>by lia),λ_ _ e=>?_,λ_ _ _ H7 h7 sb7 pot7 hh7=>?_⟩
    .have:inK 0 (sides (m:Nat) (k:Nat) - 1) (.i 0)=true:=decide_eq_true ⟨HL 0,by unfold sides;split <;> lia⟩
     rw[this]at e;cases e
    .exact⟨by lia,λb o e=>sb7 b o (λz=>by rw[z,I]at e;cases e) (D b o e),h7,_,_,pot7,qk f (by lia),g _,by rw[show k+1 - m=k - m by lia];rfl⟩
   .have c:¬(0:Int)+(k:Int)<(m:Int):=c
    obtain⟨y,hth0⟩:∃ y,W[k - m]? = some y:=⟨_,ki (by lia)⟩
    obtain⟨v0,v1⟩:=ab _ _ hth0;have M:(W.map V.int)[k - m]? = some (.int y):=by rw[gb,hth0];rfl
    refine⟨x,dy,_,rfl,O,rfl,.inl ⟨ln,_,_,_,rfl,rfl,SqL.of (D _ _ R),aJ k (by lia) N,.inl ⟨lt,_,_,_,rfl,rfl,SqL.of (D _ _ X),aJ (k - m) rfl M,?_⟩⟩⟩;refine⟨x,h5,_,_,B,_,_,.s t,.i y,rfl,j,f,r G,.int y,(λe=>by rw[nt]at e;cases e),(λ_ e=>by lia),λ_ _ e=>?_,λ_ _ _ H7 h7 sb7 pot7 hh7=>?_⟩
    .have:inK 0 (sides (m:Nat) (k:Nat) - 1) (.i y)=true:=decide_eq_true ⟨v0,by unfold sides;split <;> lia⟩
     rw[this]at e;cases e
    .exact⟨by lia,λb o e=>sb7 b o (λz=>by rw[z,I]at e;cases e) (D b o e),h7,_,_,pot7,Bz f (by lia),g _,by rw[show((k+1 - m:Nat):Int)=((k - m:Nat):Int)+1 by lia];rfl⟩
  .rintro σ G ⟨_,D,h5,B,x7,j,f,p,rfl⟩
   rw[ub]at j f p;exact q _ _ _ _ D I j f p
end
end My
namespace L2
open PySem PySem.Spec PySem.Calls PyProof.Rows
inductive rIndexD(K:Frag)(x:V)(vs:List V)(H:Hp)(Q:VK):Prop
 | mk(l:Addr)(xs:List V)(ds:List EW)(y:V)(d:EW)(j:Nat)(h0:x=.ref l)(h1:vs=[y])(h2:H l=some (.lst xs))(h3:DVs K H ds xs)(h4:DV K H d y)(h5:D0 ds=true)(h6:d.canLay0=true)(h7:d.depth<=60)
   (h8:j<ds.length) (h9:∀ z,ds[j]? = some z->FF z d=true) (h10:∀ m z,m<j->ds[m]? = some z->FF z d=false) (h11:Q (.int (j:Int)) H):rIndexD K x vs H Q
section
variable {X:Cx}
def uB(M:X.A.units+64<FR):MtM X "list.index" (rIndexD X.K):=by
 intro k s R H x S v P Q I E D h;obtain⟨l,xs,b,y,d,j,rfl,rfl,B,f,L,p,K,W,T,J,g,q⟩:=h;cases E;obtain⟨u,rfl,G⟩:=D.one;obtain⟨z,a,n,r,N,e⟩:=I.lstM B;obtain⟨as,A⟩:=DVs.reads I f r;obtain⟨O,C⟩:=L.reads I G;have w:=SeqAt.readsAll_map b a as p A;have Y:a.length=b.length:=by have:=congrArg GF w;simpa using this
 have i:sizeLine=16777216:=j_
 have o:∀ m (c:m<a.toArray.size),b[m]? = some (SeqAt.readOf s.heap a.toArray[m]):=λm c=>by
  rw[<- w,gb];simp at c;simp[c]
 refine Fl KM ⟨_,e,rfl⟩ F.entry_list_index (F.args_list_index_2 _ _) (SeqAt.list_indexAt l a.toArray n none #[] u (λy=>FF (SeqAt.readOf s.heap y) d) j (by simp;lia) (by have:=r.length;lia) (J _ (o j (by simp;lia))) λm c hlt=>g m _ hlt (o m c)) ⟨e,SeqAt.items_eqAt (xs:=b) (as:=as) (by simpa using A) C p K ?_,⟨.int _,H,I.tok _,⟨_,rfl⟩,q⟩⟩;have:min (Gf b) d.depth<=d.depth:=HC _ _;lia
variable {o e:Expr}{es:List Expr}{to:TE}{t:TA}{apos cpos:Pos}
def pe_m.indexD(g:X.A.units+64<FR)(f:PE X o to)(i:PA X (e::es) t)(b:EF o "index" X.env (eval o X.env)=eval o X.env:=by rfl)
  (d:((z_ cpos (lg (e::es) X.env)).all (λx=>!x.1) && (G2 cpos (FK [] X.env)).all (λx=>x.1.isSome) && decide ((e::es).length+([]:List Gh).length+(if ([]:List Gh).isEmpty then 0 else 1)<30))=true:=by rfl)
  (c:(apos.endLine == cpos.line)=true:=by rfl) (h:lg (e::es) X.env=(false,eval e X.env)::lg es X.env:=by rfl) (a:(z_ cpos (lg es X.env)).any (·.1)=false:=by rfl) :
  PE X (.Call (.Attribute o "index" apos) (e::es) [] cpos) (tBM X.K "list" (rIndexD X.K) to t):=xH F_ KM F.type_list_index (uB g) f i b d c h a
end
end L2
namespace My
open PySem L2 FrM LexM
open Nst (Lf Rw)
open Tb (Tr fT bnd ci so pS tS rng Dk Dks)
inductive spLSo(a:Ad)(K:Frag)(vs:List V)(H:Hp)(Q:VK)(_E:XK):Prop
 | mk(x h ln lo:Addr)(f:Nat)(m n:Int)(ts A B:List Str)(h0:vs=[.ref x,.int (f:Nat),.ref ln,.ref lo])(h1:PotAt a H x h m n ts)(h2:ts.length<=24)(h3:H ln=some (.lst (A.map V.str)))(h4:H lo=some (.lst (B.map V.str)))(h5:A.length<=24)(h6:B.length<=24)(h7:(∀ t∈A,Fu t=true))(h8:(∀ t∈B,Fu t=true))(h9:(∀ t∈ts,t∈A.take f\/(t ∉ A/\t∈B)))(h10:∀ H' r (zs:List Int),Same H H'->H' r=some (.lst (zs.map V.int))->zs.length=ts.length->(zs.filter λk=>decide (k<(f:Int))).length=(ts.filter λt=>decide (t∈A)).length->Q (.ref r) H'):spLSo a K vs H Q _E
def oW{t:Str}:∀{A:List Str},t∈A->∃ j,j<A.length/\A[j]? = some t/\(∀(m:Nat) z,m<j->A[m]? = some z->z≠t)/\∀ k,t∈A.take k->j<k
 | x::r,h=>by
  by_cases e:x=t
  .subst e
   exact⟨0,Nat.succ_pos _,rfl,λm z a=>absurd a (KJ _),λk hk=>by
    cases k with
    | zero=>cases hk
    | succ k=>exact Nat.succ_pos _⟩
  .have f:t∈r:=by
    rcases i_.mp h with z | z
    .exact absurd z.symm e
    .exact z
   obtain⟨j,i,d,c,g⟩:=oW f;refine⟨j+1,KA i,d,λm z a b=>?_,λk hk=>?_⟩
   .cases m with
    | zero=>cases b;exact e
    | succ m=>exact c m z (Nat.lt_of_succ_lt_succ a) b
   .cases k with
    | zero=>cases hk
    | succ k =>
     rcases i_.mp hk with z | z
     .exact absurd z.symm e
     .exact KA (g k z)
def vM(t:Str)(A:List Str):inV (.str t) (A.map V.str)=decide (t∈A):=by
 unfold inV;rw[any_map]
 induction A with
 | nil=>rfl
 | cons x r ih =>
  rw[G5,ih];simp only[i_,Function.comp]
  by_cases e:t=x
  .subst e;simp[eqV]
  .have a:¬x=t:=λz=>e z.symm
   simp[eqV,e,a]
def uc(A:List Str):(A.map V.str).all gN=true:=by
 rw[JY];exact oo.mpr λx _=>rfl
def oS{K:Frag}{H:Hp}:∀ A:List Str,DVs K H (A.map PyData.str) (A.map V.str)
 | []=>by simp[DVs]
 | x::r=>by
  rw[l_,l_,DVs];exact⟨_,_,rfl,by simp[DV],oS r⟩
def oP:∀{A:List Str},(∀ t∈A,Fu t=true)->D0 (A.map PyData.str)=true
 | [],_=>by simp[D0]
 | x::r,h=>by rw[l_,D0,oP λt a=>h t (hI _ a)];simp[Fe,h x gT]
def oB{K:Frag}{H:Hp}{b:Addr}{A:List Str}{t:Str}{Q:VK}(h:H b=some (.lst (A.map V.str)))(f:∀ t∈A,Fu t=true)(c:t∈A)(q:∀ j:Nat,j<A.length->(∀ k,t∈A.take k->j<k)->Q (.int (j:Int)) H):rIndexD K (.ref b) [.str t] H Q:=by
 obtain⟨j,d,i,g,o⟩:=oW c;refine⟨b,_,_,_,.str t,j,rfl,rfl,h,oS A,by simp[DV],oP f,by simp[Fe,f t c],by simp[Ga],by rw[d_];exact d,λz a=>?_,λm z hm a=>?_,q j d o⟩
 .rw[gb,i]at a
  cases a;simp[FF]
 .rw[gb]at a
  cases e:A[m]? with
  | none=>rw[e]at a;cases a
  | some y =>
   rw[e]at a;cases a;have:=g m y hm e;simp[FF,this]
section
variable {P:hH}{w:lA}{K:Frag}{mg:Str->Option b_}{base:Heap}{a:Ad}
def rN(T:Txt K mg a):FnX P w base 2 T.W_V (spLSo a K):=by
 have bb:FnO P w K mg base 1 (spThings a):=gw T;refine T.W_V.A.okz sc_V λbL A a0 s H vs Q E hr h=>?_
 .obtain⟨x,h,S,Z,f,m,n,C,F,nB,rfl,a2,bF,ab,X,bt,br,an,bm,al,q⟩:=h
  have a5:sizeLine=16777216:=j_;refine⟨_,(af (psl 4 sc_V (bC ad)) (af (c8 s_ rfl (a6 (ar (vr 0) T.cl_o T.mt_d bb hr T.W_d.B .nil ax)) (aN (i:=5) sc_V.nd rfl (uS rfl)) (ag (bc (bO mJ (vr 5) (vr 2) (by with_unfolding_all rfl)) (ag (bR (pe_m.append (vr 4) (aa (pe_m.indexD hr.units (vr 2) (aa (vr 5) ad)) ad)))) (ag (bR (pe_m.append (vr 4) (aa (au bY (vr 1) (pe_m.indexD hr.units (vr 3) (aa (vr 5) ad))) ad))))))) (ag (ao (aw gO rfl T.z_sorted iU (aa (vr 4) ad)))))),jf ?_⟩;intro bo bn;refine⟨h_ _,λr G=>?_⟩;have s0:=Same.new (o:=.lst []) G;have M:=ac (H:=H) (a:=r) (o:=.lst []);generalize upd H r (.lst [])=H0 at s0 M;have J:=a2.same s0;obtain⟨dx,hx⟩:=J.at_;refine⟨x,dx,_,rfl,hx,rfl,⟨x,h,_,_,C,rfl,J,λH1 rt s1 f1 Y=>?_⟩⟩;have N:=s0.trans s1;have a':=s1 _ _ M;have bl:rt≠r:=λz=>by rw[z,M]at f1;cases f1
  have bg:S≠r:=ai ab G;have as:Z≠r:=ai X G;have L:∀{p:Hp},(∀ b o,b≠r->H1 b=some o->p b=some o)->Same H p:=λ{p} k b o e=>k b o (ai e G) (N _ _ e)
  let Pw1:PvS:=λi σ p=>∃(d:List Int) (R:Option V),(∀ b o,b≠r->H1 b=some o->p b=some o)/\p r=some (.lst (d.map V.int))/\i<=C.length/\d.length=i/\(d.filter λk=>decide (k<(f:Int))).length=((C.take i).filter λt=>decide (t∈F)).length/\σ=[some (.ref x),some (.int (f:Nat)),some (.ref S),some (.ref Z),some (.ref r),R]
  refine .inl ⟨⟨_,SqL.of Y⟩,dq (K:=K) (a:=rt) (xs:=C.map V.str) Pw1 ⟨[],none,(λb o _ e=>e),a',h_ _,rfl,rfl,rfl⟩ (λi σ p _ h=>by
   obtain⟨d,R,k,_⟩:=h
   exact SqL.of (k _ _ bl Y)) ?_ ?_⟩
  .rintro i y σ p W ⟨d,R,O,g,hi,zl,B,rfl⟩
   obtain⟨t,ht,rfl⟩:∃ t,C[i]? = some t/\V.str t=y:=by
    rw[gb]at W;cases e:C[i]? with
    | none=>rw[e]at W;cases W
    | some t=>rw[e]at W;cases W;exact⟨t,rfl,rfl⟩
   have a1:i<C.length:=(fP.mp ht).1;have D:=O _ _ bg (N _ _ ab);have I:=O _ _ as (N _ _ X);have lz:(d.map V.int).length<sizeLine:=by rw[d_];lia
   have tk:(C.take (i+1)).filter (λt=>decide (t∈F))=(C.take i).filter (λt=>decide (t∈F))++if t∈F then [t] else []:=by
    rw[oN,ht,Gq]
    congr 1
    by_cases c:t∈F
    .rw[if_pos c];simp[c]
    .rw[if_neg c];simp[c]
   have bS:∀ v:Int,(v<(f:Int)↔t∈F)->∀ ah,ah=[some (V.ref x),some (.int (f:Nat)),some (.ref S),some (.ref Z),some (.ref r),some (.str t)]->∃(d:List Int) (R:Option V),(∀ b o,b≠r->H1 b=some o->(upd p r (.lst (d.map V.int))) b=some o)/\True:=λv hv ah e=>⟨d,R,(λb o n e=>by rw[ae n];exact O b o n e),trivial⟩
   have next:∀ v:Int,(v<(f:Int)↔t∈F)->∃(u:List Int) (x5':Option V),(∀ b o,b≠r->H1 b=some o->(upd p r (.lst ((d.map V.int)++[V.int v]))) b=some o)/\(upd p r (.lst ((d.map V.int)++[V.int v]))) r=some (.lst (u.map V.int))/\i+1<=C.length/\u.length=i+1/\(u.filter λk=>decide (k<(f:Int))).length=((C.take (i+1)).filter λt=>decide (t∈F)).length/\[some (V.ref x),some (.int (f:Nat)),some (.ref S),some (.ref Z),some (.ref r),some (.str t)]=[some (.ref x),some (.int (f:Nat)),some (.ref S),some (.ref Z),some (.ref r),x5']:=λv hv=>by
    refine⟨d++[v],_,(λb o n e=>by rw[ae n];exact O b o n e),by rw[ac,nv];rfl,a1,by rw[gV,zl];rfl,?_,rfl⟩;rw[tk,Gq,gV,gV,B]
    congr 1
    by_cases c:t∈F
    .rw[if_pos c]
     have:=hv.mpr c;simp[this]
    .rw[if_neg c]
     have:¬v<(f:Int):=λz=>c (hv.mp z)
     simp[this]
   refine⟨S,_,rfl,.inl (SqL.of D),rfl,uc _,?_⟩;rw[vM];refine ifC (λc=>?_) (λc=>?_)
   .have cf:t∈F.take f:=by
     rcases al t (ge ht) with z | z
     .exact z
     .exact absurd c z.1
    refine⟨.inl ⟨rfl,_,SqL.of g⟩,⟨.inl ⟨rfl,_,SqL.of D⟩,oB D an c λj j1 j2=>?_⟩⟩;exact⟨r,_,_,rfl,rfl,g,lz,next (j:Int) ⟨λ_=>c,λ_=>by have:=j2 f cf;lia⟩⟩
   .have cB:t∈nB:=by
     rcases al t (ge ht) with z | z
     .exact absurd (Fi z) c
     .exact z.2
    refine⟨.inl ⟨rfl,_,SqL.of g⟩,⟨.inl ⟨rfl,_,SqL.of I⟩,oB I bm cB λj j1 j2=>?_⟩⟩;exact⟨r,d.map V.int,V.int ((f:Int)+(j:Int)),rfl,rfl,g,lz,next _ ⟨λz=>by lia,λz=>absurd z c⟩⟩
  .rintro σ p ⟨d,R,O,g,_,zl,B,rfl⟩
   rw[d_]at zl B;rw[oD]at B;refine⟨r,d,rfl,.inl (SqL.of g),by lia,λq9 u pm bq a3=>?_⟩;exact q _ q9 u ((L O).trans (Same.new a3)) ac (by rw[pm.length_eq,zl]) (by rw[<- B];exact(pm.filter _).length_eq)
end
open Nst (Lf Rw cN dg cZ)
open Tb (Tr fT bnd ci so pS tS rng Dk Dks stm stP tot)
def zB{s n:Nat}{a:List Int}{p:Int×Tr}(h:p∈stP s a n):∃ held',held'.length=a.length/\p.2=stm s held' (n+1):=by
 unfold stP at h
 rcases wh.mp h with z | z
 .obtain⟨b,_,rfl⟩:=nh.mp z
  exact⟨_,HI,rfl⟩
 .rw[ir.mp z]
  exact⟨a,rfl,rfl⟩
def xF:∀(s:Nat) (held:List Int) (n:Nat) (ths:List Int),ths.length=s->held.length<=n->(∀(i:Nat) t,ths[i]? = some t->0<=t/\t<(n:Int)+i+1)->∃ ks,Rw (stm s held n) ths ks
 | 0,held,n,ths,hl,_,_=>by
  obtain rfl:=F9.mp hl;exact⟨held,.leaf held⟩
 | s+1,held,n,[],hl,_,_=>by cases hl
 | s+1,held,n,t::r,hl,hh,h=>by
  have b:=h 0 t rfl;have g:tot (stP s held n)=(n:Int)+1:=Tb.stP_tot _ _ _;obtain⟨u,f⟩:=dg (stP s held n) t b.1 (by rw[g];have:=b.2;lia);obtain⟨m,j⟩:=cZ f;obtain⟨a,k,c⟩:=zB j
  obtain⟨ks,d⟩:=xF s a (n+1) r (by simpa using hl) (by lia) λi t' ht'=>by
   have:=h (i+1) t' ht';refine⟨this.1,?_⟩;have:=this.2
   push_cast at this ⊢
   lia
  have c:u=stm s a (n+1):=c;rw[<- c]at d;exact⟨ks,.die b.1 (by show t<tot (stP s held n);rw[g];have:=b.2;lia) f d⟩
def zS{m f:Nat}{a:List Int}(g:a.length=f - m)(h:∀(i:Nat) t,a[i]? = some t->0<=t/\t<(m:Int)+i+1):∃ ks,Rw (sT m f) a ks:=by
 unfold sT tS
 by_cases c:f<=m
 .have d:f - min f m=0:=by lia
  have b:a=[]:=F9.mp (by lia);rw[d,b];exact⟨_,.leaf _⟩
 .rw[show min f m=m by lia]
  exact xF _ _ _ _ (by lia) (by rw[Tb.rng_len];exact fS _) h
def c4(c:Nat×Nat×Nat):Bool:=kM (λks=>ks.all λk=>decide (0<=k/\k<(c.2.1:Int))) (sT c.1 c.2.1) && (kM (λks=>ks.all λk=>decide (0<=k)) (sT c.1 c.2.2) && (okT (2*c.1) (pT c.1 c.2.1 c.2.2) && kM (λks=>ks.length == min c.1 (c.2.1+c.2.2)) (pT c.1 c.2.1 c.2.2)))
def BM:Cs.all c4=true:=by decide +kernel
def zQ{m f s:Nat}(h:C3 m f s):(∀ ks,Lf (sT m f) ks->∀ k∈so ks,0<=k/\k<(f:Int))/\(∀ ks,Lf (sT m s) ks->∀ k∈so ks,0<=k)/\Dk (2*m) (pT m f s)/\∀ ks,Lf (pT m f s) ks->ks.length=min m (f+s):=by
 have z:=oo.mp BM _ h;unfold c4 at z;rw[il,il,il]at z;obtain⟨g,d,c,i⟩:=z;refine⟨λks a k b=>?_,λks a k b=>?_,(rL _ _ c).1,λks a=>eq_of_beq (gu a i)⟩
 .exact of_decide_eq_true (oo.mp (gu a g) k ((Tb.so_perm ks).mem_iff.mp b))
 .exact of_decide_eq_true (oo.mp (gu a d) k ((Tb.so_perm ks).mem_iff.mp b))
def uI{m f s:Nat}{h g c a b ks:List Int}(o:Rw (sT m f) h a)(j:Rw (sT m s) g b)(i:Rw (pT m f s) c ks):Rw (jT m f s) (h++(g++c)) ((so ks).map λk=>(so a++(so b).map λk=>(f:Int)+k).getD k.toNat 0):=by
 have d:Rw (gT1 m f s (so a) (so b)) (c++[]) ((so ks).map λk=>(so a++(so b).map λk=>(f:Int)+k).getD k.toNat 0):=rO i (.leaf _);rw[Fj]at d;exact rO o (rO j d)
def vP{m f s:Nat}(h:C3 m f s){a d ks:List Int}(i:Lf (sT m f) a)(g:Lf (sT m s) d)(j:Lf (pT m f s) ks):(((so ks).map λk=>(so a++(so d).map λk=>(f:Int)+k).getD k.toNat 0).filter λk=>decide (k<(f:Int))).length=((so ks).filter λk=>decide (k<((min f m:Nat):Int))).length:=by
 obtain⟨q,p,_,_⟩:=zQ h;have r:=CA h i;have w:=Dc h g;obtain⟨_,b⟩:=BL h j;rw[KB,d_]
 congr 1
 refine J1 λk o=>?_
 obtain⟨u,v⟩:=b k o;show decide ((so a++(so d).map λk=>(f:Int)+k).getD k.toNat 0<(f:Int))=decide (k<((min f m:Nat):Int));rw[E4]
 by_cases c:k<((min f m:Nat):Int)
 .rw[decide_eq_true c]
  obtain⟨z,hz⟩:∃ z,(so a)[k.toNat]? = some z:=⟨_,ki (by lia)⟩
  rw[p0 (by lia),hz];exact decide_eq_true (q a i z (ge hz)).2
 .rw[decide_eq_false c,o_ (by lia),gb]
  obtain⟨z,hz⟩:∃ z,(so d)[k.toNat - (so a).length]? = some z:=⟨_,ki (by lia)⟩
  rw[hz];refine decide_eq_false ?_;have:=p d g z (ge hz);show ¬(f:Int)+z<(f:Int);lia
end My
namespace L2
open PySem PySem.Spec PyProof.Rows
def jB{X:Cx}(B:X.calm=true):CallR X (.type "list") (λxs H Q=>∃ z:Str,xs=[.str z]/\z.cps.size<=1000/\∀ l,H l=none->Q (.ref l) (upd H l (.lst (z.cps.toList.map λ(c:Nat)=>V.str ⟨#[c]⟩)))):=by
 intro d s K H xs J Q I r h;obtain⟨z,rfl,G,q⟩:=h;obtain⟨u,rfl,⟨t,rfl⟩⟩:=dW r;have L:sizeLine=16777216:=j_;refine call_list_str (I.ok.hd B) z t (λF C b c p A v=>?_) (by lia);refine⟨.ref s.heap.objs.size,_,I.laid (t':=C) (o:=.lst (z.cps.toList.map λ(c:Nat)=>V.str ⟨#[c]⟩)) p (fS _) ?_,rfl,q _ (I.hok.fresh (fS _))⟩;obtain⟨D,w⟩:=v;refine⟨by rw[d_,y2];lia,b.toList,c,nQ (by rw[d_,y2];simpa using D.symm) λi x u g j=>?_,A⟩;rw[gb,EO]at g;obtain⟨k,a,rfl⟩:=EG.mp g;have:=w i u (by simpa using j);obtain⟨E,t',f,y⟩:=this;rw[a]at f;cases f;exact⟨t',y⟩
end L2
namespace My
open PySem L2 FrM LexM
open Nst (Lf Rw)
open Tb (Tr fT bnd ci so pS tS rng Dk Dks)
inductive spThr(a:Ad)(vs:List V)(H:Hp)(Q:VK)(_E:XK):Prop
 | mk(m f s:Nat)(c:Int)(d:Bool)(h0:vs=[.int (m:Nat),.int (f:Nat),.int (s:Nat),.int c,.bl d])(h1:C3 m f s)(h2:JS a H)(h3:TabsOk (tabs a) H)(h4:∀ H',SameT H H'->TabsOk (tabs a) H'->Q (.bl true) H'):spThr a vs H Q _E
def nmA:List Str:=[⟨#[97]⟩,⟨#[98]⟩,⟨#[99]⟩,⟨#[100]⟩]
def nmB:List Str:=[⟨#[119]⟩,⟨#[120]⟩,⟨#[121]⟩,⟨#[122]⟩]
def yC(xs:List V)(i j:Nat)(h:i<=j)(a:j<=xs.length):b8 xs (some (i:Int)) (some (j:Int))=(xs.drop i).take (j - i):=by
 unfold b8;rw[HT.sIx_nat,HT.sIx_nat,Gw (by lia:i<=xs.length),Gw a]
def mS{a b n:List Int}(h:Below (a++b) n):Below a (n.take a.length)/\Below b (n.drop a.length):=by
 induction a generalizing n with
 | nil=>exact⟨.nil,h⟩
 | cons x r ih =>
  cases h with
  | cons p t =>
   obtain⟨d,c⟩:=ih t;exact⟨.cons p d,c⟩
def a9(m n:Nat):(sdL m n).length=n - m:=by unfold sdL;rw[d_,A6]
def tO{m n:Nat}{c:List Int}(h:Below (sdL m n) c):∀(i:Nat) t,c[i]? = some t->0<=t/\t<(m:Int)+i+1:=λi t d=>by
 obtain⟨b,a,f,j⟩:=aK h d;unfold sdL at a;rw[gb]at a
 have g:i<n - m:=by
  have:=(fP.mp d).1;have e:=rn h;rw[a9]at e;lia
 rw[FB g]at a;cases a;exact⟨f,j⟩
def zN:(∀ t∈nmA,nmK (.s t)=true/\∀ H,Thg H (.str t) (.s t))/\(∀ t∈nmB,nmK (.s t)=true/\∀ H,Thg H (.str t) (.s t)):=by
 refine⟨λt a=>?_,λt a=>?_⟩ <;>
 .simp only[nmA,nmB,i_,He,or_false]at a
  rcases a with rfl | rfl | rfl | rfl <;> exact⟨by decide +kernel,λH=>.str _ (by decide +kernel) (by decide +kernel)⟩
def v7:(∀ t∈nmA,Fu t=true)/\(∀ t∈nmB,Fu t=true):=by decide +kernel
def vw:∀ t∈nmB,t ∉ nmA:=by decide +kernel
def eqE{x y:Int}{H:Hp}{Q:VK}(e:x=y)(q:Q (.bl true) H):xR false (.int x) (.int y) H Q:=by
 subst e;show Q (.bl (decide (x=x))) H;rw[decide_eq_true rfl];exact q
def Ey{Q:Bool->Hp->Prop}{H:Hp}(h:Q true H):mB Q (.bl true) H:=h
def Cy{i:Nat}{a:St}{v:V}{H:Hp}{Q:VK}(e:a[i]? = some (some v))(h:Q v H):tV i a H Q:=by
 unfold tV;rw[e];exact h
def eE{i:Nat}{v:V}{a σ':St}{H:Hp}{Q:St->Hp->Prop}(e:a.set i (some v)=σ')(h:Q σ' H):iH i v a H Q:=by
 subst e;exact h
def my{a:Ad}{H H':Hp}{x h:Addr}{m n:Int}{b:List Str}(s:SameT H H')(p:PotAt a H x h m n b):PotAt a H' x h m n b:=⟨let ⟨dx,e⟩:=p.1;⟨dx,s.at e⟩,s.at p.2⟩
section
variable {P:hH}{w:lA}{K:Frag}{mg:Str->Option b_}{base:Heap}{a:Ad}
set_option maxHeartbeats 40000000 in
def ul(T:Txt K mg a)(hB:Bm mg base):FnX P w base 27 T.W_aa (spThr a):=by
 have dK:FnO P w K mg base 26 (λvs H Q _=>spPour a vs H Q λ_ _ _=>False):=(iw (mO T hB)).mono (by decide);have bg:FnO P w K mg base 26 (λvs H Q _=>spInto a K vs H Q λ_ _ _=>False):=(iw (yc T)).mono (by decide);have dt:FnO P w K mg base 26 (spThings a):=(gw T).mo;refine T.W_aa.A.okz aR λey A dk s H vs Q E F h=>?_
 .obtain⟨m,f,s,c,d,rfl,h3,hJ,hT,q⟩:=h
  have ek:sizeLine=16777216:=j_;refine⟨_,(af (psl 5 aR (bv (jB rfl) rfl T.z_list dJ (aa q5 ad))) (af (psl 6 aR (bv (jB rfl) rfl T.z_list dJ (aa q5 ad))) (af (psl 7 aR (aI (mt T) F T.W_aj (aa (vr 0) (aa (vr 1) ad)))) (af (psl 8 aR (au cE (vr 7) (aI (mt T) F T.W_aj (aa (vr 0) (aa (vr 2) ad))))) (af (psl 9 aR (aI (gW T) F T.W_H (aa (vr 3) (aa (vr 4) (aa (au cE (vr 8) (au vq (bC (aa am ad)) (au cO am (vr 0)))) ad))))) (af (psl 10 aR (aI (sM T) F T.W_ag (aa (vr 0) (aa (vr 1) (aa (vr 5) (aa (cv sl_list (vr 9) eS (cu (aw aC rfl T.z_len bp (aa (vr 7) ad)))) ad)))))) (af (psl 11 aR (aI (sM T) F T.W_ag (aa (vr 0) (aa (vr 2) (aa (vr 6) (aa (cv sl_list (vr 9) (cu (aw aC rfl T.z_len bp (aa (vr 7) ad))) (cu (aw aC rfl T.z_len bp (aa (vr 8) ad)))) ad)))))) (af (psl 12 aR (pec dK F T.W_R (aa (vr 10) (aa (vr 11) ad)))) (af (psl 13 aR (aI (y4 T hB) F T.W_an (aa (vr 12) (aa (cv sl_list (vr 9) (cu (aw aC rfl T.z_len bp (aa (vr 8) ad))) eS) ad)))) (af (psl 14 aR (aw aC rfl T.z_len bp (aa (ar (pec bg F T.W_am (aa (vr 10) (aa (vr 11) (aa (aI (kc T hB) F T.W_ae (aa (vr 12) (aa (vr 13) ad))) ad)))) T.cl_o T.mt_d dt F T.W_d.B .nil ax) ad))) (af (psl 15 aR (aI (kc T hB) F T.W_ae (aa (aI (mU T hB) F T.W_f (aa (vr 0) (aa (vr 1) (aa (vr 2) ad)))) (aa (au cE (cv sl_list (vr 9) eS (cu (aw aC rfl T.z_len bp (aa (vr 8) ad)))) (vr 13)) ad)))) (af (psl 16 aR (aI (rN T) F T.W_V (aa (pec bg F T.W_am (aa (vr 10) (aa (vr 11) (aa (aI (kc T hB) F T.W_ae (aa (vr 12) (aa (vr 13) ad))) ad)))) (aa (vr 1) (aa (vr 5) (aa (vr 6) ad)))))) (ag (ao (pE (iu og (aw aC rfl T.z_len bp (aa (vr 15) ad)) (vr 14) (aX _)) (nI (iu og (aI (Ac T) F T.W_W (aa (vr 15) (aa (vr 1) ad))) (aI (Ac T) F T.W_W (aa (vr 16) (aa (vr 1) ad))) (aX _)))))))))))))))))),Bi ?_⟩;intro eq eo er ep ff et e1 eR ew fi ev fd;have b3:=wu h3;refine⟨_,rfl,by decide +kernel,λC hA=>?_⟩
  refine eE (σ':=[some (.int (m:Nat)),some (.int (f:Nat)),some (.int (s:Nat)),some (.int c),some (.bl d),some (.ref C),none,none,none,none,none,none,none,none,none,none,none]) rfl ?_;refine⟨_,rfl,by decide +kernel,λD ca=>?_⟩;refine eE (σ':=[some (.int (m:Nat)),some (.int (f:Nat)),some (.int (s:Nat)),some (.int c),some (.bl d),some (.ref C),some (.ref D),none,none,none,none,none,none,none,none,none,none]) rfl ?_;have s1:=(Same.new hA).trans (Same.new (o:=.lst (t_ (λ(c:Nat)=>V.str ⟨#[c]⟩) ("wxyz" : Str).cps.toList)) ca);have ea:C≠D:=λz=>by rw[<- z,ac]at ca;cases ca
  have bL:(upd (upd H C (.lst (t_ (λ(c:Nat)=>V.str ⟨#[c]⟩) ("abcd" : Str).cps.toList))) D (.lst (t_ (λ(c:Nat)=>V.str ⟨#[c]⟩) ("wxyz" : Str).cps.toList))) C=some (.lst (nmA.map V.str)):=by rw[ae ea,ac];rfl
  have bF:(upd (upd H C (.lst (t_ (λ(c:Nat)=>V.str ⟨#[c]⟩) ("abcd" : Str).cps.toList))) D (.lst (t_ (λ(c:Nat)=>V.str ⟨#[c]⟩) ("wxyz" : Str).cps.toList))) D=some (.lst (nmB.map V.str)):=by rw[ac];rfl
  generalize upd (upd H C (.lst (t_ (λ(c:Nat)=>V.str ⟨#[c]⟩) ("abcd" : Str).cps.toList))) D (.lst (t_ (λ(c:Nat)=>V.str ⟨#[c]⟩) ("wxyz" : Str).cps.toList))=H1 at s1 bL bF;refine⟨m,f,rfl,by lia,by lia,λH2 Z s2 f2 e2=>?_⟩;refine eE (σ':=[some (.int (m:Nat)),some (.int (f:Nat)),some (.int (s:Nat)),some (.int c),some (.bl d),some (.ref C),some (.ref D),some (.ref Z),none,none,none,none,none,none,none,none,none]) rfl ?_;refine⟨m,s,rfl,by lia,by lia,λH3 l3 s3 f3 e3=>?_⟩;refine⟨Z,l3,_,_,rfl,rfl,s3 _ _ e2,e3,by rw[d_,d_,a9,a9];lia,λY fb=>?_⟩;refine eE (σ':=[some (.int (m:Nat)),some (.int (f:Nat)),some (.int (s:Nat)),some (.int c),some (.bl d),some (.ref C),some (.ref D),some (.ref Z),some (.ref Y),none,none,none,none,none,none,none,none]) rfl ?_;rw[<- nv];have s4:=Same.new (o:=.lst ((sdL m f++sdL m s).map V.int)) fb;have e4:=ac (H:=H3) (a:=Y) (o:=.lst ((sdL m f++sdL m s).map V.int));generalize upd H3 Y (.lst ((sdL m f++sdL m s).map V.int))=H4 at s4 e4;refine⟨by show 1<=sizeLine;lia,λl5 f5=>?_⟩;have s5:=Same.new (o:=.lst [.int 5040]) f5;refine⟨clB (by lia) (by lia),?_⟩;refine⟨l5,(2:Int)*(m:Int),[.int 5040],rfl,rfl,ac,by lia,by lia,by show 1*_<=_;lia,λl6 f6=>?_⟩
  have eb:(l4 ((2:Int)*(m:Int)).toNat [V.int 5040]).flatten=(l4 (2*m) (5040:Int)).map V.int:=by
   rw[show((2:Int)*(m:Int)).toNat=2*m by lia,JG,Hj]
  rw[eb];have s6:=Same.new (o:=.lst ((l4 (2*m) (5040:Int)).map V.int)) f6;have e6:=ac (H:=upd H4 l5 (.lst [.int 5040])) (a:=l6) (o:=.lst ((l4 (2*m) (5040:Int)).map V.int));generalize upd (upd H4 l5 (.lst [.int 5040])) l6 (.lst ((l4 (2*m) (5040:Int)).map V.int))=H6 at s6 e6;refine⟨Y,l6,_,_,rfl,rfl,(s5.trans s6) _ _ e4,e6,by rw[d_,d_,gV,a9,a9,EK];lia,λl7 f7=>?_⟩;rw[<- nv];have s7:=Same.new (o:=.lst (((sdL m f++sdL m s)++l4 (2*m) (5040:Int)).map V.int)) f7;have e7:=ac (H:=H6) (a:=l7) (o:=.lst (((sdL m f++sdL m s)++l4 (2*m) (5040:Int)).map V.int));generalize upd H6 l7 (.lst (((sdL m f++sdL m s)++l4 (2*m) (5040:Int)).map V.int))=H7 at s7 e7;refine⟨c,d,l7,_,rfl,e7,by rw[gV,gV,a9,a9,EK];lia,λb hb=>?_,λH8 ln ns s8 f8 e8 hB8=>?_⟩
  .rcases wh.mp hb with z | z
   .rcases wh.mp z with z | z <;>
    .unfold sdL at z
     obtain⟨i,hi,rfl⟩:=nh.mp z;have:=A9.mp hi;lia
   .rw[IJ z];lia
  refine eE (σ':=[some (.int (m:Nat)),some (.int (f:Nat)),some (.int (s:Nat)),some (.int c),some (.bl d),some (.ref C),some (.ref D),some (.ref Z),some (.ref Y),some (.ref ln),none,none,none,none,none,none,none]) rfl ?_;obtain⟨dx,b5⟩:=mS hB8;obtain⟨b1,b2⟩:=mS dx;have nl:=rn hB8;rw[gV,gV,a9,a9,EK]at nl;have bS:=((s5.trans s6).trans s7).trans s8;have bt:=(s3.trans s4).trans bS;have R:=s2.trans bt;have en:(ns.take (sdL m f++sdL m s).length).take (sdL m f).length=ns.take (f - m):=by rw[List.take_take,gV,a9,a9];congr 1;lia
  have dL:(ns.take (sdL m f++sdL m s).length).drop (sdL m f).length=(ns.drop (f - m)).take (s - m):=by rw[List.drop_take,gV,a9,a9];congr 1;lia
  rw[en]at b1;rw[dL]at b2;have xI:(ns.take (f - m)).length=f - m:=by rw[mx];lia
  have al:((ns.drop (f - m)).take (s - m)).length=s - m:=by rw[mx,Fn];lia
  refine⟨_,.inl (SqL.of (bt _ _ e2)),⟨_,rfl,⟨ln,_,rfl,SqL.of e8,λp1 df=>?_⟩⟩⟩;have c1:b8 (ns.map V.int) none (some (((sdL m f).map V.int).length:Int))=(ns.take (f - m)).map V.int:=by rw[d_,a9,gq _ _ (by rw[d_];lia),Kz]
  rw[c1];have s9:=Same.new (o:=.lst ((ns.take (f - m)).map V.int)) df;have e9:=ac (H:=H8) (a:=p1) (o:=.lst ((ns.take (f - m)).map V.int));generalize upd H8 p1 (.lst ((ns.take (f - m)).map V.int))=H9 at s9 e9;refine⟨m,f,C,p1,nmA,ns.take (f - m),rfl,by lia,by lia,by show f<=4;lia,by decide,zN.1,(R.trans s9) _ _ bL,e9,xI,tO b1,λa2 x h W ds fx v bb bq=>?_⟩;refine eE (σ':=[some (.int (m:Nat)),some (.int (f:Nat)),some (.int (s:Nat)),some (.int c),some (.bl d),some (.ref C),some (.ref D),some (.ref Z),some (.ref Y),some (.ref ln),some (.ref x),none,none,none,none,none,none]) rfl ?_;have I:=s9.trans ds;have dT:a2 Z=some (.lst ((sdL m f).map V.int)):=(bt.trans I) _ _ e2;have cW:a2 Y=some (.lst ((sdL m f++sdL m s).map V.int)):=(bS.trans I) _ _ e4;refine⟨_,.inl (SqL.of dT),⟨_,rfl,_,.inl (SqL.of cW),⟨_,rfl,⟨ln,_,rfl,SqL.of (I _ _ e8),λp2 dp=>?_⟩⟩⟩⟩
  have c2:b8 (ns.map V.int) (some (((sdL m f).map V.int).length:Int)) (some (((sdL m f++sdL m s).map V.int).length:Int))=((ns.drop (f - m)).take (s - m)).map V.int:=by
   rw[d_,d_,gV,a9,a9,yC _ _ _ (by lia) (by rw[d_];lia),Kz,L4]
   congr 1
   lia
  rw[c2];have b6:=Same.new (o:=.lst (((ns.drop (f - m)).take (s - m)).map V.int)) dp;have co:=ac (H:=a2) (a:=p2) (o:=.lst (((ns.drop (f - m)).take (s - m)).map V.int));generalize upd a2 p2 (.lst (((ns.drop (f - m)).take (s - m)).map V.int))=H11 at b6 co;refine⟨m,s,D,p2,nmB,(ns.drop (f - m)).take (s - m),rfl,by lia,by lia,by show s<=4;lia,by decide,zN.2,((R.trans I).trans b6) _ _ bF,co,al,tO b2,λfn y g B eg fy G bo bm=>?_⟩;refine eE (σ':=[some (.int (m:Nat)),some (.int (f:Nat)),some (.int (s:Nat)),some (.int c),some (.bl d),some (.ref C),some (.ref D),some (.ref Z),some (.ref Y),some (.ref ln),some (.ref x),some (.ref y),none,none,none,none,none]) rfl ?_;have ab:=b6.trans eg;have v:=v.same ab;have a0:=I.trans ab;have a':=R.trans a0;have cG:=hT.same (s1.trans a');refine⟨x,h,y,g,m,f,m,s,W,B,[],rfl,(λb hb=>by cases hb),v,G,bb,bo,cG,(λe=>absurd rfl e),λ_ H13 u t13 hT13 hu=>?_⟩;refine eE (σ':=[some (.int (m:Nat)),some (.int (f:Nat)),some (.int (s:Nat)),some (.int c),some (.bl d),some (.ref C),some (.ref D),some (.ref Z),some (.ref Y),some (.ref ln),some (.ref x),some (.ref y),some u,none,none,none,none]) rfl ?_;rw[bP]at hu;have hu:IsNq a 3 H13 u (pT m f s):=z5 hu;have bl:=a0.t.trans t13;have an:=(bS.trans a0).t.trans t13;obtain⟨k1,r1⟩:=zS xI (tO b1);obtain⟨k2,r2⟩:=zS al (tO b2);obtain⟨_,_,d',d0⟩:=zQ h3;refine⟨_,.inl (SqL.of (an.at e4)),⟨_,rfl,⟨ln,_,rfl,SqL.of (bl.at e8),λp3 el=>?_⟩⟩⟩;have c3:b8 (ns.map V.int) (some (((sdL m f++sdL m s).map V.int).length:Int)) none=(ns.drop (f - m+(s - m))).map V.int:=by rw[d_,gV,a9,a9,ja,L4]
  rw[c3];have a5:=Same.new (o:=.lst ((ns.drop (f - m+(s - m))).map V.int)) el;have cT:=ac (H:=H13) (a:=p3) (o:=.lst ((ns.drop (f - m+(s - m))).map V.int));generalize upd H13 p3 (.lst ((ns.drop (f - m+(s - m))).map V.int))=H14 at a5 cT;refine⟨u,p3,pT m f s,2*m,ns.drop (f - m+(s - m)),rfl,hu.t a5.t,d',by rw[Fn];lia,by rw[Fn];lia,cT,hT13.same a5,λe5 r t3 ks ef c6 fr cg X eu=>?_⟩;refine eE (σ':=[some (.int (m:Nat)),some (.int (f:Nat)),some (.int (s:Nat)),some (.int c),some (.bl d),some (.ref C),some (.ref D),some (.ref Z),some (.ref Y),some (.ref ln),some (.ref x),some (.ref y),some u,some (.ref r),none,none,none]) rfl ?_;have p:=a5.t.trans ef;have v:=my (t13.trans p) v;have G:=my (t13.trans p) G;have bn:=hu.t p;have l1:=jR bb;have l2:=jR bo;have O:=(a'.t.trans t13).trans p;have cs:=hJ.t (s1.t.trans O);have ct:=O.at bL;have c0:=O.at bF;have cP:=(bl.trans p).at e8;have cm:=(an.trans p).at e4;have ec:=d0 ks X.lf;have d1:=(BL h3 X.lf).2;have ex:(so ks).length=min m (f+s):=by rw[u4,ec]
  have dr:(W++B).length=min f m+min s m:=by rw[gV,l1,l2];lia
  have a3:∀ k∈so ks,0<=k/\k<((W++B).length:Int):=λk hk=>by rw[dr];exact d1 k hk
  refine⟨u,r,pT m f s,t3,ks,rfl,bn,X,cg,c6,λfa kt b0 cB dm=>?_⟩;have ch:=my b0 v;have br:=my b0 G;refine⟨x,h,y,g,kt,m,f,m,s,W,B,so ks,rfl,ch,br,by lia,by lia,by lia,by lia,SqT.of dm,by lia,a3,(λe=>absurd rfl e),(λ_ e=>by lia),λ_ _ H17 z hz s17 fz fhz potz=>?_⟩;obtain⟨dz,dV⟩:=potz.at_;refine⟨z,dz,_,rfl,dV,rfl,⟨z,hz,_,_,_,rfl,potz,λe0 rt R eH ej=>?_⟩⟩;refine⟨_,.inl (SqL.of ej),?_⟩;refine eE (σ':=[some (.int (m:Nat)),some (.int (f:Nat)),some (.int (s:Nat)),some (.int c),some (.bl d),some (.ref C),some (.ref D),some (.ref Z),some (.ref Y),some (.ref ln),some (.ref x),some (.ref y),some u,some (.ref r),some (.int _),none,none]) rfl ?_;have ck:=(b0.trans s17.t).trans R.t;have cA:=(cB.same s17).same R;refine⟨m,f,s,rfl,h3,cA,.inr ⟨cs.t ck,λcx j dy c' hj=>?_⟩⟩;have N:=ck.trans dy;refine⟨_,.inl (SqL.of (N.at cm)),⟨_,rfl,⟨ln,_,rfl,SqL.of (N.at cP),λp4 ed=>?_⟩⟩⟩
  have c4:b8 (ns.map V.int) none (some (((sdL m f++sdL m s).map V.int).length:Int))=(ns.take (f - m)++(ns.drop (f - m)).take (s - m)).map V.int:=by
   rw[d_,gV,a9,a9,gq _ _ (by rw[d_];lia),<- Kz]
   congr 1
   rw[List.take_add]
  rw[c4];have b':=Same.new (o:=.lst ((ns.take (f - m)++(ns.drop (f - m)).take (s - m)).map V.int)) ed;have dd:=ac (H:=cx) (a:=p4) (o:=.lst ((ns.take (f - m)++(ns.drop (f - m)).take (s - m)).map V.int));generalize upd cx p4 (.lst ((ns.take (f - m)++(ns.drop (f - m)).take (s - m)).map V.int))=H20 at b' dd;have as:=N.trans b'.t;refine⟨p4,r,_,_,rfl,rfl,dd,as.at cg,by rw[d_,d_,gV,xI,al];lia,λp5 em=>?_⟩;rw[<- nv,append_assoc];have cf:=Same.new (o:=.lst ((ns.take (f - m)++((ns.drop (f - m)).take (s - m)++t3)).map V.int)) em;have cj:=ac (H:=H20) (a:=p5) (o:=.lst ((ns.take (f - m)++((ns.drop (f - m)).take (s - m)++t3)).map V.int));generalize upd H20 p5 (.lst ((ns.take (f - m)++((ns.drop (f - m)).take (s - m)++t3)).map V.int))=H21 at cf cj;have ah:=b'.trans cf;refine⟨j,p5,jT m f s,_,_,rfl,hj.t ah.t,uI r1 r2 X,cj,c'.same ah,λes kf d2 dc de=>?_⟩;refine eE (σ':=[some (.int (m:Nat)),some (.int (f:Nat)),some (.int (s:Nat)),some (.int c),some (.bl d),some (.ref C),some (.ref D),some (.ref Z),some (.ref Y),some (.ref ln),some (.ref x),some (.ref y),some u,some (.ref r),some (.int _),some (.ref kf),none]) rfl ?_;have L:=as.trans (cf.t.trans d2);refine⟨u,r,pT m f s,t3,ks,rfl,bn.t L,X,L.at cg,dc,λe' k3 c9 cR ei=>?_⟩;have M:=L.trans c9;refine⟨x,h,y,g,k3,m,f,m,s,W,B,so ks,rfl,my M v,my M G,by lia,by lia,by lia,by lia,SqT.of ei,by lia,a3,(λe=>absurd rfl e),(λ_ e=>by lia),λ_ _ H24 z2 hz2 s24 fz2 fhz2 potz2=>?_⟩;have J:=M.trans s24.t;refine⟨z2,hz2,C,D,f,_,_,_,nmA,nmB,rfl,potz2,by rw[d_];lia,J.at ct,J.at c0,by decide,by decide,v7.1,v7.2,λt S=>?_,λH25 rs zs s25 hrs zl zf=>?_⟩
  .obtain⟨k,hk,rfl⟩:=nh.mp S
   obtain⟨k0,k9⟩:=a3 k hk;rw[gV]at k9;rw[E4]
   by_cases cc:k.toNat<W.length
   .obtain⟨t,S⟩:∃ t,W[k.toNat]? = some t:=⟨_,ki cc⟩
    rw[p0 cc,S];exact .inl (bq t (ge S))
   .obtain⟨t,S⟩:∃ t,B[k.toNat - W.length]? = some t:=⟨_,ki (by lia)⟩
    rw[o_ (by lia),S];have hm:=Fi (bm t (ge S));exact .inr ⟨vw t hm,hm⟩
  refine eE (σ':=[some (.int (m:Nat)),some (.int (f:Nat)),some (.int (s:Nat)),some (.int c),some (.bl d),some (.ref C),some (.ref D),some (.ref Z),some (.ref Y),some (.ref ln),some (.ref x),some (.ref y),some u,some (.ref r),some (.int _),some (.ref kf),some (.ref rs)]) rfl ?_;have a1:=(c9.trans (s24.t.trans s25.t)).at de;refine⟨_,.inr (SqT.of a1),?_⟩;have lq:((t_ V.int (so (t_ (λk=>(so k1++t_ (λk=>(f:Int)+k) (so k2)).getD k.toNat 0) (so ks)))).length:Int)=((t_ V.str (t_ (λk:Int=>(W++B).getD k.toNat (Gn "")) (so ks))).length:Nat):=by rw[d_,u4,d_,d_,d_]
  refine Cy rfl ?_;refine eqE lq ?_;refine Ey ?_;rw[if_pos rfl];refine⟨kf,_,f,rfl,.inr a1,by rw[u4,d_];lia,λfh b4=>?_⟩;refine⟨rs,zs,f,rfl,.inl (b4 _ _ hrs),by rw[zl,d_];lia,λdv cy=>?_⟩;refine eqE ?_ (q dv ?_ ?_)
  .rw[zf,((Tb.so_perm _).filter _).length_eq,vP h3 r1.lf r2.lf X.lf,KB (l:=so ks),d_]
   congr 2
   refine J1 λk hk=>?_
   obtain⟨k0,k9⟩:=a3 k hk;rw[gV]at k9;show decide (k<((min f m:Nat):Int))=decide ((W++B).getD k.toNat (Gn "")∈nmA);rw[E4]
   by_cases cc:k.toNat<W.length
   .obtain⟨t,S⟩:∃ t,W[k.toNat]? = some t:=⟨_,ki cc⟩
    rw[p0 cc,S];exact(decide_eq_true (by lia)).trans (decide_eq_true (Fi (bq t (ge S)))).symm
   .obtain⟨t,S⟩:∃ t,B[k.toNat - W.length]? = some t:=⟨_,ki (by lia)⟩
    rw[o_ (by lia),S];exact(decide_eq_false (by lia)).trans (decide_eq_false (vw t (Fi (bm t (ge S))))).symm
  .exact s1.t.trans (O.trans (J.trans ((s25.trans b4).trans cy).t))
  .exact(((cR.same s24).same s25).same b4).same cy
end
open Nst (Lf Rw)
open Tb (Tr fT bnd ci so pS tS rng Dk Dks Rws mm wl toR kW IsTab)
def ye{K:Frag}{H:Hp}{p:Addr}{t b:Int}(h:SqT K H p [.int t,.int b]):DV K H (.tuple [.int t,.int b]) (.ref p):=by
 rw[DV];refine⟨p,_,rfl,h,?_⟩;rw[DVs];refine⟨_,_,rfl,by simp[DV],?_⟩;rw[DVs];exact⟨_,_,rfl,by simp[DV],by simp[DVs]⟩
def Bp(x:List Int):EW:=.tuple (x.map Jo)
def qa{K:Frag}{H:Hp}:∀ x:List Int,DVs K H (x.map Jo) (x.map V.int)
 | []=>by simp[DVs]
 | i::x=>by
  rw[l_,l_,DVs];exact⟨_,_,rfl,by simp[DV],qa x⟩
def Al{K:Frag}{H:Hp}{p:Addr}{x:List Int}(h:H p=some (.tup (x.map V.int))):DV K H (Bp x) (.ref p):=by
 unfold Bp;rw[DV];exact⟨p,_,rfl,SqT.of h,qa x⟩
def frD(q:Rat):EW:=.tuple [.int q.num,.int q.den]
def yG(x:List Int×Rat):EW:=.tuple [Bp x.1,frD x.2]
def zU{K:Frag}{H:Hp}{q:Rat}{z:V}(h:IsQ K H q z):DV K H (frD q) z:=by
 obtain⟨p,rfl,a⟩:=h;exact ye a.sq
def vv{K:Frag}{H:Hp}{x:List Int×Rat}{y:V}(h:RowR K H x y):DV K H (yG x) y:=by
 obtain⟨p,d,z,rfl,b,a,c⟩:=h;unfold yG;rw[DV];refine⟨p,_,rfl,SqT.of b,?_⟩;rw[DVs];refine⟨_,_,rfl,Al a,?_⟩;rw[DVs];exact⟨_,_,rfl,zU c,by simp[DVs]⟩
def nU{K:Frag}{H:Hp}{b:Type}{r:b->V->Prop}{f:b->EW}(h:∀ a y,r a y->DV K H (f a) y){as:List b}{c:List V}(p:Paired r as c):DVs K H (as.map f) c:=by
 induction p with
 | nil=>simp[DVs]
 | cons x _ ih=>rw[l_,DVs];exact⟨_,_,rfl,h _ _ x,ih⟩
def jW{K:Frag}{H:Hp}{l:Addr}{ds:List EW}{a:List V}(h:H l=some (.lst a))(d:DVs K H ds a):DV K H (.list ds) (.ref l):=by
 rw[DV];exact⟨l,_,rfl,SqL.of h,d⟩
def Ly(n:Nat)(d:EW):Prop:=Fe d=true/\Ga d<=n
def rq{n:Nat}:∀{ds:List EW},(∀ d∈ds,Ly n d)->D0 ds=true/\Gf ds<=n
 | [],_=>by simp[D0,Gf]
 | d::ds,h=>by
  obtain⟨b,f⟩:=rq λx hx=>h x (hI _ hx)
  obtain⟨a,c⟩:=h d gT;rw[D0,Gf,b,a];exact⟨rfl,by lia⟩
def qP{n:Nat}{ds:List EW}(h:∀ d∈ds,Ly n d):Ly (n+1) (.tuple ds):=by
 obtain⟨a,b⟩:=rq h;refine⟨by rw[Fe,a],?_⟩;simp only[Ga];lia
def oA{n:Nat}{ds:List EW}(h:∀ d∈ds,Ly n d):Ly (n+1) (.list ds):=by
 obtain⟨a,b⟩:=rq h;refine⟨by rw[Fe,a],?_⟩;simp only[Ga];lia
def qX(i:Int):Ly 1 (.int i):=⟨by simp[Fe],by simp[Ga]⟩
def iT{n:Nat}{d:EW}(h:Ly n d)(a:n<=5):G9 d=true:=by
 unfold G9;rw[h.1,Bool.true_and];exact decide_eq_true (by have:=h.2;lia)
def yK(x:List Int):∀ d∈x.map Jo,Ly 1 d:=λd a=>by
 obtain⟨i,_,rfl⟩:=nh.mp a;exact qX i
def zJ(q:Rat):Ly 2 (frD q):=qP (n:=1) λd hd=>by
 rcases i_.mp hd with rfl | hd
 .exact qX _
 .rw[ir.mp hd];exact qX _
def Bh(x:List Int×Rat):Ly 3 (yG x):=qP (n:=2) λd hd=>by
 rcases i_.mp hd with rfl | hd
 .exact qP (yK x.1)
 .rw[ir.mp hd];exact zJ _
def zW(R:Rws):EW:=.list (R.map yG)
def zp(R:Rws):Ly 4 (zW R):=oA λd a=>by
 obtain⟨x,_,rfl⟩:=nh.mp a;exact Bh x
def tq{K:Frag}{H:Hp}{x y:V}{d:EW}{n:Nat}{Q:VK}(b:DV K H d x)(c:DV K H d y)(h:Ly n d)(a:n<=5)(q:Q (.bl false) H):rEqD K true x y H Q:=by
 refine⟨d,d,b,c,iT h a,iT h a,?_⟩;rw[SeqAt.eqv_refl _ (SeqAt.canLay_of_shaped (iT h a))];exact q
def xL{a:Ad}{c:List Addr}{H:Hp}(b:∀ q∈tabs a,q.1∈c)(h:∀ P∈c,H P=some (.tbl #[])):TabsOk (tabs a) H:=λq d=>⟨#[],h _ (b q d),trivial,λ_ _=>.inl rfl⟩
def El{K:Frag}{H H':Hp}{p:Addr}{xs:List V}(e:SameT H H')(h:SqL K H p xs):SqL K H' p xs:=by
 rcases h with(h | ⟨o,h⟩) | h
 .exact .inl (.inl (e.at h))
 .exact .inl (.inr ⟨o,e.at h⟩)
 .exact .inr h
def yT{xs:List V}{lo a:Option Int}{x:V}(h:x∈b8 xs lo a):x∈xs:=List.mem_of_mem_drop (Fi h)
def mrD(M:Int->Int->Rat)(ps:List Int)(i:Int):EW:=.list (ps.map λj=>frD (M i j))
def mtD(M:Int->Int->Rat)(ps:List Int):EW:=.list (ps.map (mrD M ps))
def CH(M:Int->Int->Rat)(ps:List Int)(i:Int):Ly 3 (mrD M ps i):=oA λd a=>by
 obtain⟨x,_,rfl⟩:=nh.mp a;exact zJ _
def C6(M:Int->Int->Rat)(ps:List Int):Ly 4 (mtD M ps):=oA λd a=>by
 obtain⟨x,_,rfl⟩:=nh.mp a;exact CH M ps x
def yw{K:Frag}{H H':Hp}{M:Int->Int->Rat}{ps:List Int}{i:Int}{y:V}(h:MRow K H H' M ps i y):DV K H' (mrD M ps i) y:=by
 obtain⟨D,d,rfl,_,a,b⟩:=h;exact jW a (nU (λj z c=>zU c) b)
def we{K:Frag}{H H':Hp}{M:Int->Int->Rat}{ps:List Int}{l:Addr}{a:List V}(h:H' l=some (.lst a))(p:Paired (MRow K H H' M ps) ps a):DV K H' (mtD M ps) (.ref l):=jW h (nU (λi y b=>yw b) p)
def MRow.t{K:Frag}{H b a:Hp}{M:Int->Int->Rat}{ps:List Int}(s:SameT b a)(i:Int)(y:V)(h:MRow K H b M ps i y):MRow K H a M ps i y:=by
 obtain⟨D,c,e,f,g,p⟩:=h;exact⟨D,c,e,f,s.at g,aj (λj z h=>h.tk (SameT.tk' s)) p⟩
def vI{M N:Int->Int->Rat}{ps:List Int}(h:∀ i,i∈ps->∀ j,j∈ps->M i j=N i j):mtD M ps=mtD N ps:=by
 unfold mtD mrD
 congr 1
 refine Hb λi b=>?_
 congr 1
 exact Hb λj a=>by rw[h i b j a]
def CrP.t{H H':Hp}(s:SameT H H')(p:Int)(y:V)(h:CrP H p y):CrP H' p y:=let ⟨q,r,e,g⟩:=h;⟨q,r,e,s.at g⟩
def Br:((lj 4).all λm=>(lj 5).all λf=>(lj 5).all λs=>m == 0 || (!(decide (m<=1) || (decide (f<=3) && decide (s<=3))) || decide ((m,f,s)∈Cs)))=true:=by decide +kernel
def z7{m f s:Nat}(j:1<=m)(g:m<=3)(i:f<=4)(k:s<=4)(h:m<=1\/(f<=3/\s<=3)):C3 m f s:=by
 have z:=oo.mp (oo.mp (oo.mp Br m (A9.mpr (by lia))) f (A9.mpr (by lia))) s (A9.mpr (by lia));rw[KC,KC,JV,Bool.or_eq_false_iff,Bool.and_eq_false_iff]at z
 rcases z with z | ⟨a,c⟩ | z
 .have:=eq_of_beq z;lia
 .have a:=of_decide_eq_false a
  rcases h with h | ⟨b,d⟩
  .exact absurd h a
  .rcases c with z | z
   .exact absurd b (of_decide_eq_false z)
   .exact absurd d (of_decide_eq_false z)
 .exact of_decide_eq_true z
def yq{a:Ad}{c:Hp}{x dx C:Addr}{fs:List (Str×V)}(d:c x=none)(f:c dx=none):Same c (upd (upd (upd c dx (.own x)) x (.ins C dx [])) x (.ins C dx fs)):=λb o e=>by
 rw[ae (ai e d),ae (ai e d),ae (ai e f)];exact e
abbrev lawK:Nat:=30
section
variable {P:hH}{w:lA}{K:Frag}{mg:Str->Option b_}{base:Heap}{a:Ad}
def ok_law{ts:List Addr}(T:Txt K mg a)(hB:Bm mg base)(Z:(∀ q∈tabsA a,q.1∈ts)/\a.dt=[]):FnX P w base lawK T.W_ai (spLaw K ts):=by
 have c9:FnO P w K mg base 28 (spFewI a):=(BG T).mo;have bS:FnX P w base 29 T.W_P (λr H Q E=>∃ b,ND a b/\(λr H Q _=>oM (a.wd b) K r H Q λ_ _ _=>False) r H Q E):=hX λb h=>(iw (pX (tdt T h) hB)).mono (show 27<=29 by decide)
 have cj:MnX P w mg base 29 T.W_O (λr H Q E=>∃ b,ND a b/\spFewN (a.wd b) r H Q E):=hX λb h=>(vX (tdt T h) hB).mono (show 4<=29 by decide)
 have ca:FnX P w base 29 T.W_v (λr H Q E=>∃ b,ND a b/\(λr H Q _=>zK (a.wd b) K r H Q λ_ _ _=>False) r H Q E):=hX λb h=>(iw (uH (tdt T h) hB)).mono (show 28<=29 by decide)
 have ct:MnX P w mg base 29 T.W_a (λr H Q E=>∃ b,ND a b/\spFewM K (a.wd b) r H Q E):=hX λb h=>(zw (tdt T h) hB).mono (show 8<=29 by decide)
 have bt:FnX P w base 29 T.W_aa (λr H Q E=>∃ b,ND a b/\spThr (a.wd b) r H Q E):=hX λb h=>(ul (tdt T h) hB).mono (show 27<=29 by decide)
 refine T.W_ai.A.okz sc_ai λdT A cc s H r Q E k h=>?_
 .obtain⟨p,B,rfl,hS,F,an,q⟩:=h
  have G:sizeLine=16777216:=j_;obtain⟨Z,h0⟩:=Z
  have M:∀ P∈a.lp_f::(tabs a).map (·.1),P∈ts:=λP hP=>by
   obtain⟨q,hq,rfl⟩:=nh.mp ((xr h0).mem_iff.mpr hP);exact Z q hq
  have hT:TabsOk (tabs a) H:=xL (λq hq=>M _ (hI _ (Jx hq))) an;have b0:H a.lp_f=some (.tbl #[]):=an _ (M _ gT);refine⟨_,(af (psl 1 sc_ai (iu og (au ik (aI (nC T) k T.W_Y (aa (vr 0) (aa am ad))) am) am (aX _))) (af (qU (aI (gW T) k T.W_H (aa (aI (nC T) k T.W_Y (aa (vr 0) (aa am ad))) (aa (vr 1) (aa (bC (aa am (aa am (aa am ad)))) ad)))) (AK rfl (aW (aN (i:=2) sc_ai.nd rfl (uS rfl)) (aW (aN (i:=3) sc_ai.nd rfl (uS rfl)) (aW (aN (i:=4) sc_ai.nd rfl (uS rfl)) dM))))) (af (psl 2 sc_ai (au bY (vr 2) am)) (uE (bc (bO AY (vr 2) am (aX _)) (af (psl 3 sc_ai (aw (eh rfl) rfl T.z_min kC (aa (vr 3) (aa am ad)))) (ag (psl 4 sc_ai (aw (eh rfl) rfl T.z_min kC (aa (vr 4) (aa am ad)))))) aG) (af (psl 5 sc_ai (aI (xi T) k T.W_al (aa (aI (nC T) k T.W_Y (aa (vr 0) (aa am ad))) (aa (vr 1) (aa (au bY (vr 3) (vr 4)) ad))))) (af (psl 6 sc_ai (bT T.mk_Q c9 k rfl T.mc_Q T.Wi_Q.B .nil ax (aa (vr 2) ad))) (af (psl 7 sc_ai (aI (mU T hB) k T.W_f (aa (vr 2) (aa (vr 3) (aa (vr 4) ad))))) (af (bc (bO (Aj k.units) (pec bS k T.W_P (aa (vr 7) ad)) (pec bS k T.W_P (aa (dF (vr 6) T.cl_Q T.mt_O cj k T.W_O.B .nil ax (aa (vr 5) ad)) ad)) (aX _)) (ag (ao ni)) aG) (af (psl 8 sc_ai (bv (eF rfl) rfl T.z_list dJ (aa (bv iZ rfl T.z_range ku (aa (au bY (vr 3) (vr 4)) ad)) ad))) (af (bc (bO (Aj k.units) (pec ca k T.W_v (aa (vr 7) (aa (vr 8) ad))) (dF (vr 6) T.cl_Q T.mt_a ct k T.W_a.B .nil ax (aa (vr 5) ad)) (aX _)) (ag (ao ni)) aG) (af (c8 s_ rfl (a6 (au cE (cv sl_list (vr 0) (cu am) (cu am)) (bC (aa am ad)))) (aN (i:=9) sc_ai.nd rfl (uS rfl)) (ag (bc (c7 (dh (pec bt k T.W_aa (fA (vr 2) (fA (vr 3) (fA (vr 4) (fA (vr 9) (fA (vr 1) ad)))))))) (ag (ao ni)) aG))) (ag (ao ni))))))))))))),mn ?_⟩;intro ed ds ea;refine⟨p,B,0,rfl,hS,F,by decide,by decide,⟨cp,?_⟩⟩;dsimp only[L2.tC,xR];generalize (if false=true then !decide (sj B 0 % 2=1) else decide (sj B 0 % 2=1))=d
  refine eE (σ':=[some (.ref p),some (.bl d),none,none,none,none,none,none,none,none]) rfl ?_;refine⟨p,B,1,rfl,hS,F,by decide,by decide,⟨by rw[G];exact show(3:Nat)<=_ by decide,λpb a0=>⟨_,d,pb,[3,5,5],rfl,ac,by decide,by decide,λH1 l1 ns1 s1 f1 hl1 hB'=>?_⟩⟩⟩;have as:=(Same.new (o:=.lst [.int 3,.int 5,.int 5]) a0).trans s1
  rcases hB' with _ | ⟨h1,_ | ⟨h2,_ | ⟨O,hn⟩⟩⟩
  cases hn;rename_i mo fi se;refine⟨l1,_,rfl,SqL.of hl1,rfl,_,_,rfl,_,_,rfl,_,_,rfl,rfl,?_⟩
  obtain⟨f,rfl,f4⟩:∃ c:Nat,fi=(c:Int)/\c<=4:=⟨fi.toNat,by have:=h2.1;lia,by have:=h2.2;lia⟩
  obtain⟨s',rfl,s4⟩:∃ c:Nat,se=(c:Int)/\c<=4:=⟨se.toNat,by have:=O.1;lia,by have:=O.2;lia⟩
  obtain⟨m,em,m1,m3⟩:∃ c:Nat,mo+1=(c:Int)/\1<=c/\c<=3:=⟨(mo+1).toNat,by have:=h1.1;lia,by have:=h1.1;lia,by have:=h1.2;lia⟩
  refine eE (σ':=[some (.ref p),some (.bl d),some (.int mo),some (.int (f:Nat)),some (.int (s':Nat)),none,none,none,none,none]) rfl ?_;refine⟨(λσ' H'=>H'=H1/\∃ f s:Nat,C3 m f s/\σ'=[some (.ref p),some (.bl d),some (.int (m:Nat)),some (.int (f:Nat)),some (.int (s:Nat)),none,none,none,none,none]),?_,?_⟩
  .refine ifC (λz=>?_) λz=>?_
   .refine⟨_,_,rfl,?_⟩
    refine eE (i:=3) (σ':=[some (.ref p),some (.bl d),some (.int (mo+1)),some (.int (min f 3:Nat)),some (.int (s':Nat)),none,none,none,none,none]) ?_ ?_
    .rw[show((min f 3:Nat):Int)=if (3:Int)<(f:Int) then 3 else (f:Int) by split <;> lia];rfl
    refine⟨_,_,rfl,?_⟩;refine⟨rfl,min f 3,min s' 3,z7 m1 m3 (by lia) (by lia) (.inr ⟨by lia,by lia⟩),?_⟩;rw[<- em,show((min s' 3:Nat):Int)=if (3:Int)<(s':Int) then 3 else (s':Int) by split <;> lia];rfl
   .have z:¬1<mo+1:=z
    refine⟨rfl,f,s',z7 m1 m3 f4 s4 (.inl (by lia)),?_⟩;rw[<- em];rfl
  clear s4 f4 h1 h2 O;rintro σ' H' ⟨rfl,f,s,O,rfl⟩;have b3:=wu O;obtain⟨cr,g,D⟩:=Ay O;have cP:=hT.same as;have a3:=as.seq hS;have cT:=as _ _ b0;clear s1 hl1 f1 a0 hT an hS b0;refine BW ?_;intro dz d2 d0 dr eb dp d1;refine⟨p,B,2,rfl,a3,F,by decide,by decide,⟨_,d,f+s,rfl,by lia,λH2 lc xs s2 c2 bq=>?_⟩⟩;refine eE (σ':=[some (.ref p),some (.bl d),some (.int (m:Nat)),some (.int (f:Nat)),some (.int (s:Nat)),some (.ref lc),none,none,none,none]) rfl ?_;intro x L hx c3 ec;refine⟨x,L,m,rfl,ac,by lia,rfl,?_⟩;have s3:=yq (a:=a) (C:=a.c_Q) (fs:=[("many",.int (m:Nat))]) hx c3
  have b5:IsFew a (upd (upd (upd H2 L (.own x)) x (.ins a.c_Q L [])) x (.ins a.c_Q L [("many",.int (m:Nat))])) (.ref x) m:=⟨x,L,rfl,ac⟩
  generalize upd (upd (upd H2 L (.own x)) x (.ins a.c_Q L [])) x (.ins a.c_Q L [("many",.int (m:Nat))])=H3 at s3 b5;refine eE (σ':=[some (.ref p),some (.bl d),some (.int (m:Nat)),some (.int (f:Nat)),some (.int (s:Nat)),some (.ref lc),some (.ref x),none,none,none]) rfl ?_;have W:=s2.trans s3;have ch:=cP.same W;refine⟨m,f,s,rfl,O,ch,.inl ⟨h0,⟨#[],W _ _ cT,trivial,rfl,rfl⟩,λb H4 u nd t4 dd dc hu=>?_⟩⟩;refine eE (σ':=[some (.ref p),some (.bl d),some (.int (m:Nat)),some (.int (f:Nat)),some (.int (s:Nat)),some (.ref lc),some (.ref x),some u,none,none]) rfl ?_;have xl:xs.length=f+s:=by have:=rn bq;rw[Tb.rng_len]at this;lia
  refine⟨b,nd,u,24,jT m f s,DD,rfl,hu,g.dk,by decide,g.ok,g.few,rg,wL,g.ch,dd,λ_ H5 l5 R5 eg t5 ck dV c1 de bg _=>?_,λz=>by have:=g.lv;lia⟩;obtain rfl:=g.un _ bg;have ah:=t4.trans t5;have br:=b5.t ah;have R:=(s3.t.trans ah).at c2;have bn:=aj (CrP.t (s3.t.trans ah)) bq;obtain⟨x',I,ex,al⟩:=br;cases ex;refine⟨x,I,_,rfl,al,rfl,⟨b,nd,.ref x,m,lc,xs,rng (f+s),rfl,⟨x,I,rfl,al⟩,R,bn,by rw[Tb.rng_len];lia,ck,λH6 v t6 df hv=>?_⟩⟩;refine⟨b,nd,v,24,fT (rng (f+s)) m [],DD,rfl,hv,D.dk,by decide,D.ok,D.few,rg,wL,D.ch,df,λ_ H7 l7 R7 dy t7 c' d' cm co bL _=>?_,λz=>by have:=D.lv;lia⟩;obtain rfl:=D.un _ bL;have ab:=t6.trans t7;refine tq (d:=zW (rcT m (f+s))) (jW (ab.at c1) (nU (λx y h=>vv h) (aj (RowR.tk (SameT.tk' ab)) de))) (jW cm (nU (λx y h=>vv h) co)) (zp _) (by decide) ?_;refine⟨((f+s:Nat):Int),rfl,λpr cf=>?_⟩;refine⟨pr,f+s,rfl,by lia,ac,λlp cW=>?_⟩;have s8:=(Same.new (o:=.rng 0 ((f+s:Nat):Int)) cf).trans (Same.new (o:=.lst ((lj (f+s)).map λ(i:Nat)=>V.int (i:Int))) cW);have a':(upd (upd H7 pr (.rng 0 ((f+s:Nat):Int))) lp (.lst ((lj (f+s)).map λ(i:Nat)=>V.int (i:Int)))) lp=some (.lst ((rng (f+s)).map V.int)):=by rw[ac];unfold rng;rw[A8];rfl
  generalize upd (upd H7 pr (.rng 0 ((f+s:Nat):Int))) lp (.lst ((lj (f+s)).map λ(i:Nat)=>V.int (i:Int)))=H8 at s8 a';refine eE (σ':=[some (.ref p),some (.bl d),some (.int (m:Nat)),some (.int (f:Nat)),some (.int (s:Nat)),some (.ref lc),some (.ref x),some u,some (.ref lp),none]) rfl ?_;have bF:=ab.trans s8.t;have cg:=c'.same s8;refine⟨b,nd,u,24,jT m f s,lp,rng (f+s),DD,rfl,hu.t (t5.trans bF),g.dk,by decide,g.ok,g.few,rg,wL,g.ch,cg,a',by rw[Tb.rng_len];lia,λ_ H9 l9 R9 ef t9 cB dv c6 dL a1 cG dK=>?_,λz=>by have:=g.lv;lia⟩;obtain rfl:=g.un _ a1;have Y:=bF.trans t9;have a5:=Y.at al;refine⟨x,I,_,rfl,a5,rfl,⟨b,nd,.ref x,m,lc,xs,rfl,⟨x,I,rfl,a5⟩,Y.at R,by lia,cB,λbo ei dm X b6 a2 N=>?_⟩⟩;rw[xl]at N;refine tq (d:=mtD (eI (f+s) (min m (f+s))) (rng (f+s))) (vI (λi hi j hj=>CD cr hi hj) ▸ we (X.at c6) (aj (MRow.t X) cG)) (we a2 N) (C6 _ _) (by decide) ?_;have S:=(t5.trans Y).trans X;have bm:=(W.t.trans t4).trans S;refine⟨_,rfl,_,rfl,_,_,rfl,El bm a3,λr1 cR=>?_⟩;refine⟨by rw[G];exact show(1:Nat)<=_ by decide,λr2 cx=>?_⟩;have b1:=Same.new (o:=.lst (b8 (B.map V.int) (some 3) (some 43))) cR;have b2:=Same.new (o:=.lst [.int 0]) cx;have cl:=fE (B.map V.int) (some 3) (some 43);rw[d_]at cl;refine⟨r1,r2,_,_,rfl,rfl,b2 _ _ ac,ac,by show _+1<=sizeLine;lia,λr3 cy=>?_⟩;have bb:=(b1.trans b2).trans (Same.new (o:=.lst (b8 (B.map V.int) (some 3) (some 43)++[.int 0])) cy);have J:(upd (upd (upd bo r1 (.lst (b8 (B.map V.int) (some 3) (some 43)))) r2 (.lst [.int 0])) r3 (.lst (b8 (B.map V.int) (some 3) (some 43)++[.int 0]))) r3=some (.lst (b8 (B.map V.int) (some 3) (some 43)++[.int 0])):=ac
  have bl:∀ x∈b8 (B.map V.int) (some 3) (some 43)++[.int 0],∃ c:Int,x=.int c:=λx hx=>by
   rcases wh.mp hx with h | h
   .obtain⟨c,_,rfl⟩:=nh.mp (yT h);exact⟨c,rfl⟩
   .exact⟨0,ir.mp h⟩
  generalize b8 (B.map V.int) (some 3) (some 43)++[.int 0]=cs at bb J bl;generalize upd (upd (upd bo r1 (.lst (b8 (B.map V.int) (some 3) (some 43)))) r2 (.lst [.int 0])) r3 (.lst cs)=HA at bb J;have dk:=b6.same bb;have b':=dc.t (S.trans bb.t);refine .inl ⟨⟨_,SqL.of J⟩,?_⟩
  let Pw1:PvS:=λi σ H'=>SameT HA H'/\TabsOk (tabs (a.wd b)) H'/\∃(x9:Option V),σ=[some (.ref p),some (.bl d),some (.int (m:Nat)),some (.int (f:Nat)),some (.int (s:Nat)),some (.ref lc),some (.ref x),some u,some (.ref lp),x9]
  refine dq (K:=K) (a:=r3) (xs:=cs) Pw1 ⟨SameT.refl,dk,none,rfl⟩ (λi σ H' _ h=>SqL.of (h.1.at J)) ?_ ?_
  .rintro i y σ H' hy ⟨b4,c0,x9,rfl⟩
   obtain⟨c,rfl⟩:=bl y (ge hy);exact⟨b,nd,m,f,s,c,d,rfl,O,b'.t b4,c0,λHB tB cA=>⟨b4.trans tB,cA,_,rfl⟩⟩
  rintro σ HB _;exact q _
end
end My
namespace My
open PySem L2
abbrev fnS(n q:Str)(st:Stmt):=fnOf n q (cX st) (bI st) (ap st) .none
abbrev fnT(n:Str)(st:Stmt):=fnS n n st
def w1{b:Type}{p:List b->Prop}(h:∀ a,p [a]):∀ us:List b,us.length=1->p us
 | [a],_=>h a
def w2{c:Type}{p:List c->Prop}(h:∀ a b,p [a,b]):∀ us:List c,us.length=2->p us
 | [a,b],_=>h a b
def w3{d:Type}{p:List d->Prop}(h:∀ a b c,p [a,b,c]):∀ us:List d,us.length=3->p us
 | [a,b,c],_=>h a b c
def w4{f:Type}{p:List f->Prop}(h:∀ a b c d,p [a,b,c,d]):∀ us:List f,us.length=4->p us
 | [a,b,c,d],_=>h a b c d
def w5{f:Type}{p:List f->Prop}(h:∀ a b c d e,p [a,b,c,d,e]):∀ us:List f,us.length=5->p us
 | [a,b,c,d,e],_=>h a b c d e
def us0{a:Type}:∀{us:List a},us.length=0->us=[]
 | [],_=>rfl
def fnd_mk{K:Frag}{h:Heap}{mg:Str->Option b_}(X:K.In h)(G:h.Ns oe mg){n:Str}{b:Stmt}{ps:List Str}{f:Addr}{oc:b_}{od g:Option Addr}{q:Array (Option b_)}{i o p d j:b_}(w:∀(i o p:b_) (g:Option Addr) (d j:b_) (us:List b_),us.length=ps.length->FW (fnT n b i o p g d j) ⟨us,[]⟩=pure (ps.zip us))(a:nsIn K oe n=some (some (.ref f)))(l:K.lookup f=some ⟨oc,od,.func (fnT n b i o p g d j),q⟩)(c:I_ K d n=true)(k:Fp K (.ref f)=true):Fnd K mg n b ps f (fnT n b i o p g d j) :=
 ⟨oj (st:=b) l c k,(oj (st:=b) l c k).binds w,mg_of X G a⟩
def mnd_mk{K:Frag}{n q:Str}{b:Stmt}{ps:List Str}{f:Addr}{oc:b_}{od d:Option Addr}{o:Array (Option b_)}{g i j a h:b_}(w:∀(g i j:b_) (d:Option Addr) (a h:b_) (us:List b_),us.length=ps.length->FW (fnS n q b g i j d a h) ⟨us,[]⟩=pure (ps.zip us))(l:K.lookup f=some ⟨oc,od,.func (fnS n q b g i j d a h),o⟩)(c:I_ K a q=true)(k:Fp K (.ref f)=true):Mnd K n q b ps f (fnS n q b g i j d a h) :=
 ⟨oj (st:=b) l c k,(oj (st:=b) l c k).binds w⟩
def lch_mk{K:Frag}{c f:Addr}{lo:b_}{d:Option Addr}{a:Array b_}{b:Array (Option b_)}(_:K.lookup c=some ⟨lo,d,.fields a,b⟩)(_:a[11]? = some (.ref f))(h:ED K c f=true):ED K c f=true:=h
def na_mk{K:Frag}{C:Addr}{x:Str}(h:EJ K (.ref C) x=some none):NoAttr K C x:=h
def xi_mk{K:Frag}{C i:Addr}(_:EJ K (.ref C) "__init__" = some (some (.ref i)))(x:xIn K C (some (.ref i))=true):xIn K C (some (.ref i))=true:=x
def bd_Pot_come{K:Frag}{D:Addr}{c:b_}{j f:Option Addr}{h:Nat}{d:Array (Option b_)}{b i a p k o:b_}(g:K.lookup D=some ⟨c,j,.seq #[b] h,d⟩):Binds K (fnOf "come" "Pot.come" (cX da) (bI da) (ap da) (.ref D) i a p f k o) ["self","thing","throw"] [b]:=binds_dflt (ds:=[b]) rfl g rfl λr q=>let ⟨_,_,e⟩:=BK q;e ▸ ⟨_,rfl,rfl⟩
end My
open PySem PySem.W PyProof.Rows
namespace PySem.W.Fast
def tw2623883105182534944:=0
def tw16170124832426447971:=0
def tw3161309037557236675:=0
def tw8464522887231620262:=0
def tw3742666498411661479:=0
def tw2360039415282080011:=0
def tw3335691411274846060:=0
def tw5256887929008134925:=0
def tw854506513487495695:=0
def tw9955381373343955824:=0
def tw12418523365389183474:=0
def tw1073533241348227219:=0
def tw13358764510793665428:=0
def tw13198886731594688821:=0
def tw15879452488205813562:=0
def tw3379325356415945883:=0
def tw14140470927147573915:=0
def tw15913481357980847260:=0
def tw14306483755121537373:=0
def tw12642520310239496706:=0
def tw1772977184353150256:=0
def tw8230331088669793526:=0
def tw14573018782582017892:=0
def tw11905683045225818139:=0
def tw6028672864940500647:=0
def tw15034256500040257063:=0
def tw1035096313973920206:=0
def tw16308621336384486828:=0
def tw2235802579763066499:=0
def tw17499674763041435755:=0
def tw15955264776856244603:=0
def tw17810622289242314995:=0
def tw2182352838047809208:=0
def tw11716568298396034405:=0
def tw8286045214214127449:=0
def tw7507280803471142762:=0
def tw5891339809783536603:=0
def tw13850848148261349976:=0
def tw10722340803201626013:=0
def tw9670783742853845865:=0
def tw14982291176337824207:=0
def tw112210773201726980:=0
def tw15446454203865736670:=0
def tw8646205334097071385:=0
def tw18230681824784886320:=0
def tw17594253787725915650:=0
def tw1660151131634755912:=0
def tw16381833190023549682:=0
def tw7340786932965934811:=0
def tw9490606682189246839:=0
def tw3733861262865737694:=0
def tw15559725809206313140:=0
def tw9355285341555336128:=0
def tw10788197014145240301:=0
def tw9845769619707217614:=0
def tw2843919511375422177:=0
def tw6028378373111492918:=0
def tw13729386392223398332:=0
def tw13130423213424333074:=0
def tw4427977643117641342:=0
def tw13012178564950521675:=0
def tw15162044340317596995:=0
def tw12288938285298133801:=0
def tw18078697520171540247:=0
def tw14695918960247596741:=0
def tw17895239979863089550:=0
def tw2267462210746752562:=0
def tw15952698590261722094:=0
def tw1287842012414201898:=0
def tw3677295045264115419:=0
def tw4340441438435346706:=0
def tw11339613221406720240:=0
def tw14267084724271635982:=0
def tw10187074630482812136:=0
def tw3821801379837248151:=0
def tw16200932206801978264:=0
def tw9889999973723049617:=0
def tw10280405234838081540:=0
def tw9154778640743607822:=0
def tw12896128235877761031:=0
def tw13580357972928249090:=0
def tw16203362373831411636:=0
def tw15699496412336389606:=0
def tw14491781169891643569:=0
def tw3131731793232288125:=0
def tw4388311477824852759:=0
def tw2892085748325656420:=0
def tw5290310475435452807:=0
def tw7426131117217019904:=0
def tw13563271602193861881:=0
def tw7161486197393898134:=0
def tw3195771473678482011:=0
def tw14069870025818310373:=0
def tw6364811417706546029:=0
def tw17611999295090753749:=0
def tw12701018969671977117:=0
def tw354502665730858182:=0
def tw14462624003370732747:=0
def tw3845340304472680786:=0
def tw13915768965375936530:=0
def tw2457927326298578199:=0
def tw11160891393927980690:=0
def tw1549912458228248239:=0
def tw8076153190857822005:=0
def tw11733139622454898863:=0
def tw10721012083022539152:=0
def tw15159232756047901245:=0
def tw7708459660791213409:=0
def tw5506090853673167819:=0
def tw8301879238061864532:=0
def tw13652418641737668778:=0
def tw7943268873140800227:=0
def tw2922093066781048870:=0
def tw9221628001788843100:=0
def tw3313519325549614993:=0
def tw16274537768383508301:=0
def tw3095321321494630736:=0
def tw2138326364592616901:=0
def tw618523856489207404:=0
def tw10022346434969860410:=0
def tw8260427209155490052:=0
def tw18110217081736915617:=0
def tw17683353975099813351:=0
def tw3761938630355819300:=0
def tw3680435004029239111:=0
def tw10613674374030130985:=0
def tw11670341520950990708:=0
def tw15342760843111360674:=0
def tw5123428336383250072:=0
def tw1168707061041468390:=0
def tw15286145053557470600:=0
def tw15640206028384860597:=0
def tw17847696113542845770:=0
def tw10785483992568429261:=0
def tw7650394866438795787:=0
def tw16160743801269042012:=0
def tw12140177743563313821:=0
def tw15856898731143358282:=0
def tw12704067519192358607:=0
def tw4186112375140536174:=0
def tw11104744546915624224:=0
def tw12497243117574678106:=0
def tw10276547205557862536:=0
def tw7172983192576664501:=0
def tw10357711232526092185:=0
def tw7456417708561013557:=0
def tw11791468317050189966:=0
def tw7743994384934214757:=0
def tw11319163755777605612:=0
def tw15957672127931361475:=0
def tw391235248973997570:=0
def tw13108134294389103696:=0
def tw1618726423050314077:=0
def tw10696252080796195646:=0
def tw3249831317294706641:=0
def tw9961211159788358797:=0
def tw8977776182533224288:=0
def tw5149327831300895494:=0
def tw3804882818775606566:=0
def tw14126179609523636368:=0
def tw8760655358632114022:=0
def tw2395262973597652025:=0
def tw14230683928421076548:=0
def tw6710862713514941995:=0
def tw5859796383506468857:=0
def tw10058801966932878514:=0
def tw3892917846753900432:=0
def tw5934336131385695194:=0
def tw12537019271321214538:=0
def tw11310094892387969606:=0
def tw17409710747779902299:=0
def tw621839561415145836:=0
def tw8454159560850320822:=0
def tw17609309368152322317:=0
def tw17642147706303135631:=0
def tw11499972293707397527:=0
def tw10635085746936445393:=0
def tw12252607059892037730:=0
def tw3015305658739444732:=0
def tw651183614752586643:=0
def tw1138156685323262476:=0
def tw12070398758100952817:=0
def tw17202136391599228850:=0
def tw1321763226751440928:=0
def tw4326142386098885754:=0
def tw3591824772803448391:=0
def tw1860320418631874748:=0
def tw2683365549195276341:=0
def tw5428218727096750450:=0
def tw9535335446573432515:=0
def tw1602108454732347333:=0
def tw12523180882426303052:=0
def tw15413020338536256568:=0
def tw7383778135738166967:=0
def tw291417311757778624:=0
def tw4668413124958761142:=0
def tw4857258663216717888:=0
def tw1306379725106313241:=0
def tw14957911824152597587:=0
def tw17183321415846639678:=0
def tw5626672143020193761:=0
def tw8360714015334233797:=0
def tw17279482552879315849:=0
def tw11334228732435588343:=0
def tw12252660343800767497:=0
def tw236500157715674822:=0
def tw8784098319608019852:=0
def tw547471122727133333:=0
def tw11341233523712780538:=0
def tw13204327770838804223:=0
def tw3170954046076693467:=0
def tw12116612034714467796:=0
def tw16627715977707655730:=0
def tw1697403943619235370:=0
def tw5846144317092640467:=0
def tw2016695520105900391:=0
def tw6264724412766170888:=0
def tw8107835122604437455:=0
def tw4124240056700989538:=0
def tw12561775012871775803:=0
def tw10715166392470626028:=0
def tw8927068307012094701:=0
def tw12855760942867608940:=0
def tw14960862047883868858:=0
def tw15286797544720100318:=0
def tw15488483801965210704:=0
def tw12470525601045763757:=0
def tw15194065037837946114:=0
def tw16568240769207811452:=0
def tw6751690023554040597:=0
def tw7749096594244308552:=0
def tw9813831357959799248:=0
def tw16088400059600767000:=0
def tw4746493220969291282:=0
def tw4727059824023353557:=0
def tw13568132025277294194:=0
def tw2965629029337602567:=0
def tw5031186958497814884:=0
def tw9880980235734140198:=0
def tw17280678924390210595:=0
def tw6119466323084995186:=0
def tw16734617782694313645:=0
def tw1631299152581956311:=0
def tw9721585659775432709:=0
def tw9784317918188152919:=0
def tw8932656322059228365:=0
def tw10519602880619886682:=0
def tw17956197032082182535:=0
def tw17520255615101435688:=0
def tw2227706676528704460:=0
def tw2563240797100033428:=0
def tw16031494304806892867:=0
def tw3881675986002516295:=0
def tw1264866947042852895:=0
def tw8647742741523520763:=0
def tw12479534502693184958:=0
def tw15395676803410370580:=0
def tw9527495847518227543:=0
def tw11411236580295345214:=0
def tw12393737361092610184:=0
def tw1609058959781354607:=0
def tw4731529206237755772:=0
def tw1048420464044084918:=0
def tw15033742947590038923:=0
def tw18352077443424595062:=0
def tw13382377392247041351:=0
def tw15663017673959310312:=0
def tw11806081933353663962:=0
def tw12220712180809350966:=0
def tw8220731849187798392:=0
def tw7987478178271582576:=0
def tw14934313712247439239:=0
def tw17252300130583654037:=0
def tw505641379847412378:=0
def tw12287424421905453279:=0
def tw17775012009052213246:=0
def tw1987129360763398839:=0
def tw7411163069838323310:=0
def tw8294364361838906593:=0
def tw2574991127142891715:=0
def tw5615336204662718482:=0
def tw16693686724074341206:=0
def tw16541711069469434891:=0
def tw12859544861267112000:=0
def tw13299895740686496700:=0
def tw12623661263042200484:=0
def tw3871146377521522471:=0
def tw693127830005453537:=0
def tw12723442084614929230:=0
def tw5218165559861307172:=0
def tw5973947775863756843:=0
def tw16471364814679675361:=0
def tw568959664469954967:=0
def tw18014583442663724464:=0
def tw14336844090197091954:=0
def tw5210892963019333177:=0
def tw5151705011344363021:=0
def tw5844672078707535120:=0
def tw18213104395938131945:=0
def tw9402276881871872581:=0
def tw4716015455019815344:=0
def tw9444796576844872001:=0
def tw6451027034906059852:=0
def tw8847123473526675100:=0
def tw503669541100635343:=0
def tw7151775716136262044:=0
def tw16612341051106667510:=0
def tw3838337751709808614:=0
def tw10831098875420498669:=0
def tw1687445103366311367:=0
def tw3425601723388457919:=0
def tw15546442588962443333:=0
def tw3317659139141712314:=0
def tw17018284304107870657:=0
def tw17754334618780773185:=0
def tw6490751946123942089:=0
def tw7590918090977133084:=0
def tw8416312831379514270:=0
def tw8419352584277394351:=0
def tw9866342646071081103:=0
def tw11256775340361964689:=0
def tw2266041475985105298:=0
def tw2602396875068344689:=0
def tw6152195482980512125:=0
def tw3003014691316885620:=0
def tw9472827792268819577:=0
def tw4123591492493428301:=0
def tw15614639383246772154:=0
def tw837583339345580208:=0
def tw7229766855973600775:=0
def tw12396857384598725691:=0
def tw12639367643569525397:=0
def tw15989995562886522060:=0
def tw4959818239696356939:=0
def tw5205713790911084691:=0
def tw9055756309897909803:=0
def tw7457732723289594017:=0
def tw15334138794125510994:=0
def tw4827255410122018187:=0
def tw6189073393174067940:=0
def tw5398936200746732377:=0
def tw10436147045375855332:=0
def tw1233742905639771453:=0
def tw12553030399683174259:=0
def tw13761761908129144741:=0
def tw2478788254530044602:=0
def tw6211020537720217036:=0
def tw6687466524718315061:=0
def tw9042620072215442067:=0
def tw10448058090485087386:=0
def tw10755854543825620555:=0
def tw2655781052035575843:=0
def tw13982478686337653430:=0
def tw16176509583220646515:=0
def tw9325557174017169222:=0
def tw1164520098639677399:=0
def tw16458001518606080424:=0
def tw1869035828734664095:=0
def tw4037807886631280789:=0
def tw7226903890812779281:=0
def tw15614805514446858355:=0
def tw4104953284733172800:=0
def tw1730021286781967815:=0
def tw9318861661341566356:=0
def tw10252837009524917673:=0
def tw10343889900586637119:=0
def tw12870189544455249610:=0
def tw6476901351168875080:=0
def tw12634146247313385473:=0
def tw18061369530140781739:=0
def tw2348400520874921992:=0
def tw9162226107783916812:=0
def tw3264701047426642242:=0
def tw8344230758186465685:=0
def tw956914763515243940:=0
def tw12662764343789973785:=0
def tw7662543865057473811:=0
def tw16306653919798206492:=0
def tw3698061579046058095:=0
def tw4501784709367347693:=0
def tw15347254221679460107:=0
def tw491382758253312679:=0
def tw1853521229806591250:=0
def tw11476654452595438374:=0
def tw11772434325659297123:=0
def tw17147602561788155090:=0
def tw3690430105402696692:=0
def tw10527237772609072797:=0
def tw11341743754686293106:=0
def tw13159207428517199572:=0
def tw13381042233468386444:=0
def tw13719547488588778631:=0
def tw15399552828695609937:=0
def tw1560521055581092659:=0
def tw7195071893811581350:=0
def tw7616653370779764171:=0
def tw797548915276924474:=0
def tw4230216432521242022:=0
def tw11577804139322191995:=0
def tw10862214469091041770:=0
def tw11354669284045402617:=0
def tw11984917679226746378:=0
def tw18339210667995021132:=0
def tw1987893526302374858:=0
def tw2905503782914567290:=0
def tw4722868761280662100:=0
def tw618023841572193776:=0
def tw8002921786672072382:=0
def tw9625661814394453674:=0
def tw9839513724696862075:=0
def tw11036361552967204529:=0
def tw11267358984792853275:=0
def tw11754524516605595602:=0
def tw13278475154334225921:=0
def tw16321210475366832401:=0
def tw16885239480549181882:=0
def tw3018534767508125745:=0
def tw3522418987412486947:=0
def tw3760846845533656048:=0
def tw6526665387923033305:=0
def tw8480524194702245099:=0
end PySem.W.Fast
set_option maxRecDepth 100000 in
set_option maxHeartbeats 0 in
theorem PySem.Challenge.cw_fewspeak_k93_whole_streams_and_plans_holds : PySem.Challenge.rw_fewspeak_k93_whole_streams_and_plans.Holds := by
 w_on;o_law;k_head;(case hw=>w_witness2)
 k_fill
 refine L2.walk_ofT (l:=PySem.Challenge.rw_fewspeak_k93_whole_streams_and_plans) (n:=63) (k:=My.lawK) (x := "_law_script") (CX:=L2.CX0) (sp:=My.spLaw) rfl (by decide) rfl ⟨rfl,by decide,by decide⟩ (λw h Y=>⟨PySem.W.km_in_of Y,PySem.W.km_tabs_of Y⟩) ?F ?S ?C
 case F =>
  intro ts' hts w mg fa h KX G hmg
  have T:∃ a,My.Txt (L2.KOf KX) mg a/\(My.tabsA a).map (·.1)=ts'/\a.dt=[]:=by
   rw[hts];dsimp only[L2.KOf];refine' ⟨?a,?T,?E⟩;apply My.Ad.mk
   (case E=>exact⟨rfl,rfl⟩)
   case T =>
    constructor
    all_goals try dsimp only
    (case m_matrix_row_dice | m_matrix_row_plans | mc_s | mc_E | mc_C | mc_i | mc_n | mc_o | mc_Q=>exact mg_of KX G (by k_is))
    (case g_LETTERS | g_MOST_LETTERS | g_MOST_WAYS | g_MOST_KEPT | g_MOST_STREAMED | g_MOST_COME | g_MOST_MANY=>exact⟨_,mg_of KX G (by k_is),by first | exact rfl | exact⟨_,rfl⟩⟩)
    (case W_y | W_ah | W_g | W_M | W_ae | W_k | W_v | W_N | W_B | W_R | W_Z | W_S | W_K | W_T | W_Y | W_ap | W_J | W_aj | W_an | W_W=>exact My.fnd_mk KX G (λ_ _ _ _ _ _=>My.w2 λ_ _=>rfl) (by k_is) (by k_is) (by k_is) (by k_is))
    (case W_w | W_ao | W_ak | W_F | W_P | W_af | W_ai=>exact My.fnd_mk KX G (λ_ _ _ _ _ _=>My.w1 λ_=>rfl) (by k_is) (by k_is) (by k_is) (by k_is))
    (case W_U | W_ab | W_G | W_l | W_am | W_X | W_u | W_ad | W_H | W_f | W_al=>exact My.fnd_mk KX G (λ_ _ _ _ _ _=>My.w3 λ_ _ _=>rfl) (by k_is) (by k_is) (by k_is) (by k_is))
    (case W_ac | W_c | W_m | W_b | W_ag | W_V=>exact My.fnd_mk KX G (λ_ _ _ _ _ _=>My.w4 λ_ _ _ _=>rfl) (by k_is) (by k_is) (by k_is) (by k_is))
    (case W_aa=>exact My.fnd_mk KX G (λ_ _ _ _ _ _=>My.w5 λ_ _ _ _ _=>rfl) (by k_is) (by k_is) (by k_is) (by k_is))
    (case cl_i | cl_n | cl_o | cl_Q=>constructor <;> first | k_is | kernel_rfl)
    (case xi_NoThrow=>exact My.xi_mk (by k_is) (by kernel_rfl))
    (case xi_TooMany | xi_NoThing=>kernel_rfl)
    (case mk_i | mk_n | mk_o | mk_Q=>constructor <;> first | k_is | kernel_rfl)
    (case kc_NoThrow | fn_NoThrow | kc_TooMany | kc_NoThing=>k_is)
    (case xc_s | xc_E | xc_C=>exact L2.xc_of (by kernel_rfl))
    (case xh_s | xh_E | xh_C=>exact L2.xh_of (by kernel_rfl))
    (case sx_NoThrow_place=>exact L2.xs_of (by kernel_rfl))
    (case na_Told_rising | na_Die_makes | na_Pot_most | na_Pot_seen | na_Pot_held | na_Few_many=>exact My.na_mk (by first | k_is | kernel_rfl))
    (case mt_e | mt_p | mt_t | mt_I | mt_h | mt_r | mt_A | mt_L | mt_D | mt_q | mt_z | mt_x | mt_d | mt_j | mt_O | mt_a=>constructor <;> first | k_is | kernel_rfl)
    (case z_abs | z_all | z_bool | z_enumerate | z_int | z_isinstance | z_len | z_list | z_min | z_range | z_sorted | z_str | z_sum | z_tuple=>exact PySem.W.mg_none_of KX G (by k_is))
    (case W_matrix_row_dice=>exact My.mnd_mk (λ_ _ _ _ _ _=>My.w4 λ_ _ _ _=>rfl) (by k_is) (by k_is) (by k_is))
    (case W_matrix_row_plans=>exact My.mnd_mk (λ_ _ _ _ _ _=>My.w3 λ_ _ _=>rfl) (by k_is) (by k_is) (by k_is))
    (case Wi_s | Wi_i | Wi_n | Wi_o | Wi_Q | W_D | W_O | W_a | W_q=>exact My.mnd_mk (λ_ _ _ _ _ _=>My.w2 λ_ _=>rfl) (by k_is) (by k_is) (by k_is))
    (case F_z=>exact L2.fund_mk (by k_is) (by k_is) (by k_is))
    (case W_x | W_d | W_e | W_h | W_p | W_r | W_t | W_A | W_I | W_L | W_j=>exact My.mnd_mk (λ_ _ _ _ _ _=>My.w1 λ_=>rfl) (by k_is) (by k_is) (by k_is))
    (case lcd_b | lcd_K | lcd_m | lcd_c | lcd_l | lcd_k | lcd_f | lcd_a | lcd_g | lcd_u=>exact rfl)
    (case B_z=>exact L2.binds_dflt (ds:=[]) rfl (by k_is) rfl λus hl=>match us,hl with | [_,_,_],_=>⟨_,rfl,rfl⟩)
    (case lch_b | lch_K | lch_m | lch_c | lch_l | lch_k | lch_f | lch_a | lch_g | lch_u=>exact My.lch_mk (by k_is) (by exact rfl) (by kernel_rfl))
    (case Bd_Pot_come=>exact My.bd_Pot_come (by k_is))
    (case tnd=>dsimp only[My.tabs,t_,Ja];decide)
    (case tndA=>dsimp only[My.tabsA,t_];decide)
    (case Rv_Pot_come=>first | exact rfl | exact⟨_,rfl⟩)
    (case bl=>exact λs u=>.of_eq rfl)
  obtain⟨a,T,e1,e2⟩:=T;have e1:=e1.trans hts;have e0:=hmg.symm.trans T.W_ai.C;cases e0;refine' ⟨a.d_ai,?b,?t,?u,λbase kb nb hB=>My.ok_law T hB ?v⟩
  case b=>exact T.bl
  case t =>
   intro P hP;have hP:=e1.symm ▸ hP;simp only[My.tabsA,l_,GM,i_,He,or_false]at hP
   rcases hP with rfl | rfl | rfl | rfl | rfl | rfl | rfl | rfl | rfl | rfl
   .exact⟨_,T.lch_b⟩
   .exact⟨_,T.lch_K⟩
   .exact⟨_,T.lch_m⟩
   .exact⟨_,T.lch_c⟩
   .exact⟨_,T.lch_l⟩
   .exact⟨_,T.lch_k⟩
   .exact⟨_,T.lch_f⟩
   .exact⟨_,T.lch_a⟩
   .exact⟨_,T.lch_g⟩
   .exact⟨_,T.lch_u⟩
  case u =>
   intro P hP;simp only[i_,He,or_false]at hP
   rcases hP with rfl | rfl | rfl | rfl | rfl | rfl | rfl | rfl | rfl | rfl <;> kernel_rfl
  case v =>
   refine⟨λq hq=>?_,e2⟩;rw[<- e1];exact Jx hq
 case S=>exact λK H a ns hl hO hS=>My.law_start hl hO hS
 case C=>exact λH s e s' z=>z
